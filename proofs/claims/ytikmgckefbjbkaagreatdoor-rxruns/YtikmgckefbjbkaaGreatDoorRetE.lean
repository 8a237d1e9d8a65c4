/-
  The end of a reader's call; sizes of signs; a row of one kid.
-/
import Derived.Test.YtikmgckefbjbkaaGreatDoorRet
namespace Go.Proofs.YtikmgckefbjbkaaGreatDoor
open Go.RowKit

structure RetE (w0 : World) (P : Nat) (s : ByteArray) (ere : Bool) (o : Out) (e : Ending) (w' : World) : Prop where
  ex : ∃ v, e = .returned (.tuple #[v, .int .i64 (o.e : Nat)]) ∧ Ret w0 P s ere o v w'

/-- The answer is laid into its block: then all stands. -/
theorem Ret.fin {w0 w2 w3 : World} {P B : Nat} {s : ByteArray} {ere : Bool} {o : Out} {v : Value} (I : Is w2 (fun b => w0.heap.size ≤ b ∧ b ≠ B) o.r v) (R : Rd w2 P s ere o.st.i o.st.n o.st.g o.st.d) (K : Ks P w0 w2) (k : Ks B w2 w3) (hP : P < w0.heap.size) (hB : w0.heap.size ≤ B) : Ret w0 P s ere o v w3 :=
  ⟨(I.ks k (fun _ hb _ => hb.2)).weak (fun _ hb _ => hb.1), R.ks k (by omega) (by omega), K.off k hB hP⟩

theorem Is.one {w : World} {ok : Nat → Prop} {r : Rx} {v : Value} {C : Nat} (h : Is w ok r v) (hc : CellsAt w C 0 v) (hok : ok C) (hl : C < w.heap.size) (k mn mx n : Int) (s : W4) : Is w ok (.mk k mn mx n s [r]) (rxv k mn mx n s (.slice (some ⟨C, 0, none⟩) 1 1)) := by
  unfold Is
  refine ⟨_, 1, 1, rfl, rfl, Nat.le_refl _, fun _ => ⟨C, 0, rfl, hok, hl, ?_⟩⟩
  unfold IsL
  exact ⟨⟨v, h, hc⟩, by unfold IsL; trivial⟩
theorem cells_new (w : World) (k mn mx m : Int) (t : W4) (ad : Option Addr) (l c : Nat) : CellsAt (w.alloc (rxo k mn mx m t (.slice ad l c))) w.heap.size 0 (rxv k mn mx m t (.slice ad l c)) := by
  intro j u hj
  rw [Nat.zero_add]
  refine bl_cell (last_of w _) j u ?_
  rw [← Array.getElem?_toList]
  exact hj

theorem qs_sz (b : Nat) (ere : Bool) : (qs b ere).2.2 ≤ 2 ∧ ((qs b ere).1 ≠ 0 → (qs b ere).2.2 = 2) := by
  unfold qs
  repeat' split
  all_goals simp
theorem sgn_sz (s : ByteArray) (ere : Bool) (i : Nat) (hi : i ≤ s.size) : i + (sgn s ere i).2.2 ≤ s.size ∧ (sgn s ere i).2.2 ≤ 2 ∧ ((sgn s ere i).1 ≠ 1 → (sgn s ere i).1 ≠ 0 → 1 ≤ (sgn s ere i).2.2) := by
  unfold sgn
  split
  · exact ⟨by simpa using hi, by simp, by simp⟩
  · split
    · unfold quoted
      split
      · exact ⟨by simpa using hi, by simp, by simp⟩
      · rename_i h0
        rw [ext_size s (i + 1) (by omega)] at h0
        have := qs_sz (ch (s.extract (i + 1) s.size) 0) ere
        exact ⟨by omega, this.1, fun _ h => by rw [this.2 h]; omega⟩
    · exact ⟨by simp; omega, by simp, by simp⟩

theorem take_any0 (x y z : Nat) (k mn mx m : Int) (ad : Option Addr) (l c : Nat) (s : ByteArray) (ere : Bool) (i n g d P : Nat) (w : World) (h : Rd w P s ere i n g d) (hi : i ≤ 1000000000) (hz : z ≤ 100) (hn : n ≤ 1000000000) :
    Calls Tryz.prog 91 #[.pointer (some ⟨P, 0, none⟩), .agg #[.int .i64 (x : Int), .int .u8 (y : Int), .int .i64 (z : Int)], .agg #[.int .i64 k, .int .i64 mn, .int .i64 mx, .int .i64 m, .int .u64 0, .int .u64 0, .int .u64 0, .int .u64 0, .slice ad l c]] w fun e w' => e = .returned (.tuple #[.agg #[.int .i64 k, .int .i64 mn, .int .i64 mx, .int .i64 m, .int .u64 0, .int .u64 0, .int .u64 0, .int .u64 0, .slice ad l c], .int .i64 0]) ∧ Rd w' P s ere (i + z) (n + 1) g d ∧ Ks P w w' :=
  take_any x y z k mn mx m W4.z ad l c s ere i n g d P w h hi hz hn
end Go.Proofs.YtikmgckefbjbkaaGreatDoor
