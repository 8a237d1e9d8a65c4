/-
  Texts of this claim: Cm4, Cm5, Cm3, Cm6.
-/
import Derived.Shelf.Small.Strs
import Derived.Shelf.Strings.BuilderF
import Derived.Lib.FrozenHead2
import Derived.Test.YtigdmebijbaofaaGreatDoorCmdAM4
import Derived.Test.YtigdmebijbaofaaGreatDoorCmdAM19
import Derived.Test.YtigdmebijbaofaaGreatDoorCmdAM2
import Derived.Lib.AppendIntMem

/-! ### Cm4 -/

namespace Go.Proofs.YtigdmebijbaofaaGreatDoor
set_option maxHeartbeats 2000000
set_option maxRecDepth 100000
open Go.RowKit

open Go.Shelf in
def Tryz.lays137_ren : Go.Shelf.Ren := ⟨fun | 137 => 141 | 217 => 178 | 266 => 211 | n => n, fun | 3 => 3 | 5 => 5 | 9 => 9 | n => n, fun | n => n⟩
theorem Tryz.lays137 : Go.Proofs.Lays.n137 Tryz.prog Tryz.lays137_ren := {
 mixed := by kernel_rfl
 f137 := Tryz.func141.trans (congrArg some (by kernel_rfl))
 f217 := Tryz.func178.trans (congrArg some (by kernel_rfl))
 f266 := Tryz.func211.trans (congrArg some (by kernel_rfl))
 t3 := Tryz.underlying3
 a3 := Tryz.isAgg3
 z3 := Tryz.sizeOf3
 v3 := Tryz.zeroValue3
 t5 := Tryz.underlying5
 a5 := Tryz.isAgg5
 z5 := Tryz.sizeOf5
 v5 := Tryz.zeroValue5
 t9 := Tryz.underlying9
 a9 := Tryz.isAgg9
 z9 := Tryz.sizeOf9
 v9 := Tryz.zeroValue9 }
theorem indexByte_any (s : ByteArray) (c : Int) (w : World) : Calls Tryz.prog 141 #[.string s, .int .u8 c] w fun e w' => e = .returned (.int .i64 (Lib.indexByte s.data.toList c.toNat.toUInt8)) ∧ w' = w := Any.strings_IndexByte Tryz.lays137 s c w

structure Bd (R b : Nat) (l : List Value) (w : World) : Prop where
 ex : ∃ p v, (p = .pointer none ∨ p = .pointer (some ⟨b, 0, none⟩)) ∧ w.heap[b]? = some (.cells #[p, v] 128 (0, 0)) ∧ w.ownsRowF R 5 1 v l.length l ∧ v.ownBlock ≠ some b
structure Kb (R b : Nat) (w w' : World) : Prop where
 os : w'.os = w.os
 tape : w'.tape = w.tape
 output : w'.output = w.output
 size : w.heap.size ≤ w'.heap.size
 block : ∀ k, k < R → k ≠ b → w'.heap[k]? = w.heap[k]?
theorem Kb.refl (R b : Nat) (w : World) : Kb R b w w := ⟨rfl, rfl, rfl, Nat.le_refl _, fun _ _ _ => rfl⟩
theorem Kb.trans {R b : Nat} {w w' w'' : World} (h : Kb R b w w') (k : Kb R b w' w'') : Kb R b w w'' :=
 ⟨k.os.trans h.os, k.tape.trans h.tape, k.output.trans h.output, Nat.le_trans h.size k.size, fun j hj hn => (k.block j hj hn).trans (h.block j hj hn)⟩
theorem Kb.below {R b : Nat} {w w' : World} (h : Kb R b w w') (B : Nat) (h1 : B ≤ R) (h2 : B ≤ b) : Below B w w' := ⟨h.os, h.tape, h.output, h.size, fun k hk => h.block k (by omega) (by omega)⟩
theorem Kp.kb {R b : Nat} {w w' : World} (h : Kp w w') (hR : R ≤ w.heap.size) : Kb R b w w' := ⟨h.os, h.tape, h.output, h.size, fun k hk _ => h.block k (by omega)⟩
theorem Bd.kp {R b : Nat} {l : List Value} {w w' : World} (h : Bd R b l w) (k : Kp w w') : Bd R b l w' := by
 obtain ⟨p, v, h1, h2, h3, h4⟩ := h.ex
 exact ⟨p, v, h1, (k.block b (Array.getElem?_eq_some_iff.1 h2).1).trans h2, h3.kept (row := none) ⟨k.os, k.tape, k.output, k.size, fun j hj _ => k.block j hj⟩ (by cases hv : v.ownBlock <;> simp), h4⟩
theorem Bd.new (w : World) (R : Nat) (C : Array Value) (hC : w.heap[R]? = some (.cells C 128 (0, 0))) (e : C = #[.pointer none, .slice none 0 0]) (S : Nat) : Bd S R [] w := by
 subst e
 exact ⟨_, _, .inl rfl, hC, ⟨rfl, .inl ⟨rfl, rfl⟩⟩, by simp [Value.ownBlock]⟩
theorem Bd.is {R b : Nat} {l : List Value} {w : World} (h : Bd R b l w) (B : Nat) (h1 : B ≤ R) (h2 : B ≤ b) : Lib.IsBuilderF 128 5 B b l w := by
 obtain ⟨p, v, hp, hb, hv, hn⟩ := h.ex
 have hv' : w.ownsRowF B 5 1 v l.length l := by
  refine ⟨hv.1, ?_⟩
  rcases hv.2 with h0 | ⟨g, cap, cur, fz, e, hg, rest⟩
  ·
   exact .inl h0
  ·
   exact .inr ⟨g, cap, cur, fz, e, Nat.le_trans h1 hg, rest⟩
 rcases hp with rfl | rfl
 ·
  exact .inl ⟨h2, v, hb, hv', hn⟩
 ·
  exact .inr ⟨h2, v, hb, hv', hn⟩
theorem owns_ne {w : World} {R : Nat} {v : Value} {n : Nat} {xs : List Value} {b : Nat} {cs : Array Value} {fr : Nat × Nat} (hown : w.ownsRowF R 5 1 v n xs) (hb : w.heap[b]? = some (.cells cs 128 fr)) : v.ownBlock ≠ some b :=
 Lib.ownBlock_neF hown hb (by decide)

theorem copyCheck_any (R b : Nat) (l : List Value) (w : World) (h : Bd R b l w) :
  Calls Tryz.prog 123 #[.pointer (some ⟨b, 0, none⟩)] w fun e w' => e = .returned (.tuple #[]) ∧ (∃ v, w'.heap[b]? = some (.cells #[.pointer (some ⟨b, 0, none⟩), v] 128 (0, 0)) ∧ w'.ownsRowF R 5 1 v l.length l ∧ v.ownBlock ≠ some b) ∧ Kb R b w w' := by
 obtain ⟨p, v, hp, hb, hv, hn⟩ := h.ex
 rcases hp with rfl | rfl
 ·
  refine (Any.Builder_copyCheck_fresh { Tryz.lays156 with } Tryz.Builder_Extra_156.toX72 b w (by rw [Lib.cell_of_heap hb]; rfl) (by simp [World.shape?, hb]; rfl) (Lib.frozen_of_heap hb 0)).mono ?_
  rintro e w' ⟨rfl, rfl⟩
  refine ⟨rfl, ⟨v, by simp [World.setCell, Array.getElem?_modify, hb], hv.kept (row := some b) ⟨rfl, rfl, rfl, by simp [World.setCell], fun k _ hk => Below.heap_setCell _ _ _ _ (fun e => hk (by simp [e]))⟩ (Or.inr hn), hn⟩, ⟨rfl, rfl, rfl, by simp [World.setCell], fun k _ hk => Below.heap_setCell _ _ _ _ hk⟩⟩
 ·
  refine (Any.Builder_copyCheck_used { Tryz.lays156 with } Tryz.Builder_Extra_156.toX72 b w (by rw [Lib.cell_of_heap hb]; rfl)).mono ?_
  rintro e w' ⟨rfl, rfl⟩
  exact ⟨rfl, ⟨v, hb, hv, hn⟩, Kb.refl _ _ _⟩

theorem writeByte_any (R b : Nat) (l : List Value) (c : Int) (w : World) (h : Bd R b l w) (hlen : l.length + 1 ≤ 1000000000) (hR : R ≤ w.heap.size) (hbR : b < R) :
  Calls Tryz.prog 85 #[.pointer (some ⟨b, 0, none⟩), .int .u8 c] w fun e w' => e = .returned .nilIface ∧ Bd R b (l ++ [.int .u8 c]) w' ∧ Kb R b w w' := by
 obtain ⟨i0, hi, hz0, hz1, hz2⟩ := info5
 go_enter Tryz.func85, Tryz.ntmps85
 go_wp2_with fail
 refine (copyCheck_any R b l _ h).mono ?_
 rintro e w1 ⟨rfl, ⟨v, hbk, hown, hne⟩, hk⟩
 have HK := hid hk
 have hsz := hk.size
 clear hk
 have c0 : w1.cell? ⟨b, 0, none⟩ = some (.pointer (some ⟨b, 0, none⟩)) := by rw [Lib.cell_of_heap hbk]; rfl
 have c1 : w1.cell? ⟨b, 1, none⟩ = some v := by rw [Lib.cell_of_heap hbk]; rfl
 go_wp2_with (at_builtin; refine wpList_append_ownF _ rfl _ _ 59 rfl R 5 i0 (.int .u8 0) 1 1 Tryz.underlying59 hi hz0 hz1 hz2 rfl (by decide) _ _ _ rfl (hown.alloc _) ⟨w1.heap.size, 0, none⟩ 1 1 [.int .u8 c] rfl rfl ?c1 ?c2 ?c3 ?c4 ?c5 ?_)
 case c1 =>
  intro j u hj
  match j, hj with
  | 0, hj => simp at hj; subst hj; simp [Addr.add]
 case c2 => intro u hu; simp at hu; subst hu; rfl
 case c3 => unfold maxLen; omega
 case c4 => omega
 case c5 => simp; omega
 intro v' w2 hown' hgrow _
 have hlt : b < w1.heap.size := by omega
 have hb2 : w2.heap[b]? = some (.cells #[.pointer (some ⟨b, 0, none⟩), v] 128 (0, 0)) := by
  rw [hgrow.block b (by simp; omega) (fun e => hne e.symm), Lib.alloc_old w1 _ b hlt]
  exact hbk
 have hs2 := hgrow.size
 simp at hs2
 have kb2 : Kb R b w1 w2 := ⟨hgrow.os.trans rfl, hgrow.tape.trans rfl, hgrow.output.trans rfl, by omega, fun k hk hkb => by
  rw [hgrow.block k (by simp; omega) (fun e => by have := (hown.lt k e.symm).1; omega), Lib.alloc_old w1 _ k (by omega)]⟩
 have KB2 := hid kb2
 have HO := hid hown'
 have HB2 := hid hb2
 have d0 : w2.cell? ⟨b, 0, none⟩ = some (.pointer (some ⟨b, 0, none⟩)) := by rw [Lib.cell_of_heap hb2]; rfl
 have d1 : w2.cell? ⟨b, 1, none⟩ = some v := by rw [Lib.cell_of_heap hb2]; rfl
 have f1 : w2.frozen? ⟨b, 1, none⟩ = false := Lib.frozen_of_heap hb2 1
 obtain ⟨g, cap, rfl⟩ : ∃ g cap, v' = .slice (some ⟨g, 0, none⟩) (l.length + 1) cap := by
  rcases hown'.2 with ⟨_, h0⟩ | ⟨g, cap, cur, fz, hv, _⟩
  ·
   omega
  ·
   exact ⟨g, cap, hv⟩
 clear kb2 hown' hgrow hs2
 go_wp2
 go_ret
 have hnb : (Value.slice (some ⟨g, 0, none⟩) (l.length + 1) cap).ownBlock ≠ some b := owns_ne HO.out HB2.out
 refine ⟨rfl, ⟨_, _, .inr rfl, by simp [World.setCell, Array.getElem?_modify, HB2.out], ?_, hnb⟩, HK.out.trans (KB2.out.trans ⟨rfl, rfl, rfl, by simp [World.setCell], fun k _ hk => Below.heap_setCell _ _ _ _ hk⟩)⟩
 have := HO.out.kept (row := some b) (w' := w2.setCell ⟨b, 1, none⟩ (.slice (some ⟨g, 0, none⟩) (l.length + 1) cap)) ⟨rfl, rfl, rfl, by simp [World.setCell], fun k _ hk => Below.heap_setCell _ _ _ _ (fun e => hk (by simp [e]))⟩ (Or.inr hnb)
 simpa using this

theorem writeString_any (R b : Nat) (l : List Value) (s : ByteArray) (w : World) (h : Bd R b l w) (hlen : l.length + s.size ≤ 1000000000) (hR : R ≤ w.heap.size) (hbR : b < R) :
  Calls Tryz.prog 84 #[.pointer (some ⟨b, 0, none⟩), .string s] w fun e w' => e = .returned (.tuple #[.int .i64 s.size, .nilIface]) ∧ Bd R b (l ++ Lib.strCells s) w' ∧ Kb R b w w' := by
 obtain ⟨i0, hi, hz0, hz1, hz2⟩ := info5
 go_enter Tryz.func84, Tryz.ntmps84
 go_wp2_with fail
 refine (copyCheck_any R b l _ h).mono ?_
 rintro e w1 ⟨rfl, ⟨v, hbk, hown, hne⟩, hk⟩
 have HK := hid hk
 have hsz := hk.size
 clear hk
 have c0 : w1.cell? ⟨b, 0, none⟩ = some (.pointer (some ⟨b, 0, none⟩)) := by rw [Lib.cell_of_heap hbk]; rfl
 have c1 : w1.cell? ⟨b, 1, none⟩ = some v := by rw [Lib.cell_of_heap hbk]; rfl
 go_wp2_with (at_builtin; refine Lib.wpList_append_own_stringF _ rfl _ _ 59 9 rfl R 5 i0 Tryz.underlying59 Tryz.underlying9 hi hz0 hz1 hz2 _ _ _ rfl hown s rfl ?c3 ?c4 ?c5 ?_)
 case c3 => unfold maxLen; omega
 case c4 => omega
 case c5 => omega
 intro v' w2 hown' hgrow _
 have hlt : b < w1.heap.size := by omega
 have hb2 : w2.heap[b]? = some (.cells #[.pointer (some ⟨b, 0, none⟩), v] 128 (0, 0)) := by
  rw [hgrow.block b hlt (fun e => hne e.symm)]
  exact hbk
 have hs2 := hgrow.size
 have kb2 : Kb R b w1 w2 := ⟨hgrow.os, hgrow.tape, hgrow.output, hs2, fun k hk hkb => hgrow.block k (by omega) (fun e => by have := (hown.lt k e.symm).1; omega)⟩
 have KB2 := hid kb2
 have HO := hid hown'
 have HB2 := hid hb2
 have d0 : w2.cell? ⟨b, 0, none⟩ = some (.pointer (some ⟨b, 0, none⟩)) := by rw [Lib.cell_of_heap hb2]; rfl
 have d1 : w2.cell? ⟨b, 1, none⟩ = some v := by rw [Lib.cell_of_heap hb2]; rfl
 have f1 : w2.frozen? ⟨b, 1, none⟩ = false := Lib.frozen_of_heap hb2 1
 obtain ⟨ao, n', cap, rfl⟩ : ∃ ao n' cap, v' = .slice ao n' cap := by
  rcases hown'.2 with ⟨hv, _⟩ | ⟨g, cap, cur, fz, hv, _⟩
  ·
   exact ⟨_, _, _, hv⟩
  ·
   exact ⟨_, _, _, hv⟩
 clear kb2 hown' hgrow hs2
 go_wp2
 go_ret2
 have hnb : (Value.slice ao n' cap).ownBlock ≠ some b := owns_ne HO.out HB2.out
 refine ⟨rfl, ⟨_, _, .inr rfl, by simp [World.setCell, Array.getElem?_modify, HB2.out], ?_, hnb⟩, HK.out.trans (KB2.out.trans ⟨rfl, rfl, rfl, by simp [World.setCell], fun k _ hk => Below.heap_setCell _ _ _ _ hk⟩)⟩
 have := HO.out.kept (row := some b) (w' := w2.setCell ⟨b, 1, none⟩ (.slice ao n' cap)) ⟨rfl, rfl, rfl, by simp [World.setCell], fun k _ hk => Below.heap_setCell _ _ _ _ (fun e => hk (by simp [e]))⟩ (Or.inr hnb)
 simpa [Lib.strCells_length] using this
theorem builderString_any (R b : Nat) (l : List UInt8) (w : World) (B : Nat) (h : Bd R b (Lib.byteCells l) w) (h1 : B ≤ R) (h2 : B ≤ b) (hB : B ≤ w.heap.size) :
  Calls Tryz.prog 86 #[.pointer (some ⟨b, 0, none⟩)] w fun e w' => e = .returned (.string (bs l)) ∧ Below B w w' := by
 refine (Any.Builder_String_any_f { Tryz.lays156 with } Tryz.Builder_Extra_156 B b l w (h.is B h1 h2) hB).mono ?_
 rintro e w' ⟨rfl, h⟩
 exact ⟨rfl, h.2⟩
end Go.Proofs.YtigdmebijbaofaaGreatDoor

/-! ### Cm5 -/

namespace Go.Proofs.YtigdmebijbaofaaGreatDoor
set_option maxHeartbeats 2000000
set_option maxRecDepth 100000
open Go.RowKit

theorem cells_step (f : UInt8 → List UInt8) (l : List UInt8) (q : Nat) (x : UInt8) (h : l[q]? = some x) : Lib.byteCells ((l.take (q + 1)).flatMap f) = Lib.byteCells ((l.take q).flatMap f) ++ Lib.byteCells (f x) := by
 rw [List.take_add_one, h]
 simp [Lib.byteCells]
theorem byte_at (s : ByteArray) (q : Nat) (h : q < s.size) : ∃ x : UInt8, s.data.toList[q]? = some x ∧ ch s q = x.toNat := by
 have h' : q < s.data.size := h
 refine ⟨s.data[q], by simp, ?_⟩
 unfold ch
 rw [Array.getElem?_eq_getElem h']
 rfl
theorem u8_ne {x : UInt8} {n m : Nat} (h : x.toNat = n) (hm : m < 256) (hn : n ≠ m) : x ≠ UInt8.ofNat m := by
 intro he
 rw [he] at h
 simp [Nat.mod_eq_of_lt hm] at h
 omega
theorem u8_eq {x : UInt8} {n : Nat} (h : x.toNat = n) : x = UInt8.ofNat n := by rw [← h]; simp
theorem take_full (s : ByteArray) (q : Nat) (h : s.size ≤ q) : s.data.toList.take q = s.data.toList := List.take_of_length_le (by rw [Array.length_toList]; exact h)

def linesT1 (b : UInt8) : List UInt8 := if b = 92 ∨ b = 10 then [92, b] else [b]
def tableT1 (b : UInt8) : List UInt8 := if b = 10 then [92, 110] else if b = 47 ∨ b = 92 then [92, b] else [b]
def quotT1 (b : UInt8) : List UInt8 := if b = 10 then [92, 110] else if b = 38 ∨ b = 47 ∨ b = 92 then [92, b] else [b]

theorem linesText_any (s : ByteArray) (w : World) (hs : s.size ≤ 1000000) : Calls Tryz.prog 96 #[.string s] w fun e w' => e = .returned (.string (bs (linesT s.data.toList))) ∧ Kp w w' := by
 obtain ⟨f, hf⟩ : ∃ f, f = (linesT1 : UInt8 → List UInt8) := ⟨_, rfl⟩
 obtain ⟨S, hS⟩ : ∃ S, bs (linesT s.data.toList) = S := ⟨_, rfl⟩
 rw [hS]
 have HS : Hid (bs (s.data.toList.flatMap f) = S) := by subst hf; exact hS
 have HF := hid hf
 clear hS hf
 have gs : (0 : Int) ≤ (s.size : Int) := by omega
 go_enter Tryz.func96, Tryz.ntmps96
 go_upto_region 2 with fail
 obtain ⟨C, W0, kc, hC, k0, hz, hb⟩ := conv_str (w.alloc (.cells #[.pointer none, .slice none 0 0] 128)) s
 have hz' : W0.heap.size = w.heap.size + 2 := by rw [hz]; simp
 have hbd : Bd (w.heap.size + 2) w.heap.size [] W0 := Bd.new W0 w.heap.size _ (bl_kp (last_of _ _) k0) rfl _
 have hbe : ∀ j, j < s.size → W0.cell? ⟨w.heap.size + 1, j, none⟩ = some (.int .u8 (ch s j : Nat)) := fun j hj => by
  have := hb j hj
  rw [show (w.alloc (.cells #[.pointer none, .slice none 0 0] 128)).heap.size = w.heap.size + 1 by simp] at this
  exact this
 have BD := hid hbd
 have HC := hid hbe
 have K0 : Hid (Kp w W0) := ((Kp.refl _).alloc _).trans k0
 have HZ := hid hz'
 clear hb hbe hbd k0 hz hz'
 go_wp2_with fail
 clear kc
 go_loopg [9] s.size (fun gg v wr => ∃ (q : Nat) (L : List Value), q + gg = s.size ∧ v = .int .i64 (q : Int) ∧ L = Lib.byteCells ((s.data.toList.take q).flatMap f) ∧ L.length ≤ 2 * q ∧ Bd (w.heap.size + 2) w.heap.size L wr ∧ Kb (w.heap.size + 2) w.heap.size W0 wr)
 case atStart => exact ⟨0, [], by omega, rfl, rfl, by simp, BD.out, Kb.refl _ _ _⟩
 case round =>
  obtain ⟨q, L, hq, rfl, hL, hl, hB, hK⟩ := hrel
  have HL := hid hL
  have B := hid hB
  have K := hid hK
  have hzr : w.heap.size + 2 ≤ wr.heap.size := by have := K.out.size; have := HZ.out; omega
  clear hL hB hK BD
  by_cases hlt : q < s.size
  ·
   have gkw : IntKind.i64.wrap ((q : Int) + 1) = (q : Int) + 1 := by rw [IntKind.wrap_i64]; omega
   have ga : (q : Int) < (s.size : Int) := by omega
   have g0 : (0 : Int) ≤ (q : Int) := by omega
   obtain ⟨x, hx, hc⟩ := byte_at s q hlt
   have cb : wr.cell? ⟨w.heap.size + 1, q, none⟩ = some (.int .u8 (ch s q : Nat)) := (World.cell?_of_block (w := W0) (K.out.block (w.heap.size + 1) (by omega) (by omega))).trans (HC.out q hlt)
   obtain ⟨n, hn⟩ : ∃ n : Nat, ch s q = n := ⟨_, rfl⟩
   rw [hn] at cb hc
   have ST := hid (cells_step f _ q x hx)
   have HX : Hid (x.toNat = n) := hc.symm
   clear hx hn hc
   have hzr' := hid hzr
   clear hzr
   by_cases h1 : n = 92
   ·
    subst h1
    go_wp2_with fail
    refine (writeByte_any (w.heap.size + 2) w.heap.size L 92 _ B.out (by omega) hzr'.out (by omega)).mono ?_
    rintro e Y0 ⟨rfl, b1, k1⟩
    have B0 := hid b1
    have K0 := hid (K.out.trans k1)
    have hzY0 : Hid (w.heap.size + 2 ≤ Y0.heap.size) := Nat.le_trans hzr'.out k1.size
    clear b1 k1 hzr'
    have hzr' := hzY0
    clear hzY0
    go_wp2_with fail
    refine (writeByte_any (w.heap.size + 2) w.heap.size (L ++ [.int .u8 92]) 92 _ B0.out (by simp only [List.length_append, List.length_cons, List.length_nil]; omega) hzr'.out (by omega)).mono ?_
    rintro e Y1 ⟨rfl, b1, k1⟩
    have B1 := hid b1
    have K1 := hid (K0.out.trans k1)
    have hzY1 : Hid (w.heap.size + 2 ≤ Y1.heap.size) := Nat.le_trans hzr'.out k1.size
    clear b1 k1 hzr'
    have hzr' := hzY1
    clear hzY1
    go_wp2_with fail
    go_roundg (gk - 1)
    case measure => omega
    case rel =>
     refine ⟨q + 1, ((L ++ [.int .u8 92]) ++ [.int .u8 92]), by omega, by go_num, ?_, by simp only [List.length_append, List.length_cons, List.length_nil]; omega, B1.out, K1.out⟩
     rw [ST.out, ← HL.out]
     have hfx : f x = [92, 92] := by rw [HF.out]; unfold linesT1; rw [u8_eq HX.out]; rfl
     rw [hfx]
     simp [Lib.byteCells]
   have gh1 : ((n : Int) == 92) = false := by simp; omega
   by_cases h2 : n = 10
   ·
    subst h2
    go_wp2_with fail
    refine (writeByte_any (w.heap.size + 2) w.heap.size L 92 _ B.out (by omega) hzr'.out (by omega)).mono ?_
    rintro e Y0 ⟨rfl, b1, k1⟩
    have B0 := hid b1
    have K0 := hid (K.out.trans k1)
    have hzY0 : Hid (w.heap.size + 2 ≤ Y0.heap.size) := Nat.le_trans hzr'.out k1.size
    clear b1 k1 hzr'
    have hzr' := hzY0
    clear hzY0
    go_wp2_with fail
    refine (writeByte_any (w.heap.size + 2) w.heap.size (L ++ [.int .u8 92]) 10 _ B0.out (by simp only [List.length_append, List.length_cons, List.length_nil]; omega) hzr'.out (by omega)).mono ?_
    rintro e Y1 ⟨rfl, b1, k1⟩
    have B1 := hid b1
    have K1 := hid (K0.out.trans k1)
    have hzY1 : Hid (w.heap.size + 2 ≤ Y1.heap.size) := Nat.le_trans hzr'.out k1.size
    clear b1 k1 hzr'
    have hzr' := hzY1
    clear hzY1
    go_wp2_with fail
    go_roundg (gk - 1)
    case measure => omega
    case rel =>
     refine ⟨q + 1, ((L ++ [.int .u8 92]) ++ [.int .u8 10]), by omega, by go_num, ?_, by simp only [List.length_append, List.length_cons, List.length_nil]; omega, B1.out, K1.out⟩
     rw [ST.out, ← HL.out]
     have hfx : f x = [92, 10] := by rw [HF.out]; unfold linesT1; rw [u8_eq HX.out]; rfl
     rw [hfx]
     simp [Lib.byteCells]
   have gh2 : ((n : Int) == 10) = false := by simp; omega
   go_wp2_with fail
   refine (writeByte_any (w.heap.size + 2) w.heap.size L (n : Int) _ B.out (by omega) hzr'.out (by omega)).mono ?_
   rintro e Y0 ⟨rfl, b1, k1⟩
   have B0 := hid b1
   have K0 := hid (K.out.trans k1)
   have hzY0 : Hid (w.heap.size + 2 ≤ Y0.heap.size) := Nat.le_trans hzr'.out k1.size
   clear b1 k1 hzr'
   have hzr' := hzY0
   clear hzY0
   go_wp2_with fail
   go_roundg (gk - 1)
   case measure => omega
   case rel =>
    refine ⟨q + 1, (L ++ [.int .u8 (n : Int)]), by omega, by go_num, ?_, by simp only [List.length_append, List.length_cons, List.length_nil]; omega, B0.out, K0.out⟩
    rw [ST.out, ← HL.out]
    have hfx : f x = [x] := by rw [HF.out]; unfold linesT1; exact if_neg (by rintro (h | h); exact u8_ne HX.out (by decide) h1 h; exact u8_ne HX.out (by decide) h2 h)
    rw [hfx]
    have := HX.out; subst this; simp [Lib.byteCells]
  ·
   have ga : ¬ (q : Int) < (s.size : Int) := by omega
   have hLe : L = Lib.byteCells (s.data.toList.flatMap f) := by rw [HL.out, take_full s q (by omega)]
   subst hLe
   go_wp2_with fail
   refine (builderString_any (w.heap.size + 2) w.heap.size (s.data.toList.flatMap f) _ w.heap.size B.out (by omega) (by omega) (by omega)).mono ?_
   rintro e y ⟨rfl, k1⟩
   have KY : Hid (Kp w y) := Below.trans (Below.trans K0.out (K.out.below w.heap.size (by omega) (by omega))) k1
   clear k1
   go_wp2_with fail
   go_ret
   exact ⟨by rw [← HS.out]; rfl, KY.out⟩

theorem tableText_any (s : ByteArray) (w : World) (hs : s.size ≤ 1000000) : Calls Tryz.prog 100 #[.string s] w fun e w' => e = .returned (.string (bs (tableT s.data.toList))) ∧ Kp w w' := by
 obtain ⟨f, hf⟩ : ∃ f, f = (tableT1 : UInt8 → List UInt8) := ⟨_, rfl⟩
 obtain ⟨S, hS⟩ : ∃ S, bs (tableT s.data.toList) = S := ⟨_, rfl⟩
 rw [hS]
 have HS : Hid (bs (s.data.toList.flatMap f) = S) := by subst hf; exact hS
 have HF := hid hf
 clear hS hf
 have gs : (0 : Int) ≤ (s.size : Int) := by omega
 go_enter Tryz.func100, Tryz.ntmps100
 go_upto_region 2 with fail
 obtain ⟨C, W0, kc, hC, k0, hz, hb⟩ := conv_str (w.alloc (.cells #[.pointer none, .slice none 0 0] 128)) s
 have hz' : W0.heap.size = w.heap.size + 2 := by rw [hz]; simp
 have hbd : Bd (w.heap.size + 2) w.heap.size [] W0 := Bd.new W0 w.heap.size _ (bl_kp (last_of _ _) k0) rfl _
 have hbe : ∀ j, j < s.size → W0.cell? ⟨w.heap.size + 1, j, none⟩ = some (.int .u8 (ch s j : Nat)) := fun j hj => by
  have := hb j hj
  rw [show (w.alloc (.cells #[.pointer none, .slice none 0 0] 128)).heap.size = w.heap.size + 1 by simp] at this
  exact this
 have BD := hid hbd
 have HC := hid hbe
 have K0 : Hid (Kp w W0) := ((Kp.refl _).alloc _).trans k0
 have HZ := hid hz'
 clear hb hbe hbd k0 hz hz'
 go_wp2_with fail
 clear kc
 go_loopg [9] s.size (fun gg v wr => ∃ (q : Nat) (L : List Value), q + gg = s.size ∧ v = .int .i64 (q : Int) ∧ L = Lib.byteCells ((s.data.toList.take q).flatMap f) ∧ L.length ≤ 2 * q ∧ Bd (w.heap.size + 2) w.heap.size L wr ∧ Kb (w.heap.size + 2) w.heap.size W0 wr)
 case atStart => exact ⟨0, [], by omega, rfl, rfl, by simp, BD.out, Kb.refl _ _ _⟩
 case round =>
  obtain ⟨q, L, hq, rfl, hL, hl, hB, hK⟩ := hrel
  have HL := hid hL
  have B := hid hB
  have K := hid hK
  have hzr : w.heap.size + 2 ≤ wr.heap.size := by have := K.out.size; have := HZ.out; omega
  clear hL hB hK BD
  by_cases hlt : q < s.size
  ·
   have gkw : IntKind.i64.wrap ((q : Int) + 1) = (q : Int) + 1 := by rw [IntKind.wrap_i64]; omega
   have ga : (q : Int) < (s.size : Int) := by omega
   have g0 : (0 : Int) ≤ (q : Int) := by omega
   obtain ⟨x, hx, hc⟩ := byte_at s q hlt
   have cb : wr.cell? ⟨w.heap.size + 1, q, none⟩ = some (.int .u8 (ch s q : Nat)) := (World.cell?_of_block (w := W0) (K.out.block (w.heap.size + 1) (by omega) (by omega))).trans (HC.out q hlt)
   obtain ⟨n, hn⟩ : ∃ n : Nat, ch s q = n := ⟨_, rfl⟩
   rw [hn] at cb hc
   have ST := hid (cells_step f _ q x hx)
   have HX : Hid (x.toNat = n) := hc.symm
   clear hx hn hc
   have hzr' := hid hzr
   clear hzr
   by_cases h1 : n = 10
   ·
    subst h1
    go_wp2_with fail
    refine (writeString_any (w.heap.size + 2) w.heap.size L ⟨#[92, 110]⟩ _ B.out (by rw [show ByteArray.size _ = 2 from rfl]; omega) hzr'.out (by omega)).mono ?_
    rintro e Y0 ⟨rfl, b1, k1⟩
    have B0 := hid b1
    have K0 := hid (K.out.trans k1)
    have hzY0 : Hid (w.heap.size + 2 ≤ Y0.heap.size) := Nat.le_trans hzr'.out k1.size
    clear b1 k1 hzr'
    have hzr' := hzY0
    clear hzY0
    go_wp2_with fail
    go_roundg (gk - 1)
    case measure => omega
    case rel =>
     refine ⟨q + 1, (L ++ Lib.strCells ⟨#[92, 110]⟩), by omega, by go_num, ?_, by simp only [List.length_append, Lib.strCells_length]; rw [show ByteArray.size _ = 2 from rfl]; omega, B0.out, K0.out⟩
     rw [ST.out, ← HL.out]
     have hfx : f x = [92, 110] := by rw [HF.out]; unfold tableT1; rw [u8_eq HX.out]; rfl
     rw [hfx]
     simp [Lib.byteCells, Lib.strCells]
   have gh1 : ((n : Int) == 10) = false := by simp; omega
   by_cases h2 : n = 47
   ·
    subst h2
    go_wp2_with fail
    refine (writeByte_any (w.heap.size + 2) w.heap.size L 92 _ B.out (by omega) hzr'.out (by omega)).mono ?_
    rintro e Y0 ⟨rfl, b1, k1⟩
    have B0 := hid b1
    have K0 := hid (K.out.trans k1)
    have hzY0 : Hid (w.heap.size + 2 ≤ Y0.heap.size) := Nat.le_trans hzr'.out k1.size
    clear b1 k1 hzr'
    have hzr' := hzY0
    clear hzY0
    go_wp2_with fail
    refine (writeByte_any (w.heap.size + 2) w.heap.size (L ++ [.int .u8 92]) 47 _ B0.out (by simp only [List.length_append, List.length_cons, List.length_nil]; omega) hzr'.out (by omega)).mono ?_
    rintro e Y1 ⟨rfl, b1, k1⟩
    have B1 := hid b1
    have K1 := hid (K0.out.trans k1)
    have hzY1 : Hid (w.heap.size + 2 ≤ Y1.heap.size) := Nat.le_trans hzr'.out k1.size
    clear b1 k1 hzr'
    have hzr' := hzY1
    clear hzY1
    go_wp2_with fail
    go_roundg (gk - 1)
    case measure => omega
    case rel =>
     refine ⟨q + 1, ((L ++ [.int .u8 92]) ++ [.int .u8 47]), by omega, by go_num, ?_, by simp only [List.length_append, List.length_cons, List.length_nil]; omega, B1.out, K1.out⟩
     rw [ST.out, ← HL.out]
     have hfx : f x = [92, 47] := by rw [HF.out]; unfold tableT1; rw [u8_eq HX.out]; rfl
     rw [hfx]
     simp [Lib.byteCells]
   have gh2 : ((n : Int) == 47) = false := by simp; omega
   by_cases h3 : n = 92
   ·
    subst h3
    go_wp2_with fail
    refine (writeByte_any (w.heap.size + 2) w.heap.size L 92 _ B.out (by omega) hzr'.out (by omega)).mono ?_
    rintro e Y0 ⟨rfl, b1, k1⟩
    have B0 := hid b1
    have K0 := hid (K.out.trans k1)
    have hzY0 : Hid (w.heap.size + 2 ≤ Y0.heap.size) := Nat.le_trans hzr'.out k1.size
    clear b1 k1 hzr'
    have hzr' := hzY0
    clear hzY0
    go_wp2_with fail
    refine (writeByte_any (w.heap.size + 2) w.heap.size (L ++ [.int .u8 92]) 92 _ B0.out (by simp only [List.length_append, List.length_cons, List.length_nil]; omega) hzr'.out (by omega)).mono ?_
    rintro e Y1 ⟨rfl, b1, k1⟩
    have B1 := hid b1
    have K1 := hid (K0.out.trans k1)
    have hzY1 : Hid (w.heap.size + 2 ≤ Y1.heap.size) := Nat.le_trans hzr'.out k1.size
    clear b1 k1 hzr'
    have hzr' := hzY1
    clear hzY1
    go_wp2_with fail
    go_roundg (gk - 1)
    case measure => omega
    case rel =>
     refine ⟨q + 1, ((L ++ [.int .u8 92]) ++ [.int .u8 92]), by omega, by go_num, ?_, by simp only [List.length_append, List.length_cons, List.length_nil]; omega, B1.out, K1.out⟩
     rw [ST.out, ← HL.out]
     have hfx : f x = [92, 92] := by rw [HF.out]; unfold tableT1; rw [u8_eq HX.out]; rfl
     rw [hfx]
     simp [Lib.byteCells]
   have gh3 : ((n : Int) == 92) = false := by simp; omega
   go_wp2_with fail
   refine (writeByte_any (w.heap.size + 2) w.heap.size L (n : Int) _ B.out (by omega) hzr'.out (by omega)).mono ?_
   rintro e Y0 ⟨rfl, b1, k1⟩
   have B0 := hid b1
   have K0 := hid (K.out.trans k1)
   have hzY0 : Hid (w.heap.size + 2 ≤ Y0.heap.size) := Nat.le_trans hzr'.out k1.size
   clear b1 k1 hzr'
   have hzr' := hzY0
   clear hzY0
   go_wp2_with fail
   go_roundg (gk - 1)
   case measure => omega
   case rel =>
    refine ⟨q + 1, (L ++ [.int .u8 (n : Int)]), by omega, by go_num, ?_, by simp only [List.length_append, List.length_cons, List.length_nil]; omega, B0.out, K0.out⟩
    rw [ST.out, ← HL.out]
    have hfx : f x = [x] := by rw [HF.out]; unfold tableT1; rw [if_neg (show ¬ x = 10 from u8_ne (m := 10) HX.out (by decide) h1)]; exact if_neg (by rintro (h | h); exact u8_ne HX.out (by decide) h2 h; exact u8_ne HX.out (by decide) h3 h)
    rw [hfx]
    have := HX.out; subst this; simp [Lib.byteCells]
  ·
   have ga : ¬ (q : Int) < (s.size : Int) := by omega
   have hLe : L = Lib.byteCells (s.data.toList.flatMap f) := by rw [HL.out, take_full s q (by omega)]
   subst hLe
   go_wp2_with fail
   refine (builderString_any (w.heap.size + 2) w.heap.size (s.data.toList.flatMap f) _ w.heap.size B.out (by omega) (by omega) (by omega)).mono ?_
   rintro e y ⟨rfl, k1⟩
   have KY : Hid (Kp w y) := Below.trans (Below.trans K0.out (K.out.below w.heap.size (by omega) (by omega))) k1
   clear k1
   go_wp2_with fail
   go_ret
   exact ⟨by rw [← HS.out]; rfl, KY.out⟩

theorem quoted2_any (s : ByteArray) (w : World) (hs : s.size ≤ 1000000) : Calls Tryz.prog 176 #[.string s] w fun e w' => e = .returned (.string (bs (quotT s.data.toList))) ∧ Kp w w' := by
 obtain ⟨f, hf⟩ : ∃ f, f = (quotT1 : UInt8 → List UInt8) := ⟨_, rfl⟩
 obtain ⟨S, hS⟩ : ∃ S, bs (quotT s.data.toList) = S := ⟨_, rfl⟩
 rw [hS]
 have HS : Hid (bs (s.data.toList.flatMap f) = S) := by subst hf; exact hS
 have HF := hid hf
 clear hS hf
 have gs : (0 : Int) ≤ (s.size : Int) := by omega
 go_enter Tryz.func176, Tryz.ntmps176
 go_upto_region 2 with fail
 obtain ⟨C, W0, kc, hC, k0, hz, hb⟩ := conv_str (w.alloc (.cells #[.pointer none, .slice none 0 0] 128)) s
 have hz' : W0.heap.size = w.heap.size + 2 := by rw [hz]; simp
 have hbd : Bd (w.heap.size + 2) w.heap.size [] W0 := Bd.new W0 w.heap.size _ (bl_kp (last_of _ _) k0) rfl _
 have hbe : ∀ j, j < s.size → W0.cell? ⟨w.heap.size + 1, j, none⟩ = some (.int .u8 (ch s j : Nat)) := fun j hj => by
  have := hb j hj
  rw [show (w.alloc (.cells #[.pointer none, .slice none 0 0] 128)).heap.size = w.heap.size + 1 by simp] at this
  exact this
 have BD := hid hbd
 have HC := hid hbe
 have K0 : Hid (Kp w W0) := ((Kp.refl _).alloc _).trans k0
 have HZ := hid hz'
 clear hb hbe hbd k0 hz hz'
 go_wp2_with fail
 clear kc
 go_loopg [9] s.size (fun gg v wr => ∃ (q : Nat) (L : List Value), q + gg = s.size ∧ v = .int .i64 (q : Int) ∧ L = Lib.byteCells ((s.data.toList.take q).flatMap f) ∧ L.length ≤ 2 * q ∧ Bd (w.heap.size + 2) w.heap.size L wr ∧ Kb (w.heap.size + 2) w.heap.size W0 wr)
 case atStart => exact ⟨0, [], by omega, rfl, rfl, by simp, BD.out, Kb.refl _ _ _⟩
 case round =>
  obtain ⟨q, L, hq, rfl, hL, hl, hB, hK⟩ := hrel
  have HL := hid hL
  have B := hid hB
  have K := hid hK
  have hzr : w.heap.size + 2 ≤ wr.heap.size := by have := K.out.size; have := HZ.out; omega
  clear hL hB hK BD
  by_cases hlt : q < s.size
  ·
   have gkw : IntKind.i64.wrap ((q : Int) + 1) = (q : Int) + 1 := by rw [IntKind.wrap_i64]; omega
   have ga : (q : Int) < (s.size : Int) := by omega
   have g0 : (0 : Int) ≤ (q : Int) := by omega
   obtain ⟨x, hx, hc⟩ := byte_at s q hlt
   have cb : wr.cell? ⟨w.heap.size + 1, q, none⟩ = some (.int .u8 (ch s q : Nat)) := (World.cell?_of_block (w := W0) (K.out.block (w.heap.size + 1) (by omega) (by omega))).trans (HC.out q hlt)
   obtain ⟨n, hn⟩ : ∃ n : Nat, ch s q = n := ⟨_, rfl⟩
   rw [hn] at cb hc
   have ST := hid (cells_step f _ q x hx)
   have HX : Hid (x.toNat = n) := hc.symm
   clear hx hn hc
   have hzr' := hid hzr
   clear hzr
   by_cases h1 : n = 10
   ·
    subst h1
    go_wp2_with fail
    refine (writeString_any (w.heap.size + 2) w.heap.size L ⟨#[92, 110]⟩ _ B.out (by rw [show ByteArray.size _ = 2 from rfl]; omega) hzr'.out (by omega)).mono ?_
    rintro e Y0 ⟨rfl, b1, k1⟩
    have B0 := hid b1
    have K0 := hid (K.out.trans k1)
    have hzY0 : Hid (w.heap.size + 2 ≤ Y0.heap.size) := Nat.le_trans hzr'.out k1.size
    clear b1 k1 hzr'
    have hzr' := hzY0
    clear hzY0
    go_wp2_with fail
    go_roundg (gk - 1)
    case measure => omega
    case rel =>
     refine ⟨q + 1, (L ++ Lib.strCells ⟨#[92, 110]⟩), by omega, by go_num, ?_, by simp only [List.length_append, Lib.strCells_length]; rw [show ByteArray.size _ = 2 from rfl]; omega, B0.out, K0.out⟩
     rw [ST.out, ← HL.out]
     have hfx : f x = [92, 110] := by rw [HF.out]; unfold quotT1; rw [u8_eq HX.out]; rfl
     rw [hfx]
     simp [Lib.byteCells, Lib.strCells]
   have gh1 : ((n : Int) == 10) = false := by simp; omega
   by_cases h2 : n = 38
   ·
    subst h2
    go_wp2_with fail
    refine (tspecial_any 38 _).mono ?_
    rintro e w' ⟨rfl, rfl⟩
    rw [show (decide (38 = 38) || decide (38 = 47) || decide (38 = 92)) = true by decide]
    go_wp2_with fail
    refine (writeByte_any (w.heap.size + 2) w.heap.size L 92 _ B.out (by omega) hzr'.out (by omega)).mono ?_
    rintro e Y1 ⟨rfl, b1, k1⟩
    have B1 := hid b1
    have K1 := hid (K.out.trans k1)
    have hzY1 : Hid (w.heap.size + 2 ≤ Y1.heap.size) := Nat.le_trans hzr'.out k1.size
    clear b1 k1 hzr'
    have hzr' := hzY1
    clear hzY1
    go_wp2_with fail
    refine (writeByte_any (w.heap.size + 2) w.heap.size (L ++ [.int .u8 92]) 38 _ B1.out (by simp only [List.length_append, List.length_cons, List.length_nil]; omega) hzr'.out (by omega)).mono ?_
    rintro e Y2 ⟨rfl, b1, k1⟩
    have B2 := hid b1
    have K2 := hid (K1.out.trans k1)
    have hzY2 : Hid (w.heap.size + 2 ≤ Y2.heap.size) := Nat.le_trans hzr'.out k1.size
    clear b1 k1 hzr'
    have hzr' := hzY2
    clear hzY2
    go_wp2_with fail
    go_roundg (gk - 1)
    case measure => omega
    case rel =>
     refine ⟨q + 1, ((L ++ [.int .u8 92]) ++ [.int .u8 38]), by omega, by go_num, ?_, by simp only [List.length_append, List.length_cons, List.length_nil]; omega, B2.out, K2.out⟩
     rw [ST.out, ← HL.out]
     have hfx : f x = [92, 38] := by rw [HF.out]; unfold quotT1; rw [u8_eq HX.out]; rfl
     rw [hfx]
     simp [Lib.byteCells]
   by_cases h3 : n = 47
   ·
    subst h3
    go_wp2_with fail
    refine (tspecial_any 47 _).mono ?_
    rintro e w' ⟨rfl, rfl⟩
    rw [show (decide (47 = 38) || decide (47 = 47) || decide (47 = 92)) = true by decide]
    go_wp2_with fail
    refine (writeByte_any (w.heap.size + 2) w.heap.size L 92 _ B.out (by omega) hzr'.out (by omega)).mono ?_
    rintro e Y1 ⟨rfl, b1, k1⟩
    have B1 := hid b1
    have K1 := hid (K.out.trans k1)
    have hzY1 : Hid (w.heap.size + 2 ≤ Y1.heap.size) := Nat.le_trans hzr'.out k1.size
    clear b1 k1 hzr'
    have hzr' := hzY1
    clear hzY1
    go_wp2_with fail
    refine (writeByte_any (w.heap.size + 2) w.heap.size (L ++ [.int .u8 92]) 47 _ B1.out (by simp only [List.length_append, List.length_cons, List.length_nil]; omega) hzr'.out (by omega)).mono ?_
    rintro e Y2 ⟨rfl, b1, k1⟩
    have B2 := hid b1
    have K2 := hid (K1.out.trans k1)
    have hzY2 : Hid (w.heap.size + 2 ≤ Y2.heap.size) := Nat.le_trans hzr'.out k1.size
    clear b1 k1 hzr'
    have hzr' := hzY2
    clear hzY2
    go_wp2_with fail
    go_roundg (gk - 1)
    case measure => omega
    case rel =>
     refine ⟨q + 1, ((L ++ [.int .u8 92]) ++ [.int .u8 47]), by omega, by go_num, ?_, by simp only [List.length_append, List.length_cons, List.length_nil]; omega, B2.out, K2.out⟩
     rw [ST.out, ← HL.out]
     have hfx : f x = [92, 47] := by rw [HF.out]; unfold quotT1; rw [u8_eq HX.out]; rfl
     rw [hfx]
     simp [Lib.byteCells]
   by_cases h4 : n = 92
   ·
    subst h4
    go_wp2_with fail
    refine (tspecial_any 92 _).mono ?_
    rintro e w' ⟨rfl, rfl⟩
    rw [show (decide (92 = 38) || decide (92 = 47) || decide (92 = 92)) = true by decide]
    go_wp2_with fail
    refine (writeByte_any (w.heap.size + 2) w.heap.size L 92 _ B.out (by omega) hzr'.out (by omega)).mono ?_
    rintro e Y1 ⟨rfl, b1, k1⟩
    have B1 := hid b1
    have K1 := hid (K.out.trans k1)
    have hzY1 : Hid (w.heap.size + 2 ≤ Y1.heap.size) := Nat.le_trans hzr'.out k1.size
    clear b1 k1 hzr'
    have hzr' := hzY1
    clear hzY1
    go_wp2_with fail
    refine (writeByte_any (w.heap.size + 2) w.heap.size (L ++ [.int .u8 92]) 92 _ B1.out (by simp only [List.length_append, List.length_cons, List.length_nil]; omega) hzr'.out (by omega)).mono ?_
    rintro e Y2 ⟨rfl, b1, k1⟩
    have B2 := hid b1
    have K2 := hid (K1.out.trans k1)
    have hzY2 : Hid (w.heap.size + 2 ≤ Y2.heap.size) := Nat.le_trans hzr'.out k1.size
    clear b1 k1 hzr'
    have hzr' := hzY2
    clear hzY2
    go_wp2_with fail
    go_roundg (gk - 1)
    case measure => omega
    case rel =>
     refine ⟨q + 1, ((L ++ [.int .u8 92]) ++ [.int .u8 92]), by omega, by go_num, ?_, by simp only [List.length_append, List.length_cons, List.length_nil]; omega, B2.out, K2.out⟩
     rw [ST.out, ← HL.out]
     have hfx : f x = [92, 92] := by rw [HF.out]; unfold quotT1; rw [u8_eq HX.out]; rfl
     rw [hfx]
     simp [Lib.byteCells]
   go_wp2_with fail
   refine (tspecial_any n _).mono ?_
   rintro e w' ⟨rfl, rfl⟩
   rw [show (decide (n = 38) || decide (n = 47) || decide (n = 92)) = false by simp [h2, h3, h4]]
   go_wp2_with fail
   refine (writeByte_any (w.heap.size + 2) w.heap.size L (n : Int) _ B.out (by omega) hzr'.out (by omega)).mono ?_
   rintro e Y1 ⟨rfl, b1, k1⟩
   have B1 := hid b1
   have K1 := hid (K.out.trans k1)
   have hzY1 : Hid (w.heap.size + 2 ≤ Y1.heap.size) := Nat.le_trans hzr'.out k1.size
   clear b1 k1 hzr'
   have hzr' := hzY1
   clear hzY1
   go_wp2_with fail
   go_roundg (gk - 1)
   case measure => omega
   case rel =>
    refine ⟨q + 1, (L ++ [.int .u8 (n : Int)]), by omega, by go_num, ?_, by simp only [List.length_append, List.length_cons, List.length_nil]; omega, B1.out, K1.out⟩
    rw [ST.out, ← HL.out]
    have hfx : f x = [x] := by rw [HF.out]; unfold quotT1; rw [if_neg (show ¬ x = 10 from u8_ne (m := 10) HX.out (by decide) h1)]; exact if_neg (by rintro (h | h | h); exact u8_ne HX.out (by decide) h2 h; exact u8_ne HX.out (by decide) h3 h; exact u8_ne HX.out (by decide) h4 h)
    rw [hfx]
    have := HX.out; subst this; simp [Lib.byteCells]
  ·
   have ga : ¬ (q : Int) < (s.size : Int) := by omega
   have hLe : L = Lib.byteCells (s.data.toList.flatMap f) := by rw [HL.out, take_full s q (by omega)]
   subst hLe
   go_wp2_with fail
   refine (builderString_any (w.heap.size + 2) w.heap.size (s.data.toList.flatMap f) _ w.heap.size B.out (by omega) (by omega) (by omega)).mono ?_
   rintro e y ⟨rfl, k1⟩
   have KY : Hid (Kp w y) := Below.trans (Below.trans K0.out (K.out.below w.heap.size (by omega) (by omega))) k1
   clear k1
   go_wp2_with fail
   go_ret
   exact ⟨by rw [← HS.out]; rfl, KY.out⟩

end Go.Proofs.YtigdmebijbaofaaGreatDoor

/-! ### Cm3 -/

namespace Go.Proofs.YtigdmebijbaofaaGreatDoor
set_option maxHeartbeats 2000000
set_option maxRecDepth 100000
open Go.RowKit

theorem tplL_not : ∀ (P : List Pc) (t : Bool) (G : Int) (j : Nat) (p : Pc), P[j]? = some p → pcR p G = false → tplL t P G = false
 | [], _, _, _, _, h, _ => by simp at h
 | x :: P, t, G, 0, p, h, hp => by
  simp at h; subst h
  simp [tplL, hp]
 | x :: P, t, G, j + 1, p, h, hp => by
  simp at h
  simp [tplL, tplL_not P _ G j p h hp]
theorem tplL_two : ∀ (P : List Pc) (t : Bool) (G : Int) (j : Nat) (p q : Pc), P[j]? = some p → P[j + 1]? = some q → p.g = -1 → q.g = -1 → tplL t P G = false
 | [], _, _, _, _, _, h, _, _, _ => by simp at h
 | [x], _, _, j, _, _, _, h, _, _ => by simp at h
 | x :: y :: P, t, G, 0, p, q, h, h', hp, hq => by
  simp at h h'; subst h; subst h'
  simp [tplL, hp, hq]
 | x :: y :: P, t, G, j + 1, p, q, h, h', hp, hq => by
  have := tplL_two (y :: P) (decide (x.g = -1)) G j p q (by simpa using h) (by simpa using h') hp hq
  rw [tplL, this]; simp
theorem tplL_all : ∀ (P : List Pc) (t : Bool) (G : Int), (∀ (j : Nat) (p : Pc), P[j]? = some p → pcR p G = true) → (∀ (j : Nat) (p q : Pc), P[j]? = some p → P[j + 1]? = some q → p.g = -1 → q.g = -1 → False) → (t = true → ∀ p : Pc, P[0]? = some p → p.g ≠ -1) → tplL t P G = true
 | [], _, _, _, _, _ => rfl
 | x :: P, t, G, h1, h2, h3 => by
  have e1 : pcR x G = true := h1 0 x rfl
  have e2 : (t && decide (x.g = -1)) = false := by
   cases t with
   | false => rfl
   | true => simp [h3 rfl x rfl]
  have e3 := tplL_all P (decide (x.g = -1)) G (fun j p h => h1 (j + 1) p (by simpa using h)) (fun j p q h h' => h2 (j + 1) p q (by simpa using h) (by simpa using h')) (fun ht p hp hg => h2 0 x p rfl (by simpa using hp) (by simpa using ht) hg)
  rw [tplL, e1, e2, e3]; rfl
theorem PcAt.get {w : World} {P : List Pc} {ad : Option Addr} {l c : Nat} (h : PcAt w P ad l c) (j : Nat) (p : Pc) (hj : P[j]? = some p) : ∃ b o, ad = some ⟨b, o, none⟩ ∧ b < w.heap.size ∧ w.cell? ⟨b, o + j * 2, none⟩ = some (.int .i64 p.g) ∧ w.cell? ⟨b, o + j * 2 + 1, none⟩ = some (.string p.s) := by
 obtain ⟨b, o, h1, h2, h3⟩ := h.at' (by intro hn; rw [hn] at hj; simp at hj)
 exact ⟨b, o, h1, h2, h3 j p hj⟩

theorem tplRight_any (P : List Pc) (G : Int) (ad : Option Addr) (l c : Nat) (w : World) (hP : PcAt w P ad l c) (hl : P.length ≤ 1000000) : Calls Tryz.prog 139 #[.slice ad l c, .int .i64 G] w fun e w' => e = .returned (.bool (tplR P G)) ∧ Kp w w' := by
 obtain ⟨B, hB⟩ : ∃ B, tplR P G = B := ⟨_, rfl⟩
 rw [hB]
 have HB : Hid (tplL false P G = B) := hB
 clear hB
 obtain ⟨L, hL⟩ : ∃ L, P.length = L := ⟨_, rfl⟩
 have hll := hP.ln
 have hcp := hP.cp
 rw [hL] at hll hl
 subst hll
 have HP := hid hP
 have HL := hid hL
 clear hP hL
 go_enter Tryz.func139, Tryz.ntmps139
 go_wp2_with fail
 go_loopg [9] l (fun gg v wr => ∃ q : Nat, q + gg = l ∧ v = .int .i64 (q : Int) ∧ (∀ j p, j < q → P[j]? = some p → pcR p G = true) ∧ (∀ j p p', j + 1 < q → P[j]? = some p → P[j + 1]? = some p' → p.g = -1 → p'.g = -1 → False) ∧ Kp w wr)
 case atStart => exact ⟨0, by omega, rfl, fun j p hj => absurd hj (by omega), fun j p p' hj => absurd hj (by omega), Kp.refl _⟩
 case round =>
  obtain ⟨q, hq, rfl, h1, h2, hK⟩ := hrel
  have H1 := hid h1
  have H2 := hid h2
  have K := hid hK
  clear h1 h2 hK
  by_cases hlt : q < l
  ·
   have gkw : IntKind.i64.wrap ((q : Int) + 1) = (q : Int) + 1 := by rw [IntKind.wrap_i64]; omega
   have ga : (q : Int) < (l : Int) := by omega
   have g0 : (0 : Int) ≤ (q : Int) := by omega
   obtain ⟨p, hp⟩ : ∃ p, P[q]? = some p := ⟨_, List.getElem?_eq_getElem (by rw [HL.out]; exact hlt)⟩
   obtain ⟨bb, oo, e1, hbb, c1, c2⟩ := (HP.out.kp K.out).get q p hp
   subst e1
   have PR : Hid (∀ w, Calls Tryz.prog 177 #[.agg #[.int .i64 p.g, .string p.s], .int .i64 G] w fun e w' => e = .returned (.bool (pcR p G)) ∧ Kp w w') := fun w => pieceRight_any p G w
   obtain ⟨g, s⟩ := p
   obtain ⟨R, hR⟩ : ∃ R, pcR ⟨g, s⟩ G = R := ⟨_, rfl⟩
   rw [hR] at PR
   have HR := hid hR
   have HPQ := hid hp
   clear hR hp
   go_upto_region 4 with fail
   clear c1 c2
   refine opq (fun W => W.heap[wr.heap.size]? = some (.cells #[.int .i64 g, .string s] 34) ∧ Kp wr W) ⟨by first | exact last_at _ _ _ (by simp) | exact bl_put (bl_put (last_at _ _ _ (by simp)) _) _, by repeat (first | exact Kp.refl _ | refine Kp.alloc ?_ _ | refine Kp.setCell ?_ ?_ _ | (simp; omega))⟩ ?_
   rintro W1 ⟨y1, y2⟩
   have A1 := hid y1
   have K1 := hid y2
   clear y1 y2
   have a0 := bl_cell A1.out 0 _ rfl
   have a1 := bl_cell A1.out 1 _ rfl
   go_wp2_with fail
   clear a0 a1
   refine (PR.out _).mono ?_
   rintro e W2 ⟨rfl, k2⟩
   have A2 := hid (bl_kp A1.out k2)
   have K2 := hid (K.out.trans (K1.out.trans k2))
   clear k2
   cases R
   ·
    have E : Hid (B = false) := by show _ = _; rw [← HB.out]; exact tplL_not P false G q _ HPQ.out HR.out
    go_wp2_with fail
    go_ret
    exact ⟨by rw [E.out]; rfl, K2.out⟩
   have a0 := bl_cell A2.out 0 _ rfl
   have ST : ∀ j p, j < q + 1 → P[j]? = some p → pcR p G = true := fun j p' hj hp => by
    by_cases hjq : j = q
    ·
     subst hjq
     rw [HPQ.out] at hp
     injection hp with hp
     subst hp
     exact HR.out
    ·
     exact H1.out j p' (by omega) hp
   have HST := hid ST
   clear ST
   by_cases hq0 : q = 0
   ·
    subst hq0
    have gq : ¬ ((0 : Nat) : Int) > 0 := by omega
    go_wp2_with fail
    clear a0
    go_roundg (gk - 1)
    case measure => omega
    case rel => exact ⟨1, by omega, by go_num, HST.out, fun j p p' hj => absurd hj (by omega), K2.out⟩
   ·
    have gq : (q : Int) > 0 := by omega
    by_cases hg : g = -1
    ·
     subst hg
     obtain ⟨r, rfl⟩ : ∃ r, q = r + 1 := ⟨q - 1, by omega⟩
     obtain ⟨p0, hp0⟩ : ∃ p, P[r]? = some p := ⟨_, List.getElem?_eq_getElem (by rw [HL.out]; omega)⟩
     obtain ⟨b0, o0, e2, hb0, d1, d2⟩ := (HP.out.kp K2.out).get r p0 hp0
     injection e2 with e2
     injection e2 with e2 e3 e4
     subst e2
     subst e3
     have gw : IntKind.i64.wrap (((r + 1 : Nat) : Int) - 1) = (r : Int) := by rw [IntKind.wrap_i64]; omega
     have gr0 : (0 : Int) ≤ (r : Int) := by omega
     have grl : (r : Int) < (l : Int) := by omega
     obtain ⟨g', s'⟩ := p0
     have HP0 := hid hp0
     clear hp0 d2
     by_cases hg' : g' = -1
     ·
      subst hg'
      have E : Hid (B = false) := by show _ = _; rw [← HB.out]; exact tplL_two P false G r _ _ HP0.out HPQ.out rfl rfl
      go_wp2_with fail
      go_ret
      exact ⟨by rw [E.out]; rfl, K2.out⟩
     ·
      have gn : (g' == -1) = false := by simp [hg']
      have HG := hid hg'
      clear hg'
      go_wp2_with fail
      clear a0 d1
      go_roundg (gk - 1)
      case measure => omega
      case rel => exact ⟨r + 1 + 1, by omega, by go_num, HST.out, fun j p p' hj hp hp' hpg hpg' => by
        by_cases hjr : j = r
        ·
         subst hjr
         rw [HP0.out] at hp
         injection hp with hp
         subst hp
         exact HG.out hpg
        ·
         exact H2.out j p p' (by omega) hp hp' hpg hpg', K2.out⟩
    ·
     have gn : (g == -1) = false := by simp [hg]
     have HG := hid hg
     clear hg
     go_wp2_with fail
     clear a0
     go_roundg (gk - 1)
     case measure => omega
     case rel => exact ⟨q + 1, by omega, by go_num, HST.out, fun j p p' hj hp hp' hpg hpg' => by
       by_cases hjr : j + 1 = q
       ·
        subst hjr
        rw [HPQ.out] at hp'
        injection hp' with hp'
        subst hp'
        exact HG.out hpg'
       ·
        exact H2.out j p p' (by omega) hp hp' hpg hpg', K2.out⟩
  ·
   have ga : ¬ (q : Int) < (l : Int) := by omega
   have hql : q = l := by omega
   subst hql
   have E : Hid (B = true) := by
    show _ = _
    rw [← HB.out]
    refine tplL_all P false G (fun j p h => H1.out j p ?_ h) (fun j p p' h h' => H2.out j p p' ?_ h h') (fun h => absurd h (by simp))
    ·
     have := (List.getElem?_eq_some_iff.1 h).1; rw [HL.out] at this; exact this
    ·
     have := (List.getElem?_eq_some_iff.1 h').1; rw [HL.out] at this; exact this
   go_wp2_with fail
   go_ret
   exact ⟨by rw [E.out]; rfl, K.out⟩

end Go.Proofs.YtigdmebijbaofaaGreatDoor

/-! ### Cm6 -/

namespace Go.Proofs.YtigdmebijbaofaaGreatDoor
set_option maxHeartbeats 2000000
set_option maxRecDepth 100000
open Go.RowKit

theorem Tryz.laysM171 : Go.Proofs.LaysM.n171 Tryz.prog Tryz.lays171_ren := { Tryz.lays171 with
 i0 := by kernel_rfl
 i2 := by kernel_rfl
 i3 := by kernel_rfl
 i4 := by kernel_rfl
 i5 := by kernel_rfl
 i9 := by kernel_rfl
 i20 := by kernel_rfl
 i37 := by kernel_rfl
 i46 := by kernel_rfl
 i51 := by kernel_rfl
 i53 := by kernel_rfl
 i171 := by kernel_rfl
 i173 := by kernel_rfl
 i212 := by kernel_rfl
 i232 := by kernel_rfl
 i233 := by kernel_rfl
 m17 := by kernel_rfl
 m18 := by kernel_rfl
 m19 := by kernel_rfl }
def Tb (w : World) : Prop := Lib.TabIs Tryz.prog w "internal/strconv.uint64pow10" .u64 Lib.pow10Tab
theorem Tb.kp {w w' : World} (h : Tb w) (k : Kp w w') : Tb w' := Lib.tabBelow_of_tabIs h w' k
theorem kp_grow (w : World) (n : Nat) (os : Array Obj) : Kp w (Sort.grow (w.drewN n) os) :=
 ⟨rfl, rfl, rfl, by simp [Sort.grow, World.drewN], fun k hk => by simp [Sort.grow, World.drewN, Array.getElem?_append, hk]⟩
theorem itoa_all (n : Nat) (h : n ≤ 1000000000) (w : World) (hT : Tb w) : Calls Tryz.prog 76 #[.int .i64 (n : Int)] w fun e w' => e = .returned (.string (bs (dec n))) ∧ Kp w w' := by
 refine (Any.strconv_Itoa Tryz.laysM171 (n : Int) (by omega) (by omega) w hT).mono ?_
 rintro e w' ⟨rfl, k, os, rfl⟩
 refine ⟨?_, kp_grow w k os⟩
 have : Lib.itoa (n : Int) = Lib.decDigits n := by unfold Lib.itoa; rw [if_neg (by omega), Int.toNat_natCast]
 rw [this]
 rfl
theorem dec_more (n k : Nat) (h : n / 10 < 10 ^ k) (ih : ∀ m, m < 10 ^ k → (Lib.decDigits m).length ≤ k) (_ : 1 ≤ k) : (Lib.decDigits n).length ≤ k + 1 := by
 rw [Lib.decDigits]
 split
 ·
  simp
 ·
  have := ih _ h
  simp
  exact this
theorem dec_len4 (n : Nat) (h : n < 10000) : (dec n).length ≤ 4 :=
 dec_more n 3 (by omega) (fun m hm => dec_more m 2 (by omega) (fun k hk => dec_len k hk) (by omega)) (by omega)

theorem flatMap_len (f : UInt8 → List UInt8) (h : ∀ x, (f x).length ≤ 2) : ∀ s : List UInt8, (s.flatMap f).length ≤ 2 * s.length
 | [] => by simp
 | x :: s => by
  have h1 := h x
  have h2 := flatMap_len f h s
  rw [List.flatMap_cons, List.length_append, List.length_cons]
  omega
theorem quotT_len (s : List UInt8) : (quotT s).length ≤ 2 * s.length := flatMap_len _ (fun x => by split; simp; split <;> simp) s
theorem linesT_len (s : List UInt8) : (linesT s).length ≤ 2 * s.length := flatMap_len _ (fun x => by split <;> simp) s
theorem tableT_len (s : List UInt8) : (tableT s).length ≤ 2 * s.length := flatMap_len _ (fun x => by split; simp; split <;> simp) s

theorem nameText_any (s : ByteArray) (w : World) (hs : s.size ≤ 1000000) : Calls Tryz.prog 97 #[.string s] w fun e w' => e = .returned (.string (bs (nameT s.data.toList))) ∧ w' = w := by
 by_cases h : s.size = 0
 ·
  obtain rfl := size0 s h
  go_enter Tryz.func97, Tryz.ntmps97
  go_wp2
  go_ret
  exact ⟨rfl, rfl⟩
 ·
  have ne := ne0 s h
  have E : Hid (bs (nameT s.data.toList) = bs [32] ++ s) := by
   show _ = _
   unfold nameT
   rw [if_neg (fun he => h (by have := congrArg List.length he; simpa using this)), ← bs_app]
   rfl
  rw [E.out]
  clear E
  go_enter Tryz.func97, Tryz.ntmps97
  go_wp2
  go_ret
  exact ⟨rfl, rfl⟩

end Go.Proofs.YtigdmebijbaofaaGreatDoor
