/-
  How the bytes of a set stand in a bracket.
-/
import Derived.Test.YtikmgckefbjbkaaGreatDoorText1
import Derived.Test.YtikmgckefbjbkaaGreatDoorClass
import Derived.Lib.BufferRead
import Derived.Deep.LoopGhost
namespace Go.Proofs.YtikmgckefbjbkaaGreatDoor
open Go.RowKit

def u8s (l : List Nat) : List UInt8 := l.map UInt8.ofNat
def mid (b : Nat) : Bool := !(b == 93) && !(b == 94) && !(b == 45)
def rowT (p : Nat → Bool) : List UInt8 := u8s ((lst p 256).filter (· == 93)) ++ u8s ((lst p 256).filter mid) ++ u8s ((lst p 256).filter (· == 94)) ++ u8s ((lst p 256).filter (· == 45))
theorem lst_lt (p : Nat → Bool) (k : Nat) : ∀ x ∈ lst p k, x < k := by
  intro x hx
  unfold lst at hx
  simp at hx
  exact hx.1
theorem lst_len (p : Nat → Bool) (k : Nat) : (lst p k).length ≤ k := by rw [lst_length]; exact cnt_le p k

/-- A row of bytes that the call owns. -/
def Ow (base : Nat) (w : World) (v : Value) (l : List Nat) : Prop := w.ownsRow base 5 1 v l.length (l.map u8v)
theorem Ow.kp {base : Nat} {w w' : World} {v : Value} {l : List Nat} (h : Ow base w v l) (k : Kp w w') : Ow base w' v l := owns_kp h k
theorem Ow.conv {base : Nat} {w : World} {v : Value} {l : List Nat} (h : Ow base w v l) (hl : ∀ x ∈ l, x < 256) : (convert 47 9 v).run Tryz.prog w = .ok (.string (bs (u8s l))) w := by
  obtain ⟨h1, h2⟩ := h
  rcases h2 with ⟨rfl, h0⟩ | ⟨g, cap, cur, rfl, hb, hg, hc, hm, hs, ht⟩
  · have : l = [] := List.eq_nil_of_length_eq_zero h0
    subst this
    exact Lib.run_convert_nil_bytes w 47 9 5 0 Tryz.underlying47 Tryz.underlying5 Tryz.underlying9
  · have hlen : (u8s l).length = l.length := by simp [u8s]
    rw [← hlen]
    refine run_convert_bytes_back w 47 9 5 ⟨g, 0, none⟩ cap (u8s l) Tryz.underlying47 Tryz.underlying5 Tryz.underlying9 ?_
    intro j hj
    have hj' : j < l.length := by rw [← hlen]; exact hj
    have hx : (u8s l)[j] = UInt8.ofNat l[j] := by simp [u8s]
    rw [hx]
    have hlt := hl l[j] (List.getElem_mem hj')
    rw [show (⟨g, 0, none⟩ : Addr).add j = ⟨g, j, none⟩ by simp [Addr.add]; exact Eq.symm]
    refine bl_cell hg j _ ?_
    have e1 : (cur.toList.take (l.length * 1))[j]? = (l.map u8v)[j]? := by rw [ht]
    rw [List.getElem?_take, if_pos (by omega), Array.getElem?_toList] at e1
    rw [e1, List.getElem?_map, List.getElem?_eq_getElem hj']
    show some _ = some _
    congr 1
    show Value.int .u8 _ = Value.int .u8 _
    congr 1
    rw [UInt8.toNat_ofNat_of_lt' (by simpa using hlt)]
theorem Ow.at {base : Nat} {w : World} {v : Value} {l : List Nat} (h : Ow base w v l) (j x : Nat) (hj : l[j]? = some x) : ∃ g cap, v = .slice (some ⟨g, 0, none⟩) l.length cap ∧ w.cell? ⟨g, j, none⟩ = some (.int .u8 (x : Int)) := by
  obtain ⟨h1, h2⟩ := h
  rcases h2 with ⟨rfl, h0⟩ | ⟨g, cap, cur, rfl, hb, hg, hc, hm, hs, ht⟩
  · rw [List.eq_nil_of_length_eq_zero h0] at hj; simp at hj
  · have hj' : j < l.length := (List.getElem?_eq_some_iff.1 hj).1
    refine ⟨g, cap, rfl, bl_cell hg j _ ?_⟩
    have e1 : (cur.toList.take (l.length * 1))[j]? = (l.map u8v)[j]? := by rw [ht]
    rw [List.getElem?_take, if_pos (by omega), Array.getElem?_toList] at e1
    rw [e1, List.getElem?_map, hj]
    rfl
theorem Ow.turn {base : Nat} {w w' : World} {row : Option Nat} {v : Value} {l : List Nat} (h : Ow base w v l) (g : w.grownBy w' row) (hne : ∀ b, v.ownBlock = some b → row ≠ some b) : Ow base w' v l := by
  obtain ⟨h1, h2⟩ := h
  refine ⟨h1, ?_⟩
  rcases h2 with h2 | ⟨gb, cap, cur, hv, hb, hg, hr⟩
  · exact .inl h2
  · exact .inr ⟨gb, cap, cur, hv, hb, (g.block gb (Array.getElem?_eq_some_iff.1 hg).1 (Ne.symm (hne gb (by rw [hv]; rfl)))).trans hg, hr⟩

/-- Two rows don't lie in one block. -/
def Off (u v : Value) : Prop := ∀ b, u.ownBlock = some b → v.ownBlock ≠ some b
/-- A byte put behind: where the new row lies is told too. -/
theorem wpList_append_b {ops : Array Oper} {rest : List Oper} {o : Oper} {a : Act} {Q : Exit → Act → World → Prop} (W : World) (hgd : o.guard = none) (s x : Operand)
    (ho : o.op = .call { callee := .builtin .append, args := #[s, x], argTypes := #[47, 47] })
    (base : Nat) (v : Value) (b : Nat) (l : List Nat) (hs : a.eval s = v) (hown : Hid (Ow base W v l)) (B : Nat) (hB : B = W.heap.size)
    (hx : a.eval x = .slice (some ⟨B, 0, none⟩) 1 1) (h63 : l.length ≤ 900) (hbase : base ≤ W.heap.size)
    (h : ∀ v' w', Ow base w' v' (l ++ [b]) → W.grownBy w' v.ownBlock → (v'.ownBlock = v.ownBlock ∨ v'.ownBlock = some (W.heap.size + 1)) → wpList Tryz.prog ops Q rest (a.put o.dst v') w') :
    wpList Tryz.prog ops Q (o :: rest) a (W.alloc (.cells #[.int .u8 (b : Int)] 5)) := by
  obtain ⟨i, hi, hz, hsz, hby⟩ := info5
  have kal : Kp W (W.alloc (.cells #[.int .u8 (b : Int)] 5)) := (Kp.refl _).alloc _
  subst hB
  refine wpList_append_own_at (W.alloc (.cells #[.int .u8 (b : Int)] 5)) hgd s x 47 ho base 5 i (.int .u8 0) 1 1 Tryz.underlying47 hi hz hsz hby rfl (by omega) v l.length (l.map u8v) hs (hown.out.alloc _) ⟨W.heap.size, 0, none⟩ 1 1 [u8v b] hx rfl ?_ ?_ (by unfold maxLen; omega) (by omega) (by simp; omega) ?_
  · intro j y hj
    match j, hj with
    | 0, hj => simp at hj; subst hj; simp [Addr.add]
  · intro y hy; simp at hy; subst hy; rfl
  · intro v' w' a1 a2 _ a4
    refine h v' w' ?_ ⟨a2.os.trans rfl, a2.tape.trans rfl, a2.output.trans rfl, Nat.le_trans kal.size a2.size, fun k hk hne => (a2.block k (Nat.lt_of_lt_of_le hk kal.size) hne).trans (kal.block k hk)⟩ ?_
    · unfold Ow
      rw [List.length_append, List.map_append]
      exact a1
    · rcases a4 with a4 | a4
      · exact Or.inl a4
      · refine Or.inr (a4.trans ?_)
        simp

/-- In the loop: the four rows. -/
structure Qw (p : Nat → Bool) (base : Nat) (w0 : World) (bv : Value) (k : Nat) (f m c d : Value) (wr : World) : Prop where
  of : Ow base wr f (((lst p 256).take k).filter (· == 93))
  om : Ow base wr m (((lst p 256).take k).filter mid)
  oc : Ow base wr c (((lst p 256).take k).filter (· == 94))
  od : Ow base wr d (((lst p 256).take k).filter (· == 45))
  ob : Ow w0.heap.size wr bv (lst p 256)
  fm : Off f m
  fc : Off f c
  fd : Off f d
  mc : Off m c
  md : Off m d
  cd : Off c d
  kp : Kp w0 wr
end Go.Proofs.YtikmgckefbjbkaaGreatDoor
