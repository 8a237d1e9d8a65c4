/-
  Texts of this claim: Blk, Signs, Steps, Sign2.
-/
import Derived.Test.YtigdmebijbaofaaGreatDoorCmdAM1
import Derived.Deep.RegionHeld3
import Derived.Deep.DeepCutAuto
import Derived.Deep.LoopGhost
import Derived.Lib.SlBytesConst

/-! ### Blk -/

namespace Go.Proofs.YtigdmebijbaofaaGreatDoor
open Go.RowKit

theorem Kp.size {a b : World} (h : Kp a b) : a.heap.size ≤ b.heap.size := Below.size h
theorem last_at (w : World) (o : Obj) (B : Nat) (h : w.heap.size = B) : (w.alloc o).heap[B]? = some o := by subst h; exact last_of w o
theorem last_drew (w : World) (o : Obj) : ((w.alloc o).drew).heap[w.heap.size]? = some o := last_of w o
theorem bl_kp {w w' : World} {B : Nat} {o : Obj} (h : w.heap[B]? = some o) (hk : Kp w w') : w'.heap[B]? = some o := (hk.block B (Array.getElem?_eq_some_iff.1 h).1).trans h
theorem bl_cell {w : World} {B : Nat} {cs : Array Value} {t : TypeId} (h : w.heap[B]? = some (.cells cs t)) (j : Nat) (v : Value) (hv : cs[j]? = some v) : w.cell? ⟨B, j, none⟩ = some v := by
 simp [World.cell?, h, hv]
theorem bl_cellf {w : World} {B : Nat} {cs : Array Value} {t : TypeId} {fr : Nat × Nat} (h : w.heap[B]? = some (.cells cs t fr)) (j : Nat) (v : Value) (hv : cs[j]? = some v) : w.cell? ⟨B, j, none⟩ = some v := by
 simp [World.cell?, h, hv]
theorem bl_lt {w : World} {B : Nat} {o : Obj} (h : w.heap[B]? = some o) : B < w.heap.size := (Array.getElem?_eq_some_iff.1 h).1
theorem bl_frozen {w : World} {B : Nat} {cs : Array Value} {t : TypeId} (h : w.heap[B]? = some (.cells cs t)) (j : Nat) : w.frozen? ⟨B, j, none⟩ = false := by
 simp [World.frozen?, h]
theorem bl_alloc {w : World} {B : Nat} {o : Obj} (h : w.heap[B]? = some o) (o' : Obj) : (w.alloc o').heap[B]? = some o := bl_kp h ((Kp.refl _).alloc _)
theorem bl_drew {w : World} {S : Nat} {o : Obj} (h : w.heap[S]? = some o) : w.drew.heap[S]? = some o := h
theorem bl_set {w : World} {B S j : Nat} {o : Obj} (h : w.heap[B]? = some o) (hne : B ≠ S) (u : Value) : (w.setCell ⟨S, j, none⟩ u).heap[B]? = some o := (Below.heap_setCell w ⟨S, j, none⟩ u B hne).trans h
theorem bl_put {w : World} {B j : Nat} {cs : Array Value} {t : TypeId} (h : w.heap[B]? = some (.cells cs t)) (u : Value) : (w.setCell ⟨B, j, none⟩ u).heap[B]? = some (.cells (cs.setIfInBounds j u) t) := by
 simp [World.setCell, Array.getElem?_modify, h]

/-- Nothing that was there has turned but block P. -/
structure Ks (P : Nat) (w w' : World) : Prop where
 lo : Below P w w'
 block : ∀ b, b < w.heap.size → b ≠ P → w'.heap[b]? = w.heap[b]?
theorem Ks.refl (P : Nat) (w : World) : Ks P w w := ⟨Below.refl _ _, fun _ _ _ => rfl⟩
theorem Ks.size {P : Nat} {a b : World} (h : Ks P a b) : a.heap.size ≤ b.heap.size := h.lo.size
theorem Ks.trans {P : Nat} {a b c : World} (h : Ks P a b) (g : Ks P b c) : Ks P a c := ⟨h.lo.trans g.lo, fun k hk hne => (g.block k (Nat.lt_of_lt_of_le hk h.size) hne).trans (h.block k hk hne)⟩
theorem Kp.ks {P : Nat} {a b : World} (h : Kp a b) (hP : P ≤ a.heap.size) : Ks P a b := ⟨Below.mono h hP, fun k hk _ => h.block k hk⟩
theorem Ks.kp {P : Nat} {a b c : World} (h : Ks P a b) (k : Kp b c) (hP : P ≤ b.heap.size) : Ks P a c := h.trans (k.ks hP)
theorem Ks.set {P : Nat} {a b : World} (h : Ks P a b) (j : Nat) (u : Value) : Ks P a (b.setCell ⟨P, j, none⟩ u) := ⟨h.lo.setCell (Nat.le_refl _) u, fun k hk hne => (Below.heap_setCell b ⟨P, j, none⟩ u k hne).trans (h.block k hk hne)⟩
theorem Ks.drew {P : Nat} {a b : World} (h : Ks P a b) : Ks P a b.drew := ⟨h.lo.drew, h.block⟩
theorem bl_ks {P : Nat} {w w' : World} {B : Nat} {o : Obj} (h : w.heap[B]? = some o) (hne : B ≠ P) (hk : Ks P w w') : w'.heap[B]? = some o := (hk.block B (bl_lt h) hne).trans h
theorem Ks.up {P : Nat} {W w w' : World} (h : Ks P w w') (k : Kp W w) (hP : W.heap.size ≤ P) : Kp W w' :=
 ⟨h.lo.os.trans k.os, h.lo.tape.trans k.tape, h.lo.output.trans k.output, Nat.le_trans k.size h.size, fun b hb => (h.block b (Nat.lt_of_lt_of_le hb k.size) (by omega)).trans (k.block b hb)⟩
theorem bl_set3 {w : World} {B : Nat} {a b c : Value} {t : TypeId} (h : w.heap[B]? = some (.cells #[a, b, c] t)) (x y z : Value) : (((w.setCell ⟨B, 0, none⟩ x).setCell ⟨B, 1, none⟩ y).setCell ⟨B, 2, none⟩ z).heap[B]? = some (.cells #[x, y, z] t) := bl_put (bl_put (bl_put h x) y) z
theorem bl_set4 {w : World} {B : Nat} {a b c d : Value} {t : TypeId} (h : w.heap[B]? = some (.cells #[a, b, c, d] t)) (x y z u : Value) : ((((w.setCell ⟨B, 0, none⟩ x).setCell ⟨B, 1, none⟩ y).setCell ⟨B, 2, none⟩ z).setCell ⟨B, 3, none⟩ u).heap[B]? = some (.cells #[x, y, z, u] t) := bl_put (bl_put (bl_put (bl_put h x) y) z) u
theorem ks_set3 {w : World} {B : Nat} (x y z : Value) : Ks B w (((w.setCell ⟨B, 0, none⟩ x).setCell ⟨B, 1, none⟩ y).setCell ⟨B, 2, none⟩ z) := (((Ks.refl B w).set 0 x).set 1 y).set 2 z
theorem ks_set4 {w : World} {B : Nat} (x y z u : Value) : Ks B w ((((w.setCell ⟨B, 0, none⟩ x).setCell ⟨B, 1, none⟩ y).setCell ⟨B, 2, none⟩ z).setCell ⟨B, 3, none⟩ u) := ((((Ks.refl B w).set 0 x).set 1 y).set 2 z).set 3 u

/-- A constant's bytes, converted to what they are: the block bears a mark. -/
theorem conv_any (w : World) (B : Nat) (C : Array Value) (n c : Nat) (h : w.heap[B]? = some (.cells C 5)) :
  ∃ w', (convert 59 59 (.slice (some ⟨B, 0, none⟩) n c)).run Tryz.prog w = .ok (.slice (some ⟨B, 0, none⟩) n c) w' ∧ w'.heap[B]? = some (.cells C 5 (C.size, C.size + 1)) ∧ Ks B w w' := by
 have hsh : w.shape? B = some (5, C.size) := by unfold World.shape?; rw [h]
 refine ⟨w.freeze ⟨B, C.size, none⟩ 1, ?_, ?_, ?_⟩
 ·
  simp [convert, run_underlying Tryz.underlying59, run_underlying Tryz.underlying5, markStringish, hsh]
 ·
  simp [World.freeze, Array.getElem?_modify, h]
 ·
  refine ⟨⟨rfl, rfl, rfl, ?_, fun b hb => ?_⟩, fun b hb hne => ?_⟩
  ·
   simp [World.freeze]
  ·
   simp only [World.freeze]; rw [if_neg (by decide)]; rw [Array.getElem?_modify, if_neg (by omega)]
  ·
   simp only [World.freeze]; rw [if_neg (by decide)]; rw [Array.getElem?_modify, if_neg (by omega)]
end Go.Proofs.YtigdmebijbaofaaGreatDoor

/-! ### Signs -/

namespace Go.Proofs.YtigdmebijbaofaaGreatDoor
open Go.RowKit

/-- The byte at a place of a text. -/
def ch (s : ByteArray) (i : Nat) : Nat := (s.data[i]?.getD 0).toNat
theorem ch_lt (s : ByteArray) (i : Nat) : ch s i < 256 := UInt8.toNat_lt _
theorem run_ch (s : ByteArray) (k : Nat) (h : k < s.size) (w : World) : (Instr.index 9 (.string s) (.int .i64 (k : Int))).run Tryz.prog w = .ok (.int .u8 (ch s k : Nat)) w := by
 rw [run_index_string w 9 s .i64 (k : Int) (by kernel_rfl), dif_pos ⟨by omega, by omega⟩]
 have e : (s[((k : Int)).toNat]'(by omega)) = s.data[k]'h := rfl
 rw [e]
 unfold ch
 rw [Array.getElem?_eq_getElem (show k < s.data.size from h)]
 rfl

def framing (b : Nat) : Nat := if b = 40 then 7 else if b = 41 then 8 else if b = 123 then 13 else 0
def bareE (b : Nat) : Nat := if b = 124 then 9 else if b = 43 then 11 else if b = 63 then 12 else if framing b = 0 then 2 else framing b
def bare (b : Nat) (ere : Bool) : Nat := if b = 46 then 3 else if b = 91 then 4 else if b = 94 then 5 else if b = 36 then 6 else if b = 42 then 10 else if ere then bareE b else 2

theorem framing_any (b : Nat) (w : World) : Calls Tryz.prog 236 #[.int .u8 (b : Int)] w fun e w' => e = .returned (.int .i64 (framing b : Nat)) ∧ w' = w := by
 by_cases h1 : b = 40
 ·
  subst h1; go_enter Tryz.func236, Tryz.ntmps236; go_wp2; go_ret; exact ⟨rfl, rfl⟩
 by_cases h2 : b = 41
 ·
  subst h2; go_enter Tryz.func236, Tryz.ntmps236; go_wp2; go_ret; exact ⟨rfl, rfl⟩
 by_cases h3 : b = 123
 ·
  subst h3; go_enter Tryz.func236, Tryz.ntmps236; go_wp2; go_ret; exact ⟨rfl, rfl⟩
 have e : Hid (framing b = 0) := by show _ = _; unfold framing; rw [if_neg h1, if_neg h2, if_neg h3]
 have g1 : ((b : Int) == 40) = false := by simp; omega
 have g2 : ((b : Int) == 41) = false := by simp; omega
 have g3 : ((b : Int) == 123) = false := by simp; omega
 go_enter Tryz.func236, Tryz.ntmps236; go_wp2; go_ret
 exact ⟨by rw [e.out]; rfl, rfl⟩

theorem bareE_any (b : Nat) (w : World) : Calls Tryz.prog 237 #[.int .u8 (b : Int)] w fun e w' => e = .returned (.int .i64 (bareE b : Nat)) ∧ w' = w := by
 by_cases h1 : b = 124
 ·
  subst h1; go_enter Tryz.func237, Tryz.ntmps237; go_wp2; go_ret; exact ⟨rfl, rfl⟩
 by_cases h2 : b = 43
 ·
  subst h2; go_enter Tryz.func237, Tryz.ntmps237; go_wp2; go_ret; exact ⟨rfl, rfl⟩
 by_cases h3 : b = 63
 ·
  subst h3; go_enter Tryz.func237, Tryz.ntmps237; go_wp2; go_ret; exact ⟨rfl, rfl⟩
 have e : Hid (bareE b = if framing b = 0 then 2 else framing b) := by show _ = _; unfold bareE; rw [if_neg h1, if_neg h2, if_neg h3]
 have g1 : ((b : Int) == 124) = false := by simp; omega
 have g2 : ((b : Int) == 43) = false := by simp; omega
 have g3 : ((b : Int) == 63) = false := by simp; omega
 obtain ⟨k, hk⟩ : ∃ k, framing b = k := ⟨_, rfl⟩
 have HK : Hid (framing b = k) := hk
 rw [hk] at e
 clear hk
 by_cases h0 : k = 0
 ·
  subst h0
  go_enter Tryz.func237, Tryz.ntmps237
  go_wp2_with (go_at_call 236; refine (framing_any b _).mono ?_; rintro e w ⟨rfl, rfl⟩; rw [HK.out])
  go_ret
  exact ⟨by rw [e.out]; rfl, rfl⟩
 ·
  have g4 : ((k : Int) != 0) = true := by simp; omega
  have g5 : ¬ (k : Int) = 0 := by omega
  go_enter Tryz.func237, Tryz.ntmps237
  go_wp2_with (go_at_call 236; refine (framing_any b _).mono ?_; rintro e w ⟨rfl, rfl⟩; rw [HK.out])
  go_ret
  exact ⟨by rw [e.out, if_neg h0]; rfl, rfl⟩

theorem bare_any (b : Nat) (ere : Bool) (w : World) : Calls Tryz.prog 209 #[.int .u8 (b : Int), .bool ere] w fun e w' => e = .returned (.int .i64 (bare b ere : Nat)) ∧ w' = w := by
 by_cases h1 : b = 46
 ·
  subst h1; go_enter Tryz.func209, Tryz.ntmps209; go_wp2; go_ret; exact ⟨rfl, rfl⟩
 by_cases h2 : b = 91
 ·
  subst h2; go_enter Tryz.func209, Tryz.ntmps209; go_wp2; go_ret; exact ⟨rfl, rfl⟩
 by_cases h3 : b = 94
 ·
  subst h3; go_enter Tryz.func209, Tryz.ntmps209; go_wp2; go_ret; exact ⟨rfl, rfl⟩
 by_cases h4 : b = 36
 ·
  subst h4; go_enter Tryz.func209, Tryz.ntmps209; go_wp2; go_ret; exact ⟨rfl, rfl⟩
 by_cases h5 : b = 42
 ·
  subst h5; go_enter Tryz.func209, Tryz.ntmps209; go_wp2; go_ret; exact ⟨rfl, rfl⟩
 have e : Hid (bare b ere = if ere then bareE b else 2) := by show _ = _; unfold bare; rw [if_neg h1, if_neg h2, if_neg h3, if_neg h4, if_neg h5]
 have g1 : ((b : Int) == 46) = false := by simp; omega
 have g2 : ((b : Int) == 91) = false := by simp; omega
 have g3 : ((b : Int) == 94) = false := by simp; omega
 have g4 : ((b : Int) == 36) = false := by simp; omega
 have g5 : ((b : Int) == 42) = false := by simp; omega
 cases ere with
 | true =>
  go_enter Tryz.func209, Tryz.ntmps209
  go_wp2_with (go_at_call 237; refine (bareE_any b _).mono ?_; rintro e w ⟨rfl, rfl⟩)
  go_ret
  exact ⟨by rw [e.out]; rfl, rfl⟩
 | false =>
  go_enter Tryz.func209, Tryz.ntmps209
  go_wp2
  go_ret
  exact ⟨by rw [e.out]; rfl, rfl⟩

/-- What is written with a backslash ahead. -/
def spec (ere : Bool) (b : Nat) : Bool := (b == 46 || b == 91 || b == 93 || b == 42 || b == 94 || b == 36 || b == 92 || b == 47) || (ere && (b == 43 || b == 63 || b == 123 || b == 125 || b == 124 || b == 40 || b == 41))

/-- The bytes of a list. -/
def inL (l : List Nat) : Nat → Bool := fun k => l.elem k
theorem memb_list (l : List Nat) (n : Nat) (h : n ≤ l.length) : memb (fun j => l.getD j 0) n = inL (l.take n) := by
 induction n with
 | zero => funext k; simp [memb, inL]
 | succ n ih =>
  funext k
  have hn : n < l.length := by omega
  show (memb _ n k || k == l.getD n 0) = _
  rw [ih (by omega)]
  unfold inL
  rw [Bool.eq_iff_iff]
  simp [List.getD_eq_getElem?_getD, List.getElem?_eq_getElem hn]
  rw [List.take_succ_eq_append_getElem hn, List.mem_append, List.mem_singleton]
theorem of_list (l : List Nat) (n cap B : Nat) (w : World) (fr : Nat × Nat) (hl : l.length = n) (hn : n ≤ 4000) (hb : ∀ x ∈ l, x < 256)
  (h : w.heap[B]? = some (.cells (l.map fun x : Nat => (.int .u8 (x : Int) : Value)).toArray 5 fr)) :
  Calls Tryz.prog 220 #[.slice (some ⟨B, 0, none⟩) n cap] w fun e w' => e = .returned (sv (inL l)) ∧ Kp w w' := by
 refine (of_core (fun j => l.getD j 0) B 0 n cap w hn (Array.getElem?_eq_some_iff.1 h).1 ?_ ?_).mono ?_
 ·
  intro j hj
  refine bl_cellf h _ _ ?_
  simp [List.getElem?_eq_getElem (show j < l.length by omega), List.getD_eq_getElem?_getD]
 ·
  intro j
  by_cases hj : j < l.length
  ·
   simp only [List.getD_eq_getElem?_getD, List.getElem?_eq_getElem hj, Option.getD_some]; exact hb _ (List.getElem_mem hj)
  ·
   simp [List.getD_eq_getElem?_getD, List.getElem?_eq_none (show l.length ≤ j by omega)]
 ·
  rintro e w' ⟨rfl, hk⟩
  refine ⟨?_, hk⟩
  rw [memb_list l n (by omega), List.take_of_length_le (by omega)]
end Go.Proofs.YtigdmebijbaofaaGreatDoor

/-! ### Steps -/

namespace Go.Proofs.YtigdmebijbaofaaGreatDoor
open Go

section
variable {P : Program} {ops : Array Oper} {Q : Exit → Act → World → Prop} {md : Region.Mode} {S : World → Prop} {z : Nat}

/-- Whatever order is picked from here on; S holds behind every operation as long as z has not come up. -/
def anyZ (P : Program) (md : Region.Mode) (ops : Array Oper) (Q : Exit → Act → World → Prop) (S : World → Prop) (z : Nat) : Nat → Array Bool → Act → World → Prop
 | 0, listed, a, w => Region.ready md ops listed = [] ∧ Q .normal a w
 | fuel + 1, listed, a, w =>
  (Region.ready md ops listed = [] → Q .normal a w) ∧
  ∀ i ∈ Region.ready md ops listed, wpOp P ops Q i (fun a' w' => (i ≠ z → listed.getD z true = false → S w') ∧ anyZ P md ops Q S z fuel (listed.setIfInBounds i true) a' w') a w

theorem any_of_Z : ∀ (fuel : Nat) (listed : Array Bool) (a : Act) (w : World), anyZ P md ops Q S z fuel listed a w → wpAny P md ops Q fuel listed a w
 | 0, _, _, _, h => h
 | fuel + 1, _, _, _, h => ⟨h.1, fun i hi => wpOp_mono (fun a' w' h' => any_of_Z fuel _ a' w' h'.2) (h.2 i hi)⟩

theorem unlisted {i : Nat} {listed : Array Bool} (h : i ∈ Region.ready md ops listed) : listed.getD i true = false := (mem_ready.1 h).1
/-- What has come up has all that it waits for behind it. -/
def Shutd (md : Region.Mode) (ops : Array Oper) (listed : Array Bool) : Prop := ∀ j oj, ops[j]? = some oj → listed.getD j true = true → ∀ e ∈ oj.after, Region.binds md e = true → listed.getD e.on true = true

/-- z waits for i, be it along others. -/
inductive WaitsT (md : Region.Mode) (ops : Array Oper) : Nat → Nat → Prop
 | one {z i : Nat} {oz : Oper} (hz : ops[z]? = some oz) (e : Edge) (he : e ∈ oz.after) (hb : Region.binds md e = true) (ho : e.on = i) : WaitsT md ops z i
 | more {z k i : Nat} {oz : Oper} (hz : ops[z]? = some oz) (e : Edge) (he : e ∈ oz.after) (hb : Region.binds md e = true) (ho : e.on = k) (h : WaitsT md ops k i) : WaitsT md ops z i

theorem not_listed {z i : Nat} {listed : Array Bool} (hs : Shutd md ops listed) (h : WaitsT md ops z i) (hi : listed.getD i true = false) : listed.getD z true = false := by
 induction h with
 | one hz e he hb ho =>
  cases hc : listed.getD _ true with
  | false => rfl
  | true => have := hs _ _ hz hc e he hb; rw [ho, hi] at this; cases this
 | more hz e he hb ho _ ih =>
  cases hc : listed.getD _ true with
  | false => rfl
  | true => have := hs _ _ hz hc e he hb; rw [ho, ih hi] at this; cases this

theorem on_listed {j : Nat} {oj : Oper} {listed : Array Bool} (hj : j ∈ Region.ready md ops listed) (hoj : ops[j]? = some oj) (e : Edge) (he : e ∈ oj.after) (hb : Region.binds md e = true) : listed.getD e.on true = true := by
 obtain ⟨_, oj', hoj', hall⟩ := mem_ready.1 hj
 rw [hoj] at hoj'
 obtain rfl : oj = oj' := by injection hoj'
 have h1 := hall e he hb
 rcases Nat.lt_or_ge e.on listed.size with h' | h'
 ·
  simp [h'] at h1 ⊢; exact h1
 ·
  simp [Array.getElem?_eq_none h'] at h1

theorem not_yet' {z i j : Nat} {listed : Array Bool} (hs : Shutd md ops listed) (h : WaitsT md ops z i) (hi : listed.getD i true = false) (hj : j ∈ Region.ready md ops listed) : j ≠ z := by
 intro e
 subst e
 cases h with
 | one hz e he hb ho => have := on_listed hj hz e he hb; rw [ho, hi] at this; cases this
 | more hz e he hb ho h => have := on_listed hj hz e he hb; rw [ho, not_listed hs h hi] at this; cases this

theorem getD_set_true {j k : Nat} {listed : Array Bool} (h : listed.getD k true = true) : (listed.setIfInBounds j true).getD k true = true := by
 by_cases hjk : j = k
 ·
  subst hjk
  by_cases hlt : j < listed.size
  ·
   simp [hlt]
  ·
   simp [Array.getD, hlt]
 ·
  rw [getD_set_ne true hjk]; exact h

theorem Shutd.set {j : Nat} {listed : Array Bool} (hs : Shutd md ops listed) (hj : j ∈ Region.ready md ops listed) : Shutd md ops (listed.setIfInBounds j true) := by
 intro k ok hk hkl e he hb
 by_cases hjk : j = k
 ·
  subst hjk; exact getD_set_true (on_listed hj hk e he hb)
 ·
  rw [getD_set_ne true hjk] at hkl; exact getD_set_true (hs k ok hk hkl e he hb)

/-- An operation that z waits for may be taken first, if it yields in every world that meets S. -/
theorem anyZ_first {i : Nat} {oi : Oper} {v : Value} (hi : ops[i]? = some oi) (hsel : ∀ (j : Nat) (o : Oper) cs b, ops[j]? = some o → o.op ≠ .select cs b)
  (hQ : ∀ c a w, Q (.panic c) (a.put oi.dst v) w → Q (.panic c) a w) (hw : WaitsT md ops z i) :
  ∀ (fuel : Nat) (listed : Array Bool) (a : Act) (w : World),
   (∀ j oj, ops[j]? = some oj → j ≠ i → listed.getD j true = false → (∀ e ∈ oj.after, Region.binds md e = true → e.on ≠ i) → oi.apart ops oj = true) →
   i ∈ Region.ready md ops listed → Shutd md ops listed → YieldsIf P ops S oi v a → S w →
   anyZ P md ops Q S z fuel (listed.setIfInBounds i true) (a.put oi.dst v) w → anyZ P md ops Q S z (fuel + 1) listed a w := by
 intro fuel
 induction fuel with
 | zero =>
  intro listed a w _ hr _ hy hS H
  refine ⟨fun h => (by rw [h] at hr; cases hr), fun j hj => ?_⟩
  by_cases hji : j = i
  ·
   subst hji; exact hy.wpOp hi hS ⟨fun _ _ => hS, H⟩
  ·
   have := ready_mono hj hji
   rw [H.1] at this
   cases this
 | succ fuel ih =>
  intro listed a w hfree hr hsh hy hS H
  have hil := unlisted hr
  have hzl := not_listed hsh hw hil
  refine ⟨fun h => (by rw [h] at hr; cases hr), fun j hj => ?_⟩
  by_cases hji : j = i
  ·
   subst hji; exact hy.wpOp hi hS ⟨fun _ _ => hS, H⟩
  ·
   have hjz := not_yet' hsh hw hil hj
   have hiz : i ≠ z := not_yet' hsh hw hil hr
   have h1 := H.2 j (ready_mono hj hji)
   obtain ⟨hjun, oj, hoj, hall⟩ := mem_ready.1 hj
   have hnot : ∀ e ∈ oj.after, Region.binds md e = true → e.on ≠ i := fun e he hb heq => by
    have h1 := hall e he hb
    rw [heq] at h1
    rcases Nat.lt_or_ge i listed.size with h' | h'
    ·
     simp [h'] at hil h1; rw [hil] at h1; cases h1
    ·
     simp [Array.getElem?_eq_none h'] at h1
   have h2 := wpOp_putIf hoj (hfree j oj hoj hji hjun hnot) (fun cs b => hsel i oi cs b hi) (fun cs b => hsel j oj cs b hoj) hQ hy h1
   have hfree' : ∀ k ok, ops[k]? = some ok → k ≠ i → (listed.setIfInBounds j true).getD k true = false →
     (∀ e ∈ ok.after, Region.binds md e = true → e.on ≠ i) → oi.apart ops ok = true := fun k ok hk hki hun hno => by
    refine hfree k ok hk hki ?_ hno
    by_cases hjk : j = k
    ·
     subst hjk; exact hjun
    ·
     rw [getD_set_ne true hjk] at hun; exact hun
   refine wpOp_mono (fun a' w' h3 => ?_) h2
   have hS' : S w' := h3.2.1 hjz (by rw [getD_set_ne true hiz]; exact hzl)
   refine ⟨fun _ _ => hS', ih (listed.setIfInBounds j true) a' w' hfree' (ready_mono hr (Ne.symm hji)) (hsh.set hj) h3.1 hS' ?_⟩
   rw [Array.setIfInBounds_comm _ _ hji]
   exact h3.2.2

/-- As Bools, for the kernel: a path, edge by edge; what has come up. -/
def edgeB (md : Region.Mode) (ops : Array Oper) (z i : Nat) : Bool := match ops[z]? with
 | some oz => oz.after.any fun e => Region.binds md e && e.on == i
 | none => false
def pathB (md : Region.Mode) (ops : Array Oper) (z : Nat) : List Nat → Nat → Bool
 | [], i => edgeB md ops z i
 | k :: ks, i => edgeB md ops z k && pathB md ops k ks i
theorem edge_of {z i : Nat} (h : edgeB md ops z i = true) : ∃ oz e, ops[z]? = some oz ∧ e ∈ oz.after ∧ Region.binds md e = true ∧ e.on = i := by
 unfold edgeB at h
 cases hz : ops[z]? with
 | none => rw [hz] at h; cases h
 | some oz =>
  rw [hz] at h
  simp only [Array.any_eq_true] at h
  obtain ⟨k, hk, he⟩ := h
  simp only [Bool.and_eq_true, beq_iff_eq] at he
  exact ⟨oz, oz.after[k], rfl, Array.getElem_mem hk, he.1, he.2⟩
theorem path_of {ks : List Nat} : ∀ {z i : Nat}, pathB md ops z ks i = true → WaitsT md ops z i := by
 induction ks with
 | nil => intro z i h; obtain ⟨oz, e, h1, h2, h3, h4⟩ := edge_of h; exact .one h1 e h2 h3 h4
 | cons k ks ih =>
  intro z i h
  simp only [pathB, Bool.and_eq_true] at h
  obtain ⟨oz, e, h1, h2, h3, h4⟩ := edge_of h.1
  exact .more h1 e h2 h3 h4 (ih h.2)
def shutB (md : Region.Mode) (ops : Array Oper) (listed : Array Bool) : Bool := (List.range ops.size).all fun j => match ops[j]? with
 | some oj => !(listed.getD j true) || oj.after.all fun e => !(Region.binds md e) || listed.getD e.on true
 | none => true
theorem shut_of {listed : Array Bool} (h : shutB md ops listed = true) : Shutd md ops listed := by
 intro j oj hj hl e he hb
 unfold shutB at h
 rw [List.all_eq_true] at h
 have := h j (List.mem_range.2 (Array.getElem?_eq_some_iff.1 hj).1)
 rw [hj] at this
 simp only [hl, Bool.not_true, Bool.false_or, Array.all_eq_true_iff_forall_mem] at this
 have := this e he
 rw [hb] at this
 simpa using this

theorem anyZ_take {i : Nat} {oi : Oper} {v : Value} {fuel : Nat} {listed : Array Bool} {a : Act} {w : World} (hi : ops[i]? = some oi)
  (hs : Region.noSelect ops = true) (hf : Region.free md ops listed i = true) (hr : (Region.ready md ops listed).contains i = true) {ks : List Nat} (hw : pathB md ops z ks i = true) (hz : shutB md ops listed = true)
  (hQ : ∀ c a w, Q (.panic c) (a.put oi.dst v) w → Q (.panic c) a w) (hy : YieldsIf P ops S oi v a) (hS : S w)
  (h : anyZ P md ops Q S z fuel (listed.setIfInBounds i true) (a.put oi.dst v) w) : anyZ P md ops Q S z (fuel + 1) listed a w :=
 anyZ_first hi (Region.noSelect_spec hs) hQ (path_of hw) fuel listed a w (Region.free_spec hi hf) (by simpa using hr) (shut_of hz) hy hS h

/-- Each of those that may come up. -/
def AllZ (P : Program) (md : Region.Mode) (ops : Array Oper) (Q : Exit → Act → World → Prop) (S : World → Prop) (z fuel : Nat) (listed : Array Bool) (a : Act) (w : World) (rs : List Nat) : Prop :=
 ∀ i ∈ rs, wpOp P ops Q i (fun a' w' => (i ≠ z → listed.getD z true = false → S w') ∧ anyZ P md ops Q S z fuel (listed.setIfInBounds i true) a' w') a w
theorem AllZ.nil {fuel : Nat} {listed : Array Bool} {a : Act} {w : World} : AllZ P md ops Q S z fuel listed a w [] := fun _ h => by cases h
/-- One that is ahead of z: S is shown, and handed on. -/
theorem AllZ.cons {fuel : Nat} {listed : Array Bool} {a : Act} {w : World} {i : Nat} {o : Oper} {rs : List Nat} (ho : ops[i]? = some o)
  (h : ∀ K' : Act → World → Prop, Shut (∀ a w, S w → (S w → anyZ P md ops Q S z fuel (listed.setIfInBounds i true) a w) → K' a w) → if Region.wanted o (yielded ops a.tmps) = true then Oper.wp P o a w K' Q else K' (a.put o.dst undef) w)
  (hs : AllZ P md ops Q S z fuel listed a w rs) : AllZ P md ops Q S z fuel listed a w (i :: rs) := fun j hj => by
 rcases List.mem_cons.1 hj with rfl | hj
 ·
  exact wpOp_step ho (fun K' hK => h K' (fun a w hS hW => hK a w ⟨fun _ _ => hS, hW hS⟩))
 ·
  exact hs j hj
/-- z itself, or one behind it: nothing is asked. -/
theorem AllZ.last {fuel : Nat} {listed : Array Bool} {a : Act} {w : World} {i : Nat} {o : Oper} {rs : List Nat} (ho : ops[i]? = some o) (hl : i = z ∨ listed.getD z true = true)
  (h : ∀ K' : Act → World → Prop, Shut (∀ a w, anyZ P md ops Q S z fuel (listed.setIfInBounds i true) a w → K' a w) → if Region.wanted o (yielded ops a.tmps) = true then Oper.wp P o a w K' Q else K' (a.put o.dst undef) w)
  (hs : AllZ P md ops Q S z fuel listed a w rs) : AllZ P md ops Q S z fuel listed a w (i :: rs) := fun j hj => by
 rcases List.mem_cons.1 hj with rfl | hj
 ·
  refine wpOp_step ho (fun K' hK => h K' (fun a w hW => hK a w ⟨fun hn hf => ?_, hW⟩))
  rcases hl with rfl | hl
  ·
   exact absurd rfl hn
  ·
   rw [hl] at hf; cases hf
 ·
  exact hs j hj
theorem anyZ_ready {rs : List Nat} {fuel : Nat} {listed : Array Bool} {a : Act} {w : World} (hr : Region.ready md ops listed = rs) (hne : rs ≠ [])
  (h : AllZ P md ops Q S z fuel listed a w rs) : anyZ P md ops Q S z (fuel + 1) listed a w := ⟨fun h0 => absurd (hr ▸ h0) hne, hr ▸ h⟩
theorem anyZ_done {listed : Array Bool} {a : Act} {w : World} (hr : Region.ready md ops listed = []) (h : Q .normal a w) : ∀ fuel, anyZ P md ops Q S z fuel listed a w
 | 0 => ⟨hr, h⟩
 | _ + 1 => ⟨fun _ => h, by rw [hr]; simp⟩
/-- The beginning. -/
theorem region_Z {id : Nat} {a : Act} {w : World} (hm : P.follows .mixedOrders = true) (hS : S w.drew)
  (h : S w.drew → anyZ P .any ops Q S z ops.size (Array.replicate ops.size false) a w.drew) : (Code.region id ops true).wp P Q a w :=
 wp_region_any hm (any_of_Z (S := S) (z := z) _ _ _ _ (h hS))
end
end Go.Proofs.YtigdmebijbaofaaGreatDoor

/-! ### Sign2 -/

namespace Go.Proofs.YtigdmebijbaofaaGreatDoor
open Go.RowKit

def specL : List Nat := [46, 91, 93, 42, 94, 36, 92, 47]
def specE : List Nat := [43, 63, 123, 125, 124, 40, 41]
theorem spec_false : inL specL = spec false := by funext b; rw [Bool.eq_iff_iff]; simp [inL, specL, spec]; omega
theorem spec_true : orB (inL specL) (inL specE) = spec true := by funext b; rw [Bool.eq_iff_iff]; simp [orB, inL, specL, specE, spec]; omega
set_option maxRecDepth 100000 in
theorem special_any (ere : Bool) (w : World) : Calls Tryz.prog 192 #[.bool ere] w fun e w' => e = .returned (sv (spec ere)) ∧ Kp w w' := by
 have kc := fun (w : World) (C : Array Value) (n c : Nat) => Lib.run_convert_bytes_const (P := Tryz.prog) w 59 5 C n c Tryz.underlying59 Tryz.underlying5
 go_enter Tryz.func192, Tryz.ntmps192
 go_upto_region 1 with fail
 obtain ⟨W0, hW0⟩ : ∃ W, w.alloc (.cells #[.int .u64 0, .int .u64 0, .int .u64 0, .int .u64 0] 24) = W := ⟨_, rfl⟩
 rw [hW0]
 have B0 : Hid (W0.heap[w.heap.size]? = some (.cells #[.int .u64 0, .int .u64 0, .int .u64 0, .int .u64 0] 24) ∧ Kp w W0) := by subst hW0; exact ⟨last_of _ _, (Kp.refl _).alloc _⟩
 clear hW0
 go_wp2_with fail
 refine (of_list specL 8 8 _ _ _ rfl (by omega) (by decide) (last_of _ _)).mono ?_
 rintro e w1 ⟨rfl, k1⟩
 obtain ⟨W1, hW1⟩ : ∃ W, w1.alloc (blk (inL specL)) = W := ⟨_, rfl⟩
 have HW1 : Hid (w1.alloc (blk (inL specL)) = W1) := hW1
 have k2 : Kp W0 W1 := by subst hW1; exact ((((Kp.refl _).alloc _).trans k1).alloc _)
 have B1 : Hid (W1.heap[w.heap.size]? = some (.cells #[.int .u64 0, .int .u64 0, .int .u64 0, .int .u64 0] 24) ∧ Kp w W1 ∧ At W1 w1.heap.size (inL specL)) := ⟨bl_kp B0.out.1 k2, B0.out.2.trans k2, by subst hW1; exact last_of _ _⟩
 clear k1 k2 hW1 B0
 go_upto_if 7 with fail
 rw [HW1.out]
 clear HW1 kc
 obtain ⟨S3, hS3⟩ : ∃ S, w1.heap.size = S := ⟨_, rfl⟩
 rw [hS3] at B1 ⊢
 clear hS3
 obtain ⟨d0, d1, d2, d3⟩ := B1.out.2.2.cells
 have z := B1.out.1
 have f0 := bl_frozen z 0
 have f1 := bl_frozen z 1
 have f2 := bl_frozen z 2
 have f3 := bl_frozen z 3
 have c0 := bl_cell z 0 _ rfl
 have c1 := bl_cell z 1 _ rfl
 have c2 := bl_cell z 2 _ rfl
 have c3 := bl_cell z 3 _ rfl
 clear z
 cases ere with
 | false =>
  go_wp2_with fail
  have A4 := bl_set4 B1.out.1 (.int .u64 (wd (inL specL) 0 : Nat)) (.int .u64 (wd (inL specL) 1 : Nat)) (.int .u64 (wd (inL specL) 2 : Nat)) (.int .u64 (wd (inL specL) 3 : Nat))
  refine bodyPost_ret (v := sv (inL specL)) (ret_at rfl _ _ _ _ rfl A4) rfl ⟨by rw [spec_false], ?_⟩
  exact (ks_set4 _ _ _ _).up B1.out.2.1 (Nat.le_refl _)
 | true =>
  clear f0 f1 f2 f3 c0 c1 c2 c3
  have kc := fun (w : World) (C : Array Value) (n c : Nat) => Lib.run_convert_bytes_const (P := Tryz.prog) w 59 5 C n c Tryz.underlying59 Tryz.underlying5
  go_wp2_with fail
  have MK : Hid (∀ W, Kp W1 W → W.cell? ⟨S3, 0, none⟩ = some (.int .u64 (wd (inL specL) 0 : Nat)) ∧ W.cell? ⟨S3, 1, none⟩ = some (.int .u64 (wd (inL specL) 1 : Nat)) ∧ W.cell? ⟨S3, 2, none⟩ = some (.int .u64 (wd (inL specL) 2 : Nat)) ∧ W.cell? ⟨S3, 3, none⟩ = some (.int .u64 (wd (inL specL) 3 : Nat)) ∧ Hid (Kp W1 W)) := fun W k => ⟨(bl_cell (bl_kp B1.out.2.2 k) 0 _ rfl), (bl_cell (bl_kp B1.out.2.2 k) 1 _ rfl), (bl_cell (bl_kp B1.out.2.2 k) 2 _ rfl), (bl_cell (bl_kp B1.out.2.2 k) 3 _ rfl), k⟩
  have Q0 : Kp W1 W1.drew := (Kp.refl _).drew
  refine wp_region_noPanic ?_
  refine region_Z (z := 6) (S := (fun W => W.cell? ⟨S3, 0, none⟩ = some (.int .u64 (wd (inL specL) 0 : Nat)) ∧ W.cell? ⟨S3, 1, none⟩ = some (.int .u64 (wd (inL specL) 1 : Nat)) ∧ W.cell? ⟨S3, 2, none⟩ = some (.int .u64 (wd (inL specL) 2 : Nat)) ∧ W.cell? ⟨S3, 3, none⟩ = some (.int .u64 (wd (inL specL) 3 : Nat)) ∧ Hid (Kp W1 W))) (by kernel_rfl) ?_ (fun hH => ?_)
  ·
   exact MK.out _ Q0
  have KQ := Q0
  refine anyZ_take (z := 6) (ks := []) (i := 0) (oi := { dst := some 8, op := Op.load 24 (Operand.tmp 3), type := 24, pos := "print.go:24", after := #[], guard := none }) (v := ?v0a1) rfl (by kernel_rfl) (by kernel_rfl) (by kernel_rfl) (by kernel_rfl) (by kernel_rfl) (fun _ _ _ h => h) (Or.inl ⟨by rfl, ?hy0a1⟩) hH ?r0a1
  case hy0a1 => (intro W hSw; (try dsimp only at hSw); go_simp; try (with_reducible rfl))
  try simp only [Act.put, List.setIfInBounds_toArray, List.set_cons_zero, List.set_cons_succ]
  refine anyZ_ready (rs := [1]) (by kernel_rfl) (by simp) ?_
  refine AllZ.cons (o := { dst := some 9, op := Op.buildSlice 59 7 #[(0, Operand.const (Value.int IntKind.u8 43)), (1, Operand.const (Value.int IntKind.u8 63)), (2, Operand.const (Value.int IntKind.u8 123)), (3, Operand.const (Value.int IntKind.u8 125)), (4, Operand.const (Value.int IntKind.u8 124)), (5, Operand.const (Value.int IntKind.u8 40)), (6, Operand.const (Value.int IntKind.u8 41))], type := 59, pos := "print.go:24", after := #[], guard := none }) rfl (fun K hKq => ?_) AllZ.nil
  go_simp
  refine hKq.out _ _ (MK.out _ (KQ.alloc _)) (fun hN => ?_)
  clear hKq K hH KQ
  have hH := hN
  clear hN
  have KQ := hH.2.2.2.2.out
  try simp only [Act.put, List.setIfInBounds_toArray, List.set_cons_zero, List.set_cons_succ]
  refine anyZ_ready (rs := [2]) (by kernel_rfl) (by simp) ?_
  refine AllZ.cons (o := { dst := some 10, op := Op.convert 59 59 (Operand.tmp 9), type := 59, pos := "print.go:24", after := #[{ on := 1, ground := Ground.data }], guard := none }) rfl (fun K hKq => ?_) AllZ.nil
  obtain ⟨wc, hc, bc, ks⟩ := conv_any (W1.alloc (.cells #[.int .u8 43, .int .u8 63, .int .u8 123, .int .u8 125, .int .u8 124, .int .u8 40, .int .u8 41] 5)).drew W1.heap.size _ 7 7 (last_drew _ _)
  go_simp
  clear hc
  refine hKq.out _ _ (MK.out _ (ks.up KQ (Nat.le_refl _))) (fun hN => ?_)
  clear ks
  clear hKq K hH KQ
  have hH := hN
  clear hN
  have KQ := hH.2.2.2.2.out
  try simp only [Act.put, List.setIfInBounds_toArray, List.set_cons_zero, List.set_cons_succ]
  refine anyZ_ready (rs := [3]) (by kernel_rfl) (by simp) ?_
  refine AllZ.cons (o := { dst := some 11, op := Op.call { callee := Callee.value (Operand.func 220), args := #[Operand.tmp 10], argTypes := #[59] }, type := 24, pos := "print.go:24", after := #[{ on := 2, ground := Ground.data }], guard := none }) rfl (fun K hKq => ?_) AllZ.nil
  go_simp
  refine (of_list specE 7 7 _ _ _ rfl (by omega) (by decide) bc).mono ?_
  rintro e y3 ⟨rfl, kq⟩
  refine hKq.out _ _ (MK.out _ (KQ.trans kq)) (fun hN => ?_)
  clear kq
  clear hKq K hH KQ
  have hH := hN
  clear hN
  have KQ := hH.2.2.2.2.out
  try simp only [Act.put, List.setIfInBounds_toArray, List.set_cons_zero, List.set_cons_succ]
  refine anyZ_ready (rs := [4]) (by kernel_rfl) (by simp) ?_
  refine AllZ.cons (o := { dst := some 12, op := Op.buildSlice 251 2 #[(0, Operand.tmp 8), (1, Operand.tmp 11)], type := 251, pos := "print.go:24", after := #[{ on := 0, ground := Ground.data }, { on := 3, ground := Ground.data }], guard := none }) rfl (fun K hKq => ?_) AllZ.nil
  go_simp
  refine hKq.out _ _ (MK.out _ (KQ.alloc _)) (fun hN => ?_)
  clear hKq K hH KQ
  have hH := hN
  clear hN
  have KQ := hH.2.2.2.2.out
  try simp only [Act.put, List.setIfInBounds_toArray, List.set_cons_zero, List.set_cons_succ]
  refine anyZ_ready (rs := [5]) (by kernel_rfl) (by simp) ?_
  refine AllZ.cons (o := { dst := some 13, op := Op.call { callee := Callee.value (Operand.func 221), args := #[Operand.tmp 12], argTypes := #[251] }, type := 24, pos := "print.go:24", after := #[{ on := 4, ground := Ground.data }, { on := 3, ground := Ground.chain }], guard := none }) rfl (fun K hKq => ?_) AllZ.nil
  go_simp
  refine (join2 (inL specL) (inL specE) _ _ (by simp) (last_of _ _)).mono ?_
  rintro e y5 ⟨rfl, kq⟩
  have K5 : Kp W1 y5 := KQ.trans kq
  have V2 := bl_kp B1.out.1 K5
  have f0 := bl_frozen V2 0
  have f1 := bl_frozen V2 1
  have f2 := bl_frozen V2 2
  have f3 := bl_frozen V2 3
  have c0 := bl_cell V2 0 _ rfl
  have c1 := bl_cell V2 1 _ rfl
  have c2 := bl_cell V2 2 _ rfl
  have c3 := bl_cell V2 3 _ rfl
  refine hKq.out _ _ (MK.out _ (KQ.trans kq)) (fun hN => ?_)
  clear kq
  clear hKq K hH KQ
  have hH := hN
  clear hN
  have KQ := hH.2.2.2.2.out
  try simp only [Act.put, List.setIfInBounds_toArray, List.set_cons_zero, List.set_cons_succ]
  refine anyZ_ready (rs := [6]) (by kernel_rfl) (by simp) ?_
  refine AllZ.last (o := { dst := none, op := Op.store 24 (Operand.tmp 2) (Operand.tmp 13), type := 0, pos := "print.go:24", after := #[{ on := 5, ground := Ground.data }, { on := 5, ground := Ground.chain }, { on := 0, ground := Ground.phase }, { on := 1, ground := Ground.phase }, { on := 2, ground := Ground.phase }, { on := 3, ground := Ground.phase }, { on := 4, ground := Ground.phase }, { on := 5, ground := Ground.phase }], guard := none }) rfl (Or.inl rfl) (fun K hKq => ?_) AllZ.nil
  go_simp
  refine hKq.out _ _ ?_
  clear hKq K
  try simp only [Act.put, List.setIfInBounds_toArray, List.set_cons_zero, List.set_cons_succ]
  refine anyZ_done (by kernel_rfl) ?_ _
  refine NoPanic.normal ?_
  go_wp2_with fail
  have A4 := bl_set4 V2 (.int .u64 (wd (orB (inL specL) (inL specE)) 0 : Nat)) (.int .u64 (wd (orB (inL specL) (inL specE)) 1 : Nat)) (.int .u64 (wd (orB (inL specL) (inL specE)) 2 : Nat)) (.int .u64 (wd (orB (inL specL) (inL specE)) 3 : Nat))
  refine bodyPost_ret (v := sv (orB (inL specL) (inL specE))) (ret_at rfl _ _ _ _ rfl A4) rfl ⟨by rw [spec_true], ?_⟩
  exact (ks_set4 _ _ _ _).up (B1.out.2.1.trans K5) (Nat.le_refl _)

/-- A sign as the program has it: its kind, its byte, how many bytes it takes. -/
def sg (g : Nat × Nat × Nat) : Value := .agg #[.int .i64 (g.1 : Int), .int .u8 (g.2.1 : Int), .int .i64 (g.2.2 : Int)]
theorem sg3 (x y z : Nat) : sg (x, y, z) = .agg #[.int .i64 (x : Int), .int .u8 (y : Int), .int .i64 (z : Int)] := rfl
theorem sg_ret {fn : Func} {p : Tmp} (h : fn.results = #[.cell p 173]) (tmps : Array Value) (w : World) (S : Nat) (x y z : Value) (hp : tmps.getD p undef = .pointer (some ⟨S, 0, none⟩)) (hA : w.heap[S]? = some (.cells #[x, y, z] 173)) : (results fn tmps).run Tryz.prog w = .ok (.agg #[x, y, z]) w :=
 results_cell_row h tmps w S 173 _ (0, 0) _ hp hA Tryz.underlying173 rfl (by kernel_rfl)
def qs (b : Nat) (ere : Bool) : Nat × Nat × Nat := if b = 110 then (2, 10, 2) else if rng 48 57 b then (14, b, 2) else if spec ere b then (2, b, 2) else if ere then (0, 0, 0) else (framing b, b, 2)
def quoted (t : ByteArray) (ere : Bool) : Nat × Nat × Nat := if t.size = 0 then (0, 0, 0) else qs (ch t 0) ere
theorem str_nil (t : ByteArray) : t.toList.isEmpty = decide (t.size = 0) := by
 rw [ByteArray.toList_eq, show t.size = t.data.toList.length from (Array.length_toList).symm]
 cases t.data.toList <;> simp

set_option maxRecDepth 100000 in
theorem quoted_any (t : ByteArray) (ere : Bool) (w : World) : Calls Tryz.prog 208 #[.string t, .bool ere] w fun e w' => e = .returned (sg (quoted t ere)) ∧ Kp w w' := by
 have ez := str_nil t
 by_cases h0 : t.size = 0
 ·
  rw [decide_eq_true h0] at ez
  have E : Hid (quoted t ere = (0, 0, 0)) := by show _ = _; unfold quoted; rw [if_pos h0]
  go_enter Tryz.func208, Tryz.ntmps208
  go_upto_region 1 with fail
  obtain ⟨W0, hW0⟩ : ∃ W, w.alloc (.cells #[.int .i64 0, .int .u8 0, .int .i64 0] 173) = W := ⟨_, rfl⟩
  rw [hW0]
  have B0 : Hid (W0.heap[w.heap.size]? = some (.cells #[.int .i64 0, .int .u8 0, .int .i64 0] 173) ∧ Kp w W0) := by subst hW0; exact ⟨last_of _ _, (Kp.refl _).alloc _⟩
  clear hW0
  have z := B0.out.1
  have f0 := bl_frozen z 0
  have f1 := bl_frozen z 1
  have f2 := bl_frozen z 2
  have c0 := bl_cell z 0 _ rfl
  have c1 := bl_cell z 1 _ rfl
  have c2 := bl_cell z 2 _ rfl
  clear z
  go_wp2_with fail
  exact bodyPost_ret (v := .agg #[_, _, _]) (sg_ret rfl _ _ _ _ _ _ rfl (bl_set3 B0.out.1 _ _ _)) rfl ⟨by rw [E.out]; rfl, (ks_set3 _ _ _).up B0.out.2 (Nat.le_refl _)⟩
 rw [decide_eq_false h0] at ez
 have ec := run_ch t 0 (by omega)
 rw [show ((0 : Nat) : Int) = 0 from rfl] at ec
 have hq : quoted t ere = qs (ch t 0) ere := by unfold quoted; rw [if_neg h0]
 obtain ⟨b, hb⟩ : ∃ b, ch t 0 = b := ⟨_, rfl⟩
 have hb256 : b < 256 := by rw [← hb]; exact ch_lt _ _
 rw [hb] at ec hq
 clear hb
 by_cases h1 : b = 110
 ·
  subst h1
  rw [show ((110 : Nat) : Int) = 110 from rfl] at ec
  have E : Hid (quoted t ere = (2, 10, 2)) := by show _ = _; rw [hq]; rfl
  clear hq
  go_enter Tryz.func208, Tryz.ntmps208
  go_upto_region 1 with fail
  obtain ⟨W0, hW0⟩ : ∃ W, w.alloc (.cells #[.int .i64 0, .int .u8 0, .int .i64 0] 173) = W := ⟨_, rfl⟩
  rw [hW0]
  have B0 : Hid (W0.heap[w.heap.size]? = some (.cells #[.int .i64 0, .int .u8 0, .int .i64 0] 173) ∧ Kp w W0) := by subst hW0; exact ⟨last_of _ _, (Kp.refl _).alloc _⟩
  clear hW0
  have z := B0.out.1
  have f0 := bl_frozen z 0
  have f1 := bl_frozen z 1
  have f2 := bl_frozen z 2
  have c0 := bl_cell z 0 _ rfl
  have c1 := bl_cell z 1 _ rfl
  have c2 := bl_cell z 2 _ rfl
  clear z
  go_wp2_with fail
  exact bodyPost_ret (v := .agg #[_, _, _]) (sg_ret rfl _ _ _ _ _ _ rfl (bl_set3 B0.out.1 _ _ _)) rfl ⟨by rw [E.out]; rfl, (ks_set3 _ _ _).up B0.out.2 (Nat.le_refl _)⟩
 have g1 : ((b : Int) == 110) = false := by simp; omega
 have g1' : ¬ (b : Int) = 110 := by omega
 by_cases h2 : rng 48 57 b = true
 ·
  have E : Hid (quoted t ere = (14, b, 2)) := by show _ = _; rw [hq]; unfold qs; rw [if_neg h1, if_pos h2]
  have H2 : Hid (rng 48 57 b = true) := h2
  clear hq h2
  go_enter Tryz.func208, Tryz.ntmps208
  go_upto_region 1 with fail
  obtain ⟨W0, hW0⟩ : ∃ W, w.alloc (.cells #[.int .i64 0, .int .u8 0, .int .i64 0] 173) = W := ⟨_, rfl⟩
  rw [hW0]
  have B0 : Hid (W0.heap[w.heap.size]? = some (.cells #[.int .i64 0, .int .u8 0, .int .i64 0] 173) ∧ Kp w W0) := by subst hW0; exact ⟨last_of _ _, (Kp.refl _).alloc _⟩
  clear hW0
  go_wp2_with fail
  refine (range_any 48 57 _ (by omega) (by omega)).mono ?_
  rintro e w1 ⟨rfl, kq⟩
  have B1 : Hid (w1.heap[w.heap.size]? = some (.cells #[.int .i64 0, .int .u8 0, .int .i64 0] 173) ∧ Kp w w1) := ⟨bl_kp B0.out.1 kq, B0.out.2.trans kq⟩
  clear kq B0
  go_wp2_with fail
  refine (has_any (rng 48 57) b _ hb256).mono ?_
  rintro e w2 ⟨rfl, kq⟩
  rw [H2.out]
  have B2 : Hid (w2.heap[w.heap.size]? = some (.cells #[.int .i64 0, .int .u8 0, .int .i64 0] 173) ∧ Kp w w2) := ⟨bl_kp B1.out.1 kq, B1.out.2.trans kq⟩
  clear kq B1
  have z := B2.out.1
  have f0 := bl_frozen z 0
  have f1 := bl_frozen z 1
  have f2 := bl_frozen z 2
  have c0 := bl_cell z 0 _ rfl
  have c1 := bl_cell z 1 _ rfl
  have c2 := bl_cell z 2 _ rfl
  clear z
  go_wp2_with fail
  exact bodyPost_ret (v := .agg #[_, _, _]) (sg_ret rfl _ _ _ _ _ _ rfl (bl_set3 B2.out.1 _ _ _)) rfl ⟨by rw [E.out]; rfl, (ks_set3 _ _ _).up B2.out.2 (Nat.le_refl _)⟩
 have h2 : rng 48 57 b = false := by cases h : rng 48 57 b <;> simp_all
 by_cases h3 : spec ere b = true
 ·
  have E : Hid (quoted t ere = (2, b, 2)) := by show _ = _; rw [hq]; unfold qs; rw [if_neg h1, h2, if_neg (by simp), if_pos h3]
  have H2 : Hid (rng 48 57 b = false) := h2
  have H3 : Hid (spec ere b = true) := h3
  clear hq h2 h3
  go_enter Tryz.func208, Tryz.ntmps208
  go_upto_region 1 with fail
  obtain ⟨W0, hW0⟩ : ∃ W, w.alloc (.cells #[.int .i64 0, .int .u8 0, .int .i64 0] 173) = W := ⟨_, rfl⟩
  rw [hW0]
  have B0 : Hid (W0.heap[w.heap.size]? = some (.cells #[.int .i64 0, .int .u8 0, .int .i64 0] 173) ∧ Kp w W0) := by subst hW0; exact ⟨last_of _ _, (Kp.refl _).alloc _⟩
  clear hW0
  go_wp2_with fail
  refine (range_any 48 57 _ (by omega) (by omega)).mono ?_
  rintro e w1 ⟨rfl, kq⟩
  have B1 : Hid (w1.heap[w.heap.size]? = some (.cells #[.int .i64 0, .int .u8 0, .int .i64 0] 173) ∧ Kp w w1) := ⟨bl_kp B0.out.1 kq, B0.out.2.trans kq⟩
  clear kq B0
  go_wp2_with fail
  refine (has_any (rng 48 57) b _ hb256).mono ?_
  rintro e w2 ⟨rfl, kq⟩
  rw [H2.out]
  have B2 : Hid (w2.heap[w.heap.size]? = some (.cells #[.int .i64 0, .int .u8 0, .int .i64 0] 173) ∧ Kp w w2) := ⟨bl_kp B1.out.1 kq, B1.out.2.trans kq⟩
  clear kq B1
  go_wp2_with fail
  refine (special_any ere _).mono ?_
  rintro e w3 ⟨rfl, kq⟩
  have B3 : Hid (w3.heap[w.heap.size]? = some (.cells #[.int .i64 0, .int .u8 0, .int .i64 0] 173) ∧ Kp w w3) := ⟨bl_kp B2.out.1 kq, B2.out.2.trans kq⟩
  clear kq B2
  go_wp2_with fail
  refine (has_any (spec ere) b _ hb256).mono ?_
  rintro e w4 ⟨rfl, kq⟩
  rw [H3.out]
  have B4 : Hid (w4.heap[w.heap.size]? = some (.cells #[.int .i64 0, .int .u8 0, .int .i64 0] 173) ∧ Kp w w4) := ⟨bl_kp B3.out.1 kq, B3.out.2.trans kq⟩
  clear kq B3
  have z := B4.out.1
  have f0 := bl_frozen z 0
  have f1 := bl_frozen z 1
  have f2 := bl_frozen z 2
  have c0 := bl_cell z 0 _ rfl
  have c1 := bl_cell z 1 _ rfl
  have c2 := bl_cell z 2 _ rfl
  clear z
  go_wp2_with fail
  exact bodyPost_ret (v := .agg #[_, _, _]) (sg_ret rfl _ _ _ _ _ _ rfl (bl_set3 B4.out.1 _ _ _)) rfl ⟨by rw [E.out]; rfl, (ks_set3 _ _ _).up B4.out.2 (Nat.le_refl _)⟩
 have h3 : spec ere b = false := by cases h : spec ere b <;> simp_all
 have H2 : Hid (rng 48 57 b = false) := h2
 have H3 : Hid (spec ere b = false) := h3
 cases ere with
 | true =>
  have E : Hid (quoted t true = (0, 0, 0)) := by show _ = _; rw [hq]; unfold qs; rw [if_neg h1, h2, if_neg (by simp), h3]; rfl
  clear hq h2 h3
  go_enter Tryz.func208, Tryz.ntmps208
  go_upto_region 1 with fail
  obtain ⟨W0, hW0⟩ : ∃ W, w.alloc (.cells #[.int .i64 0, .int .u8 0, .int .i64 0] 173) = W := ⟨_, rfl⟩
  rw [hW0]
  have B0 : Hid (W0.heap[w.heap.size]? = some (.cells #[.int .i64 0, .int .u8 0, .int .i64 0] 173) ∧ Kp w W0) := by subst hW0; exact ⟨last_of _ _, (Kp.refl _).alloc _⟩
  clear hW0
  go_wp2_with fail
  refine (range_any 48 57 _ (by omega) (by omega)).mono ?_
  rintro e w1 ⟨rfl, kq⟩
  have B1 : Hid (w1.heap[w.heap.size]? = some (.cells #[.int .i64 0, .int .u8 0, .int .i64 0] 173) ∧ Kp w w1) := ⟨bl_kp B0.out.1 kq, B0.out.2.trans kq⟩
  clear kq B0
  go_wp2_with fail
  refine (has_any (rng 48 57) b _ hb256).mono ?_
  rintro e w2 ⟨rfl, kq⟩
  rw [H2.out]
  have B2 : Hid (w2.heap[w.heap.size]? = some (.cells #[.int .i64 0, .int .u8 0, .int .i64 0] 173) ∧ Kp w w2) := ⟨bl_kp B1.out.1 kq, B1.out.2.trans kq⟩
  clear kq B1
  go_wp2_with fail
  refine (special_any true _).mono ?_
  rintro e w3 ⟨rfl, kq⟩
  have B3 : Hid (w3.heap[w.heap.size]? = some (.cells #[.int .i64 0, .int .u8 0, .int .i64 0] 173) ∧ Kp w w3) := ⟨bl_kp B2.out.1 kq, B2.out.2.trans kq⟩
  clear kq B2
  go_wp2_with fail
  refine (has_any (spec true) b _ hb256).mono ?_
  rintro e w4 ⟨rfl, kq⟩
  rw [H3.out]
  have B4 : Hid (w4.heap[w.heap.size]? = some (.cells #[.int .i64 0, .int .u8 0, .int .i64 0] 173) ∧ Kp w w4) := ⟨bl_kp B3.out.1 kq, B3.out.2.trans kq⟩
  clear kq B3
  have z := B4.out.1
  have f0 := bl_frozen z 0
  have f1 := bl_frozen z 1
  have f2 := bl_frozen z 2
  have c0 := bl_cell z 0 _ rfl
  have c1 := bl_cell z 1 _ rfl
  have c2 := bl_cell z 2 _ rfl
  clear z
  go_wp2_with fail
  exact bodyPost_ret (v := .agg #[_, _, _]) (sg_ret rfl _ _ _ _ _ _ rfl (bl_set3 B4.out.1 _ _ _)) rfl ⟨by rw [E.out]; rfl, (ks_set3 _ _ _).up B4.out.2 (Nat.le_refl _)⟩
 | false =>
  have E : Hid (quoted t false = (framing b, b, 2)) := by show _ = _; rw [hq]; unfold qs; rw [if_neg h1, h2, if_neg (by simp), h3]; rfl
  clear hq h2 h3
  go_enter Tryz.func208, Tryz.ntmps208
  go_upto_region 1 with fail
  obtain ⟨W0, hW0⟩ : ∃ W, w.alloc (.cells #[.int .i64 0, .int .u8 0, .int .i64 0] 173) = W := ⟨_, rfl⟩
  rw [hW0]
  have B0 : Hid (W0.heap[w.heap.size]? = some (.cells #[.int .i64 0, .int .u8 0, .int .i64 0] 173) ∧ Kp w W0) := by subst hW0; exact ⟨last_of _ _, (Kp.refl _).alloc _⟩
  clear hW0
  go_wp2_with fail
  refine (range_any 48 57 _ (by omega) (by omega)).mono ?_
  rintro e w1 ⟨rfl, kq⟩
  have B1 : Hid (w1.heap[w.heap.size]? = some (.cells #[.int .i64 0, .int .u8 0, .int .i64 0] 173) ∧ Kp w w1) := ⟨bl_kp B0.out.1 kq, B0.out.2.trans kq⟩
  clear kq B0
  go_wp2_with fail
  refine (has_any (rng 48 57) b _ hb256).mono ?_
  rintro e w2 ⟨rfl, kq⟩
  rw [H2.out]
  have B2 : Hid (w2.heap[w.heap.size]? = some (.cells #[.int .i64 0, .int .u8 0, .int .i64 0] 173) ∧ Kp w w2) := ⟨bl_kp B1.out.1 kq, B1.out.2.trans kq⟩
  clear kq B1
  go_wp2_with fail
  refine (special_any false _).mono ?_
  rintro e w3 ⟨rfl, kq⟩
  have B3 : Hid (w3.heap[w.heap.size]? = some (.cells #[.int .i64 0, .int .u8 0, .int .i64 0] 173) ∧ Kp w w3) := ⟨bl_kp B2.out.1 kq, B2.out.2.trans kq⟩
  clear kq B2
  go_wp2_with fail
  refine (has_any (spec false) b _ hb256).mono ?_
  rintro e w4 ⟨rfl, kq⟩
  rw [H3.out]
  have B4 : Hid (w4.heap[w.heap.size]? = some (.cells #[.int .i64 0, .int .u8 0, .int .i64 0] 173) ∧ Kp w w4) := ⟨bl_kp B3.out.1 kq, B3.out.2.trans kq⟩
  clear kq B3
  go_wp2_with fail
  refine (framing_any b _).mono ?_
  rintro e w4 ⟨rfl, rfl⟩
  have z := B4.out.1
  have f0 := bl_frozen z 0
  have f1 := bl_frozen z 1
  have f2 := bl_frozen z 2
  have c0 := bl_cell z 0 _ rfl
  have c1 := bl_cell z 1 _ rfl
  have c2 := bl_cell z 2 _ rfl
  clear z
  go_wp2_with fail
  exact bodyPost_ret (v := .agg #[_, _, _]) (sg_ret rfl _ _ _ _ _ _ rfl (bl_set3 B4.out.1 _ _ _)) rfl ⟨by rw [E.out]; rfl, (ks_set3 _ _ _).up B4.out.2 (Nat.le_refl _)⟩

end Go.Proofs.YtigdmebijbaofaaGreatDoor
