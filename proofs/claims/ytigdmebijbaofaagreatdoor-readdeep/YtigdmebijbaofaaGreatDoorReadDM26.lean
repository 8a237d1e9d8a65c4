/-
  Texts of this claim: RdA, RdB, RdC, RdD, RdE.
-/
import Derived.Test.YtigdmebijbaofaaGreatDoorReadDM4
import Derived.Test.YtigdmebijbaofaaGreatDoorReadDM6
import Derived.Test.YtigdmebijbaofaaGreatDoorReadDM2
import Derived.Test.YtigdmebijbaofaaGreatDoorReadDM8
import Derived.Test.YtigdmebijbaofaaGreatDoorReadDM7
/-! ### RdA -/
namespace Go.Proofs.YtigdmebijbaofaaGreatDoor
open Go.RowKit
theorem ch_end (s : ByteArray) (i : Nat) (h : s.size ≤ i) : ch s i = 0 := by
 unfold ch
 rw [Array.getElem?_eq_none (show s.data.size ≤ i from h)]
 rfl
def inS (l : List UInt8) (b : Nat) : Bool := decide (0 ≤ Lib.indexByte l (UInt8.ofNat b))
def blankL : List UInt8 := [32, 9]
def betweenL : List UInt8 := [32, 9, 10, 59]
def closeL : List UInt8 := [10, 59, 125]
def skipF (l : List UInt8) (s : ByteArray) : Nat → Nat → Nat
 | 0, i => i
 | f + 1, i => if decide (i < s.size) && inS l (ch s i) then skipF l s f (i + 1) else i
def skipN (l : List UInt8) (s : ByteArray) (i : Nat) : Nat := skipF l s (s.size + 1) i
theorem skipF_le (l : List UInt8) (s : ByteArray) : ∀ f i, i ≤ s.size → i ≤ skipF l s f i ∧ skipF l s f i ≤ s.size
 | 0, i, h => ⟨Nat.le_refl _, h⟩
 | f + 1, i, h => by
  unfold skipF
  by_cases hc : (decide (i < s.size) && inS l (ch s i)) = true
  ·
   rw [if_pos hc]
   have h1 : i < s.size := by simp at hc; exact hc.1
   have := skipF_le l s f (i + 1) h1
   omega
  ·
   rw [if_neg hc]; exact ⟨Nat.le_refl _, h⟩
theorem skipN_le (l : List UInt8) (s : ByteArray) (i : Nat) (h : i ≤ s.size) : i ≤ skipN l s i ∧ skipN l s i ≤ s.size := skipF_le l s _ i h
def digN (b : Nat) : Bool := decide (48 ≤ b) && decide (b ≤ 57)
def tkN (s : ByteArray) (i b : Nat) : Bool := decide (i < s.size) && ch s i == b
def tkI (s : ByteArray) (i b : Nat) : Nat := if tkN s i b then i + 1 else i
theorem tkI_le (s : ByteArray) (i b : Nat) (h : i ≤ s.size) : i ≤ tkI s i b ∧ tkI s i b ≤ s.size := by
 unfold tkI
 split
 ·
  rename_i h1
  simp [tkN] at h1
  omega
 ·
  omega
def numF (s : ByteArray) : Nat → Nat → Nat → Nat × Nat
 | 0, n, i => (n, i)
 | f + 1, n, i => if digN (ch s i) then numF s f (min (10 * n + (ch s i - 48)) 10000) (i + 1) else (n, i)
def numN (s : ByteArray) (i : Nat) : Nat × Nat := numF s (s.size + 1) 0 i
theorem dig_lt {s : ByteArray} {i : Nat} (h : digN (ch s i) = true) : i < s.size := by
 apply Nat.lt_of_not_le
 intro hle
 rw [ch_end s i hle] at h
 simp [digN] at h
theorem numF_le (s : ByteArray) : ∀ f n i, n ≤ 10000 → i ≤ s.size → (numF s f n i).1 ≤ 10000 ∧ i ≤ (numF s f n i).2 ∧ (numF s f n i).2 ≤ s.size
 | 0, n, i, hn, h => ⟨hn, Nat.le_refl _, h⟩
 | f + 1, n, i, hn, h => by
  unfold numF
  by_cases hc : digN (ch s i) = true
  ·
   rw [if_pos hc]
   have := numF_le s f (min (10 * n + (ch s i - 48)) 10000) (i + 1) (by omega) (dig_lt hc)
   omega
  ·
   rw [if_neg hc]; exact ⟨hn, Nat.le_refl _, h⟩
theorem numN_le (s : ByteArray) (i : Nat) (h : i ≤ s.size) : (numN s i).1 ≤ 10000 ∧ i ≤ (numN s i).2 ∧ (numN s i).2 ≤ s.size := numF_le s _ 0 i (by omega) h
def pairN (s : ByteArray) (i a b : Nat) : Bool := decide (i + 1 < s.size) && ch s i == a && ch s (i + 1) == b
def bhByte (s : ByteArray) (i b : Nat) : Nat := if decide (i < s.size) && ch s i == b then i + 1 else i
def memF (s : ByteArray) (i : Nat) : Nat → Nat → Nat
 | 0, _ => i + 1
 | f + 1, e => if e < s.size then if pairN s e 58 93 then e + 2 else memF s i f (e + 1) else i + 1
def bhMem (s : ByteArray) (i : Nat) : Nat := if pairN s i 91 58 then memF s i (s.size + 1) (i + 2) else i + 1
def brF (s : ByteArray) : Nat → Nat → Nat
 | 0, i => i + 1
 | f + 1, i => if decide (i < s.size) && !(ch s i == 93) then brF s f (bhMem s i) else i + 1
def bhBr (s : ByteArray) (i : Nat) : Nat := brF s (s.size + 1) (bhByte s (bhByte s (i + 1) 94) 93)
def slEF (s : ByteArray) : Nat → Nat → Nat
 | 0, i => i
 | f + 1, i => if decide (i < s.size) && !(ch s i == 47) then slEF s f (if ch s i = 92 then i + 2 else if ch s i = 91 then bhBr s i else i + 1) else i
def slE (s : ByteArray) : Nat := slEF s (s.size + 1) 0
def slRF (s : ByteArray) : Nat → Nat → Nat
 | 0, i => i
 | f + 1, i => if decide (i < s.size) && !(ch s i == 47) then slRF s f (if ch s i = 92 then i + 2 else i + 1) else i
def slR (s : ByteArray) : Nat := slRF s (s.size + 1) 0
theorem memF_le (s : ByteArray) (i : Nat) (hi : i < s.size) : ∀ f e, i + 2 ≤ e → i < memF s i f e ∧ memF s i f e ≤ s.size
 | 0, e, _ => by unfold memF; omega
 | f + 1, e, he => by
  unfold memF
  split
  ·
   split
   ·
    rename_i h1 h2
    simp [pairN] at h2
    omega
   ·
    exact memF_le s i hi f (e + 1) (by omega)
  ·
   omega
theorem bhMem_le (s : ByteArray) (i : Nat) (hi : i < s.size) : i < bhMem s i ∧ bhMem s i ≤ s.size := by
 unfold bhMem
 split
 ·
  exact memF_le s i hi _ _ (by omega)
 ·
  omega
theorem bhByte_le (s : ByteArray) (i b : Nat) (hi : i ≤ s.size) : i ≤ bhByte s i b ∧ bhByte s i b ≤ s.size := by
 unfold bhByte
 split
 ·
  rename_i h
  simp at h
  omega
 ·
  omega
theorem brF_le (s : ByteArray) : ∀ f i, i ≤ s.size → i < brF s f i ∧ brF s f i ≤ s.size + 1
 | 0, i, h => by unfold brF; omega
 | f + 1, i, h => by
  unfold brF
  split
  ·
   rename_i hc
   simp at hc
   have h1 := bhMem_le s i hc.1
   have h2 := brF_le s f (bhMem s i) h1.2
   omega
  ·
   omega
theorem bhBr_le (s : ByteArray) (i : Nat) (hi : i < s.size) : i < bhBr s i ∧ bhBr s i ≤ s.size + 1 := by
 unfold bhBr
 have h1 := bhByte_le s (i + 1) 94 (by omega)
 have h2 := bhByte_le s (bhByte s (i + 1) 94) 93 h1.2
 have h3 := brF_le s (s.size + 1) _ h2.2
 omega
theorem slEF_le (s : ByteArray) : ∀ f i, i ≤ s.size + 1 → i ≤ slEF s f i ∧ slEF s f i ≤ s.size + 1
 | 0, i, h => ⟨Nat.le_refl _, h⟩
 | f + 1, i, h => by
  unfold slEF
  split
  ·
   rename_i hc
   simp at hc
   have h1 := bhBr_le s i hc.1
   have h2 := slEF_le s f (if ch s i = 92 then i + 2 else if ch s i = 91 then bhBr s i else i + 1) (by split <;> (try split) <;> omega)
   refine ⟨Nat.le_trans ?_ h2.1, h2.2⟩
   split <;> (try split) <;> omega
  ·
   omega
theorem slRF_le (s : ByteArray) : ∀ f i, i ≤ s.size + 1 → i ≤ slRF s f i ∧ slRF s f i ≤ s.size + 1
 | 0, i, h => ⟨Nat.le_refl _, h⟩
 | f + 1, i, h => by
  unfold slRF
  split
  ·
   rename_i hc
   simp at hc
   have h2 := slRF_le s f (if ch s i = 92 then i + 2 else i + 1) (by split <;> omega)
   refine ⟨Nat.le_trans ?_ h2.1, h2.2⟩
   split <;> omega
  ·
   omega
theorem slE_le (s : ByteArray) : slE s ≤ s.size + 1 := (slEF_le s _ 0 (by omega)).2
theorem slR_le (s : ByteArray) : slR s ≤ s.size + 1 := (slRF_le s _ 0 (by omega)).2
set_option maxHeartbeats 2000000
set_option maxRecDepth 100000
abbrev rro (s : ByteArray) (ere : Bool) (i o : Nat) : Obj := .cells #[.string s, .bool ere, .int .i64 (i : Int), .int .i64 (o : Int)] 123
structure Rr (w : World) (P : Nat) (s : ByteArray) (ere : Bool) (i o : Nat) : Prop where
 b : w.heap[P]? = some (rro s ere i o)
 p : 1 < P
 v : ∃ m, w.cell? ⟨1, 0, none⟩ = some (.int .i64 m)
 t : Lib.TabBelow Tryz.prog P w "internal/strconv.uint64pow10" .u64 Lib.pow10Tab
theorem Rr.lt {w : World} {P : Nat} {s : ByteArray} {ere : Bool} {i o : Nat} (h : Rr w P s ere i o) : P < w.heap.size := bl_lt h.b
theorem Rr.tb {w : World} {P : Nat} {s : ByteArray} {ere : Bool} {i o : Nat} (h : Rr w P s ere i o) : Tb w := h.t.here
theorem Rr.kp {w w' : World} {P : Nat} {s : ByteArray} {ere : Bool} {i o : Nat} (h : Rr w P s ere i o) (k : Kp w w') : Rr w' P s ere i o :=
 ⟨bl_kp h.b k, h.p, by obtain ⟨m, hm⟩ := h.v; exact ⟨m, (k.cell (Nat.lt_trans h.p h.lt)).trans hm⟩, h.t.on (Below.mono k (Nat.le_of_lt h.lt))⟩
theorem Rr.ks {S P : Nat} {w w' : World} {s : ByteArray} {ere : Bool} {i o : Nat} (h : Rr w P s ere i o) (k : Ks S w w') (hS : P < S) : Rr w' P s ere i o :=
 ⟨bl_ks h.b (by omega) k, h.p, by
  obtain ⟨m, hm⟩ := h.v
  exact ⟨m, (World.cell?_of_block (w := w) (k.block 1 (Nat.lt_trans h.p h.lt) (by have := h.p; show (1 : Nat) ≠ S; omega))).trans hm⟩, h.t.on (Below.mono k.lo (Nat.le_of_lt hS))⟩
theorem Rr.cells {w : World} {P : Nat} {s : ByteArray} {ere : Bool} {i o : Nat} (h : Rr w P s ere i o) : w.cell? ⟨P, 0, none⟩ = some (.string s) ∧ w.cell? ⟨P, 1, none⟩ = some (.bool ere) ∧ w.cell? ⟨P, 2, none⟩ = some (.int .i64 (i : Int)) ∧ w.cell? ⟨P, 3, none⟩ = some (.int .i64 (o : Int)) :=
 ⟨bl_cell h.b 0 _ rfl, bl_cell h.b 1 _ rfl, bl_cell h.b 2 _ rfl, bl_cell h.b 3 _ rfl⟩
theorem Rr.set {w : World} {P : Nat} {s : ByteArray} {ere : Bool} {i o : Nat} (h : Rr w P s ere i o) (j : Nat) (u : Value) (i' o' : Nat) (hb : (w.setCell ⟨P, j, none⟩ u).heap[P]? = some (rro s ere i' o')) : Rr (w.setCell ⟨P, j, none⟩ u) P s ere i' o' :=
 ⟨hb, h.p, by
  obtain ⟨m, hm⟩ := h.v
  exact ⟨m, (World.cell?_of_block (w := w) (Below.heap_setCell w ⟨P, j, none⟩ u 1 (by have := h.p; show (1 : Nat) ≠ P; omega))).trans hm⟩, h.t.on (((Ks.refl P w).set j u).lo)⟩
theorem Rr.at {w : World} {P : Nat} {s : ByteArray} {ere : Bool} {i o : Nat} (h : Rr w P s ere i o) (i' : Nat) : Rr (w.setCell ⟨P, 2, none⟩ (.int .i64 (i' : Int))) P s ere i' o := h.set 2 _ _ _ (bl_put h.b _)
theorem Rr.op {w : World} {P : Nat} {s : ByteArray} {ere : Bool} {i o : Nat} (h : Rr w P s ere i o) (o' : Nat) : Rr (w.setCell ⟨P, 3, none⟩ (.int .i64 (o' : Int))) P s ere i o' := h.set 3 _ _ _ (bl_put h.b _)
theorem over_any {w : World} {P : Nat} {s : ByteArray} {ere : Bool} {i o : Nat} (h : Rr w P s ere i o) : Calls Tryz.prog 121 #[.pointer (some ⟨P, 0, none⟩)] w fun e w' => e = .returned (.bool (decide (i = s.size))) ∧ Kp w w' := by
 have p0 := h.cells.1
 have p2 := h.cells.2.2.1
 have g : Hid (((i : Int) == (s.size : Int)) = decide (i = s.size)) := by show _ = _; by_cases h : i = s.size <;> simp [h]; omega
 clear h
 go_enter Tryz.func121, Tryz.ntmps121
 go_wp2_with fail
 go_quiet (fail)
 go_wp2_with fail
 go_ret
 exact ⟨by rw [← g.out] <;> rfl, (Kp.refl _).drewN _⟩
theorem here_any {w : World} {P : Nat} {s : ByteArray} {ere : Bool} {i o : Nat} (h : Rr w P s ere i o) (hi : i ≤ s.size) : Calls Tryz.prog 161 #[.pointer (some ⟨P, 0, none⟩)] w fun e w' => e = .returned (.int .u8 ((ch s i : Nat) : Int)) ∧ Kp w w' := by
 have R := hid h
 clear h
 by_cases he : i = s.size
 ·
  have hc : Hid (ch s i = 0) := ch_end s i (by omega)
  go_enter Tryz.func161, Tryz.ntmps161
  go_wp2_with fail
  refine (over_any R.out).mono ?_
  rintro e w1 ⟨rfl, k1⟩
  rw [decide_eq_true he]
  go_wp2_with fail
  go_ret
  exact ⟨by rw [hc.out] <;> rfl, k1⟩
 ·
  have ec := run_ch s i (by omega)
  go_enter Tryz.func161, Tryz.ntmps161
  go_wp2_with fail
  refine (over_any R.out).mono ?_
  rintro e w1 ⟨rfl, k1⟩
  rw [decide_eq_false he]
  have p0 := (R.out.kp k1).cells.1
  have p2 := (R.out.kp k1).cells.2.2.1
  have K1 := hid k1
  clear k1
  go_wp2_with fail
  go_quiet (fail)
  go_wp2_with fail
  go_ret
  exact ⟨rfl, K1.out.drewN _⟩
theorem dig_any (b : Nat) (w : World) : Calls Tryz.prog 240 #[.int .u8 (b : Int)] w fun e w' => e = .returned (.bool (digN b)) ∧ w' = w := by
 by_cases h1 : 48 ≤ b
 ·
  have g1 : (48 : Int) ≤ (b : Int) := by omega
  by_cases h2 : b ≤ 57
  ·
   have g2 : (b : Int) ≤ 57 := by omega
   go_enter Tryz.func240, Tryz.ntmps240
   go_wp2
   go_ret
   exact ⟨by simp [digN, h1, h2], rfl⟩
  ·
   have g2 : ¬ (b : Int) ≤ 57 := by omega
   go_enter Tryz.func240, Tryz.ntmps240
   go_wp2
   go_ret
   exact ⟨by simp [digN, h1, h2], rfl⟩
 ·
  have g1 : ¬ (48 : Int) ≤ (b : Int) := by omega
  go_enter Tryz.func240, Tryz.ntmps240
  go_wp2
  go_ret
  exact ⟨by simp [digN, h1], rfl⟩
theorem tk_any {w : World} {P : Nat} {s : ByteArray} {ere : Bool} {i o : Nat} (b : Nat) (h : Rr w P s ere i o) (hi : i ≤ s.size) (hs : s.size ≤ 1000000) :
  Calls Tryz.prog 195 #[.pointer (some ⟨P, 0, none⟩), .int .u8 (b : Int)] w fun e w' => e = .returned (.bool (tkN s i b)) ∧ Rr w' P s ere (tkI s i b) o ∧ Ks P w w' := by
 have R := hid h
 have hP : P < w.heap.size := h.lt
 clear h
 by_cases he : i = s.size
 ·
  have e1 : Hid (tkN s i b = false) := by show _ = _; simp [tkN, he]
  go_enter Tryz.func195, Tryz.ntmps195
  go_wp2_with fail
  refine (over_any R.out).mono ?_
  rintro e w1 ⟨rfl, k1⟩
  rw [decide_eq_true he]
  have R1 := hid (R.out.kp k1)
  have K1 := hid k1
  clear k1
  go_wp2_with fail
  go_ret
  exact ⟨by rw [e1.out] <;> rfl, by unfold tkI; rw [e1.out, if_neg (by decide)]; exact R1.out, K1.out.ks (Nat.le_of_lt hP)⟩
 obtain ⟨c, hc⟩ : ∃ c, ch s i = c := ⟨_, rfl⟩
 have HC := hid hc
 clear hc
 have H0 : Hid (∀ w, Rr w P s ere i o → Calls Tryz.prog 161 #[.pointer (some ⟨P, 0, none⟩)] w fun e w' => e = .returned (.int .u8 (c : Int)) ∧ Kp w w') := fun w h => by rw [← HC.out]; exact here_any h hi
 by_cases hb : c = b
 ·
  have e1 : Hid (tkN s i b = true) := by show _ = _; unfold tkN; rw [HC.out]; simp; omega
  subst hb
  have gi : IntKind.i64.wrap ((i : Int) + 1) = (i : Int) + 1 := by rw [IntKind.wrap_i64]; omega
  go_enter Tryz.func195, Tryz.ntmps195
  go_wp2_with fail
  refine (over_any R.out).mono ?_
  rintro e w1 ⟨rfl, k1⟩
  rw [decide_eq_false he]
  have R1 := hid (R.out.kp k1)
  have K1 := hid k1
  clear k1
  go_wp2_with fail
  refine (H0.out _ R1.out).mono ?_
  rintro e w2 ⟨rfl, k1⟩
  have R2 := hid (R1.out.kp k1)
  have K2 := hid (K1.out.trans k1)
  clear k1
  have p2 := R2.out.cells.2.2.1
  have fp2 := bl_frozen R2.out.b 2
  go_wp2_with fail
  go_ret
  exact ⟨by rw [e1.out] <;> rfl, by unfold tkI; rw [e1.out, if_pos rfl]; exact R2.out.at (i + 1), (K2.out.ks (Nat.le_of_lt hP)).set 2 _⟩
 ·
  have e1 : Hid (tkN s i b = false) := by show _ = _; unfold tkN; rw [HC.out]; simp [hb]
  have gb : ((c : Int) != (b : Int)) = true := by simp; omega
  go_enter Tryz.func195, Tryz.ntmps195
  go_wp2_with fail
  refine (over_any R.out).mono ?_
  rintro e w1 ⟨rfl, k1⟩
  rw [decide_eq_false he]
  have R1 := hid (R.out.kp k1)
  have K1 := hid k1
  clear k1
  go_wp2_with fail
  refine (H0.out _ R1.out).mono ?_
  rintro e w2 ⟨rfl, k1⟩
  have R2 := hid (R1.out.kp k1)
  have K2 := hid (K1.out.trans k1)
  clear k1
  go_wp2_with fail
  go_ret
  exact ⟨by rw [e1.out] <;> rfl, by unfold tkI; rw [e1.out, if_neg (by decide)]; exact R2.out, K2.out.ks (Nat.le_of_lt hP)⟩
theorem skip_any {w : World} {P : Nat} {s : ByteArray} {ere : Bool} {i o : Nat} (st : ByteArray) (h : Rr w P s ere i o) (hi : i ≤ s.size) (hs : s.size ≤ 1000000) :
  Calls Tryz.prog 120 #[.pointer (some ⟨P, 0, none⟩), .string st] w fun e w' => e = .returned (.tuple #[]) ∧ Rr w' P s ere (skipN st.data.toList s i) o ∧ Ks P w w' := by
 have R := hid h
 have hP : P < w.heap.size := h.lt
 clear h
 go_enter Tryz.func120, Tryz.ntmps120
 go_wp2_with fail
 go_loopg [] (s.size + 1) (fun k wr => ∃ j, j ≤ s.size ∧ s.size < k + j ∧ skipF st.data.toList s k j = skipN st.data.toList s i ∧ Rr wr P s ere j o ∧ Ks P w wr)
 case atStart => exact ⟨i, hi, by omega, rfl, R.out, Ks.refl _ _⟩
 case round =>
  obtain ⟨j, hj, hk, hp, hR, hK⟩ := hrel
  obtain ⟨k, rfl⟩ : ∃ k, gk = k + 1 := ⟨gk - 1, by omega⟩
  have R1 := hid hR
  have K1 := hid hK
  have HP := hid hp
  have hPr : P < wr.heap.size := Nat.lt_of_lt_of_le hP hK.size
  clear hR hK hp R
  by_cases he : j = s.size
  ·
   have E : Hid (skipN st.data.toList s i = j) := by
    show _ = _
    rw [← HP.out]
    unfold skipF
    rw [if_neg (by simp; omega)]
   go_wp2_with fail
   refine (over_any R1.out).mono ?_
   rintro e w1 ⟨rfl, k1⟩
   rw [decide_eq_true he]
   have R2 := hid (R1.out.kp k1)
   have K2 := hid (K1.out.kpt k1 hP)
   clear k1
   go_wp2_with fail
   refine bodyPost_end (v := .tuple #[]) (results_none rfl _ _ _) rfl ⟨rfl, by rw [E.out]; exact R2.out, K2.out⟩
  obtain ⟨c, hc⟩ : ∃ c, ch s j = c := ⟨_, rfl⟩
  have HC := hid hc
  have hc256 : c < 256 := by rw [← hc]; exact ch_lt _ _
  clear hc
  have H0 : Hid (∀ w, Rr w P s ere j o → Calls Tryz.prog 161 #[.pointer (some ⟨P, 0, none⟩)] w fun e w' => e = .returned (.int .u8 (c : Int)) ∧ Kp w w') := fun w h => by rw [← HC.out]; exact here_any h hj
  obtain ⟨x, hx⟩ : ∃ x, Lib.indexByte st.data.toList (UInt8.ofNat c) = x := ⟨_, rfl⟩
  have H1 : Hid (∀ w, Calls Tryz.prog 141 #[.string st, .int .u8 (c : Int)] w fun e w' => e = .returned (.int .i64 x) ∧ w' = w) := fun w => by rw [← hx]; exact indexByte_any st (c : Int) w
  have HX := hid hx
  clear hx
  by_cases h0 : 0 ≤ x
  ·
   have g0 : x ≥ 0 := h0
   have gi : IntKind.i64.wrap ((j : Int) + 1) = (j : Int) + 1 := by rw [IntKind.wrap_i64]; omega
   have E : Hid (skipF st.data.toList s k (j + 1) = skipN st.data.toList s i) := by
    show _ = _
    rw [← HP.out]
    conv => rhs; unfold skipF
    rw [if_pos (by unfold inS; rw [HC.out, HX.out]; simp; omega)]
   clear HX HP HC h0
   go_wp2_with fail
   refine (over_any R1.out).mono ?_
   rintro e w1 ⟨rfl, k1⟩
   rw [decide_eq_false he]
   have R2 := hid (R1.out.kp k1)
   have K2 := hid (K1.out.kpt k1 hP)
   clear k1
   go_wp2_with fail
   refine (H0.out _ R2.out).mono ?_
   rintro e w2 ⟨rfl, k1⟩
   have R3 := hid (R2.out.kp k1)
   have K3 := hid (K2.out.kpt k1 hP)
   clear k1
   go_wp2_with fail
   refine (H1.out _).mono ?_
   rintro e w3 ⟨rfl, rfl⟩
   have p2 := R3.out.cells.2.2.1
   have fp2 := bl_frozen R3.out.b 2
   go_wp2_with fail
   go_roundg k
   case measure => omega
   case rel => exact ⟨j + 1, by omega, by omega, E.out, R3.out.at (j + 1), K3.out.set 2 _⟩
  ·
   have g0 : ¬ x ≥ 0 := by omega
   have E : Hid (skipN st.data.toList s i = j) := by
    show _ = _
    rw [← HP.out]
    unfold skipF
    rw [if_neg (by unfold inS; rw [HC.out, HX.out]; simp; omega)]
   clear HX HP HC h0
   go_wp2_with fail
   refine (over_any R1.out).mono ?_
   rintro e w1 ⟨rfl, k1⟩
   rw [decide_eq_false he]
   have R2 := hid (R1.out.kp k1)
   have K2 := hid (K1.out.kpt k1 hP)
   clear k1
   go_wp2_with fail
   refine (H0.out _ R2.out).mono ?_
   rintro e w2 ⟨rfl, k1⟩
   have R3 := hid (R2.out.kp k1)
   have K3 := hid (K2.out.kpt k1 hP)
   clear k1
   go_wp2_with fail
   refine (H1.out _).mono ?_
   rintro e w3 ⟨rfl, rfl⟩
   go_wp2_with fail
   refine bodyPost_end (v := .tuple #[]) (results_none rfl _ _ _) rfl ⟨rfl, by rw [E.out]; exact R3.out, K3.out⟩
theorem numr_any {w : World} {P : Nat} {s : ByteArray} {ere : Bool} {i o : Nat} (h : Rr w P s ere i o) (hi : i ≤ s.size) (hs : s.size ≤ 1000000) :
  Calls Tryz.prog 246 #[.pointer (some ⟨P, 0, none⟩)] w fun e w' => e = .returned (.int .i64 (((numN s i).1 : Nat) : Int)) ∧ Rr w' P s ere (numN s i).2 o ∧ Ks P w w' := by
 have R := hid h
 have hP : P < w.heap.size := h.lt
 clear h
 go_enter Tryz.func246, Tryz.ntmps246
 go_wp2_with fail
 go_loopg [3] (s.size + 1) (fun k v wr => ∃ (n j : Nat), v = .int .i64 (n : Int) ∧ n ≤ 10000 ∧ j ≤ s.size ∧ s.size < k + j ∧ numF s k n j = numN s i ∧ Rr wr P s ere j o ∧ Ks P w wr)
 case atStart => exact ⟨0, i, rfl, by omega, hi, by omega, rfl, R.out, Ks.refl _ _⟩
 case round =>
  obtain ⟨n, j, rfl, hn, hj, hk, hp, hR, hK⟩ := hrel
  obtain ⟨k, rfl⟩ : ∃ k, gk = k + 1 := ⟨gk - 1, by omega⟩
  have R1 := hid hR
  have K1 := hid hK
  have HP := hid hp
  have hPr : P < wr.heap.size := Nat.lt_of_lt_of_le hP hK.size
  clear hR hK hp R
  obtain ⟨c, hc⟩ : ∃ c, ch s j = c := ⟨_, rfl⟩
  have HC := hid hc
  have hc256 : c < 256 := by rw [← hc]; exact ch_lt _ _
  clear hc
  have H0 : Hid (∀ w, Rr w P s ere j o → Calls Tryz.prog 161 #[.pointer (some ⟨P, 0, none⟩)] w fun e w' => e = .returned (.int .u8 (c : Int)) ∧ Kp w w') := fun w h => by rw [← HC.out]; exact here_any h hj
  obtain ⟨d, hd⟩ : ∃ d, digN c = d := ⟨_, rfl⟩
  have H1 : Hid (∀ w, Calls Tryz.prog 240 #[.int .u8 (c : Int)] w fun e w' => e = .returned (.bool d) ∧ w' = w) := fun w => by rw [← hd]; exact dig_any c w
  have HD := hid hd
  clear hd
  cases d with
  | true =>
   have hd' : 48 ≤ c ∧ c ≤ 57 := by have := HD.out; unfold digN at this; simpa using this
   have hlt : j < s.size := dig_lt (by rw [HC.out]; exact HD.out)
   have E : Hid (numF s k (min (10 * n + (c - 48)) 10000) (j + 1) = numN s i) := by
    show _ = _
    rw [← HP.out]
    conv => rhs; unfold numF
    rw [HC.out, if_pos HD.out]
   have g1 : IntKind.i64.wrap (10 * (n : Int)) = 10 * (n : Int) := by rw [IntKind.wrap_i64]; omega
   have g2 : IntKind.u8.wrap ((c : Int) - 48) = (c : Int) - 48 := by rw [IntKind.wrap_u8']; omega
   have g3 : IntKind.i64.wrap ((c : Int) - 48) = (c : Int) - 48 := by rw [IntKind.wrap_i64]; omega
   have g4 : IntKind.i64.wrap (10 * (n : Int) + ((c : Int) - 48)) = 10 * (n : Int) + ((c : Int) - 48) := by rw [IntKind.wrap_i64]; omega
   have gi : IntKind.i64.wrap ((j : Int) + 1) = (j : Int) + 1 := by rw [IntKind.wrap_i64]; omega
   clear HP HC HD
   go_wp2_with fail
   refine (H0.out _ R1.out).mono ?_
   rintro e w1 ⟨rfl, k1⟩
   have R2 := hid (R1.out.kp k1)
   have K2 := hid (K1.out.kpt k1 hP)
   clear k1
   go_wp2_with fail
   refine (H1.out _).mono ?_
   rintro e w2 ⟨rfl, rfl⟩
   go_wp2_with fail
   refine (H0.out _ R2.out).mono ?_
   rintro e w2 ⟨rfl, k1⟩
   have R3 := hid (R2.out.kp k1)
   have K3 := hid (K2.out.kpt k1 hP)
   clear k1
   have p2 := R3.out.cells.2.2.1
   have fp2 := bl_frozen R3.out.b 2
   go_wp2_with fail
   go_roundg k
   case measure => omega
   case rel => exact ⟨min (10 * n + (c - 48)) 10000, j + 1, by congr 1; omega, by omega, by omega, by omega, E.out, R3.out.at (j + 1), K3.out.set 2 _⟩
  | false =>
   have E : Hid (numN s i = (n, j)) := by
    show _ = _
    rw [← HP.out]
    unfold numF
    rw [HC.out, HD.out, if_neg (by decide)]
   clear HP HC HD
   go_wp2_with fail
   refine (H0.out _ R1.out).mono ?_
   rintro e w1 ⟨rfl, k1⟩
   have R2 := hid (R1.out.kp k1)
   have K2 := hid (K1.out.kpt k1 hP)
   clear k1
   go_wp2_with fail
   refine (H1.out _).mono ?_
   rintro e w2 ⟨rfl, rfl⟩
   go_wp2_with fail
   go_ret
   exact ⟨by rw [E.out] <;> rfl, by rw [E.out]; exact R2.out, K2.out⟩
theorem pair_any (s : ByteArray) (i a b : Nat) (hi : i ≤ 10000000) (w : World) :
  Calls Tryz.prog 266 #[.string s, .int .i64 (i : Int), .int .u8 (a : Int), .int .u8 (b : Int)] w fun e w' => e = .returned (.bool (pairN s i a b)) ∧ w' = w := by
 have gi : IntKind.i64.wrap ((i : Int) + 1) = (i : Int) + 1 := by rw [IntKind.wrap_i64]; omega
 by_cases h1 : i + 1 < s.size
 ·
  have g1 : (i : Int) + 1 < (s.size : Int) := by omega
  have e0 := run_ch s i (by omega)
  have e1 : ∀ w, (Instr.index 9 (.string s) (.int .i64 ((i : Int) + 1))).run Tryz.prog w = .ok (.int .u8 (ch s (i + 1) : Nat)) w := run_ch s (i + 1) h1
  by_cases h2 : ch s i = a
  ·
   have g2 : ((ch s i : Int) == (a : Int)) = true := by simp; omega
   obtain ⟨c, hc⟩ : ∃ c, ch s (i + 1) = c := ⟨_, rfl⟩
   rw [hc] at e1
   have E : Hid (pairN s i a b = ((c : Int) == (b : Int))) := by
    show _ = _
    unfold pairN
    rw [hc, decide_eq_true h1, h2]
    by_cases h : c = b
    ·
     simp [h]
    ·
     have h' : ¬ (c : Int) = (b : Int) := by omega
     rw [beq_eq_false_iff_ne.2 h, beq_eq_false_iff_ne.2 h']; simp
   clear hc h2
   go_enter Tryz.func266, Tryz.ntmps266
   go_wp2
   go_ret
   exact ⟨by rw [E.out] <;> rfl, rfl⟩
  ·
   have g2 : ((ch s i : Int) == (a : Int)) = false := by simp; omega
   have E : Hid (pairN s i a b = false) := by show _ = _; unfold pairN; simp [h2]
   clear h2
   go_enter Tryz.func266, Tryz.ntmps266
   go_wp2
   go_ret
   exact ⟨by rw [E.out] <;> rfl, rfl⟩
 ·
  have g1 : ¬ (i : Int) + 1 < (s.size : Int) := by omega
  have E : Hid (pairN s i a b = false) := by show _ = _; unfold pairN; simp [h1]
  clear h1
  go_enter Tryz.func266, Tryz.ntmps266
  go_wp2
  go_ret
  exact ⟨by rw [E.out] <;> rfl, rfl⟩
theorem bhByte_any (s : ByteArray) (i b : Nat) (hi : i ≤ 10000000) (w : World) :
  Calls Tryz.prog 260 #[.string s, .int .i64 (i : Int), .int .u8 (b : Int)] w fun e w' => e = .returned (.int .i64 (bhByte s i b : Nat)) ∧ w' = w := by
 have gi : IntKind.i64.wrap ((i : Int) + 1) = (i : Int) + 1 := by rw [IntKind.wrap_i64]; omega
 by_cases h1 : i < s.size
 ·
  have g1 : (i : Int) < (s.size : Int) := by omega
  have e0 := run_ch s i (by omega)
  by_cases h2 : ch s i = b
  ·
   have g2 : ((ch s i : Int) == (b : Int)) = true := by simp; omega
   have E : Hid (bhByte s i b = i + 1) := by show _ = _; unfold bhByte; simp [h1, h2]
   clear h2
   go_enter Tryz.func260, Tryz.ntmps260
   go_wp2
   go_ret
   exact ⟨by rw [E.out] <;> rfl, rfl⟩
  ·
   have g2 : ((ch s i : Int) == (b : Int)) = false := by simp; omega
   have E : Hid (bhByte s i b = i) := by show _ = _; unfold bhByte; simp [h2]
   clear h2
   go_enter Tryz.func260, Tryz.ntmps260
   go_wp2
   go_ret
   exact ⟨by rw [E.out] <;> rfl, rfl⟩
 ·
  have g1 : ¬ (i : Int) < (s.size : Int) := by omega
  have E : Hid (bhByte s i b = i) := by show _ = _; unfold bhByte; simp [h1]
  clear h1
  go_enter Tryz.func260, Tryz.ntmps260
  go_wp2
  go_ret
  exact ⟨by rw [E.out] <;> rfl, rfl⟩
theorem bhMem_any (s : ByteArray) (i : Nat) (hi : i ≤ 1000000) (hs : s.size ≤ 1000000) (w : World) :
  Calls Tryz.prog 261 #[.string s, .int .i64 (i : Int)] w fun e w' => e = .returned (.int .i64 (bhMem s i : Nat)) ∧ w' = w := by
 obtain ⟨x, hx⟩ : ∃ x, pairN s i 91 58 = x := ⟨_, rfl⟩
 have H0 : Hid (∀ w, Calls Tryz.prog 266 #[.string s, .int .i64 (i : Int), .int .u8 91, .int .u8 58] w fun e w' => e = .returned (.bool x) ∧ w' = w) := fun w => by rw [← hx]; exact pair_any s i 91 58 (by omega) w
 have HX := hid hx
 have gi : IntKind.i64.wrap ((i : Int) + 1) = (i : Int) + 1 := by rw [IntKind.wrap_i64]; omega
 have gi2 : IntKind.i64.wrap ((i : Int) + 2) = (i : Int) + 2 := by rw [IntKind.wrap_i64]; omega
 clear hx
 cases x with
 | false =>
  have E : Hid (bhMem s i = i + 1) := by show _ = _; unfold bhMem; rw [HX.out, if_neg (by decide)]
  go_enter Tryz.func261, Tryz.ntmps261
  go_wp2_with fail
  refine (H0.out _).mono ?_
  rintro e w1 ⟨rfl, rfl⟩
  go_wp2_with fail
  go_ret
  exact ⟨by rw [E.out] <;> rfl, rfl⟩
 | true =>
  have E0 : Hid (bhMem s i = memF s i (s.size + 1) (i + 2)) := by show _ = _; unfold bhMem; rw [HX.out, if_pos rfl]
  clear HX
  go_enter Tryz.func261, Tryz.ntmps261
  go_wp2_with fail
  refine (H0.out _).mono ?_
  rintro e w1 ⟨rfl, rfl⟩
  clear H0
  rename World => w
  go_wp2_with fail
  go_loopg [5] (s.size + 1) (fun k v wr => ∃ e : Nat, v = .int .i64 (e : Int) ∧ e ≤ 1000002 ∧ s.size + 2 < k + e + 2 ∧ memF s i k e = bhMem s i ∧ wr = w)
  case atStart => exact ⟨i + 2, by go_num, by omega, by omega, E0.out.symm, rfl⟩
  case round =>
   obtain ⟨j, rfl, hj, hk, hp, rfl⟩ := hrel
   have HP := hid hp
   clear hp E0
   by_cases hlt : j < s.size
   ·
    have ga : (j : Int) < (s.size : Int) := by omega
    obtain ⟨k, rfl⟩ : ∃ k, gk = k + 1 := ⟨gk - 1, by omega⟩
    obtain ⟨x, hx⟩ : ∃ x, pairN s j 58 93 = x := ⟨_, rfl⟩
    have H0 : Hid (∀ w, Calls Tryz.prog 266 #[.string s, .int .i64 (j : Int), .int .u8 58, .int .u8 93] w fun e w' => e = .returned (.bool x) ∧ w' = w) := fun w => by rw [← hx]; exact pair_any s j 58 93 (by omega) w
    have HX := hid hx
    clear hx
    have gj : IntKind.i64.wrap ((j : Int) + 1) = (j : Int) + 1 := by rw [IntKind.wrap_i64]; omega
    have gj2 : IntKind.i64.wrap ((j : Int) + 2) = (j : Int) + 2 := by rw [IntKind.wrap_i64]; omega
    cases x with
    | true =>
     have E : Hid (bhMem s i = j + 2) := by show _ = _; rw [← HP.out]; unfold memF; rw [if_pos hlt, HX.out, if_pos rfl]
     clear HP HX hlt
     go_wp2_with fail
     refine (H0.out _).mono ?_
     rintro e w1 ⟨rfl, rfl⟩
     go_wp2_with fail
     go_ret
     exact ⟨by rw [E.out] <;> rfl, rfl⟩
    | false =>
     have E : Hid (memF s i k (j + 1) = bhMem s i) := by show _ = _; rw [← HP.out]; conv => { rhs; unfold memF }; rw [if_pos hlt, HX.out, if_neg (by decide)]
     clear HP HX hlt
     go_wp2_with fail
     refine (H0.out _).mono ?_
     rintro e w1 ⟨rfl, rfl⟩
     go_wp2_with fail
     go_roundg k
     case measure => omega
     case rel => exact ⟨j + 1, by go_num, by omega, by omega, E.out, rfl⟩
   ·
    have ga : ¬ (j : Int) < (s.size : Int) := by omega
    have E : Hid (bhMem s i = i + 1) := by
     show _ = _
     rw [← HP.out]
     cases gk with
     | zero => rfl
     | succ k => unfold memF; rw [if_neg hlt]
    clear HP hlt
    go_wp2_with fail
    go_ret
    exact ⟨by rw [E.out] <;> rfl, rfl⟩
theorem bhBr_any (s : ByteArray) (i : Nat) (hi : i < s.size) (hs : s.size ≤ 1000000) (w : World) :
  Calls Tryz.prog 251 #[.string s, .int .i64 (i : Int)] w fun e w' => e = .returned (.int .i64 (bhBr s i : Nat)) ∧ w' = w := by
 obtain ⟨x, hx⟩ : ∃ x, bhByte s (i + 1) 94 = x := ⟨_, rfl⟩
 have H0 : Hid (∀ w, Calls Tryz.prog 260 #[.string s, .int .i64 ((i : Int) + 1), .int .u8 94] w fun e w' => e = .returned (.int .i64 (x : Int)) ∧ w' = w) := fun w => by rw [← hx]; exact bhByte_any s (i + 1) 94 (by omega) w
 have l1 := bhByte_le s (i + 1) 94 (by omega)
 obtain ⟨y, hy⟩ : ∃ y, bhByte s x 93 = y := ⟨_, rfl⟩
 rw [hx] at l1
 have H1 : Hid (∀ w, Calls Tryz.prog 260 #[.string s, .int .i64 (x : Int), .int .u8 93] w fun e w' => e = .returned (.int .i64 (y : Int)) ∧ w' = w) := fun w => by rw [← hy]; exact bhByte_any s x 93 (by omega) w
 have l2 := bhByte_le s x 93 l1.2
 rw [hy] at l2
 have E0 : Hid (bhBr s i = brF s (s.size + 1) y) := by show _ = _; unfold bhBr; rw [hx, hy]
 have gi : IntKind.i64.wrap ((i : Int) + 1) = (i : Int) + 1 := by rw [IntKind.wrap_i64]; omega
 clear hx hy l1
 obtain ⟨l2, l3⟩ := l2
 clear l2
 go_enter Tryz.func251, Tryz.ntmps251
 go_wp2_with fail
 refine (H0.out _).mono ?_
 rintro e w1 ⟨rfl, rfl⟩
 go_wp2_with fail
 refine (H1.out _).mono ?_
 rintro e w1 ⟨rfl, rfl⟩
 clear H0 H1
 rename World => w
 go_wp2_with fail
 go_loopg [1] (s.size + 1) (fun k v wr => ∃ e : Nat, v = .int .i64 (e : Int) ∧ e ≤ s.size ∧ s.size < k + e ∧ brF s k e = bhBr s i ∧ wr = w)
 case atStart => exact ⟨y, rfl, l3, by omega, E0.out.symm, rfl⟩
 case round =>
  obtain ⟨j, rfl, hj, hk, hp, rfl⟩ := hrel
  obtain ⟨k, rfl⟩ : ∃ k, gk = k + 1 := ⟨gk - 1, by omega⟩
  have HP := hid hp
  clear hp E0
  have gj : IntKind.i64.wrap ((j : Int) + 1) = (j : Int) + 1 := by rw [IntKind.wrap_i64]; omega
  by_cases hlt : j < s.size
  ·
   have ga : (j : Int) < (s.size : Int) := by omega
   have e0 := run_ch s j hlt
   by_cases h2 : ch s j = 93
   ·
    have g2 : ((ch s j : Int) != 93) = false := by simp; omega
    have E : Hid (bhBr s i = j + 1) := by show _ = _; rw [← HP.out]; unfold brF; rw [if_neg (by simp [h2])]
    clear HP h2
    go_wp2_with fail
    go_ret
    exact ⟨by rw [E.out] <;> rfl, rfl⟩
   ·
    have g2 : ((ch s j : Int) != 93) = true := by simp; omega
    obtain ⟨z, hz⟩ : ∃ z, bhMem s j = z := ⟨_, rfl⟩
    have H0 : Hid (∀ w, Calls Tryz.prog 261 #[.string s, .int .i64 (j : Int)] w fun e w' => e = .returned (.int .i64 (z : Int)) ∧ w' = w) := fun w => by rw [← hz]; exact bhMem_any s j (by omega) hs w
    have l := bhMem_le s j hlt
    rw [hz] at l
    have E : Hid (brF s k z = bhBr s i) := by show _ = _; rw [← HP.out]; conv => { rhs; unfold brF }; rw [if_pos (by simp [h2, hlt]), hz]
    clear HP h2 hz hlt
    go_wp2_with fail
    refine (H0.out _).mono ?_
    rintro e w1 ⟨rfl, rfl⟩
    go_wp2_with fail
    go_roundg k
    case measure => omega
    case rel => exact ⟨z, rfl, by omega, by omega, E.out, rfl⟩
  ·
   have ga : ¬ (j : Int) < (s.size : Int) := by omega
   have E : Hid (bhBr s i = j + 1) := by show _ = _; rw [← HP.out]; unfold brF; rw [if_neg (by simp [hlt])]
   clear HP hlt
   go_wp2_with fail
   go_ret
   exact ⟨by rw [E.out] <;> rfl, rfl⟩
theorem slE_any (s : ByteArray) (hs : s.size ≤ 1000000) (w : World) :
  Calls Tryz.prog 243 #[.string s] w fun e w' => e = .returned (.int .i64 (slE s : Nat)) ∧ w' = w := by
 go_enter Tryz.func243, Tryz.ntmps243
 go_wp2_with fail
 go_loopg [3] (s.size + 2) (fun k v wr => ∃ e : Nat, v = .int .i64 (e : Int) ∧ e ≤ s.size + 1 ∧ s.size + 1 < k + e ∧ slEF s (k - 1) e = slE s ∧ wr = w)
 case atStart => exact ⟨0, rfl, by omega, by omega, rfl, rfl⟩
 case round =>
  obtain ⟨j, rfl, hj, hk, hp, rfl⟩ := hrel
  have HP := hid hp
  clear hp
  have gj : IntKind.i64.wrap ((j : Int) + 1) = (j : Int) + 1 := by rw [IntKind.wrap_i64]; omega
  have gj2 : IntKind.i64.wrap ((j : Int) + 2) = (j : Int) + 2 := by rw [IntKind.wrap_i64]; omega
  by_cases hlt : j < s.size
  ·
   obtain ⟨k, rfl⟩ : ∃ k, gk = k + 2 := ⟨gk - 2, by omega⟩
   have HP' : Hid (slEF s (k + 1) j = slE s) := HP
   clear HP
   have HP := HP'
   clear HP'
   have ga : (j : Int) < (s.size : Int) := by omega
   have e0 := run_ch s j hlt
   by_cases h2 : ch s j = 47
   ·
    have g2 : ((ch s j : Int) != 47) = false := by simp; omega
    have E : Hid (slE s = j) := by show _ = _; rw [← HP.out]; unfold slEF; rw [if_neg (by simp [h2])]
    clear HP h2
    go_wp2_with fail
    go_ret
    exact ⟨by rw [E.out] <;> rfl, rfl⟩
   ·
    have g2 : ((ch s j : Int) != 47) = true := by simp; omega
    have E0 : Hid (slEF s k (if ch s j = 92 then j + 2 else if ch s j = 91 then bhBr s j else j + 1) = slE s) := by show _ = _; rw [← HP.out]; conv => { rhs; unfold slEF }; rw [if_pos (show (decide (j < s.size) && !(ch s j == 47)) = true by simp [h2, hlt])]
    clear HP h2
    by_cases h3 : ch s j = 92
    ·
     have g3 : ((ch s j : Int) == 92) = true := by simp; omega
     have E : Hid (slEF s k (j + 2) = slE s) := by have := E0.out; rw [if_pos h3] at this; exact this
     clear E0 h3
     go_wp2_with fail
     go_roundg (k + 1)
     case measure => omega
     case rel => exact ⟨j + 2, by go_num, by omega, by omega, E.out, rfl⟩
    have g3 : ((ch s j : Int) == 92) = false := by simp; omega
    by_cases h4 : ch s j = 91
    ·
     have g4 : ((ch s j : Int) == 91) = true := by simp; omega
     obtain ⟨z, hz⟩ : ∃ z, bhBr s j = z := ⟨_, rfl⟩
     have H0 : Hid (∀ w, Calls Tryz.prog 251 #[.string s, .int .i64 (j : Int)] w fun e w' => e = .returned (.int .i64 (z : Int)) ∧ w' = w) := fun w => by rw [← hz]; exact bhBr_any s j hlt hs w
     have l := bhBr_le s j hlt
     rw [hz] at l
     have E : Hid (slEF s k z = slE s) := by have := E0.out; rw [if_neg h3, if_pos h4, hz] at this; exact this
     clear E0 h3 h4 hz
     go_wp2_with fail
     refine (H0.out _).mono ?_
     rintro e w1 ⟨rfl, rfl⟩
     go_wp2_with fail
     go_roundg (k + 1)
     case measure => omega
     case rel => exact ⟨z, rfl, by omega, by omega, E.out, rfl⟩
    ·
     have g4 : ((ch s j : Int) == 91) = false := by simp; omega
     have E : Hid (slEF s k (j + 1) = slE s) := by have := E0.out; rw [if_neg h3, if_neg h4] at this; exact this
     clear E0 h3 h4
     go_wp2_with fail
     go_roundg (k + 1)
     case measure => omega
     case rel => exact ⟨j + 1, by go_num, by omega, by omega, E.out, rfl⟩
  ·
   have ga : ¬ (j : Int) < (s.size : Int) := by omega
   have E : Hid (slE s = j) := by
    show _ = _
    rw [← HP.out]
    cases gk - 1 with
    | zero => rfl
    | succ k => unfold slEF; rw [if_neg (by simp [hlt])]
   clear HP hlt
   go_wp2_with fail
   go_ret
   exact ⟨by rw [E.out] <;> rfl, rfl⟩
theorem slR_any (s : ByteArray) (hs : s.size ≤ 1000000) (w : World) :
  Calls Tryz.prog 244 #[.string s] w fun e w' => e = .returned (.int .i64 (slR s : Nat)) ∧ w' = w := by
 go_enter Tryz.func244, Tryz.ntmps244
 go_wp2_with fail
 go_loopg [3] (s.size + 2) (fun k v wr => ∃ e : Nat, v = .int .i64 (e : Int) ∧ e ≤ s.size + 1 ∧ s.size + 1 < k + e ∧ slRF s (k - 1) e = slR s ∧ wr = w)
 case atStart => exact ⟨0, rfl, by omega, by omega, rfl, rfl⟩
 case round =>
  obtain ⟨j, rfl, hj, hk, hp, rfl⟩ := hrel
  have HP := hid hp
  clear hp
  have gj : IntKind.i64.wrap ((j : Int) + 1) = (j : Int) + 1 := by rw [IntKind.wrap_i64]; omega
  have gj2 : IntKind.i64.wrap ((j : Int) + 1 + 1) = (j : Int) + 1 + 1 := by rw [IntKind.wrap_i64]; omega
  by_cases hlt : j < s.size
  ·
   obtain ⟨k, rfl⟩ : ∃ k, gk = k + 2 := ⟨gk - 2, by omega⟩
   have HP' : Hid (slRF s (k + 1) j = slR s) := HP
   clear HP
   have HP := HP'
   clear HP'
   have ga : (j : Int) < (s.size : Int) := by omega
   have e0 := run_ch s j hlt
   by_cases h2 : ch s j = 47
   ·
    have g2 : ((ch s j : Int) != 47) = false := by simp; omega
    have E : Hid (slR s = j) := by show _ = _; rw [← HP.out]; unfold slRF; rw [if_neg (by simp [h2])]
    clear HP h2
    go_wp2_with fail
    go_ret
    exact ⟨by rw [E.out] <;> rfl, rfl⟩
   ·
    have g2 : ((ch s j : Int) != 47) = true := by simp; omega
    have E0 : Hid (slRF s k (if ch s j = 92 then j + 2 else j + 1) = slR s) := by show _ = _; rw [← HP.out]; conv => { rhs; unfold slRF }; rw [if_pos (show (decide (j < s.size) && !(ch s j == 47)) = true by simp [h2, hlt])]
    clear HP h2
    by_cases h3 : ch s j = 92
    ·
     have g3 : ((ch s j : Int) == 92) = true := by simp; omega
     have E : Hid (slRF s k (j + 2) = slR s) := by have := E0.out; rw [if_pos h3] at this; exact this
     clear E0 h3
     go_wp2_with fail
     go_roundg (k + 1)
     case measure => omega
     case rel => exact ⟨j + 2, by go_num, by omega, by omega, E.out, rfl⟩
    ·
     have g3 : ((ch s j : Int) == 92) = false := by simp; omega
     have E : Hid (slRF s k (j + 1) = slR s) := by have := E0.out; rw [if_neg h3] at this; exact this
     clear E0 h3
     go_wp2_with fail
     go_roundg (k + 1)
     case measure => omega
     case rel => exact ⟨j + 1, by go_num, by omega, by omega, E.out, rfl⟩
  ·
   have ga : ¬ (j : Int) < (s.size : Int) := by omega
   have E : Hid (slR s = j) := by
    show _ = _
    rw [← HP.out]
    cases gk - 1 with
    | zero => rfl
    | succ k => unfold slRF; rw [if_neg (by simp [hlt])]
   clear HP hlt
   go_wp2_with fail
   go_ret
   exact ⟨by rw [E.out] <;> rfl, rfl⟩
def partB (sl : ByteArray → Nat) (s : ByteArray) (i : Nat) : Bool := decide (sl (s.extract i s.size) < (s.extract i s.size).size)
def partT (sl : ByteArray → Nat) (s : ByteArray) (i : Nat) : ByteArray := if partB sl s i then (s.extract i s.size).extract 0 (sl (s.extract i s.size)) else ⟨#[]⟩
def partI (sl : ByteArray → Nat) (s : ByteArray) (i : Nat) : Nat := if partB sl s i then i + (sl (s.extract i s.size) + 1) else s.size
theorem ext_szi (s : ByteArray) (i : Nat) (hi : i ≤ s.size) : (s.extract i s.size).size + i = s.size := by rw [ByteArray.size_extract]; omega
theorem partI_le (sl : ByteArray → Nat) (s : ByteArray) (i : Nat) (hi : i ≤ s.size) : i ≤ partI sl s i ∧ partI sl s i ≤ s.size := by
 have hz := ext_szi s i hi
 unfold partI partB
 split
 ·
  rename_i h
  simp only [decide_eq_true_eq] at h
  omega
 ·
  omega
theorem partT_le (sl : ByteArray → Nat) (s : ByteArray) (i : Nat) (hi : i ≤ s.size) : (partT sl s i).size ≤ s.size - i := by
 have hz := ext_szi s i hi
 unfold partT
 split
 ·
  rw [ByteArray.size_extract]; omega
 ·
  exact Nat.zero_le _
theorem run_to (s : ByteArray) (i : Nat) (hi : i ≤ s.size) (w : World) : (Instr.slice 9 (.string s) none (some (.int .i64 (i : Int))) none).run Tryz.prog w = .ok (.string (s.extract 0 i)) w := by
 rw [run_slice_string_to_if w 9 s .i64 (i : Int) (by kernel_rfl), if_pos ⟨by omega, by omega⟩, Int.toNat_natCast]
theorem partE_any {w : World} {P : Nat} {s : ByteArray} {ere : Bool} {i o : Nat} (h : Rr w P s ere i o) (hi : i ≤ s.size) (hs : s.size ≤ 1000000) :
  Calls Tryz.prog 242 #[.pointer (some ⟨P, 0, none⟩), .func (.func 243) #[] #[]] w fun e w' => e = .returned (.tuple #[.string (partT slE s i), .bool (partB slE s i)]) ∧ Rr w' P s ere (partI slE s i) o ∧ Ks P w w' := by
 have R := hid h
 have hP : P < w.heap.size := h.lt
 clear h
 have es : ∀ w, (Instr.slice 9 (.string s) (some (.int .i64 (i : Int))) none none).run Tryz.prog w = .ok (.string (s.extract i s.size)) w := fun w => run_from s i hi w
 obtain ⟨t, ht⟩ : ∃ t, s.extract i s.size = t := ⟨_, rfl⟩
 have htz : t.size + i = s.size := by rw [← ht]; exact ext_szi s i hi
 obtain ⟨z, hz⟩ : ∃ z, slE t = z := ⟨_, rfl⟩
 have C : Hid (∀ w, Calls Tryz.prog 243 #[.string t] w fun e w' => e = .returned (.int .i64 (z : Int)) ∧ w' = w) := fun w => by rw [← hz]; exact slE_any t (by omega) w
 have hle : z ≤ t.size + 1 := by rw [← hz]; exact slE_le t
 rw [ht] at es
 have EB : Hid (partB slE s i = decide (z < t.size)) := by show _ = _; unfold partB; rw [ht, hz]
 have ET : Hid (partT slE s i = if partB slE s i then t.extract 0 z else ⟨#[]⟩) := by show _ = _; unfold partT; rw [ht, hz]
 have EI : Hid (partI slE s i = if partB slE s i then i + (z + 1) else s.size) := by show _ = _; unfold partI; rw [ht, hz]
 clear ht hz
 have p0 := R.out.cells.1
 have p2 := R.out.cells.2.2.1
 go_enter Tryz.func242, Tryz.ntmps242
 go_upto_region 1 with fail
 go_quiet (fail)
 go_upto_region 2 with fail
 refine opq (fun W => Kp w W) ((Kp.refl _).drewN _) ?_
 intro W0 k0
 have R0 := hid (R.out.kp k0)
 have K0 := hid k0
 clear k0 p0 p2
 go_wp2_with fail
 refine (C.out _).mono ?_
 rintro e w1 ⟨rfl, rfl⟩
 have hP0 : P < w1.heap.size := R0.out.lt
 have p0 := R0.out.cells.1
 have p2 := R0.out.cells.2.2.1
 have fp2 := bl_frozen R0.out.b 2
 by_cases hlt : z < t.size
 ·
  have g : ¬ (z : Int) ≥ (t.size : Int) := by omega
  have EB2 : Hid (partB slE s i = true) := by show _ = _; rw [EB.out, decide_eq_true hlt]
  have es2 : ∀ w, (Instr.slice 9 (.string t) none (some (.int .i64 (z : Int))) none).run Tryz.prog w = .ok (.string (t.extract 0 z)) w := fun w => run_to t z (by omega) w
  have g1 : IntKind.i64.wrap ((z : Int) + 1) = (z : Int) + 1 := by rw [IntKind.wrap_i64]; omega
  have g2 : IntKind.i64.wrap ((i : Int) + ((z : Int) + 1)) = (i : Int) + ((z : Int) + 1) := by rw [IntKind.wrap_i64]; omega
  clear EB es hlt
  go_wp2_with fail
  refine bodyPost_ret (results_tmp2 rfl _ _ _) rfl ⟨by rw [ET.out, EB2.out]; rfl, by rw [EI.out, EB2.out, if_pos rfl]; exact R0.out.at (i + (z + 1)), (K0.out.ks (Nat.le_of_lt hP)).set 2 _⟩
 ·
  have g : (z : Int) ≥ (t.size : Int) := by omega
  have EB2 : Hid (partB slE s i = false) := by show _ = _; rw [EB.out, decide_eq_false hlt]
  clear EB es hlt
  go_wp2_with fail
  refine bodyPost_ret (results_tmp2 rfl _ _ _) rfl ⟨by rw [ET.out, EB2.out]; rfl, by rw [EI.out, EB2.out, if_neg (by decide)]; exact R0.out.at s.size, (K0.out.ks (Nat.le_of_lt hP)).set 2 _⟩
theorem partR_any {w : World} {P : Nat} {s : ByteArray} {ere : Bool} {i o : Nat} (h : Rr w P s ere i o) (hi : i ≤ s.size) (hs : s.size ≤ 1000000) :
  Calls Tryz.prog 242 #[.pointer (some ⟨P, 0, none⟩), .func (.func 244) #[] #[]] w fun e w' => e = .returned (.tuple #[.string (partT slR s i), .bool (partB slR s i)]) ∧ Rr w' P s ere (partI slR s i) o ∧ Ks P w w' := by
 have R := hid h
 have hP : P < w.heap.size := h.lt
 clear h
 have es : ∀ w, (Instr.slice 9 (.string s) (some (.int .i64 (i : Int))) none none).run Tryz.prog w = .ok (.string (s.extract i s.size)) w := fun w => run_from s i hi w
 obtain ⟨t, ht⟩ : ∃ t, s.extract i s.size = t := ⟨_, rfl⟩
 have htz : t.size + i = s.size := by rw [← ht]; exact ext_szi s i hi
 obtain ⟨z, hz⟩ : ∃ z, slR t = z := ⟨_, rfl⟩
 have C : Hid (∀ w, Calls Tryz.prog 244 #[.string t] w fun e w' => e = .returned (.int .i64 (z : Int)) ∧ w' = w) := fun w => by rw [← hz]; exact slR_any t (by omega) w
 have hle : z ≤ t.size + 1 := by rw [← hz]; exact slR_le t
 rw [ht] at es
 have EB : Hid (partB slR s i = decide (z < t.size)) := by show _ = _; unfold partB; rw [ht, hz]
 have ET : Hid (partT slR s i = if partB slR s i then t.extract 0 z else ⟨#[]⟩) := by show _ = _; unfold partT; rw [ht, hz]
 have EI : Hid (partI slR s i = if partB slR s i then i + (z + 1) else s.size) := by show _ = _; unfold partI; rw [ht, hz]
 clear ht hz
 have p0 := R.out.cells.1
 have p2 := R.out.cells.2.2.1
 go_enter Tryz.func242, Tryz.ntmps242
 go_upto_region 1 with fail
 go_quiet (fail)
 go_upto_region 2 with fail
 refine opq (fun W => Kp w W) ((Kp.refl _).drewN _) ?_
 intro W0 k0
 have R0 := hid (R.out.kp k0)
 have K0 := hid k0
 clear k0 p0 p2
 go_wp2_with fail
 refine (C.out _).mono ?_
 rintro e w1 ⟨rfl, rfl⟩
 have hP0 : P < w1.heap.size := R0.out.lt
 have p0 := R0.out.cells.1
 have p2 := R0.out.cells.2.2.1
 have fp2 := bl_frozen R0.out.b 2
 by_cases hlt : z < t.size
 ·
  have g : ¬ (z : Int) ≥ (t.size : Int) := by omega
  have EB2 : Hid (partB slR s i = true) := by show _ = _; rw [EB.out, decide_eq_true hlt]
  have es2 : ∀ w, (Instr.slice 9 (.string t) none (some (.int .i64 (z : Int))) none).run Tryz.prog w = .ok (.string (t.extract 0 z)) w := fun w => run_to t z (by omega) w
  have g1 : IntKind.i64.wrap ((z : Int) + 1) = (z : Int) + 1 := by rw [IntKind.wrap_i64]; omega
  have g2 : IntKind.i64.wrap ((i : Int) + ((z : Int) + 1)) = (i : Int) + ((z : Int) + 1) := by rw [IntKind.wrap_i64]; omega
  clear EB es hlt
  go_wp2_with fail
  refine bodyPost_ret (results_tmp2 rfl _ _ _) rfl ⟨by rw [ET.out, EB2.out]; rfl, by rw [EI.out, EB2.out, if_pos rfl]; exact R0.out.at (i + (z + 1)), (K0.out.ks (Nat.le_of_lt hP)).set 2 _⟩
 ·
  have g : (z : Int) ≥ (t.size : Int) := by omega
  have EB2 : Hid (partB slR s i = false) := by show _ = _; rw [EB.out, decide_eq_false hlt]
  clear EB es hlt
  go_wp2_with fail
  refine bodyPost_ret (results_tmp2 rfl _ _ _) rfl ⟨by rw [ET.out, EB2.out]; rfl, by rw [EI.out, EB2.out, if_neg (by decide)]; exact R0.out.at s.size, (K0.out.ks (Nat.le_of_lt hP)).set 2 _⟩
end Go.Proofs.YtigdmebijbaofaaGreatDoor
