/-
  Texts of this claim: RdL, RdX, RdM.
-/
import Derived.Test.YtigdmebijbaofaaGreatDoorReadDM4
import Derived.Test.YtigdmebijbaofaaGreatDoorReadDM29
import Derived.Test.YtigdmebijbaofaaGreatDoorReadDM28
import Derived.Test.YtigdmebijbaofaaGreatDoorReadDM23
import Derived.Test.YtigdmebijbaofaaGreatDoorReadDM25
/-! ### RdL -/
namespace Go.Proofs.YtigdmebijbaofaaGreatDoor
set_option maxHeartbeats 2000000
set_option maxRecDepth 100000
open Go.RowKit
structure K2 (P C : Nat) (w w' : World) : Prop where
 lo : Below P w w'
 block : ∀ b, b < w.heap.size → b ≠ P → b ≠ C → w'.heap[b]? = w.heap[b]?
theorem K2.refl (P C : Nat) (w : World) : K2 P C w w := ⟨Below.refl _ _, fun _ _ _ _ => rfl⟩
theorem K2.size {P C : Nat} {a b : World} (h : K2 P C a b) : a.heap.size ≤ b.heap.size := h.lo.size
theorem K2.trans {P C : Nat} {a b c : World} (h : K2 P C a b) (g : K2 P C b c) : K2 P C a c := ⟨h.lo.trans g.lo, fun k hk h1 h2 => (g.block k (Nat.lt_of_lt_of_le hk h.size) h1 h2).trans (h.block k hk h1 h2)⟩
theorem Ks.k2 {P : Nat} {a b : World} (h : Ks P a b) (C : Nat) : K2 P C a b := ⟨h.lo, fun k hk h1 _ => h.block k hk h1⟩
theorem Ks.k2c {P C : Nat} {a b : World} (h : Ks C a b) (hP : P < C) : K2 P C a b := ⟨Below.mono h.lo (Nat.le_of_lt hP), fun k hk _ h2 => h.block k hk h2⟩
theorem Kp.k2 {P : Nat} {a b : World} (h : Kp a b) (hP : P < a.heap.size) (C : Nat) : K2 P C a b := (h.ks (Nat.le_of_lt hP)).k2 C
theorem Ks.k2o {P C : Nat} {a b c : World} (h : Ks P a b) (g : K2 P C b c) (hC : a.heap.size ≤ C) : Ks P a c :=
 ⟨h.lo.trans g.lo, fun k hk hne => (g.block k (Nat.lt_of_lt_of_le hk h.size) hne (by omega)).trans (h.block k hk hne)⟩
structure CW (C : Nat) (w : World) (ok : Bool) (c : Cv) : Prop where
 ex : ∃ c', w.heap[C]? = some (Cv.o c') ∧ (ok = true → c' = c)
theorem Is.k2 {P C : Nat} {w w' : World} {ok : Nat → Prop} {t : Rx} {v : Value} (h : Is w ok t v) (k : K2 P C w w') (hP : ∀ b, ok b → b < w.heap.size → b ≠ P ∧ b ≠ C) : Is w' ok t v :=
 Is.turn k.size (fun b hb hl => ⟨hb, k.block b hl (hP b hb hl).1 (hP b hb hl).2⟩) t v h
theorem AIs.k2 {P C : Nat} {w w' : World} {ok : Nat → Prop} {a : Av} {p : PA} (h : AIs w ok a p) (k : K2 P C w w') (hP : ∀ b, ok b → b < w.heap.size → b ≠ P ∧ b ≠ C) : AIs w' ok a p := ⟨h.k, h.ln, h.is.k2 k hP⟩
theorem wpList_store_c_tx {ops : Array Oper} {rest : List Oper} {op : Oper} {a : Act} {W : World} {Q : Exit → Act → World → Prop} {p q : Operand} (hgd : op.guard = none) (ho : op.op = .store 9 p q) {B : Nat} (hx : a.eval p = .pointer (some ⟨B, 24, none⟩))
  (x : ByteArray) (hy : a.eval q = .string x) {c : Cv} (h : W.heap[B]? = some c.o)
  (hk : ∀ w', w'.heap[B]? = some (Cv.o { c with tx := x }) → Ks B W w' → wpList Tryz.prog ops Q rest (a.put op.dst undef) w') : wpList Tryz.prog ops Q (op :: rest) a W :=
 wpList_store_cell hgd ho hx hy h (by show 24 < 40; omega) rfl rfl (by kernel_rfl) (fun w' h' k' => hk w' (by simp only [List.setIfInBounds_toArray, List.set_cons_zero, List.set_cons_succ] at h'; exact h') k')
theorem wpList_store_c_nt {ops : Array Oper} {rest : List Oper} {op : Oper} {a : Act} {W : World} {Q : Exit → Act → World → Prop} {p q : Operand} (hgd : op.guard = none) (ho : op.op = .store 4 p q) {B : Nat} (hx : a.eval p = .pointer (some ⟨B, 22, none⟩))
  (x : Bool) (hy : a.eval q = .bool x) {c : Cv} (h : W.heap[B]? = some c.o)
  (hk : ∀ w', w'.heap[B]? = some (Cv.o { c with nt := x }) → Ks B W w' → wpList Tryz.prog ops Q rest (a.put op.dst undef) w') : wpList Tryz.prog ops Q (op :: rest) a W :=
 wpList_store_cell hgd ho hx hy h (by show 22 < 40; omega) rfl rfl (by kernel_rfl) (fun w' h' k' => hk w' (by simp only [List.setIfInBounds_toArray, List.set_cons_zero, List.set_cons_succ] at h'; exact h') k')
theorem wpList_store_c_op {ops : Array Oper} {rest : List Oper} {op : Oper} {a : Act} {W : World} {Q : Exit → Act → World → Prop} {p q : Operand} (hgd : op.guard = none) (ho : op.op = .store 5 p q) {B : Nat} (hx : a.eval p = .pointer (some ⟨B, 23, none⟩))
  (x : Nat) (hy : a.eval q = .int .u8 (x : Int)) {c : Cv} (h : W.heap[B]? = some c.o)
  (hk : ∀ w', w'.heap[B]? = some (Cv.o { c with op := x }) → Ks B W w' → wpList Tryz.prog ops Q rest (a.put op.dst undef) w') : wpList Tryz.prog ops Q (op :: rest) a W :=
 wpList_store_cell hgd ho hx hy h (by show 23 < 40; omega) rfl rfl (by kernel_rfl) (fun w' h' k' => hk w' (by simp only [List.setIfInBounds_toArray, List.set_cons_zero, List.set_cons_succ] at h'; exact h') k')
theorem wpList_store_c_pc {ops : Array Oper} {rest : List Oper} {op : Oper} {a : Act} {W : World} {Q : Exit → Act → World → Prop} {p q : Operand} (hgd : op.guard = none) (ho : op.op = .store 35 p q) {B : Nat} (hx : a.eval p = .pointer (some ⟨B, 34, none⟩))
  (x : Option Addr) (l k : Nat) (hy : a.eval q = .slice x l k) {c : Cv} (h : W.heap[B]? = some c.o)
  (hk : ∀ w', w'.heap[B]? = some (Cv.o { c with pa := x, pl := l, pc := k }) → Ks B W w' → wpList Tryz.prog ops Q rest (a.put op.dst undef) w') : wpList Tryz.prog ops Q (op :: rest) a W :=
 wpList_store_cell hgd ho hx hy h (by show 34 < 40; omega) rfl rfl (by kernel_rfl) (fun w' h' k' => hk w' (by simp only [List.setIfInBounds_toArray, List.set_cons_zero, List.set_cons_succ] at h'; exact h') k')
theorem wpList_store_c_y {ops : Array Oper} {rest : List Oper} {op : Oper} {a : Act} {W : World} {Q : Exit → Act → World → Prop} {p q : Operand} (hgd : op.guard = none) (ho : op.op = .store 9 p q) {B : Nat} (hx : a.eval p = .pointer (some ⟨B, 38, none⟩))
  (x : ByteArray) (hy : a.eval q = .string x) {c : Cv} (h : W.heap[B]? = some c.o)
  (hk : ∀ w', w'.heap[B]? = some (Cv.o { c with y := x }) → Ks B W w' → wpList Tryz.prog ops Q rest (a.put op.dst undef) w') : wpList Tryz.prog ops Q (op :: rest) a W :=
 wpList_store_cell hgd ho hx hy h (by show 38 < 40; omega) rfl rfl (by kernel_rfl) (fun w' h' k' => hk w' (by simp only [List.setIfInBounds_toArray, List.set_cons_zero, List.set_cons_succ] at h'; exact h') k')
theorem wpList_store_c_z {ops : Array Oper} {rest : List Oper} {op : Oper} {a : Act} {W : World} {Q : Exit → Act → World → Prop} {p q : Operand} (hgd : op.guard = none) (ho : op.op = .store 9 p q) {B : Nat} (hx : a.eval p = .pointer (some ⟨B, 39, none⟩))
  (x : ByteArray) (hy : a.eval q = .string x) {c : Cv} (h : W.heap[B]? = some c.o)
  (hk : ∀ w', w'.heap[B]? = some (Cv.o { c with z := x }) → Ks B W w' → wpList Tryz.prog ops Q rest (a.put op.dst undef) w') : wpList Tryz.prog ops Q (op :: rest) a W :=
 wpList_store_cell hgd ho hx hy h (by show 39 < 40; omega) rfl rfl (by kernel_rfl) (fun w' h' k' => hk w' (by simp only [List.setIfInBounds_toArray, List.set_cons_zero, List.set_cons_succ] at h'; exact h') k')
def pTab (s : ByteArray) (i : Nat) : ByteArray × ByteArray × Bool × Nat :=
 if tkN s i 47 then
  if (pRowS s (i + 1)).2.1 then ((pRowS s (i + 1)).1, (pRowS s (pRowS s (i + 1)).2.2).1, (pRowS s (pRowS s (i + 1)).2.2).2.1, (pRowS s (pRowS s (i + 1)).2.2).2.2)
  else (bs [], bs [], false, (pRowS s (i + 1)).2.2)
 else (bs [], bs [], false, i)
theorem pTab_le (s : ByteArray) (i : Nat) (hi : i ≤ s.size) : i ≤ (pTab s i).2.2.2 ∧ (pTab s i).2.2.2 ≤ s.size ∧ (pTab s i).1.size ≤ s.size + 1 ∧ (pTab s i).2.1.size ≤ s.size + 1 := by
 unfold pTab
 split
 ·
  rename_i h
  have h1 := pRowS_le s (i + 1) (tk_lt h)
  split
  ·
   have h2 := pRowS_le s (pRowS s (i + 1)).2.2 h1.2.1
   exact ⟨Nat.le_trans (Nat.le_trans (Nat.le_succ _) h1.1) h2.1, h2.2.1, h1.2.2, h2.2.2⟩
  ·
   exact ⟨Nat.le_trans (Nat.le_succ _) h1.1, h1.2.1, Nat.zero_le _, Nat.zero_le _⟩
 ·
  exact ⟨Nat.le_refl _, hi, Nat.zero_le _, Nat.zero_le _⟩
theorem table_any2 {w : World} {P C : Nat} {s : ByteArray} {ere : Bool} {i o : Nat} {c : Cv} (h : Rr w P s ere i o) (hC : w.heap[C]? = some c.o) (hPC : P < C) (hi : i ≤ s.size) (hs : s.size ≤ 1000000) :
  Calls Tryz.prog 199 #[.pointer (some ⟨P, 0, none⟩), .pointer (some ⟨C, 0, none⟩)] w fun e w' => e = .returned (.bool (pTab s i).2.2.1) ∧ CW C w' (pTab s i).2.2.1 { c with y := (pTab s i).1, z := (pTab s i).2.1 } ∧ Rr w' P s ere (pTab s i).2.2.2 o ∧ K2 P C w w' := by
 have R := hid h
 have BC := hid hC
 have hP : P < w.heap.size := h.lt
 clear h hC
 obtain ⟨x, hx⟩ : ∃ x, pTab s i = x := ⟨_, rfl⟩
 rw [hx]
 have HX := hid hx
 unfold pTab at HX
 clear hx
 go_enter Tryz.func199, Tryz.ntmps199
 obtain ⟨q, hq⟩ : ∃ q, tkN s i 47 = q := ⟨_, rfl⟩
 have htq : tkI s i 47 = if q then i + 1 else i := by unfold tkI; rw [hq]
 have hlq : q = true → i + 1 ≤ s.size := fun h => tk_lt (hq.trans h)
 have T1 := hid (fun w h => tk_any (w := w) (P := P) (s := s) (ere := ere) (o := o) (i := i) 47 h (by omega) hs)
 rw [hq, htq] at T1
 clear htq
 go_wp2_with fail
 refine (T1.out _ R.out).mono ?_
 rintro e w0 ⟨rfl, r1, k1⟩
 have R0 := hid (r1)
 have B0 := hid (bl_ks BC.out (by omega) k1)
 have K0 := hid (k1.k2 C)
 clear r1 k1 R BC T1
 rw [hq] at HX
 clear hq
 cases q with
 | false =>
  obtain rfl : ((bs [], bs [], false, i) : ByteArray × ByteArray × Bool × Nat) = x := HX.out
  go_wp2_with fail
  go_ret
  exact ⟨rfl, ⟨⟨c, B0.out, fun h => by cases h⟩⟩, R0.out, K0.out⟩
 | true =>
  obtain ⟨y, ok, j, hy⟩ : ∃ y ok j, pRowS s (i + 1) = (y, ok, j) := ⟨_, _, _, rfl⟩
  have hyl := pRowS_le s (i + 1) (hlq rfl)
  rw [hy] at hyl
  have hj : j ≤ s.size := hyl.2.1
  have HX1 : Hid ((if ok then (y, (pRowS s j).1, (pRowS s j).2.1, (pRowS s j).2.2) else (bs [], bs [], false, j)) = x) := by have := HX.out; rw [if_pos rfl, hy] at this; exact this
  have E1 := hid (fun w h => rowr_any (w := w) (P := P) (ere := ere) (o := o) h (hlq rfl) hs)
  rw [hy] at E1
  have R1 : Hid (Rr w0 P s ere (i + 1) o) := R0.out
  clear hy hyl HX R0
  go_wp2_with fail
  refine (E1.out _ R1.out).mono ?_
  rintro e w1 ⟨rfl, r1, k1⟩
  have R2 := hid (r1)
  have B2 := hid (bl_ks B0.out (by omega) k1)
  have K2 := hid (K0.out.trans (k1.k2 C))
  clear r1 k1 R1 B0 K0 E1
  go_upto_region 5 with (refine wpList_store_c_y rfl rfl rfl y rfl B2.out ?_; intro Wa x1 x2; have Waa := hid x1; have Wak := hid x2; clear x1 x2; simp only [Act.put])
  have R3 := hid (R2.out.ks Wak.out hPC)
  have K3 := hid (K2.out.trans (Wak.out.k2c hPC))
  clear R2 K2 Wak B2
  cases ok with
  | false =>
   obtain rfl : ((bs [], bs [], false, j) : ByteArray × ByteArray × Bool × Nat) = x := HX1.out
   go_wp2_with fail
   go_ret
   exact ⟨rfl, ⟨⟨_, Waa.out, fun h => by cases h⟩⟩, R3.out, K3.out⟩
  | true =>
   obtain ⟨z, ok2, j2, hz⟩ : ∃ z ok2 j2, pRowS s j = (z, ok2, j2) := ⟨_, _, _, rfl⟩
   have HX2 : Hid (((y, z, ok2, j2) : ByteArray × ByteArray × Bool × Nat) = x) := by have := HX1.out; rw [if_pos rfl, hz] at this; exact this
   have E2 := hid (fun w h => rowr_any (w := w) (P := P) (ere := ere) (o := o) h hj hs)
   rw [hz] at E2
   have R4 : Hid (Rr Wa P s ere j o) := R3.out
   clear hz HX1 R3
   go_wp2_with fail
   refine (E2.out _ R4.out).mono ?_
   rintro e w5 ⟨rfl, r1, k1⟩
   have R5 := hid (r1)
   have B5 := hid (bl_ks Waa.out (by omega) k1)
   have K5 := hid (K3.out.trans (k1.k2 C))
   clear r1 k1 R4 Waa K3 E2
   obtain rfl := HX2.out
   go_upto_region 8 with (refine wpList_store_c_z rfl rfl rfl z rfl B5.out ?_; intro Wb x1 x2; have Wba := hid x1; have Wbk := hid x2; clear x1 x2; simp only [Act.put])
   go_wp2_with fail
   go_ret
   exact ⟨rfl, ⟨⟨_, Wba.out, fun _ => rfl⟩⟩, R5.out.ks Wbk.out hPC, K5.out.trans (Wbk.out.k2c hPC)⟩
theorem bl_c_g {w : World} {C : Nat} {c : Cv} (h : w.heap[C]? = some c.o) (x : Bool) : (w.setCell ⟨C, 35, none⟩ (.bool x)).heap[C]? = some (Cv.o { c with g := x }) := by
 have := bl_put (j := 35) h (.bool x)
 simp only [List.setIfInBounds_toArray, List.set_cons_zero, List.set_cons_succ] at this
 exact this
theorem bl_c_s {w : World} {C : Nat} {c : Cv} (h : w.heap[C]? = some c.o) (x : Bool) : (w.setCell ⟨C, 36, none⟩ (.bool x)).heap[C]? = some (Cv.o { c with s := x }) := by
 have := bl_put (j := 36) h (.bool x)
 simp only [List.setIfInBounds_toArray, List.set_cons_zero, List.set_cons_succ] at this
 exact this
theorem bl_c_nth {w : World} {C : Nat} {c : Cv} (h : w.heap[C]? = some c.o) (x : Int) : (w.setCell ⟨C, 37, none⟩ (.int .i64 x)).heap[C]? = some (Cv.o { c with nth := x }) := by
 have := bl_put (j := 37) h (.int .i64 x)
 simp only [List.setIfInBounds_toArray, List.set_cons_zero, List.set_cons_succ] at this
 exact this
theorem bl_c_tx {w : World} {C : Nat} {c : Cv} (h : w.heap[C]? = some c.o) (x : ByteArray) : (w.setCell ⟨C, 24, none⟩ (.string x)).heap[C]? = some (Cv.o { c with tx := x }) := by
 have := bl_put (j := 24) h (.string x)
 simp only [List.setIfInBounds_toArray, List.set_cons_zero, List.set_cons_succ] at this
 exact this
def pRepl (s : ByteArray) (i : Nat) (G : Int) : List Pc × Bool × Nat :=
 if partB slR s i then
  if (pTpl (partT slR s i) G).2.2 = 0 then ((pTpl (partT slR s i) G).1, true, partI slR s i) else ([], false, i + (pTpl (partT slR s i) G).2.1)
 else ([], false, partI slR s i)
theorem pRepl_le (s : ByteArray) (i : Nat) (G : Int) (hi : i ≤ s.size) : i ≤ (pRepl s i G).2.2 ∧ (pRepl s i G).2.2 ≤ s.size := by
 have h1 := partI_le slR s i hi
 have h2 := partT_le slR s i hi
 have h3 := pTpl_le (partT slR s i) G
 unfold pRepl
 generalize partI slR s i = j at *
 generalize pTpl (partT slR s i) G = p at *
 obtain ⟨T, n, m⟩ := p
 generalize partT slR s i = t at *
 generalize partB slR s i = q at *
 dsimp only at h3 ⊢
 cases q
 ·
  exact h1
 ·
  rw [if_pos rfl]
  split
  ·
   exact h1
  ·
   exact ⟨by show i ≤ i + n; omega, by show i + n ≤ s.size; omega⟩
structure RpD (x : List Pc × Bool × Nat) (P C : Nat) (s : ByteArray) (ere : Bool) (o : Nat) (c : Cv) (w : World) (e : Ending) (w' : World) : Prop where
 ex : e = .returned (.bool x.2.1) ∧ ∃ ad l k, CW C w' x.2.1 { c with pa := ad, pl := l, pc := k } ∧ PcIs (fun b => w.heap.size ≤ b) w' x.1 ad l k ∧ Rr w' P s ere x.2.2 o ∧ K2 P C w w'
theorem repl_any {w : World} {P C : Nat} {s : ByteArray} {ere : Bool} {i o : Nat} {c : Cv} (h : Rr w P s ere i o) (hC : w.heap[C]? = some c.o) (hPC : P < C) (T : Rx) (hT : ∀ w0, K2 P C w w0 → ∃ ok, Is w0 ok T c.r.v) (hO : RxOk T) (hG : grp T ≤ 1000000) (hi : i ≤ s.size) (hs : s.size ≤ 100000) :
  Calls Tryz.prog 225 #[.pointer (some ⟨P, 0, none⟩), .pointer (some ⟨C, 0, none⟩)] w fun e w' => RpD (pRepl s i (grp T)) P C s ere o c w e w' := by
 have R := hid h
 have BC := hid hC
 have hP : P < w.heap.size := h.lt
 have hCw : C < w.heap.size := bl_lt hC
 clear h hC
 obtain ⟨x, hx⟩ : ∃ x, pRepl s i (grp T) = x := ⟨_, rfl⟩
 rw [hx]
 obtain ⟨t, ht⟩ : ∃ t, partT slR s i = t := ⟨_, rfl⟩
 obtain ⟨q, hq⟩ : ∃ q, partB slR s i = q := ⟨_, rfl⟩
 obtain ⟨j, hj⟩ : ∃ j, partI slR s i = j := ⟨_, rfl⟩
 have htl : t.size ≤ s.size - i := by rw [← ht]; exact partT_le slR s i hi
 have C1 : Hid (∀ w, Rr w P s ere i o → Calls Tryz.prog 242 #[.pointer (some ⟨P, 0, none⟩), .func (.func 244) #[] #[]] w fun e w' => e = .returned (.tuple #[.string t, .bool q]) ∧ Rr w' P s ere j o ∧ Ks P w w') := fun w h => by rw [← ht, ← hq, ← hj]; exact partR_any h hi (by omega)
 obtain ⟨G, hGG⟩ : ∃ G, grp T = G := ⟨_, rfl⟩
 have C2 : Hid (∀ w0, K2 P C w w0 → Calls Tryz.prog 140 #[c.r.v] w0 fun e w' => e = .returned (.int .i64 ((G : Nat) : Int)) ∧ Kp w0 w') := fun w0 k => by obtain ⟨ok, h⟩ := hT w0 k; rw [← hGG]; exact (Groups_any T hG (slim_of_ok T hO)).all _ _ w0 h
 rw [hGG] at hx
 obtain ⟨Pl, n, m, hp⟩ : ∃ Pl n m, pTpl t G = (Pl, n, m) := ⟨_, _, _, rfl⟩
 have hn : n ≤ t.size := by have := pTpl_le t G; rw [hp] at this; exact this
 have C3 : Hid (∀ w, Calls Tryz.prog 245 #[.string t, .int .i64 ((G : Nat) : Int)] w fun e w' => TpD (Pl, n, m) w e w') := fun w => by have := tparse_any t G (by omega) w; rw [hp] at this; exact this
 have HX : Hid ((if q = true then (if m = 0 then (Pl, true, j) else ([], false, i + n)) else ([], false, j)) = x) := by
  show _ = _
  rw [← hx]
  unfold pRepl
  rw [hq, hj, ht, hp]
 clear hx ht hq hj hp hT hGG
 have p2 := R.out.cells.2.2.1
 go_enter Tryz.func225, Tryz.ntmps225
 go_wp2_with fail
 refine (C1.out _ R.out).mono ?_
 rintro e w1 ⟨rfl, r1, k1⟩
 have R1 := hid (r1)
 have B1 := hid (bl_ks BC.out (by omega) k1)
 have K1 := hid (k1.k2 C)
 clear r1 k1 R BC C1 p2
 cases q with
 | false =>
  obtain rfl : (([], false, j) : List Pc × Bool × Nat) = x := HX.out
  go_wp2_with fail
  refine bodyPost_ret (results_tmp rfl _ _ _) rfl ⟨rfl, none, 0, 0, ⟨c, B1.out, fun h => by cases h⟩, PcIs.nil _ _, R1.out, K1.out⟩
 | true =>
  have HX2 : Hid ((if m = 0 then (Pl, true, j) else ([], false, i + n)) = x) := HX.out
  clear HX
  have q0 := bl_cell (B1.out) 25 _ rfl
  have q1 := bl_cell (B1.out) 26 _ rfl
  have q2 := bl_cell (B1.out) 27 _ rfl
  have q3 := bl_cell (B1.out) 28 _ rfl
  have q4 := bl_cell (B1.out) 29 _ rfl
  have q5 := bl_cell (B1.out) 30 _ rfl
  have q6 := bl_cell (B1.out) 31 _ rfl
  have q7 := bl_cell (B1.out) 32 _ rfl
  have q8 := bl_cell (B1.out) 33 _ rfl
  go_wp2_with fail
  clear q0 q1 q2 q3 q4 q5 q6 q7 q8
  refine (C2.out _ K1.out).mono ?_
  rintro e w2 ⟨rfl, k1⟩
  have R2 := hid (R1.out.kp k1)
  have B2 := hid (bl_kp B1.out k1)
  have K2' := hid (K1.out.trans (k1.k2 R1.out.lt C))
  clear k1 R1 B1 K1 C2
  go_wp2_with fail
  refine (C3.out _).mono ?_
  rintro e w3 ⟨ad, l, k, rfl, hp, k1⟩
  have R3 := hid (R2.out.kp k1)
  have B3 := hid (bl_kp B2.out k1)
  have K3 := hid (K2'.out.trans (k1.k2 R2.out.lt C))
  have P3 := hid (hp.weak (fun b hb => (Nat.le_trans K2'.out.size hb : w.heap.size ≤ b)))
  clear k1 hp R2 B2 K2' C3
  by_cases hm : m = 0
  ·
   subst hm
   obtain rfl : ((Pl, true, j) : List Pc × Bool × Nat) = x := HX2.out
   clear HX2
   go_upto_region 10 with (refine wpList_store_c_pc rfl rfl rfl ad l k rfl B3.out ?_; intro Wa x1 x2; have Waa := hid x1; have Wak := hid x2; clear x1 x2; simp only [Act.put])
   go_wp2_with fail
   refine bodyPost_ret (results_tmp rfl _ _ _) rfl ⟨rfl, ad, l, k, ⟨_, Waa.out, fun _ => rfl⟩, P3.out.ks Wak.out (fun b hb => by omega), R3.out.ks Wak.out hPC, K3.out.trans (Wak.out.k2c hPC)⟩
  ·
   have gm : ((m : Int) != 0) = true := by simp; omega
   obtain rfl : (([], false, i + n) : List Pc × Bool × Nat) = x := by have := HX2.out; rw [if_neg hm] at this; exact this
   have p2 := R3.out.cells.2.2.1
   have fp2 := bl_frozen R3.out.b 2
   have gi : IntKind.i64.wrap ((i : Int) + (n : Int)) = (i : Int) + (n : Int) := by rw [IntKind.wrap_i64]; omega
   clear HX2 hm
   go_wp2_with fail
   refine bodyPost_ret (results_tmp rfl _ _ _) rfl ⟨rfl, none, 0, 0, ⟨_, bl_set B3.out (by omega) _, fun h => by cases h⟩, PcIs.nil _ _, R3.out.at (i + n), K3.out.trans (((Ks.refl P _).set 2 _).k2 C)⟩
theorem byte_of (s : ByteArray) (j : Nat) (h : j < s.size) : (s.extract j (j + 1)).data.toList = [UInt8.ofNat (ch s j)] := by
 have h' : j < s.data.size := h
 apply List.ext_getElem
 ·
  simp
  omega
 ·
  intro n h1 h2
  obtain rfl : n = 0 := by simp at h2; omega
  simp [ch, Array.getElem?_eq_getElem h']
theorem labB_one (s : ByteArray) (j : Nat) (h : j < s.size) : labB (s.extract j (j + 1)) = lab1 (ch s j) := by
 have hz : (s.extract j (j + 1)).size = 1 := by rw [ByteArray.size_extract]; omega
 unfold labB
 rw [hz, byte_of s j h]
 have : (UInt8.ofNat (ch s j)).toNat = ch s j := by have := ch_lt s j; simp; omega
 simp [this]
theorem run_mid (s : ByteArray) (i j : Nat) (hi : i ≤ j) (hj : j ≤ s.size) (w : World) : (Instr.slice 9 (.string s) (some (.int .i64 (i : Int))) (some (.int .i64 (j : Int))) none).run Tryz.prog w = .ok (.string (s.extract i j)) w := by
 rw [run_slice_string_if w 9 s .i64 .i64 (i : Int) (j : Int) (by kernel_rfl), if_pos (by omega), if_pos (by omega), Int.toNat_natCast, Int.toNat_natCast]
def labF (s : ByteArray) : Nat → Nat → Nat
 | 0, i => i
 | f + 1, i => if decide (i < s.size) && lab1 (ch s i) then labF s f (i + 1) else i
def pLab (s : ByteArray) (i : Nat) : ByteArray × Nat := (s.extract (skipN blankL s i) (labF s (s.size + 1) (skipN blankL s i)), labF s (s.size + 1) (skipN blankL s i))
theorem labF_le (s : ByteArray) : ∀ f i, i ≤ s.size → i ≤ labF s f i ∧ labF s f i ≤ s.size
 | 0, i, h => ⟨Nat.le_refl _, h⟩
 | f + 1, i, h => by
  unfold labF
  split
  ·
   rename_i hc
   have h1 : i < s.size := by simp at hc; exact hc.1
   have := labF_le s f (i + 1) h1
   omega
  ·
   exact ⟨Nat.le_refl _, h⟩
theorem pLab_le (s : ByteArray) (i : Nat) (hi : i ≤ s.size) : i ≤ (pLab s i).2 ∧ (pLab s i).2 ≤ s.size ∧ (pLab s i).1.size ≤ s.size := by
 have h1 := skipN_le blankL s i hi
 have h2 := labF_le s (s.size + 1) (skipN blankL s i) h1.2
 refine ⟨Nat.le_trans h1.1 h2.1, h2.2, ?_⟩
 unfold pLab
 rw [ByteArray.size_extract]
 omega
theorem labr_any {w : World} {P : Nat} {s : ByteArray} {ere : Bool} {i o : Nat} (h : Rr w P s ere i o) (hi : i ≤ s.size) (hs : s.size ≤ 1000000) :
  Calls Tryz.prog 197 #[.pointer (some ⟨P, 0, none⟩)] w fun e w' => e = .returned (.string (pLab s i).1) ∧ Rr w' P s ere (pLab s i).2 o ∧ Ks P w w' := by
 have R := hid h
 have hP : P < w.heap.size := h.lt
 clear h
 obtain ⟨f, hf⟩ : ∃ f, skipN blankL s i = f := ⟨_, rfl⟩
 have hfl := skipN_le blankL s i hi
 rw [hf] at hfl
 obtain ⟨hfl1, hfl2⟩ := hfl
 obtain ⟨x, hx⟩ : ∃ x, labF s (s.size + 1) f = x := ⟨_, rfl⟩
 have EP : Hid (pLab s i = (s.extract f x, x)) := by show _ = _; unfold pLab; rw [hf, hx]
 have C1 : Hid (∀ w, Rr w P s ere i o → Calls Tryz.prog 120 #[.pointer (some ⟨P, 0, none⟩), .string ⟨#[32, 9]⟩] w fun e w' => e = .returned (.tuple #[]) ∧ Rr w' P s ere f o ∧ Ks P w w') := fun w h => by rw [← hf]; exact skip_any ⟨#[32, 9]⟩ h hi hs
 have HX := hid hx
 rw [EP.out]
 clear hf hx EP
 go_enter Tryz.func197, Tryz.ntmps197
 go_wp2_with fail
 refine (C1.out _ R.out).mono ?_
 rintro e w0 ⟨rfl, r1, k1⟩
 have R0 := hid (r1)
 have K0 := hid (k1)
 clear r1 k1 R C1
 have p2 := R0.out.cells.2.2.1
 go_wp2_with fail
 clear p2
 go_loopg [] (s.size + 1) (fun k wr => ∃ j, f ≤ j ∧ j ≤ s.size ∧ s.size < k + j ∧ labF s k j = x ∧ Rr wr P s ere j o ∧ Ks P w wr)
 case atStart => exact ⟨f, Nat.le_refl _, hfl2, by omega, HX.out, R0.out, K0.out⟩
 case round =>
  obtain ⟨j, hfj, hj, hk, hp, hR, hK⟩ := hrel
  obtain ⟨k, rfl⟩ : ∃ k, gk = k + 1 := ⟨gk - 1, by omega⟩
  have R1 := hid hR
  have K1 := hid hK
  have HP := hid hp
  clear hR hK hp R0 K0 HX
  obtain ⟨u, hu⟩ : ∃ u, (decide (j < s.size) && lab1 (ch s j)) = u := ⟨_, rfl⟩
  have HU := hid hu
  clear hu
  go_upto_region 3 with fail
  go_cut [29] (fun v wc => v = .bool u ∧ Kp wr wc)
  case first =>
   by_cases he : j = s.size
   ·
    obtain rfl : false = u := by have := HU.out; rw [decide_eq_false (by omega)] at this; exact this
    have C2 : Hid (∀ w, Rr w P s ere j o → Calls Tryz.prog 121 #[.pointer (some ⟨P, 0, none⟩)] w fun e w' => e = .returned (.bool true) ∧ Kp w w') := fun w h => by have := over_any h; rw [decide_eq_true he] at this; exact this
    have Q0 : Kp wr wr.drew := (Kp.refl _).drew
    have MK : Hid (∀ W, Kp wr W → W.cell? ⟨P, 0, none⟩ = some (.string s) ∧ W.cell? ⟨P, 2, none⟩ = some (.int .i64 (j : Int)) ∧ Hid (Kp wr W)) := fun W k => ⟨(R1.out.kp k).cells.1, (R1.out.kp k).cells.2.2.1, k⟩
    refine wp_region_noPanic ?_
    refine hdrew MK Q0 (fun hH => ?_)
    have KQ := Q0
    refine tk 0 (some 10) (.move (.tmp 0)) 161 (v := ?v0e1) rfl ?h0e1 hH ?_
    case h0e1 => intro _ _; go_simp; try with_reducible rfl
    try simp only [ps]
    refine wpAnyH_ready (rs := [1]) (by kernel_rfl) (by simp) ?_
    refine AllReadyH.cons (o := { dst := some 11, op := .call { callee := .value (.func 121), args := #[.tmp 10], argTypes := #[161] }, type := 4, pos := "asked.go:51", after := _, guard := none }) rfl (fun K hKq => ?_) AllReadyH.nil
    go_simp
    refine (C2.out _ (R1.out.kp KQ)).mono ?_
    rintro e y1 ⟨rfl, kq⟩
    refine hKq.out _ _ (MK.out _ (KQ.trans kq)) (fun hN => ?_)
    clear kq
    clear hKq K hH KQ
    have hH := hN
    clear hN
    have KQ := hH.2.2.out
    try simp only [ps]
    refine tk 2 (some 12) (.unOp .not 4 (.tmp 11)) 4 (v := ?v2e2) rfl ?h2e2 hH ?_
    case h2e2 => intro _ _; go_simp; try with_reducible rfl
    try simp only [ps]
    refine tk 3 (some 13) (.move (.tmp 12)) 4 (v := ?v3e3) rfl ?h3e3 hH ?_
    case h3e3 => intro _ _; go_simp; try with_reducible rfl
    try simp only [ps]
    refine tn 4 (some 14) (.move (.tmp 0)) 161 rfl hH ?_
    try simp only [ps]
    refine tn 5 (some 15) (.nilCheck (.tmp 14)) 0 rfl hH ?_
    try simp only [ps]
    refine tn 6 (some 16) (.fieldAddr 123 (.tmp 15) 0) 0 rfl hH ?_
    try simp only [ps]
    refine tn 7 (some 17) (.load 9 (.tmp 16)) 9 rfl hH ?_
    try simp only [ps]
    refine tn 8 (some 18) (.move (.tmp 0)) 161 rfl hH ?_
    try simp only [ps]
    refine tn 9 (some 19) (.nilCheck (.tmp 18)) 0 rfl hH ?_
    try simp only [ps]
    refine tn 10 (some 20) (.fieldAddr 123 (.tmp 19) 2) 0 rfl hH ?_
    try simp only [ps]
    refine tn 11 (some 21) (.load 3 (.tmp 20)) 3 rfl hH ?_
    try simp only [ps]
    refine tn 12 (some 22) (.move (.tmp 0)) 161 rfl hH ?_
    try simp only [ps]
    refine tn 13 (some 23) (.nilCheck (.tmp 22)) 0 rfl hH ?_
    try simp only [ps]
    refine tn 14 (some 24) (.fieldAddr 123 (.tmp 23) 2) 0 rfl hH ?_
    try simp only [ps]
    refine tn 15 (some 25) (.load 3 (.tmp 24)) 3 rfl hH ?_
    try simp only [ps]
    refine tn 16 (some 26) (.binOp .add 3 (.tmp 25) (.const (.int .i64 1)) 3) 3 rfl hH ?_
    try simp only [ps]
    refine tn 17 (some 27) (.slice 9 (.tmp 17) (some (.tmp 21)) (some (.tmp 26)) none) 9 rfl hH ?_
    try simp only [ps]
    refine tn 18 (some 28) (.call { callee := .value (.func 29), args := #[.tmp 27], argTypes := #[9] }) 4 rfl hH ?_
    try simp only [ps]
    refine tk 19 (some 29) (.pick (.tmp 13) (.tmp 28) (.const (.bool false))) 4 (v := ?v19e19) rfl ?h19e19 hH ?_
    case h19e19 => intro _ _; go_simp; try with_reducible rfl
    try simp only [ps]
    refine wpAnyH_done (by kernel_rfl) ?_ _
    refine NoPanic.normal ?_
    go_wp2_with fail
    go_meet
    case rel => exact ⟨rfl, KQ⟩
   ·
    obtain rfl : lab1 (ch s j) = u := by have := HU.out; rw [decide_eq_true (by omega), Bool.true_and] at this; exact this
    have C2 : Hid (∀ w, Rr w P s ere j o → Calls Tryz.prog 121 #[.pointer (some ⟨P, 0, none⟩)] w fun e w' => e = .returned (.bool false) ∧ Kp w w') := fun w h => by have := over_any h; rw [decide_eq_false he] at this; exact this
    have gi : IntKind.i64.wrap ((j : Int) + 1) = (j : Int) + 1 := by rw [IntKind.wrap_i64]; omega
    obtain ⟨t, ht⟩ : ∃ t, s.extract j (j + 1) = t := ⟨_, rfl⟩
    have es : ∀ w, (Instr.slice 9 (.string s) (some (.int .i64 (j : Int))) (some (.int .i64 ((j : Int) + 1))) none).run Tryz.prog w = .ok (.string t) w := fun w => by rw [← ht]; exact run_mid s j (j + 1) (by omega) (by omega) w
    have htz : t.size ≤ 1000000 := by rw [← ht, ByteArray.size_extract]; omega
    obtain ⟨q, hq⟩ : ∃ q, lab1 (ch s j) = q := ⟨_, rfl⟩
    have C3 : Hid (∀ w, Calls Tryz.prog 29 #[.string t] w fun e w' => e = .returned (.bool q) ∧ Kp w w') := fun w => by rw [← hq, ← labB_one s j (by omega), ht]; exact label_any _ w htz
    try rw [hq]
    clear ht HU HP htz
    have Q0 : Kp wr wr.drew := (Kp.refl _).drew
    have MK : Hid (∀ W, Kp wr W → W.cell? ⟨P, 0, none⟩ = some (.string s) ∧ W.cell? ⟨P, 2, none⟩ = some (.int .i64 (j : Int)) ∧ Hid (Kp wr W)) := fun W k => ⟨(R1.out.kp k).cells.1, (R1.out.kp k).cells.2.2.1, k⟩
    refine wp_region_noPanic ?_
    refine hdrew MK Q0 (fun hH => ?_)
    have KQ := Q0
    refine tk 0 (some 10) (.move (.tmp 0)) 161 (v := ?v0f1) rfl ?h0f1 hH ?_
    case h0f1 => intro _ _; go_simp; try with_reducible rfl
    try simp only [ps]
    refine wpAnyH_ready (rs := [1]) (by kernel_rfl) (by simp) ?_
    refine AllReadyH.cons (o := { dst := some 11, op := .call { callee := .value (.func 121), args := #[.tmp 10], argTypes := #[161] }, type := 4, pos := "asked.go:51", after := _, guard := none }) rfl (fun K hKq => ?_) AllReadyH.nil
    go_simp
    refine (C2.out _ (R1.out.kp KQ)).mono ?_
    rintro e y1 ⟨rfl, kq⟩
    refine hKq.out _ _ (MK.out _ (KQ.trans kq)) (fun hN => ?_)
    clear kq
    clear hKq K hH KQ
    have hH := hN
    clear hN
    have KQ := hH.2.2.out
    try simp only [ps]
    refine tk 2 (some 12) (.unOp .not 4 (.tmp 11)) 4 (v := ?v2f2) rfl ?h2f2 hH ?_
    case h2f2 => intro _ _; go_simp; try with_reducible rfl
    try simp only [ps]
    refine tk 3 (some 13) (.move (.tmp 12)) 4 (v := ?v3f3) rfl ?h3f3 hH ?_
    case h3f3 => intro _ _; go_simp; try with_reducible rfl
    try simp only [ps]
    refine tk 4 (some 14) (.move (.tmp 0)) 161 (v := ?v4f4) rfl ?h4f4 hH ?_
    case h4f4 => intro _ _; go_simp; try with_reducible rfl
    try simp only [ps]
    refine tk 5 (some 15) (.nilCheck (.tmp 14)) 0 (v := ?v5f5) rfl ?h5f5 hH ?_
    case h5f5 => intro _ _; go_simp; try with_reducible rfl
    try simp only [ps]
    refine tk 6 (some 16) (.fieldAddr 123 (.tmp 15) 0) 0 (v := ?v6f6) rfl ?h6f6 hH ?_
    case h6f6 => intro _ _; go_simp; try with_reducible rfl
    try simp only [ps]
    refine tk 7 (some 17) (.load 9 (.tmp 16)) 9 (v := ?v7f7) rfl ?h7f7 hH ?_
    case h7f7 => intro _ _; go_simp; try with_reducible rfl
    try simp only [ps]
    refine tk 8 (some 18) (.move (.tmp 0)) 161 (v := ?v8f8) rfl ?h8f8 hH ?_
    case h8f8 => intro _ _; go_simp; try with_reducible rfl
    try simp only [ps]
    refine tk 9 (some 19) (.nilCheck (.tmp 18)) 0 (v := ?v9f9) rfl ?h9f9 hH ?_
    case h9f9 => intro _ _; go_simp; try with_reducible rfl
    try simp only [ps]
    refine tk 10 (some 20) (.fieldAddr 123 (.tmp 19) 2) 0 (v := ?v10f10) rfl ?h10f10 hH ?_
    case h10f10 => intro _ _; go_simp; try with_reducible rfl
    try simp only [ps]
    refine tk 11 (some 21) (.load 3 (.tmp 20)) 3 (v := ?v11f11) rfl ?h11f11 hH ?_
    case h11f11 => intro _ _; go_simp; try with_reducible rfl
    try simp only [ps]
    refine tk 12 (some 22) (.move (.tmp 0)) 161 (v := ?v12f12) rfl ?h12f12 hH ?_
    case h12f12 => intro _ _; go_simp; try with_reducible rfl
    try simp only [ps]
    refine tk 13 (some 23) (.nilCheck (.tmp 22)) 0 (v := ?v13f13) rfl ?h13f13 hH ?_
    case h13f13 => intro _ _; go_simp; try with_reducible rfl
    try simp only [ps]
    refine tk 14 (some 24) (.fieldAddr 123 (.tmp 23) 2) 0 (v := ?v14f14) rfl ?h14f14 hH ?_
    case h14f14 => intro _ _; go_simp; try with_reducible rfl
    try simp only [ps]
    refine tk 15 (some 25) (.load 3 (.tmp 24)) 3 (v := ?v15f15) rfl ?h15f15 hH ?_
    case h15f15 => intro _ _; go_simp; try with_reducible rfl
    try simp only [ps]
    refine tk 16 (some 26) (.binOp .add 3 (.tmp 25) (.const (.int .i64 1)) 3) 3 (v := ?v16f16) rfl ?h16f16 hH ?_
    case h16f16 => intro _ _; go_simp; try with_reducible rfl
    try simp only [ps]
    refine tk 17 (some 27) (.slice 9 (.tmp 17) (some (.tmp 21)) (some (.tmp 26)) none) 9 (v := ?v17f17) rfl ?h17f17 hH ?_
    case h17f17 => intro _ _; go_simp; try with_reducible rfl
    try simp only [ps]
    refine wpAnyH_ready (rs := [18]) (by kernel_rfl) (by simp) ?_
    refine AllReadyH.cons (o := { dst := some 28, op := .call { callee := .value (.func 29), args := #[.tmp 27], argTypes := #[9] }, type := 4, pos := "asked.go:51", after := _, guard := some (3, true) }) rfl (fun K hKq => ?_) AllReadyH.nil
    go_simp
    refine (C3.out _).mono ?_
    rintro e y2 ⟨rfl, kq⟩
    refine hKq.out _ _ (MK.out _ (KQ.trans kq)) (fun hN => ?_)
    clear kq
    clear hKq K hH KQ
    have hH := hN
    clear hN
    have KQ := hH.2.2.out
    try simp only [ps]
    refine tk 19 (some 29) (.pick (.tmp 13) (.tmp 28) (.const (.bool false))) 4 (v := ?v19f18) rfl ?h19f18 hH ?_
    case h19f18 => intro _ _; go_simp; try with_reducible rfl
    try simp only [ps]
    refine wpAnyH_done (by kernel_rfl) ?_ _
    refine NoPanic.normal ?_
    go_wp2_with fail
    go_meet
    case rel => exact ⟨by rw [hq], KQ⟩
  case rest =>
   obtain ⟨rfl, k1⟩ := hcut
   rename World => w4
   have R4 := hid (R1.out.kp k1)
   have K4 := hid (K1.out.kpt k1 hP)
   clear k1 R1 K1
   cases u with
   | true =>
    have hlt : j < s.size := by have := HU.out; simp at this; exact this.1
    have E : Hid (labF s k (j + 1) = x) := by
     show _ = _
     rw [← HP.out]
     conv => { rhs; unfold labF }
     rw [if_pos HU.out]
    have p2 := R4.out.cells.2.2.1
    have fp2 := bl_frozen R4.out.b 2
    have gi : IntKind.i64.wrap ((j : Int) + 1) = (j : Int) + 1 := by rw [IntKind.wrap_i64]; omega
    clear HP HU
    go_wp2_with fail
    go_roundg k
    case measure => omega
    case rel => exact ⟨j + 1, by omega, by omega, by omega, E.out, R4.out.at (j + 1), K4.out.set 2 _⟩
   | false =>
    have E : Hid (x = j) := by
     show _ = _
     rw [← HP.out]
     unfold labF
     rw [HU.out, if_neg (by decide)]
    obtain ⟨t, ht⟩ : ∃ t, s.extract f x = t := ⟨_, rfl⟩
    have htz : t.size ≤ 1000000 := by rw [← ht, ByteArray.size_extract]; omega
    have es : ∀ w, (Instr.slice 9 (.string s) (some (.int .i64 (f : Int))) (some (.int .i64 (j : Int))) none).run Tryz.prog w = .ok (.string t) w := fun w => by rw [← ht, E.out]; exact run_mid s f j (by omega) (by omega) w
    have C4 := hid (fun w => clone_any t htz w)
    have ET := hid ht
    have R5 : Hid (Rr w4 P s ere x o) := by have := R4.out; rw [← E.out] at this; exact this
    clear HP HU ht htz
    go_upto_region 5 with fail
    have Q0 : Kp w4 w4.drew := (Kp.refl _).drew
    have MK : Hid (∀ W, Kp w4 W → W.cell? ⟨P, 0, none⟩ = some (.string s) ∧ W.cell? ⟨P, 2, none⟩ = some (.int .i64 (j : Int)) ∧ Hid (Kp w4 W)) := fun W k => ⟨(R4.out.kp k).cells.1, (R4.out.kp k).cells.2.2.1, k⟩
    refine wp_region_noPanic ?_
    refine hdrew MK Q0 (fun hH => ?_)
    have KQ := Q0
    refine tk 0 (some 37) (.move (.tmp 0)) 161 (v := ?v0g1) rfl ?h0g1 hH ?_
    case h0g1 => intro _ _; go_simp; try with_reducible rfl
    try simp only [ps]
    refine tk 1 (some 38) (.nilCheck (.tmp 37)) 0 (v := ?v1g2) rfl ?h1g2 hH ?_
    case h1g2 => intro _ _; go_simp; try with_reducible rfl
    try simp only [ps]
    refine tk 2 (some 39) (.fieldAddr 123 (.tmp 38) 0) 0 (v := ?v2g3) rfl ?h2g3 hH ?_
    case h2g3 => intro _ _; go_simp; try with_reducible rfl
    try simp only [ps]
    refine tk 3 (some 40) (.load 9 (.tmp 39)) 9 (v := ?v3g4) rfl ?h3g4 hH ?_
    case h3g4 => intro _ _; go_simp; try with_reducible rfl
    try simp only [ps]
    refine tk 4 (some 41) (.move (.tmp 3)) 3 (v := ?v4g5) rfl ?h4g5 hH ?_
    case h4g5 => intro _ _; go_simp; try with_reducible rfl
    try simp only [ps]
    refine tk 5 (some 42) (.move (.tmp 0)) 161 (v := ?v5g6) rfl ?h5g6 hH ?_
    case h5g6 => intro _ _; go_simp; try with_reducible rfl
    try simp only [ps]
    refine tk 6 (some 43) (.nilCheck (.tmp 42)) 0 (v := ?v6g7) rfl ?h6g7 hH ?_
    case h6g7 => intro _ _; go_simp; try with_reducible rfl
    try simp only [ps]
    refine tk 7 (some 44) (.fieldAddr 123 (.tmp 43) 2) 0 (v := ?v7g8) rfl ?h7g8 hH ?_
    case h7g8 => intro _ _; go_simp; try with_reducible rfl
    try simp only [ps]
    refine tk 8 (some 45) (.load 3 (.tmp 44)) 3 (v := ?v8g9) rfl ?h8g9 hH ?_
    case h8g9 => intro _ _; go_simp; try with_reducible rfl
    try simp only [ps]
    refine tk 9 (some 46) (.slice 9 (.tmp 40) (some (.tmp 41)) (some (.tmp 45)) none) 9 (v := ?v9g10) rfl ?h9g10 hH ?_
    case h9g10 => intro _ _; go_simp; try with_reducible rfl
    try simp only [ps]
    refine wpAnyH_ready (rs := [10]) (by kernel_rfl) (by simp) ?_
    refine AllReadyH.cons (o := { dst := some 47, op := .call { callee := .value (.func 167), args := #[.tmp 46], argTypes := #[9] }, type := 9, pos := "asked.go:54", after := _, guard := none }) rfl (fun K hKq => ?_) AllReadyH.nil
    go_simp
    refine (C4.out _).mono ?_
    rintro e y1 ⟨rfl, kq⟩
    refine hKq.out _ _ (MK.out _ (KQ.trans kq)) (fun hN => ?_)
    clear kq
    clear hKq K hH KQ
    have hH := hN
    clear hN
    have KQ := hH.2.2.out
    try simp only [ps]
    refine tk 11 (some 2) (.assign (.tmp 47)) 9 (v := ?v11g11) rfl ?h11g11 hH ?_
    case h11g11 => intro _ _; go_simp; try with_reducible rfl
    try simp only [ps]
    refine wpAnyH_done (by kernel_rfl) ?_ _
    refine NoPanic.normal ?_
    go_wp2_with fail
    go_ret
    exact ⟨by rw [ET.out] <;> rfl, R5.out.kp KQ, K4.out.kpt KQ hP⟩
end Go.Proofs.YtigdmebijbaofaaGreatDoor
