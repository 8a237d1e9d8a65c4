/-
  Texts of this claim: Nu, Bld0, Heed0, Heed, HeedR0, Back9, Has, SetW, RHas, RowI.
-/
import Derived.Test.YtnajcnhgeggngaaGreatM6
import Derived.RangeFuncNested
import Derived.RangeFuncBound
import Derived.RangeFuncCalls
import Derived.RangeFuncLeaves
import Derived.RangeFuncFrom
import Derived.Shelf.Abstract
import Derived.Shelf.RegionOpen
import Derived.WalkKit
import Derived.OwnWalkIn
import Derived.TacticsInMore
import Derived.LoopNIn
import Derived.LoopIn
import Derived.Laws.Cover3

/-! ### Nu -/

namespace Go.Proofs.YtnajcnhgeggngaaGreat.Way
open Go.RowKit Go.Proofs.YtnajcnhgeggngaaGreat

abbrev nuc (n : Nat) : Value := .int .i64 (n : Int)
theorem info3 : ∃ i, Tryz.prog.info? 3 = some i ∧ i.zero = some (.int .i64 0) ∧ i.size = 1 ∧ i.bytes = 8 := by
 obtain ⟨i, hi, h0, h1, h2⟩ := info_parts (P := Tryz.prog) (e := 3) (z := .int .i64 0) (size := 1) (bytes := 8) (by kernel_rfl)
 exact ⟨i, hi, h0, h1, h2⟩
structure NuR (base : Nat) (w : World) (v : Value) (xs : List Nat) : Prop where
 own : w.ownsRow base 3 1 v xs.length (xs.map nuc)
theorem NuR.nil (base : Nat) (w : World) : NuR base w (.slice none 0 0) [] := ⟨World.ownsRow_nil _ _ _ _⟩
theorem NuR.block {base : Nat} {w : World} {v : Value} {xs : List Nat} (h : NuR base w v xs) : ∀ b, v.ownBlock = some b → base ≤ b ∧ b < w.heap.size := h.own.lt
theorem NuR.turn {base : Nat} {w w' : World} {v : Value} {xs : List Nat} (h : NuR base w v xs) (hk : ∀ b, v.ownBlock = some b → b < w.heap.size → w'.heap[b]? = w.heap[b]?) : NuR base w' v xs := ⟨owns_same h.own hk⟩
theorem NuR.kp {base : Nat} {w w' : World} {v : Value} {xs : List Nat} (h : NuR base w v xs) (k : Kp w w') : NuR base w' v xs := h.turn (fun b _ hl => k.block b hl)
theorem NuR.form {base : Nat} {w : World} {v : Value} {xs : List Nat} (h : NuR base w v xs) : ∃ ad c, v = .slice ad xs.length c ∧ xs.length ≤ c := by
 rcases h.own.2 with ⟨rfl, h0⟩ | ⟨g, cap, cur, hv, _, _, hc, _⟩
 ·
  exact ⟨none, 0, by rw [h0], by omega⟩
 ·
  exact ⟨_, cap, hv, hc⟩
theorem NuR.nul {base : Nat} {w : World} {v : Value} {xs : List Nat} (h : NuR base w v xs) {ok : Nat → Prop} (hok : ∀ b, v.ownBlock = some b → ok b) : NuL w ok v xs := by
 have hown := h.own
 rcases h.own.2 with ⟨rfl, h0⟩ | ⟨g, cap, cur, rfl, hb, hg, hc, _⟩
 ·
  exact ⟨none, 0, by rw [h0], by omega, fun hl => absurd hl (by omega)⟩
 ·
  refine ⟨_, cap, rfl, hc, fun _ => ⟨g, rfl, hok g rfl, bl_lt hg, fun j x hj => ?_⟩⟩
  have hj' : j < xs.length := (List.getElem?_eq_some_iff.1 hj).1
  rw [World.ownsRow.cellAt hown j (by omega), List.getElem?_map, hj]
  rfl
structure MoreN (base : Nat) (w : World) (v : Value) (xs ys : List Nat) (v' : Value) (w' : World) : Prop where
 row : NuR base w' v' (xs ++ ys)
 grown : w.grownBy w' v.ownBlock
 block : v'.ownBlock = v.ownBlock ∨ v'.ownBlock = some w.heap.size
theorem run_append_nu (w : World) (base : Nat) (v : Value) (xs ys : List Nat) (ty : TypeId) (hG : NuR base w v xs) (B c : Nat) (hB : ∀ (j : Nat) y, ys[j]? = some y → w.cell? ⟨B, j, none⟩ = some (nuc y)) (hn : xs.length + ys.length ≤ 5000000000000) (hb : base ≤ w.heap.size) :
  ∃ v' w', (Builtin.append_ #[40, 40] ty #[v, .slice (some ⟨B, 0, none⟩) ys.length c]).run Tryz.prog w = .ok v' w' ∧ MoreN base w v xs ys v' w' := by
 obtain ⟨i, hi, hz, hsz, hby⟩ := info3
 obtain ⟨v', w', hr, h2, h3, _, h5⟩ := run_append_own_at (P := Tryz.prog) w base 40 ty 3 i (.int .i64 0) 1 8 Tryz.underlying40 hi hz hsz hby rfl (by omega) v xs.length (xs.map nuc) hG.own ⟨B, 0, none⟩ ys.length c (ys.map nuc) (by simp) (fun j u hj => by
  rw [Go.WideShapes.add_plain, Nat.zero_add]
  rw [List.getElem?_map] at hj
  cases hy : ys[j]? with
  | none => rw [hy] at hj; cases hj
  | some y =>
   rw [hy] at hj
   cases hj
   exact hB j y hy) (fun u hu => by
  obtain ⟨y, _, rfl⟩ := List.mem_map.1 hu
  rfl) (by unfold maxLen; omega) (by omega) hb
 refine ⟨v', w', hr, ⟨⟨?_⟩, h3, h5⟩⟩
 rw [List.length_append, List.map_append]
 exact h2
theorem wpList_append_nu {ops : Array Oper} {rest : List Oper} {o : Oper} {a : Act} {Q : Exit → Act → World → Prop} (w : World) (hgd : o.guard = none) (s y : Operand)
  (ho : o.op = .call { callee := .builtin .append, args := #[s, y], argTypes := #[40, 40] })
  (base : Nat) (v : Value) (xs ys : List Nat) (hs : a.eval s = v) (B c : Nat) (hy : a.eval y = .slice (some ⟨B, 0, none⟩) ys.length c) (hG : Hid (NuR base w v xs)) (hB : Hid (∀ (j : Nat) y, ys[j]? = some y → w.cell? ⟨B, j, none⟩ = some (nuc y))) (hn : xs.length + ys.length ≤ 5000000000000) (hb : base ≤ w.heap.size)
  (h : ∀ v' w', MoreN base w v xs ys v' w' → wpList Tryz.prog ops Q rest (a.put o.dst v') w') :
  wpList Tryz.prog ops Q (o :: rest) a w := by
 refine wpList_plain hgd fun K hK => ?_
 obtain ⟨v', w', hr, hg⟩ := run_append_nu w base v xs ys o.type hG.out B c hB.out hn hb
 unfold Oper.wp execOp
 simp only [ho, resolve, invoke, builtin, Sem.run_bind, Sem.run_pure, Result.andThen_ok, List.map_toArray, List.map_cons, List.map_nil, hs, hy, hr]
 exact hK _ _ (h v' w' hg)
theorem step_append_nu {ops : Array Oper} {o : Oper} {a : Act} {K : Act → World → Prop} {Q : Exit → Act → World → Prop} {E : Prop} (w : World)
  (hw : Region.wanted o (yielded ops a.tmps) = true) (s y : Operand) (ho : o.op = .call { callee := .builtin .append, args := #[s, y], argTypes := #[40, 40] })
  (base : Nat) (v : Value) (xs : List Nat) (x : Nat) (hs : a.eval s = v) (B : Nat) (hy : a.eval y = .slice (some ⟨B, 0, none⟩) 1 1) (hG : NuR base w v xs) (hB : w.cell? ⟨B, 0, none⟩ = some (nuc x)) (hn : xs.length ≤ 4999999999999) (hb : base ≤ w.heap.size)
  (h : ∀ v' w', MoreN base w v xs [x] v' w' → K (a.put o.dst v') w') :
  if Region.wanted o (yielded ops a.tmps) = true then Oper.wp Tryz.prog o a w K Q else E := by
 rw [if_pos hw]
 obtain ⟨v', w', hr, hg⟩ := run_append_nu w base v xs [x] o.type hG B 1 (fun j y hj => by
  match j, hj with
  | 0, hj =>
   obtain rfl : x = y := by simpa using hj
   exact hB
  | j + 1, hj => simp at hj) (by simp; omega) hb
 unfold Oper.wp execOp
 rw [List.length_singleton] at hr
 simp only [ho, resolve, invoke, builtin, Sem.run_bind, Sem.run_pure, Result.andThen_ok, List.map_toArray, List.map_cons, List.map_nil, hs, hy, hr]
 exact h v' w' hg
def plq (hd : Nat) (all : List Sp) (q i : Nat) : List Nat := (List.range q).filter (fun j => match all[j]? with | some y => cls hd y == i | none => false)
theorem plq_all (hd : Nat) (all : List Sp) (i : Nat) : plq hd all all.length i = placesOf hd all i := rfl
theorem plq_len (hd : Nat) (all : List Sp) (q i : Nat) : (plq hd all q i).length ≤ q := by
 unfold plq
 refine Nat.le_trans (List.length_filter_le _ _) ?_
 rw [List.length_range]
 exact Nat.le_refl _
theorem plq_succ {hd : Nat} {all : List Sp} {q : Nat} {y : Sp} (hy : all[q]? = some y) (i : Nat) : plq hd all (q + 1) i = if i = cls hd y then plq hd all q i ++ [q] else plq hd all q i := by
 unfold plq
 rw [List.range_succ, List.filter_append]
 by_cases e : i = cls hd y
 ·
  rw [if_pos e, e]
  simp [hy]
 ·
  rw [if_neg e]
  have e2 : ¬ cls hd y = i := fun h => e h.symm
  simp [hy, e2]
theorem and_lt8 (a b : Nat) (hb : b < 8) : a &&& b < 8 := Nat.lt_of_le_of_lt Nat.and_le_right hb
def turnF (f : Nat → Value) (g : Nat) (v : Value) (i : Nat) : Value := if i = g then v else f i
abbrev sob (lv : Value) (f : Nat → Value) : Obj := .cells #[lv, f 0, f 1, f 2, f 3, f 4, f 5, f 6, f 7] 212
theorem lt8 {g : Nat} (h : g < 8) : g = 0 ∨ g = 1 ∨ g = 2 ∨ g = 3 ∨ g = 4 ∨ g = 5 ∨ g = 6 ∨ g = 7 := by omega
theorem sob_cell {w : World} {S : Nat} {lv : Value} {f : Nat → Value} (h : w.heap[S]? = some (sob lv f)) {g : Nat} (hg : g < 8) : w.cell? ⟨S, 1 + g, none⟩ = some (f g) := by
 rcases lt8 hg with rfl | rfl | rfl | rfl | rfl | rfl | rfl | rfl <;> exact bl_cell h _ _ rfl
theorem sob_put {w : World} {S : Nat} {lv : Value} {f : Nat → Value} (h : w.heap[S]? = some (sob lv f)) {g : Nat} (hg : g < 8) (v : Value) : (w.setCell ⟨S, 1 + g, none⟩ v).heap[S]? = some (sob lv (turnF f g v)) := by
 rcases lt8 hg with rfl | rfl | rfl | rfl | rfl | rfl | rfl | rfl <;> exact bl_put h v
structure SoW (S : Nat) (lv : Value) (hd : Nat) (all : List Sp) (q : Nat) (f : Nat → Value) (w : World) : Prop where
 b : w.heap[S]? = some (sob lv f)
 row : ∀ i, i < 8 → NuR (S + 1) w (f i) (plq hd all q i)
 apart : ∀ i j b, i < 8 → j < 8 → i ≠ j → (f i).ownBlock = some b → (f j).ownBlock ≠ some b
theorem SoW.start {w : World} {S : Nat} {lv : Value} (hd : Nat) (all : List Sp) (h : w.heap[S]? = some (sob lv (fun _ => .slice none 0 0))) : SoW S lv hd all 0 (fun _ => .slice none 0 0) w :=
 ⟨h, fun i _ => by rw [show plq hd all 0 i = [] from rfl]; exact NuR.nil _ _, fun i j b _ _ _ e => by cases e⟩
theorem SoW.kp {w w' : World} {S : Nat} {lv : Value} {hd : Nat} {all : List Sp} {q : Nat} {f : Nat → Value} (h : SoW S lv hd all q f w) (k : Kp w w') : SoW S lv hd all q f w' :=
 ⟨bl_kp h.b k, fun i hi => (h.row i hi).kp k, h.apart⟩
theorem SoW.step {w w1 w2 : World} {S : Nat} {lv : Value} {hd : Nat} {all : List Sp} {q g : Nat} {f : Nat → Value} {v : Value} {y : Sp} (h : SoW S lv hd all q f w) (hg : g < 8) (hy : all[q]? = some y) (hc : cls hd y = g) (m : MoreN (S + 1) w (f g) (plq hd all q g) [q] v w1) (h2 : w2 = w1.setCell ⟨S, 1 + g, none⟩ v) : SoW S lv hd all (q + 1) (turnF f g v) w2 := by
 have hS : (f g).ownBlock ≠ some S := fun e => by have := ((h.row g hg).block S e).1; omega
 have hb1 : w1.heap[S]? = some (sob lv f) := (m.grown.block S (bl_lt h.b) (fun e => hS e.symm)).trans h.b
 have hvS : v.ownBlock ≠ some S := fun e => by have := (m.row.block S e).1; omega
 have off : ∀ b, b ≠ S → w2.heap[b]? = w1.heap[b]? := fun b hb => by rw [h2]; exact Below.heap_setCell w1 ⟨S, 1 + g, none⟩ v b hb
 have own : ∀ b, v.ownBlock = some b → (f g).ownBlock = some b ∨ w.heap.size ≤ b := fun b e => by
  rcases m.block with q | q
  ·
   exact Or.inl (q ▸ e)
  ·
   rw [q] at e; injection e with e; exact Or.inr (by omega)
 refine ⟨by rw [h2]; exact sob_put hb1 hg v, fun i hi => ?_, fun i j b hi hj hne e1 e2 => ?_⟩
 ·
  rw [plq_succ hy]
  unfold turnF
  by_cases e : i = g
  ·
   subst e
   rw [if_pos rfl, if_pos hc.symm]
   exact m.row.turn (fun b hb _ => off b (fun e => by rw [e] at hb; exact hvS hb))
  ·
   rw [if_neg e, if_neg (by rw [hc]; exact e)]
   refine (h.row i hi).turn (fun b hb hl => ?_)
   refine (off b (fun e => by have := ((h.row i hi).block b hb).1; omega)).trans (m.grown.block b hl (fun e' => ?_))
   exact h.apart i g b hi hg e hb e'.symm
 ·
  unfold turnF at e1 e2
  by_cases ei : i = g
  ·
   have ej : ¬ j = g := fun e => hne (ei.trans e.symm)
   rw [if_pos ei] at e1
   rw [if_neg ej] at e2
   rcases own b e1 with o | o
   ·
    exact h.apart g j b hg hj (fun e => ej e.symm) o e2
   ·
    have := ((h.row j hj).block b e2).2; omega
  ·
   rw [if_neg ei] at e1
   by_cases ej : j = g
   ·
    rw [if_pos ej] at e2
    rcases own b e2 with o | o
    ·
     exact h.apart i g b hi hg ei e1 o
    ·
     have := ((h.row i hi).block b e1).2; omega
   ·
    rw [if_neg ej] at e2
    exact h.apart i j b hi hj hne e1 e2
theorem SoW.done {w : World} {S : Nat} {lv : Value} {hd : Nat} {all : List Sp} {f : Nat → Value} {ok : Nat → Prop} (h : SoW S lv hd all all.length f w) (hl : SpL w ok lv all) (hok : ∀ b, S ≤ b → ok b) : SoAt w ok (.pointer (some ⟨S, 0, none⟩)) hd all := by
 have r : ∀ i, i < 8 → NuL w ok (f i) (placesOf hd all i) := fun i hi => by
  rw [← plq_all]
  exact (h.row i hi).nul (fun b e => hok b (by have := ((h.row i hi).block b e).1; omega))
 exact ⟨S, lv, _, _, _, _, _, _, _, _, rfl, hok S (Nat.le_refl _), h.b, hl, ⟨r 0 (by omega), r 1 (by omega), r 2 (by omega), r 3 (by omega)⟩, r 4 (by omega), r 5 (by omega), r 6 (by omega), r 7 (by omega)⟩
end Go.Proofs.YtnajcnhgeggngaaGreat.Way

/-! ### Bld0 -/

namespace Go.Proofs.YtnajcnhgeggngaaGreat.Way
open Go.RowKit Go.Proofs.YtnajcnhgeggngaaGreat

mutual
def bldE : Rx → Pt
 | .mk k mn mx n s kids => .mk k mn mx n s 0 none none (usedP k mn n (bldEs kids)).1 (usedP k mn n (bldEs kids)).2 0 (bldEs kids)
def bldEs : List Rx → List Pt
 | [] => []
 | r :: rs => bldE r :: bldEs rs
end
mutual
def er : Pt → Pt
 | .mk k low high n s _ _ _ rd st hd kids => .mk k low high n s 0 none none rd st hd (ers kids)
def ers : List Pt → List Pt
 | [] => []
 | p :: ps => er p :: ers ps
end
mutual
def blks : Pt → List Nat
 | .mk _ _ _ _ _ P kn so _ _ _ kids => P :: (kn.toList ++ so.toList ++ blkss kids)
def blkss : List Pt → List Nat
 | [] => []
 | p :: ps => blks p ++ blkss ps
end
mutual
def mapsOf : Pt → List Nat
 | .mk _ _ _ _ _ _ kn so _ _ _ kids => kn.toList ++ so.toList ++ mapss kids
def mapss : List Pt → List Nat
 | [] => []
 | p :: ps => mapsOf p ++ mapss ps
end
mutual
def PtN : Pt → Prop
 | .mk k _ _ _ _ _ kn so _ _ _ kids => (leafK k = false → (∃ b, kn = some b) ∧ ∃ c, so = some c) ∧ PtsN kids
def PtsN : List Pt → Prop
 | [] => True
 | p :: ps => PtN p ∧ PtsN ps
end
mutual
def RxW : Rx → Prop
 | .mk k mn _ n s kids => (leafK k = true → LeafOk k n s) ∧ (k = 5 → n = 1 ∨ n = 2 ∨ n = 3) ∧ (k = 4 → 0 ≤ mn ∧ mn ≤ 20) ∧ (k = 5 ∨ k = 4 → kids.length = 1) ∧ kids.length ≤ 1000000 ∧ RxsW kids
def RxsW : List Rx → Prop
 | [] => True
 | r :: rs => RxW r ∧ RxsW rs
end
theorem RxsW.get : ∀ {rs : List Rx}, RxsW rs → ∀ r, r ∈ rs → RxW r
 | [], _, r, hr => by cases hr
 | q :: qs, h, r, hr => by
  unfold RxsW at h
  rcases List.mem_cons.1 hr with e | e
  ·
   rw [e]; exact h.1
  ·
   exact h.2.get r e
theorem bldEs_len : ∀ (rs : List Rx), (bldEs rs).length = rs.length
 | [] => rfl
 | r :: rs => by unfold bldEs; rw [List.length_cons, List.length_cons, bldEs_len rs]
theorem ers_len : ∀ (ps : List Pt), (ers ps).length = ps.length
 | [] => rfl
 | p :: ps => by unfold ers; rw [List.length_cons, List.length_cons, ers_len ps]
theorem bldEs_app : ∀ (a b : List Rx), bldEs (a ++ b) = bldEs a ++ bldEs b
 | [], b => rfl
 | r :: rs, b => by
  have e : ∀ x xs, bldEs (x :: xs) = bldE x :: bldEs xs := fun x xs => by rw [bldEs]
  rw [List.cons_append, e, e, bldEs_app rs b, List.cons_append]
theorem ers_app : ∀ (a b : List Pt), ers (a ++ b) = ers a ++ ers b
 | [], b => rfl
 | r :: rs, b => by
  have e : ∀ x xs, ers (x :: xs) = er x :: ers xs := fun x xs => by rw [ers]
  rw [List.cons_append, e, e, ers_app rs b, List.cons_append]
theorem blkss_app : ∀ (a b : List Pt), blkss (a ++ b) = blkss a ++ blkss b
 | [], b => rfl
 | r :: rs, b => by
  have e : ∀ x xs, blkss (x :: xs) = blks x ++ blkss xs := fun x xs => by rw [blkss]
  rw [List.cons_append, e, e, blkss_app rs b, List.append_assoc]
theorem mapss_app : ∀ (a b : List Pt), mapss (a ++ b) = mapss a ++ mapss b
 | [], b => rfl
 | r :: rs, b => by
  have e : ∀ x xs, mapss (x :: xs) = mapsOf x ++ mapss xs := fun x xs => by rw [mapss]
  rw [List.cons_append, e, e, mapss_app rs b, List.append_assoc]
theorem PtsAt.app {w : World} {ok : Nat → Prop} : ∀ (a : List Pt) (p : Pt), PtsAt w ok a → PtAt w ok p → PtsAt w ok (a ++ [p])
 | [], p, _, h => by unfold PtsAt; exact ⟨h, by unfold PtsAt; trivial⟩
 | q :: qs, p, ha, h => by
  unfold PtsAt at ha ⊢
  exact ⟨ha.1, PtsAt.app qs p ha.2 h⟩
theorem PtsN.app : ∀ (a : List Pt) (p : Pt), PtsN a → PtN p → PtsN (a ++ [p])
 | [], p, _, h => by unfold PtsN; exact ⟨h, by unfold PtsN; trivial⟩
 | q :: qs, p, ha, h => by
  unfold PtsN at ha ⊢
  exact ⟨ha.1, PtsN.app qs p ha.2 h⟩
theorem er_rd (p : Pt) : (er p).rd = p.rd ∧ (er p).st = p.st := by
 cases p
 unfold er
 exact ⟨rfl, rfl⟩
theorem fold_row : ∀ (ps : List Pt) (u : Nat × Nat), (ers ps).foldl inRowF u = ps.foldl inRowF u
 | [], _ => rfl
 | p :: ps, u => by
  unfold ers
  rw [List.foldl_cons, List.foldl_cons, fold_row ps]
  congr 1
  unfold inRowF
  rw [(er_rd p).1, (er_rd p).2]
theorem fold_alt : ∀ (ps : List Pt) (u : Nat × Nat), (ers ps).foldl inAltF u = ps.foldl inAltF u
 | [], _ => rfl
 | p :: ps, u => by
  unfold ers
  rw [List.foldl_cons, List.foldl_cons, fold_alt ps]
  congr 1
  unfold inAltF
  rw [(er_rd p).1, (er_rd p).2]
theorem used_er (k low n : Int) (ps : List Pt) : usedP k low n (ers ps) = usedP k low n ps := by
 unfold usedP
 rw [fold_row, fold_alt]
 cases ps with
 | nil => rfl
 | cons p ps =>
  unfold ers
  simp only
  rw [(er_rd p).1, (er_rd p).2]
theorem used_lt (k low n : Int) (ps : List Pt) (h : WdOk ps) : (usedP k low n ps).1 < 8 ∧ (usedP k low n ps).2 < 8 := by
 unfold usedP
 split
 ·
  exact ⟨grp_lt n, by omega⟩
 ·
  split
  ·
   cases ps with
   | nil => exact ⟨Nat.succ_pos 7, Nat.succ_pos 7⟩
   | cons p ps => exact ⟨h.1.1, or8 _ _ h.1.2 (grp_lt n)⟩
  ·
   split
   ·
    exact row_lt ps (0, 0) h (by decide) (by decide)
   ·
    split
    ·
     exact alt_lt ps (0, 7) h (by decide) (by decide)
    ·
     split
     ·
      cases ps with
      | nil => exact ⟨Nat.succ_pos 7, Nat.succ_pos 7⟩
      | cons p ps =>
       refine ⟨h.1.1, ?_⟩
       simp only
       split
       ·
        omega
       ·
        exact h.1.2
     ·
      exact ⟨by omega, by omega⟩
mutual
theorem bldE_lt : ∀ (r : Rx), (bldE r).rd < 8 ∧ (bldE r).st < 8
 | .mk k mn mx n s kids => by
  unfold bldE
  exact used_lt k mn n _ (bldEs_wd kids)
theorem bldEs_wd : ∀ (rs : List Rx), WdOk (bldEs rs)
 | [] => by unfold bldEs; trivial
 | r :: rs => by
  unfold bldEs
  exact ⟨bldE_lt r, bldEs_wd rs⟩
end
theorem wd_er : ∀ (ps : List Pt), WdOk (ers ps) → WdOk ps
 | [], _ => trivial
 | p :: ps, h => by
  unfold ers at h
  refine ⟨⟨?_, ?_⟩, wd_er ps h.2⟩
  ·
   rw [← (er_rd p).1]; exact h.1.1
  ·
   rw [← (er_rd p).2]; exact h.1.2
mutual
theorem maps_sub : ∀ (p : Pt) b, b ∈ mapsOf p → b ∈ blks p
 | .mk k low high n s P kn so rd st hd kids, b, hb => by
  unfold mapsOf at hb
  unfold blks
  rcases List.mem_append.1 hb with h | h
  ·
   exact List.mem_cons_of_mem _ (List.mem_append_left _ h)
  ·
   exact List.mem_cons_of_mem _ (List.mem_append_right _ (mapss_sub kids b h))
theorem mapss_sub : ∀ (ps : List Pt) b, b ∈ mapss ps → b ∈ blkss ps
 | [], b, hb => by cases hb
 | p :: ps, b, hb => by
  unfold mapss at hb
  unfold blkss
  rcases List.mem_append.1 hb with h | h
  ·
   exact List.mem_append_left _ (maps_sub p b h)
  ·
   exact List.mem_append_right _ (mapss_sub ps b h)
end
structure PrR (base : Nat) (w : World) (v : Value) (xs : List Nat) : Prop where
 own : w.ownsRow base 71 1 v xs.length (xs.map ptv)
theorem info71 : ∃ i, Tryz.prog.info? 71 = some i ∧ i.zero = some (.pointer none) ∧ i.size = 1 ∧ i.bytes = 8 := by
 obtain ⟨i, hi, h0, h1, h2⟩ := info_parts (P := Tryz.prog) (e := 71) (z := .pointer none) (size := 1) (bytes := 8) (by kernel_rfl)
 exact ⟨i, hi, h0, h1, h2⟩
theorem PrR.nil (base : Nat) (w : World) : PrR base w (.slice none 0 0) [] := ⟨World.ownsRow_nil _ _ _ _⟩
theorem PrR.block {base : Nat} {w : World} {v : Value} {xs : List Nat} (h : PrR base w v xs) : ∀ b, v.ownBlock = some b → base ≤ b ∧ b < w.heap.size := h.own.lt
theorem PrR.turn {base : Nat} {w w' : World} {v : Value} {xs : List Nat} (h : PrR base w v xs) (hk : ∀ b, v.ownBlock = some b → b < w.heap.size → w'.heap[b]? = w.heap[b]?) : PrR base w' v xs := ⟨owns_same h.own hk⟩
theorem PrR.kp {base : Nat} {w w' : World} {v : Value} {xs : List Nat} (h : PrR base w v xs) (k : Kp w w') : PrR base w' v xs := h.turn (fun b _ hl => k.block b hl)
theorem PrR.form {base : Nat} {w : World} {v : Value} {xs : List Nat} (h : PrR base w v xs) : ∃ ad c, v = .slice ad xs.length c ∧ xs.length ≤ c := by
 rcases h.own.2 with ⟨rfl, h0⟩ | ⟨g, cap, cur, hv, _, _, hc, _⟩
 ·
  exact ⟨none, 0, by rw [h0], by omega⟩
 ·
  exact ⟨_, cap, hv, hc⟩
theorem PrR.kids {base : Nat} {w : World} {ps : List Pt} {ad : Option Addr} {c : Nat} (h : PrR base w (.slice ad (ps.map Pt.P).length c) (ps.map Pt.P)) {ok : Nat → Prop} (hok : ∀ b, base ≤ b → ok b) : KidS w ok ad c ps := by
 have hown := h.own
 rcases h.own.2 with ⟨h1, h0⟩ | ⟨g, cap, cur, h1, hb, hg, hc, _⟩
 ·
  rw [List.length_map] at h0
  exact ⟨by omega, fun hl => absurd hl (by omega)⟩
 ·
  injection h1 with e1 e2 e3
  subst e1 e3
  rw [List.length_map] at hc
  refine ⟨hc, fun _ => ⟨g, rfl, hok g hb, bl_lt hg, fun j q hj => ?_⟩⟩
  have hj' : j < ps.length := (List.getElem?_eq_some_iff.1 hj).1
  rw [World.ownsRow.cellAt hown j (by rw [List.length_map]; omega), List.getElem?_map, List.getElem?_map, hj]
  rfl
structure MoreP (base : Nat) (w : World) (v : Value) (xs : List Nat) (y : Nat) (v' : Value) (w' : World) : Prop where
 row : PrR base w' v' (xs ++ [y])
 grown : w.grownBy w' v.ownBlock
 block : v'.ownBlock = v.ownBlock ∨ v'.ownBlock = some w.heap.size
theorem step_append_pr {ops : Array Oper} {o : Oper} {a : Act} {K : Act → World → Prop} {Q : Exit → Act → World → Prop} {E : Prop} (w : World)
  (hw : Region.wanted o (yielded ops a.tmps) = true) (s y : Operand) (ho : o.op = .call { callee := .builtin .append, args := #[s, y], argTypes := #[124, 124] })
  (base : Nat) (v : Value) (xs : List Nat) (x : Nat) (hs : a.eval s = v) (B : Nat) (hy : a.eval y = .slice (some ⟨B, 0, none⟩) 1 1) (hG : PrR base w v xs) (hB : w.cell? ⟨B, 0, none⟩ = some (ptv x)) (hn : xs.length ≤ 5000000000000) (hb : base ≤ w.heap.size)
  (h : ∀ v' w', MoreP base w v xs x v' w' → K (a.put o.dst v') w') :
  if Region.wanted o (yielded ops a.tmps) = true then Oper.wp Tryz.prog o a w K Q else E := by
 rw [if_pos hw]
 obtain ⟨i, hi, hz, hsz, hby⟩ := info71
 obtain ⟨v', w', hr, h2, h3, _, h5⟩ := run_append_own_at (P := Tryz.prog) w base 124 o.type 71 i (.pointer none) 1 8 Tryz.underlying124 hi hz hsz hby rfl (by omega) v xs.length (xs.map ptv) hG.own ⟨B, 0, none⟩ 1 1 [ptv x] rfl (fun j u hj => by
  rw [Go.WideShapes.add_plain, Nat.zero_add]
  match j, hj with
  | 0, hj =>
   obtain rfl : ptv x = u := by simpa using hj
   exact hB
  | j + 1, hj => simp at hj) (fun u hu => by rw [List.mem_singleton.1 hu]; rfl) (by unfold maxLen; omega) (by omega) hb
 have hg : MoreP base w v xs x v' w' := ⟨⟨by rw [List.length_append, List.map_append]; exact h2⟩, h3, h5⟩
 unfold Oper.wp execOp
 simp only [ho, resolve, invoke, builtin, Sem.run_bind, Sem.run_pure, Result.andThen_ok, List.map_toArray, List.map_cons, List.map_nil, hs, hy, hr]
 exact h v' w' hg
structure BuildD (r : Rx) (w : World) (p : Pt) (w' : World) : Prop where
 er : er p = bldE r
 at_ : PtAt w' (fun b => w.heap.size ≤ b) p
 nd : (blks p).Nodup
 rng : ∀ b ∈ blks p, w.heap.size ≤ b ∧ b < w'.heap.size
 maps : ∀ b ∈ mapsOf p, w'.heap[b]? = some (.map #[] 0)
 n_ : PtN p
 kp : Kp w w'
structure BldW (P base : Nat) (k mn mx n : Int) (s : W4) (kn so : Option Nat) (rs : List Rx) (v : Value) (ps : List Pt) (w : World) : Prop where
 b : w.heap[P]? = some (pto k mn mx n s v 0 0 0 kn so)
 er : ers ps = bldEs rs
 row : PrR base w v (ps.map Pt.P)
 at_ : PtsAt w (fun b => base ≤ b ∧ v.ownBlock ≠ some b) ps
 nd : (blkss ps).Nodup
 rng : ∀ b ∈ blkss ps, base ≤ b ∧ b < w.heap.size ∧ v.ownBlock ≠ some b
 maps : ∀ b ∈ mapss ps, w.heap[b]? = some (.map #[] 0)
 n_ : PtsN ps
 pb : P < base
 le : base ≤ w.heap.size
theorem BldW.kp {P base : Nat} {k mn mx n : Int} {s : W4} {kn so : Option Nat} {rs : List Rx} {v : Value} {ps : List Pt} {w w' : World} (h : BldW P base k mn mx n s kn so rs v ps w) (K : Kp w w') : BldW P base k mn mx n s kn so rs v ps w' :=
 ⟨bl_kp h.b K, h.er, h.row.kp K, PtsAt.kp h.at_ K, h.nd, fun b hb => ⟨(h.rng b hb).1, Nat.lt_of_lt_of_le (h.rng b hb).2.1 K.size, (h.rng b hb).2.2⟩, fun b hb => bl_kp (h.maps b hb) K, h.n_, h.pb, Nat.le_trans h.le K.size⟩
theorem BldW.step {P base : Nat} {k mn mx n : Int} {s : W4} {kn so : Option Nat} {rs : List Rx} {v v' : Value} {ps : List Pt} {w W1 yy wq w1 w2 : World} {r : Rx} {p : Pt} (h : BldW P base k mn mx n s kn so rs v ps w) (k1 : Kp w W1) (d : BuildD r W1 p yy) (k2 : Kp yy wq) (m : MoreP base wq v (ps.map Pt.P) p.P v' w1) (h2 : w2 = w1.setCell ⟨P, 8, none⟩ v') : BldW P base k mn mx n s kn so (rs ++ [r]) v' (ps ++ [p]) w2 := by
 have hq := h.kp (k1.trans (d.kp.trans k2))
 have hvP : v.ownBlock ≠ some P := fun e => by have := (h.row.block P e).1; have := h.pb; omega
 have hb1 : w1.heap[P]? = some (pto k mn mx n s v 0 0 0 kn so) := (m.grown.block P (bl_lt hq.b) (fun e => hvP e.symm)).trans hq.b
 have off : ∀ b, b ≠ P → w2.heap[b]? = w1.heap[b]? := fun b hb => by rw [h2]; exact Below.heap_setCell w1 ⟨P, 8, none⟩ v' b hb
 have hs2 : wq.heap.size ≤ w2.heap.size := by rw [h2]; exact Nat.le_trans m.grown.size (by simp)
 have same : ∀ b, b < wq.heap.size → base ≤ b → v.ownBlock ≠ some b → w2.heap[b]? = wq.heap[b]? := fun b hl hb ho => (off b (by have := h.pb; omega)).trans (m.grown.block b hl (fun e => ho e.symm))
 have own : ∀ b, b < wq.heap.size → v.ownBlock ≠ some b → v'.ownBlock ≠ some b := fun b hl ho e => by
  rcases m.block with q | q
  ·
   exact ho (q ▸ e)
  ·
   rw [q] at e; injection e with e; omega
 have hwW := k1.size
 have hyq := k2.size
 have hle := h.le
 have vlt : ∀ b, W1.heap.size ≤ b → v.ownBlock ≠ some b := fun b hb e => by have := (h.row.block b e).2; omega
 refine ⟨by rw [h2]; exact bl_put hb1 v', ?_, ?_, ?_, ?_, ?_, ?_, PtsN.app ps p h.n_ d.n_, h.pb, Nat.le_trans hq.le hs2⟩
 ·
  rw [ers_app, bldEs_app, h.er]
  congr 1
  rw [ers, ers, bldEs, bldEs, d.er]
 ·
  rw [List.map_append]
  exact m.row.turn (fun b hb _ => off b (fun e => by rw [e] at hb; have := (m.row.block P hb).1; have := h.pb; omega))
 ·
  refine PtsAt.app ps p (PtsAt.keep hs2 (fun b hb hl => ⟨⟨hb.1, own b hl hb.2⟩, same b hl hb.1 hb.2⟩) ps hq.at_) (PtAt.keep hs2 (fun b hb hl => ?_) p (PtAt.kp d.at_ k2))
  have hb' : W1.heap.size ≤ b := hb
  exact ⟨⟨by omega, own b hl (vlt b hb')⟩, same b hl (by omega) (vlt b hb')⟩
 ·
  rw [blkss_app]
  have e : blkss [p] = blks p := by rw [blkss, blkss, List.append_nil]
  rw [e]
  refine List.nodup_append.2 ⟨h.nd, d.nd, fun a ha b hb e => ?_⟩
  have := (h.rng a ha).2.1
  have := (d.rng b hb).1
  omega
 ·
  intro b hb
  rw [blkss_app] at hb
  have e : blkss [p] = blks p := by rw [blkss, blkss, List.append_nil]
  rw [e] at hb
  rcases List.mem_append.1 hb with hb | hb
  ·
   obtain ⟨a1, a2, a3⟩ := hq.rng b hb
   exact ⟨a1, Nat.lt_of_lt_of_le a2 hs2, own b a2 a3⟩
  ·
   obtain ⟨a1, a2⟩ := d.rng b hb
   exact ⟨by omega, by omega, own b (by omega) (vlt b a1)⟩
 ·
  intro b hb
  rw [mapss_app] at hb
  have e : mapss [p] = mapsOf p := by rw [mapss, mapss, List.append_nil]
  rw [e] at hb
  rcases List.mem_append.1 hb with hb | hb
  ·
   obtain ⟨a1, a2, a3⟩ := hq.rng b (mapss_sub ps b hb)
   exact (same b a2 a1 a3).trans (hq.maps b hb)
  ·
   obtain ⟨a1, a2⟩ := d.rng b (maps_sub p b hb)
   exact (same b (by omega) (by omega) (vlt b a1)).trans (bl_kp (d.maps b hb) k2)
end Go.Proofs.YtnajcnhgeggngaaGreat.Way

/-! ### Heed0 -/

namespace Go.Proofs.YtnajcnhgeggngaaGreat.Way
open Go.RowKit Go.Proofs.YtnajcnhgeggngaaGreat

mutual
def pblks : Pt → List Nat
 | .mk _ _ _ _ _ P _ _ _ _ _ kids => P :: pblkss kids
def pblkss : List Pt → List Nat
 | [] => []
 | p :: ps => pblks p ++ pblkss ps
end
mutual
theorem pblks_sub : ∀ (p : Pt) b, b ∈ pblks p → b ∈ blks p
 | .mk k low high n s P kn so rd st hd kids, b, hb => by
  unfold pblks at hb
  unfold blks
  rcases List.mem_cons.1 hb with h | h
  ·
   rw [h]; exact List.mem_cons_self ..
  ·
   exact List.mem_cons_of_mem _ (List.mem_append_right _ (pblkss_sub kids b h))
theorem pblkss_sub : ∀ (ps : List Pt) b, b ∈ pblkss ps → b ∈ blkss ps
 | [], b, hb => by cases hb
 | p :: ps, b, hb => by
  unfold pblkss at hb
  unfold blkss
  rcases List.mem_append.1 hb with h | h
  ·
   exact List.mem_append_left _ (pblks_sub p b h)
  ·
   exact List.mem_append_right _ (pblkss_sub ps b h)
end
theorem pblkss_get : ∀ {ps : List Pt} {j : Nat} {p : Pt}, ps[j]? = some p → ∀ b ∈ pblks p, b ∈ pblkss ps
 | q :: qs, 0, p, hj, b, hb => by
  simp at hj
  subst hj
  unfold pblkss
  exact List.mem_append_left _ hb
 | q :: qs, j + 1, p, hj, b, hb => by
  simp at hj
  unfold pblkss
  exact List.mem_append_right _ (pblkss_get hj b hb)
theorem blkss_get : ∀ {ps : List Pt} {j : Nat} {p : Pt}, ps[j]? = some p → ∀ b ∈ blks p, b ∈ blkss ps
 | q :: qs, 0, p, hj, b, hb => by
  simp at hj
  subst hj
  unfold blkss
  exact List.mem_append_left _ hb
 | q :: qs, j + 1, p, hj, b, hb => by
  simp at hj
  unfold blkss
  exact List.mem_append_right _ (blkss_get hj b hb)
theorem blkss_nd : ∀ {ps : List Pt} {j : Nat} {p : Pt}, (blkss ps).Nodup → ps[j]? = some p → (blks p).Nodup
 | q :: qs, 0, p, hn, hj => by
  simp at hj
  subst hj
  unfold blkss at hn
  exact (List.nodup_append.1 hn).1
 | q :: qs, j + 1, p, hn, hj => by
  simp at hj
  unfold blkss at hn
  exact blkss_nd (List.nodup_append.1 hn).2.1 hj
theorem blkss_apart : ∀ {ps : List Pt} {i j : Nat} {p q : Pt}, (blkss ps).Nodup → ps[i]? = some p → ps[j]? = some q → i ≠ j → ∀ b ∈ blks p, b ∉ blks q
 | x :: xs, 0, 0, p, q, _, _, _, hne, _, _ => absurd rfl hne
 | x :: xs, 0, j + 1, p, q, hn, hi, hj, _, b, hb => by
  simp at hi hj
  subst hi
  unfold blkss at hn
  exact fun h => (List.nodup_append.1 hn).2.2 b hb b (blkss_get hj b h) rfl
 | x :: xs, i + 1, 0, p, q, hn, hi, hj, _, b, hb => by
  simp at hi hj
  subst hj
  unfold blkss at hn
  exact fun h => (List.nodup_append.1 hn).2.2 b h b (blkss_get hi b hb) rfl
 | x :: xs, i + 1, j + 1, p, q, hn, hi, hj, hne, b, hb => by
  simp at hi hj
  unfold blkss at hn
  exact blkss_apart (List.nodup_append.1 hn).2.1 hi hj (fun e => hne (by rw [e])) b hb
abbrev TT : Nat → Prop := fun _ => True
theorem PtsAt.of {w : World} {ok : Nat → Prop} : ∀ {ps : List Pt}, (∀ (j : Nat) p, ps[j]? = some p → PtAt w ok p) → PtsAt w ok ps
 | [], _ => by unfold PtsAt; trivial
 | p :: ps, h => by
  unfold PtsAt
  exact ⟨h 0 p rfl, PtsAt.of (fun j q hj => h (j + 1) q hj)⟩
def NumB (w : World) (b : Nat) : Prop := ∃ (K : IntKind) (n : Int), w.cell? ⟨b, 0, none⟩ = some (.int K n)
mutual
theorem PtAt.num {w : World} {ok : Nat → Prop} : ∀ (p : Pt), PtAt w ok p → ∀ b ∈ pblks p, NumB w b ∧ b < w.heap.size
 | .mk k low high n s P kn so rd st hd kids, h, b, hb => by
  unfold PtAt at h
  unfold pblks at hb
  obtain ⟨_, ⟨ad, c, h2, _⟩, h5⟩ := h
  rcases List.mem_cons.1 hb with e | e
  ·
   rw [e]; exact ⟨⟨_, k, bl_cell h2 0 _ rfl⟩, bl_lt h2⟩
  ·
   exact PtsAt.num kids h5 b e
theorem PtsAt.num {w : World} {ok : Nat → Prop} : ∀ (ps : List Pt), PtsAt w ok ps → ∀ b ∈ pblkss ps, NumB w b ∧ b < w.heap.size
 | [], _, b, hb => by cases hb
 | p :: ps, h, b, hb => by
  unfold PtsAt at h
  unfold pblkss at hb
  rcases List.mem_append.1 hb with e | e
  ·
   exact PtAt.num p h.1 b e
  ·
   exact PtsAt.num ps h.2 b e
end
theorem ptv_not {w : World} {b : Nat} {q : Nat} (h : w.cell? ⟨b, 0, none⟩ = some (ptv q)) : ¬ NumB w b := by
 rintro ⟨K, n, e⟩
 rw [h] at e
 cases e
theorem KidS.apart {w w' : World} {ok : Nat → Prop} {ad : Option Addr} {c : Nat} {kids : List Pt} (h : KidS w ok ad c kids) {S : Nat → Prop} (k : Kx S w w') (hS : ∀ b, b < w.heap.size → S b → NumB w b) : KidS w' ok ad c kids := by
 refine ⟨h.cap, fun hl => ?_⟩
 obtain ⟨b, e, hb, hlt, hc⟩ := h.at_ hl
 have hb0 : ∃ q, w.cell? ⟨b, 0, none⟩ = some (ptv q) := by
  cases kids with
  | nil => exact absurd hl (by simp)
  | cons p ps => exact ⟨p.P, hc 0 p rfl⟩
 obtain ⟨q, hq⟩ := hb0
 have hsame := k.block b hlt (fun s => ptv_not hq (hS b hlt s))
 exact ⟨b, e, hb, Nat.lt_of_lt_of_le hlt k.size, fun j p hj => (cell_same hsame _).trans (hc j p hj)⟩
mutual
theorem PtAt.apart {w w' : World} {ok : Nat → Prop} {S : Nat → Prop} (k : Kx S w w') (hS : ∀ b, b < w.heap.size → S b → NumB w b) : ∀ (p : Pt), PtAt w ok p → (∀ b ∈ pblks p, ¬ S b) → PtAt w' ok p
 | .mk kk low high n s P kn so rd st hd kids, h, hn => by
  unfold PtAt at h ⊢
  unfold pblks at hn
  obtain ⟨h1, ⟨ad, c, h2, h3, h4⟩, h5⟩ := h
  have hk := KidS.apart ⟨h3, h4⟩ k hS
  exact ⟨h1, ⟨ad, c, bl_kx h2 k (hn P (List.mem_cons_self ..)), hk.cap, hk.at_⟩, PtsAt.apart k hS kids h5 (fun b hb => hn b (List.mem_cons_of_mem _ hb))⟩
theorem PtsAt.apart {w w' : World} {ok : Nat → Prop} {S : Nat → Prop} (k : Kx S w w') (hS : ∀ b, b < w.heap.size → S b → NumB w b) : ∀ (ps : List Pt), PtsAt w ok ps → (∀ b ∈ pblkss ps, ¬ S b) → PtsAt w' ok ps
 | [], _, _ => by unfold PtsAt; trivial
 | p :: ps, h, hn => by
  unfold PtsAt at h ⊢
  unfold pblkss at hn
  exact ⟨PtAt.apart k hS p h.1 (fun b hb => hn b (List.mem_append_left _ hb)), PtsAt.apart k hS ps h.2 (fun b hb => hn b (List.mem_append_right _ hb))⟩
end
theorem PtsAt.set {w w' : World} {ok : Nat → Prop} {ps : List Pt} {q : Nat} {p p' : Pt} (h : PtsAt w ok ps) (hn : (blkss ps).Nodup) (hp : ps[q]? = some p) (k : Kx (fun b => b ∈ pblks p) w w') (h' : PtAt w' ok p') : PtsAt w' ok (ps.set q p') := by
 have hP := h.get q p hp
 refine PtsAt.of (fun j r hj => ?_)
 by_cases e : q = j
 ·
  subst e
  rw [List.getElem?_set_self (List.getElem?_eq_some_iff.1 hp).1] at hj
  injection hj with hj
  rw [← hj]
  exact h'
 ·
  rw [List.getElem?_set_ne e] at hj
  exact PtAt.apart k (fun b _ hb => (PtAt.num p hP b hb).1) r (h.get j r hj) (fun b hb hb2 => blkss_apart hn hp hj e b (pblks_sub p b hb2) (pblks_sub r b hb))
mutual
theorem blks_heed : ∀ (g : Nat) (p : Pt), blks (heed g p) = blks p ∧ pblks (heed g p) = pblks p
 | g, .mk k low high n s P kn so rd st hd kids => by
  unfold heed blks pblks
  split
  ·
   rw [(blks_heedR g kids).1, (blks_heedR g kids).2]; exact ⟨rfl, rfl⟩
  ·
   split
   ·
    rw [(blks_heedA g kids).1, (blks_heedA g kids).2]; exact ⟨rfl, rfl⟩
   ·
    split
    ·
     rw [(blks_heedA _ kids).1, (blks_heedA _ kids).2]; exact ⟨rfl, rfl⟩
    ·
     split
     ·
      rw [(blks_heedA _ kids).1, (blks_heedA _ kids).2]; exact ⟨rfl, rfl⟩
     ·
      exact ⟨rfl, rfl⟩
theorem blks_heedR : ∀ (g : Nat) (ps : List Pt), blkss (heedR g ps).1 = blkss ps ∧ pblkss (heedR g ps).1 = pblkss ps
 | g, [] => by unfold heedR; exact ⟨rfl, rfl⟩
 | g, p :: ps => by
  unfold heedR blkss pblkss
  rw [(blks_heed _ p).1, (blks_heed _ p).2, (blks_heedR g ps).1, (blks_heedR g ps).2]
  exact ⟨rfl, rfl⟩
theorem blks_heedA : ∀ (g : Nat) (ps : List Pt), blkss (heedA g ps) = blkss ps ∧ pblkss (heedA g ps) = pblkss ps
 | g, [] => by unfold heedA; exact ⟨rfl, rfl⟩
 | g, p :: ps => by
  unfold heedA blkss pblkss
  rw [(blks_heed g p).1, (blks_heed g p).2, (blks_heedA g ps).1, (blks_heedA g ps).2]
  exact ⟨rfl, rfl⟩
end
theorem heed_P (g : Nat) (p : Pt) : (heed g p).P = p.P ∧ (heed g p).rd = p.rd ∧ (heed g p).st = p.st := by
 cases p
 unfold heed
 exact ⟨rfl, rfl, rfl⟩
theorem heedA_map (g : Nat) : ∀ (ps : List Pt), heedA g ps = ps.map (heed g)
 | [] => by unfold heedA; rfl
 | p :: ps => by
  unfold heedA
  rw [heedA_map g ps, List.map_cons]
theorem pblkss_app : ∀ (a b : List Pt), pblkss (a ++ b) = pblkss a ++ pblkss b
 | [], b => rfl
 | r :: rs, b => by
  have e : ∀ x xs, pblkss (x :: xs) = pblks x ++ pblkss xs := fun x xs => by rw [pblkss]
  rw [List.cons_append, e, e, pblkss_app rs b, List.append_assoc]
def frontA (g : Nat) (kids : List Pt) (q : Nat) : List Pt := (kids.take q).map (heed g) ++ kids.drop q
theorem frontA_nd (g : Nat) (kids : List Pt) (q : Nat) : blkss (frontA g kids q) = blkss kids ∧ pblkss (frontA g kids q) = pblkss kids := by
 unfold frontA
 rw [← heedA_map, blkss_app, pblkss_app, (blks_heedA g _).1, (blks_heedA g _).2, ← blkss_app, ← pblkss_app, List.take_append_drop]
 exact ⟨rfl, rfl⟩
theorem frontA_get {g : Nat} {kids : List Pt} {q : Nat} {p : Pt} (hp : kids[q]? = some p) : (frontA g kids q)[q]? = some p := by
 have hl : q < kids.length := (List.getElem?_eq_some_iff.1 hp).1
 unfold frontA
 rw [List.getElem?_append_right (by rw [List.length_map, List.length_take]; omega), List.length_map, List.length_take, List.getElem?_drop, show q + (q - min q kids.length) = q by omega]
 exact hp
theorem frontA_set {g : Nat} {kids : List Pt} {q : Nat} {p : Pt} (hp : kids[q]? = some p) : (frontA g kids q).set q (heed g p) = frontA g kids (q + 1) := by
 obtain ⟨hl, he⟩ := List.getElem?_eq_some_iff.1 hp
 unfold frontA
 rw [List.set_append_right _ _ (by rw [List.length_map, List.length_take]; omega), List.length_map, List.length_take, show q - min q kids.length = 0 by omega, List.drop_eq_getElem_cons hl, he, List.set_cons_zero, List.take_succ_eq_append_getElem hl, he, List.map_append, List.append_assoc]
 rfl
def backR (g : Nat) (kids : List Pt) (m : Nat) : List Pt := kids.take m ++ (heedR g (kids.drop m)).1
def backG (g : Nat) (kids : List Pt) (m : Nat) : Nat := (heedR g (kids.drop m)).2
theorem backR_nd (g : Nat) (kids : List Pt) (m : Nat) : blkss (backR g kids m) = blkss kids ∧ pblkss (backR g kids m) = pblkss kids := by
 unfold backR
 rw [blkss_app, pblkss_app, (blks_heedR g _).1, (blks_heedR g _).2, ← blkss_app, ← pblkss_app, List.take_append_drop]
 exact ⟨rfl, rfl⟩
theorem backR_get {g : Nat} {kids : List Pt} {m : Nat} {p : Pt} (hp : kids[m]? = some p) : (backR g kids (m + 1))[m]? = some p := by
 have hl : m < kids.length := (List.getElem?_eq_some_iff.1 hp).1
 unfold backR
 rw [List.getElem?_append_left (by rw [List.length_take]; omega), List.getElem?_take_of_lt (by omega)]
 exact hp
theorem backR_set {g : Nat} {kids : List Pt} {m : Nat} {p : Pt} (hp : kids[m]? = some p) : (backR g kids (m + 1)).set m (heed (backG g kids (m + 1)) p) = backR g kids m ∧ backG g kids m = heedG (backG g kids (m + 1)) p := by
 obtain ⟨hl, he⟩ := List.getElem?_eq_some_iff.1 hp
 unfold backR backG
 rw [List.drop_eq_getElem_cons hl, he, heedR]
 refine ⟨?_, rfl⟩
 rw [List.set_append_left _ _ (by rw [List.length_take]; omega), List.take_succ_eq_append_getElem hl, List.set_append_right _ _ (by rw [List.length_take]; omega), List.length_take, show m - min m kids.length = 0 by omega, List.set_cons_zero, List.append_assoc]
 rfl
mutual
def PtH : Pt → Prop
 | .mk k _ _ n _ _ _ _ rd _ _ kids => rd < 8 ∧ WdOk kids ∧ (k = 5 → n = 1 ∨ n = 2 ∨ n = 3) ∧ (k = 5 ∨ k = 4 → kids.length = 1) ∧ kids.length ≤ 1000000 ∧ PtsH kids
def PtsH : List Pt → Prop
 | [] => True
 | p :: ps => PtH p ∧ PtsH ps
end
theorem PtsH.get : ∀ {ps : List Pt}, PtsH ps → ∀ p, p ∈ ps → PtH p
 | [], _, p, hp => by cases hp
 | q :: qs, h, p, hp => by
  unfold PtsH at h
  rcases List.mem_cons.1 hp with e | e
  ·
   rw [e]; exact h.1
  ·
   exact h.2.get p e
theorem heedG_lt {g : Nat} {p : Pt} (hg : g < 8) (hr : p.rd < 8) : heedG g p < 8 := or8 _ _ (and8 _ _ hg) hr
end Go.Proofs.YtnajcnhgeggngaaGreat.Way

/-! ### Heed -/

namespace Go.Proofs.YtnajcnhgeggngaaGreat.Way
set_option maxHeartbeats 2000000
set_option maxRecDepth 100000
open Go.RowKit Go.Proofs.YtnajcnhgeggngaaGreat

structure HeedD (p : Pt) (g : Nat) (w : World) (e : Ending) (w' : World) : Prop where
 ex : e = .returned (.tuple #[]) ∧ PtAt w' TT (heed g p) ∧ Kx (fun b => b ∈ pblks p) w w'
structure HeedS (p : Pt) : Prop where
 all : ∀ (g : Nat) (w : World), g < 8 → PtAt w TT p → (blks p).Nodup → Calls Tryz.prog 33 #[ptv p.P, .int .u8 (g : Int)] w fun e w' => HeedD p g w e w'
theorem heed_done2 {k low high n : Int} {s : W4} {P rd st hd g : Nat} {kn so : Option Nat} {kids kids' : List Pt} {ad : Option Addr} {c : Nat} {w w' : World} (hk : heed g (.mk k low high n s P kn so rd st hd kids) = .mk k low high n s P kn so rd st g kids') (hP : w'.heap[P]? = some (pto k low high n s (.slice ad kids.length c) rd st g kn so)) (hks : KidS w' TT ad c kids) (hm : kids'.map Pt.P = kids.map Pt.P) (hpts : PtsAt w' TT kids') (K : Kx (fun b => b = P ∨ b ∈ pblkss kids) w w') : HeedD (.mk k low high n s P kn so rd st hd kids) g w (.returned (.tuple #[])) w' := by
 have hl : kids'.length = kids.length := by have := congrArg List.length hm; simpa using this
 refine ⟨rfl, ?_, ?_⟩
 ·
  rw [hk]
  unfold PtAt
  refine ⟨trivial, ⟨ad, c, by rw [hl]; exact hP, by rw [hl]; exact hks.cap, fun h0 => ?_⟩, hpts⟩
  obtain ⟨b, e, hb, hlt, hc⟩ := hks.at_ (by rw [← hl]; exact h0)
  refine ⟨b, e, hb, hlt, fun j q hj => ?_⟩
  have h1 : (kids.map Pt.P)[j]? = some q.P := by rw [← hm, List.getElem?_map, hj]; rfl
  rw [List.getElem?_map] at h1
  cases hq : kids[j]? with
  | none => rw [hq] at h1; cases h1
  | some r =>
   rw [hq] at h1
   have e1 : r.P = q.P := by simpa using h1
   rw [← e1]
   exact hc j r hq
 ·
  have hs : ∀ b, b = P ∨ b ∈ pblkss kids → b ∈ pblks (.mk k low high n s P kn so rd st hd kids) := fun b hb => by
   unfold pblks
   rcases hb with e | e
   ·
    rw [e]; exact List.mem_cons_self ..
   ·
    exact List.mem_cons_of_mem _ e
  exact K.mono (fun b _ e => hs b e)
theorem heed_done {k low high n : Int} {s : W4} {P rd st hd g : Nat} {kn so : Option Nat} {kids kids' : List Pt} {ad : Option Addr} {c : Nat} {w W0 w' : World} (hk : heed g (.mk k low high n s P kn so rd st hd kids) = .mk k low high n s P kn so rd st g kids') (hP : w'.heap[P]? = some (pto k low high n s (.slice ad kids.length c) rd st g kn so)) (hks : KidS w' TT ad c kids) (hm : kids'.map Pt.P = kids.map Pt.P) (hpts : PtsAt w' TT kids') (K0 : Kx (fun b => b = P) w W0) (K : Kx (fun b => b ∈ pblkss kids) W0 w') : HeedD (.mk k low high n s P kn so rd st hd kids) g w (.returned (.tuple #[])) w' :=
 heed_done2 hk hP hks hm hpts ((K0.mono (fun _ _ e => Or.inl e)).trans (K.mono (fun _ _ e => Or.inr e)))
theorem map_heedR (g : Nat) : ∀ (ps : List Pt), (heedR g ps).1.map Pt.P = ps.map Pt.P
 | [] => by unfold heedR; rfl
 | p :: ps => by
  unfold heedR
  rw [List.map_cons, List.map_cons, map_heedR g ps, (heed_P _ p).1]
theorem map_heedA (g : Nat) (ps : List Pt) : (heedA g ps).map Pt.P = ps.map Pt.P := by
 rw [heedA_map, List.map_map]
 exact List.map_congr_left (fun p _ => (heed_P g p).1)
theorem heed_plain (k low high n : Int) (s : W4) (P rd st hd : Nat) (kn so : Option Nat) (kids : List Pt) (H : ∀ q, q ∈ kids → HeedS q) (hH : PtH (.mk k low high n s P kn so rd st hd kids)) (hk2 : k ≠ 2) : HeedS (.mk k low high n s P kn so rd st hd kids) := by
 refine ⟨fun g w hg hp hnd => ?_⟩
 unfold PtH at hH
 obtain ⟨hr8, hwd, h5, h54, hS, hHs⟩ := hH
 unfold PtAt at hp
 obtain ⟨_, ⟨ad, c, hblk, hcap, hat⟩, hpts⟩ := hp
 unfold blks at hnd
 have hndc := List.nodup_cons.1 hnd
 have hndk : (blkss kids).Nodup := (List.nodup_append.1 hndc.2).2.1
 have hPk : P ∉ pblkss kids := fun e => hndc.1 (List.mem_append_right _ (pblkss_sub kids P e))
 obtain ⟨L, hL⟩ : ∃ L, kids.length = L := ⟨_, rfl⟩
 rw [hL] at hblk hS
 have HLL := hid hL
 have HP := hid hblk
 have HKSw := hid (show KidS w TT ad c kids from ⟨hcap, hat⟩)
 have HPTw := hid hpts
 have HNDK := hid hndk
 have HPKK := hid hPk
 have HG := hid hg
 have HH := hid H
 have HWD := hid hwd
 have HR8 := hid hr8
 have HS := hid hS
 clear hblk hcap hat hpts hnd hndc hndk hPk hg H hwd hHs hL
 show Calls Tryz.prog 33 #[ptv P, .int .u8 (g : Int)] w fun e w' => HeedD (.mk k low high n s P kn so rd st hd kids) g w e w'
 go_enter Tryz.func33, Tryz.ntmps33
 go_upto_region 1 with fail
 refine opq (fun Wa => Wa.heap[w.heap.size]? = some (.cells #[.int .u8 (g : Int)] 75) ∧ Wa.heap[P]? = some (pto k low high n s (.slice ad L c) rd st hd kn so) ∧ Kp w Wa) ⟨by exact last_of _ _, by exact bl_kp HP.out kpt, by exact kpt⟩ ?_
 rintro Wa ⟨xGa, xPa, xKa⟩
 have Ga := hid xGa
 have Pa := hid xPa
 have Ka := hid xKa
 clear xGa xPa xKa
 have g0 := bl_cell Ga.out 0 _ rfl
 have p11 := bl_cell Pa.out 11 _ rfl
 have fp11 := bl_frozen Pa.out 11
 go_upto_region 2 with fail
 refine opq (fun W0 => W0.heap[P]? = some (pto k low high n s (.slice ad L c) rd st g kn so) ∧ W0.heap[w.heap.size]? = some (.cells #[.int .u8 (g : Int)] 75) ∧ Kx (fun b => b = P) w W0) ⟨by exact bl_put Pa.out _, by exact (Below.heap_setCell Wa ⟨P, 11, none⟩ _ w.heap.size (show w.heap.size ≠ P by have := bl_lt HP.out; omega)).trans Ga.out, by exact Kx.set (S := fun b => b = P) (Kp.kx Ka.out) (fun _ => rfl) _ _⟩ ?_
 rintro W0 ⟨xP0, xG0, xK0⟩
 have P0 := hid xP0
 have G0 := hid xG0
 have K0 := hid xK0
 clear xP0 xG0 xK0
 clear g0 p11 fp11 Ga Pa Ka
 have hnum : ∀ b, b < w.heap.size → b = P → NumB w b := fun b _ e => by rw [e]; exact ⟨_, k, bl_cell HP.out 0 _ rfl⟩
 have HKS := hid (KidS.apart HKSw.out K0.out hnum)
 have HPT := hid (PtsAt.apart K0.out hnum kids HPTw.out (fun b hb e => HPKK.out (by rw [← e]; exact hb)))
 have HGL := hid (show ∀ b ∈ pblkss kids, b < w.heap.size from fun b hb => (PtsAt.num kids HPTw.out b hb).2)
 clear HKSw HPTw HP hnum
 obtain ⟨p0, p1, p2, p3, p4, p5, p6, p7, p8, p9, p10, p11, p12, p13⟩ := cells14 (P0.out)
 have k2b : (k == 2) = false := by simp [hk2]
 by_cases k3 : k = 3
 ·
  subst k3
  have HHE : Hid (heed g (.mk 3 low high n s P kn so rd st hd kids) = .mk 3 low high n s P kn so rd st g (heedA g kids)) := by
   show _ = _
   rw [heed, if_neg (by decide), if_pos rfl]
  go_wp2_with fail
  clear p0 p1 p2 p3 p4 p5 p6 p7 p8 p9 p10 p11 p12 p13
  go_loopg [48] L (fun gg i wr => ∃ (q : Nat), q + gg = L ∧ i = .int .i64 (q : Int) ∧ PtsAt wr TT (frontA g kids q) ∧ Kx (fun b => b ∈ pblkss kids) W0 wr)
  case atStart => exact ⟨0, by omega, rfl, by unfold frontA; rw [List.take_zero, List.drop_zero]; exact HPT.out, Kx.refl _ _⟩
  case round =>
   obtain ⟨q, hq, rfl, hT, hK⟩ := hrel
   have T6 := hid hT
   have K6 := hid hK
   have KS6 := hid (KidS.apart HKS.out hK (fun b _ hb => (PtsAt.num kids HPT.out b hb).1))
   have G6 := hid (bl_kx G0.out hK (fun e => by have := HGL.out _ e; omega))
   have P6 := hid (bl_kx P0.out hK HPKK.out)
   clear hT hK
   by_cases hlt : q < L
   ·
    have gkw : IntKind.i64.wrap ((q : Int) + 1) = (q : Int) + 1 := by have := HS.out; rw [IntKind.wrap_i64]; omega
    have ga : (q : Int) < (L : Int) := by omega
    have g00 : (0 : Int) ≤ (q : Int) := by omega
    obtain ⟨kid, hkid⟩ : ∃ kid, kids[q]? = some kid := ⟨_, List.getElem?_eq_getElem (by rw [HLL.out]; exact hlt)⟩
    obtain ⟨bb, rfl, -, hbb, hce⟩ := KS6.out.at_ (by rw [HLL.out]; omega)
    have cp := hce q kid hkid
    have g0 := bl_cell G6.out 0 _ rfl
    have HKI := hid hkid
    have HC := hid ((HH.out kid (List.mem_of_getElem? hkid)).all g wr HG.out (T6.out.get q kid (frontA_get hkid)) (blkss_nd HNDK.out hkid))
    clear hce hkid hbb
    go_wp2_with fail
    clear cp g0
    refine (HC.out).mono ?_
    rintro e y hd0
    obtain ⟨rfl, hpt, hk⟩ := hd0.ex
    have T7 := hid (PtsAt.set T6.out (by rw [(frontA_nd g kids q).1]; exact HNDK.out) (frontA_get HKI.out) hk hpt)
    rw [frontA_set HKI.out] at T7
    have K7 := hid (K6.out.trans (hk.mono (fun b _ hb => pblkss_get HKI.out b hb)))
    clear hd0 hpt hk
    go_wp2_with fail
    go_roundg (gk - 1)
    case measure => omega
    case rel => exact ⟨q + 1, by omega, by go_num, T7.out, K7.out⟩
   ·
    have ga : ¬ (q : Int) < (L : Int) := by omega
    obtain rfl : q = L := by omega
    have HE : Hid (frontA g kids q = heedA g kids) := by
     show _ = _
     unfold frontA
     rw [heedA_map, List.take_of_length_le (by rw [HLL.out]; omega), List.drop_of_length_le (by rw [HLL.out]; omega), List.append_nil]
    rw [HE.out] at T6
    go_wp2_with fail
    refine bodyPost_end (v := .tuple #[]) (results_none rfl _ _ _) rfl (heed_done HHE.out (by rw [HLL.out]; exact P6.out) KS6.out (map_heedA g kids) T6.out K0.out K6.out)
 have k3b : (k == 3) = false := by simp [k3]
 by_cases k54 : k = 5 ∨ k = 4
 ·
  obtain ⟨kid, hkk⟩ : ∃ kid, kids = [kid] := List.length_eq_one_iff.1 (h54 k54)
  subst hkk
  have hL0 : 0 < L := by rw [← HLL.out]; simp
  have gL : (0 : Int) < (L : Int) := by omega
  obtain ⟨bb, hadd, -, hbl, hce⟩ := HKS.out.at_ (by simp)
  subst hadd
  have CB := hid (hce 0 kid rfl)
  have HBL := hid hbl
  have HKT := hid (HPT.out.get 0 kid rfl)
  have HBK := hid (show ¬ bb ∈ pblks kid from fun e => ptv_not CB.out (PtAt.num kid HKT.out bb e).1)
  have HPK := hid (show ¬ P ∈ pblks kid from fun e => HPKK.out (pblkss_get (ps := [kid]) (j := 0) rfl P e))
  have HGK := hid (show ¬ w.heap.size ∈ pblks kid from fun e => by have := HGL.out _ (pblkss_get (ps := [kid]) (j := 0) rfl _ e); omega)
  have HWK := hid (HWD.out.get 0 kid rfl)
  clear hbl hce
  rcases k54 with rfl | rfl
  ·
   have GB := hid (fun W => grp_any n (h5 rfl) W)
   have gan : bits .andNot .u8 (g : Int) (grpB n : Int) = ((g &&& (7 - grpB n) : Nat) : Int) := u8_not g (grpB n) HG.out (grp_lt n)
   obtain ⟨G, hG⟩ : ∃ G, g &&& (7 - grpB n) = G := ⟨_, rfl⟩
   have HHE : Hid (heed g (.mk 5 low high n s P kn so rd st hd [kid]) = .mk 5 low high n s P kn so rd st g [heed G kid]) := by
    show _ = _
    rw [heed, if_neg (by decide), if_neg (by decide), if_pos rfl, heedA_map, hG]
    rfl
   have HC := hid (fun (W : World) (k0 : Kp W0 W) => (HH.out kid (List.mem_cons_self ..)).all G W (by rw [← hG]; exact and8 _ _ HG.out) (PtAt.kp HKT.out k0) (blkss_nd (ps := [kid]) (j := 0) HNDK.out rfl))
   rw [hG] at gan
   obtain ⟨B, hB⟩ : ∃ B, grpB n = B := ⟨_, rfl⟩
   rw [hB] at gan GB
   clear hG hB
   go_upto_region 15 with fail
   clear p0 p1 p2 p3 p4 p5 p6 p7 p8 p9 p10 p11 p12 p13
   have Q0 : Kx (fun b => b ∈ pblks kid) W0 W0.drew := (Kx.refl _ _).drew
   have MK : Hid (∀ W, Kx (fun b => b ∈ pblks kid) W0 W → W.cell? ⟨P, 8, none⟩ = some (.slice (some ⟨bb, 0, none⟩) L c) ∧ W.cell? ⟨bb, 0, none⟩ = some (ptv kid.P) ∧ W.cell? ⟨w.heap.size, 0, none⟩ = some (.int .u8 (g : Int)) ∧ W.cell? ⟨P, 3, none⟩ = some (.int .i64 n) ∧ Hid (Kx (fun b => b ∈ pblks kid) W0 W)) := fun W k => ⟨bl_cell (bl_kx P0.out k HPK.out) 8 _ rfl, (cell_same (k.block bb HBL.out HBK.out) _).trans CB.out, bl_cell (bl_kx G0.out k HGK.out) 0 _ rfl, bl_cell (bl_kx P0.out k HPK.out) 3 _ rfl, k⟩
   refine wp_region_noPanic ?_
   refine hdrew MK Q0 (fun hH => ?_)
   have KQ := Q0
   refine tk 0 (some 58) (Op.move (Operand.tmp 0)) 71 (v := ?v0a1) rfl ?h0a1 hH ?_
   case h0a1 => intro _ _; go_simp; try with_reducible rfl
   try simp only [ps]
   refine tk 1 (some 59) (Op.nilCheck (Operand.tmp 58)) 0 (v := ?v1a2) rfl ?h1a2 hH ?_
   case h1a2 => intro _ _; go_simp; try with_reducible rfl
   try simp only [ps]
   refine tk 2 (some 60) (Op.fieldAddr 130 (Operand.tmp 59) 5) 0 (v := ?v2a3) rfl ?h2a3 hH ?_
   case h2a3 => intro _ _; go_simp; try with_reducible rfl
   try simp only [ps]
   refine tk 3 (some 61) (Op.load 124 (Operand.tmp 60)) 124 (v := ?v3a4) rfl ?h3a4 hH ?_
   case h3a4 => intro _ _; go_simp; try with_reducible rfl
   try simp only [ps]
   refine tk 4 (some 62) (Op.indexAddr 124 (Operand.tmp 61) (Operand.const (Value.int IntKind.i64 0))) 0 (v := ?v4a5) rfl ?h4a5 hH ?_
   case h4a5 => intro _ _; go_simp; try with_reducible rfl
   try simp only [ps]
   refine tk 5 (some 63) (Op.load 71 (Operand.tmp 62)) 71 (v := ?v5a6) rfl ?h5a6 hH ?_
   case h5a6 => intro _ _; go_simp; try with_reducible rfl
   try simp only [ps]
   refine tk 6 (some 64) (Op.load 75 (Operand.tmp 3)) 75 (v := ?v6a7) rfl ?h6a7 hH ?_
   case h6a7 => intro _ _; go_simp; try with_reducible rfl
   try simp only [ps]
   refine tk 7 (some 65) (Op.move (Operand.tmp 0)) 71 (v := ?v7a8) rfl ?h7a8 hH ?_
   case h7a8 => intro _ _; go_simp; try with_reducible rfl
   try simp only [ps]
   refine tk 8 (some 66) (Op.nilCheck (Operand.tmp 65)) 0 (v := ?v8a9) rfl ?h8a9 hH ?_
   case h8a9 => intro _ _; go_simp; try with_reducible rfl
   try simp only [ps]
   refine tk 9 (some 67) (Op.fieldAddr 130 (Operand.tmp 66) 3) 0 (v := ?v9a10) rfl ?h9a10 hH ?_
   case h9a10 => intro _ _; go_simp; try with_reducible rfl
   try simp only [ps]
   refine tk 10 (some 68) (Op.load 3 (Operand.tmp 67)) 3 (v := ?v10a11) rfl ?h10a11 hH ?_
   case h10a11 => intro _ _; go_simp; try with_reducible rfl
   try simp only [ps]
   refine wpAnyH_ready (rs := [11]) (by kernel_rfl) (by simp) ?_
   refine AllReadyH.cons (o := { dst := some 69, op := Op.call { callee := Callee.value (Operand.func 52), args := #[Operand.tmp 68], argTypes := #[3] }, type := 75, pos := "part.go:69", after := #[{ on := 10, ground := Ground.data }], guard := none }) rfl (fun K hKq => ?_) AllReadyH.nil
   go_simp
   refine (GB.out _).mono ?_
   rintro e yy ⟨rfl, rfl⟩
   refine hKq.out _ _ (MK.out _ KQ) (fun hN => ?_)
   clear hKq K hH KQ
   have hH := hN
   clear hN
   have KQ := hH.2.2.2.2.out
   try simp only [ps]
   refine tk 12 (some 70) (Op.binOp BinOp.andNot 75 (Operand.tmp 64) (Operand.tmp 69) 75) 75 (v := ?v12a12) rfl ?h12a12 hH ?_
   case h12a12 => intro _ _; go_simp; try with_reducible rfl
   try simp only [ps]
   refine wpAnyH_ready (rs := [13]) (by kernel_rfl) (by simp) ?_
   refine AllReadyH.cons (o := { dst := some 71, op := Op.call { callee := Callee.value (Operand.func 33), args := #[Operand.tmp 63, Operand.tmp 70], argTypes := #[71, 75] }, type := 0, pos := "part.go:69", after := #[{ on := 5, ground := Ground.data }, { on := 12, ground := Ground.data }, { on := 11, ground := Ground.chain }], guard := none }) rfl (fun K hKq => ?_) AllReadyH.nil
   go_simp
   refine (HC.out _ ((Kp.refl W0).drew)).mono ?_
   rintro e y2 hd0
   obtain ⟨he, hpt2, hk2⟩ := hd0.ex
   subst he
   have HPT2 := hid hpt2
   have HK2 := hid ((Kp.kx (S := fun b => b ∈ pblks kid) ((Kp.refl W0).drew)).trans hk2)
   clear hd0 hpt2 hk2
   refine hKq.out _ _ (MK.out _ HK2.out) (fun hN => ?_)
   clear hKq K hH KQ
   have hH := hN
   clear hN
   have KQ := hH.2.2.2.2.out
   try simp only [ps]
   refine wpAnyH_done (by kernel_rfl) ?_ _
   refine NoPanic.normal ?_
   go_wp2_with fail
   refine bodyPost_end (v := .tuple #[]) (results_none rfl _ _ _) rfl (heed_done (kids' := [heed G kid]) HHE.out (by rw [HLL.out]; exact bl_kx P0.out HK2.out HPK.out) (KidS.apart HKS.out HK2.out (fun b _ hb => (PtAt.num kid HKT.out b hb).1)) (by rw [List.map_cons, List.map_cons, (heed_P G kid).1]) (by unfold PtsAt; exact ⟨HPT2.out, by unfold PtsAt; trivial⟩) K0.out (HK2.out.mono (fun b _ hb => by unfold pblkss; exact List.mem_append_left _ hb)))
  ·
   have gor : bits .or .u8 (g : Int) (rd : Int) = ((g ||| rd : Nat) : Int) := u8_or g rd HG.out HR8.out
   obtain ⟨G, hG⟩ : ∃ G, g ||| rd = G := ⟨_, rfl⟩
   have HHE : Hid (heed g (.mk 4 low high n s P kn so rd st hd [kid]) = .mk 4 low high n s P kn so rd st g [heed G kid]) := by
    show _ = _
    rw [heed, if_neg (by decide), if_neg (by decide), if_neg (by decide), if_pos rfl, heedA_map, hG]
    rfl
   have HC := hid (fun (W : World) (k0 : Kp W0 W) => (HH.out kid (List.mem_cons_self ..)).all G W (by rw [← hG]; exact or8 _ _ HG.out HR8.out) (PtAt.kp HKT.out k0) (blkss_nd (ps := [kid]) (j := 0) HNDK.out rfl))
   rw [hG] at gor
   clear hG
   go_upto_region 17 with fail
   clear p0 p1 p2 p3 p4 p5 p6 p7 p8 p9 p10 p11 p12 p13
   have Q0 : Kx (fun b => b ∈ pblks kid) W0 W0.drew := (Kx.refl _ _).drew
   have MK : Hid (∀ W, Kx (fun b => b ∈ pblks kid) W0 W → W.cell? ⟨P, 8, none⟩ = some (.slice (some ⟨bb, 0, none⟩) L c) ∧ W.cell? ⟨bb, 0, none⟩ = some (ptv kid.P) ∧ W.cell? ⟨w.heap.size, 0, none⟩ = some (.int .u8 (g : Int)) ∧ W.cell? ⟨P, 9, none⟩ = some (.int .u8 (rd : Int)) ∧ Hid (Kx (fun b => b ∈ pblks kid) W0 W)) := fun W k => ⟨bl_cell (bl_kx P0.out k HPK.out) 8 _ rfl, (cell_same (k.block bb HBL.out HBK.out) _).trans CB.out, bl_cell (bl_kx G0.out k HGK.out) 0 _ rfl, bl_cell (bl_kx P0.out k HPK.out) 9 _ rfl, k⟩
   refine wp_region_noPanic ?_
   refine hdrew MK Q0 (fun hH => ?_)
   have KQ := Q0
   refine tk 0 (some 74) (Op.move (Operand.tmp 0)) 71 (v := ?v0b1) rfl ?h0b1 hH ?_
   case h0b1 => intro _ _; go_simp; try with_reducible rfl
   try simp only [ps]
   refine tk 1 (some 75) (Op.nilCheck (Operand.tmp 74)) 0 (v := ?v1b2) rfl ?h1b2 hH ?_
   case h1b2 => intro _ _; go_simp; try with_reducible rfl
   try simp only [ps]
   refine tk 2 (some 76) (Op.fieldAddr 130 (Operand.tmp 75) 5) 0 (v := ?v2b3) rfl ?h2b3 hH ?_
   case h2b3 => intro _ _; go_simp; try with_reducible rfl
   try simp only [ps]
   refine tk 3 (some 77) (Op.load 124 (Operand.tmp 76)) 124 (v := ?v3b4) rfl ?h3b4 hH ?_
   case h3b4 => intro _ _; go_simp; try with_reducible rfl
   try simp only [ps]
   refine tk 4 (some 78) (Op.indexAddr 124 (Operand.tmp 77) (Operand.const (Value.int IntKind.i64 0))) 0 (v := ?v4b5) rfl ?h4b5 hH ?_
   case h4b5 => intro _ _; go_simp; try with_reducible rfl
   try simp only [ps]
   refine tk 5 (some 79) (Op.load 71 (Operand.tmp 78)) 71 (v := ?v5b6) rfl ?h5b6 hH ?_
   case h5b6 => intro _ _; go_simp; try with_reducible rfl
   try simp only [ps]
   refine tk 6 (some 80) (Op.load 75 (Operand.tmp 3)) 75 (v := ?v6b7) rfl ?h6b7 hH ?_
   case h6b7 => intro _ _; go_simp; try with_reducible rfl
   try simp only [ps]
   refine tk 7 (some 81) (Op.move (Operand.tmp 0)) 71 (v := ?v7b8) rfl ?h7b8 hH ?_
   case h7b8 => intro _ _; go_simp; try with_reducible rfl
   try simp only [ps]
   refine tk 8 (some 82) (Op.nilCheck (Operand.tmp 81)) 0 (v := ?v8b9) rfl ?h8b9 hH ?_
   case h8b9 => intro _ _; go_simp; try with_reducible rfl
   try simp only [ps]
   refine tk 9 (some 83) (Op.fieldAddr 130 (Operand.tmp 82) 6) 0 (v := ?v9b10) rfl ?h9b10 hH ?_
   case h9b10 => intro _ _; go_simp; try with_reducible rfl
   try simp only [ps]
   refine tk 10 (some 84) (Op.fieldAddr 126 (Operand.tmp 83) 0) 0 (v := ?v10b11) rfl ?h10b11 hH ?_
   case h10b11 => intro _ _; go_simp; try with_reducible rfl
   try simp only [ps]
   refine tk 11 (some 85) (Op.load 75 (Operand.tmp 84)) 75 (v := ?v11b12) rfl ?h11b12 hH ?_
   case h11b12 => intro _ _; go_simp; try with_reducible rfl
   try simp only [ps]
   refine tk 12 (some 86) (Op.binOp BinOp.or 75 (Operand.tmp 80) (Operand.tmp 85) 75) 75 (v := ?v12b13) rfl ?h12b13 hH ?_
   case h12b13 => intro _ _; go_simp; try with_reducible rfl
   try simp only [ps]
   refine wpAnyH_ready (rs := [13]) (by kernel_rfl) (by simp) ?_
   refine AllReadyH.cons (o := { dst := some 87, op := Op.call { callee := Callee.value (Operand.func 33), args := #[Operand.tmp 79, Operand.tmp 86], argTypes := #[71, 75] }, type := 0, pos := "part.go:72", after := #[{ on := 5, ground := Ground.data }, { on := 12, ground := Ground.data }], guard := none }) rfl (fun K hKq => ?_) AllReadyH.nil
   go_simp
   refine (HC.out _ ((Kp.refl W0).drew)).mono ?_
   rintro e y2 hd0
   obtain ⟨he, hpt2, hk2⟩ := hd0.ex
   subst he
   have HPT2 := hid hpt2
   have HK2 := hid ((Kp.kx (S := fun b => b ∈ pblks kid) ((Kp.refl W0).drew)).trans hk2)
   clear hd0 hpt2 hk2
   refine hKq.out _ _ (MK.out _ HK2.out) (fun hN => ?_)
   clear hKq K hH KQ
   have hH := hN
   clear hN
   have KQ := hH.2.2.2.2.out
   try simp only [ps]
   refine wpAnyH_done (by kernel_rfl) ?_ _
   refine NoPanic.normal ?_
   go_wp2_with fail
   refine bodyPost_end (v := .tuple #[]) (results_none rfl _ _ _) rfl (heed_done (kids' := [heed G kid]) HHE.out (by rw [HLL.out]; exact bl_kx P0.out HK2.out HPK.out) (KidS.apart HKS.out HK2.out (fun b _ hb => (PtAt.num kid HKT.out b hb).1)) (by rw [List.map_cons, List.map_cons, (heed_P G kid).1]) (by unfold PtsAt; exact ⟨HPT2.out, by unfold PtsAt; trivial⟩) K0.out (HK2.out.mono (fun b _ hb => by unfold pblkss; exact List.mem_append_left _ hb)))
 ·
  have k5 : ¬ k = 5 := fun e => k54 (Or.inl e)
  have k4 : ¬ k = 4 := fun e => k54 (Or.inr e)
  have k5b : (k == 5) = false := by simp [k5]
  have k4b : (k == 4) = false := by simp [k4]
  have HHE : Hid (heed g (.mk k low high n s P kn so rd st hd kids) = .mk k low high n s P kn so rd st g kids) := by
   show _ = _
   rw [heed, if_neg hk2, if_neg k3, if_neg k5, if_neg k4]
  go_wp2_with fail
  refine bodyPost_end (v := .tuple #[]) (results_none rfl _ _ _) rfl (heed_done HHE.out (by rw [HLL.out]; exact P0.out) HKS.out rfl HPT.out K0.out (Kx.refl _ _))
end Go.Proofs.YtnajcnhgeggngaaGreat.Way

/-! ### HeedR0 -/

namespace Go.Proofs.YtnajcnhgeggngaaGreat.Way
open Go.RowKit Go.Proofs.YtnajcnhgeggngaaGreat

mutual
def psize : Pt → Nat
 | .mk _ _ _ _ _ _ _ _ _ _ _ kids => 1 + psizes kids
def psizes : List Pt → Nat
 | [] => 0
 | p :: ps => psize p + psizes ps
end
theorem psize_mem : ∀ {ps : List Pt} {p : Pt}, p ∈ ps → psize p ≤ psizes ps
 | q :: qs, p, hp => by
  unfold psizes
  rcases List.mem_cons.1 hp with e | e
  ·
   rw [e]; omega
  ·
   have := psize_mem e; omega
mutual
theorem psize_heed : ∀ (g : Nat) (p : Pt), psize (heed g p) = psize p
 | g, .mk k low high n s P kn so rd st hd kids => by
  unfold heed psize
  split
  ·
   rw [psize_heedR g kids]
  ·
   split
   ·
    rw [psize_heedA g kids]
   ·
    split
    ·
     rw [psize_heedA _ kids]
    ·
     split
     ·
      rw [psize_heedA _ kids]
     ·
      rfl
theorem psize_heedR : ∀ (g : Nat) (ps : List Pt), psizes (heedR g ps).1 = psizes ps
 | g, [] => by unfold heedR; rfl
 | g, p :: ps => by
  unfold heedR psizes
  rw [psize_heed _ p, psize_heedR g ps]
theorem psize_heedA : ∀ (g : Nat) (ps : List Pt), psizes (heedA g ps) = psizes ps
 | g, [] => by unfold heedA; rfl
 | g, p :: ps => by
  unfold heedA psizes
  rw [psize_heed g p, psize_heedA g ps]
end
mutual
theorem pth_heed : ∀ (g : Nat) (p : Pt), PtH p → PtH (heed g p)
 | g, .mk k low high n s P kn so rd st hd kids, h => by
  unfold PtH at h
  obtain ⟨h1, h2, h3, h4, h5, h6⟩ := h
  unfold heed PtH
  refine ⟨h1, ?_, h3, ?_, ?_, ?_⟩
  ·
   split
   ·
    exact wd_heedR g kids h2
   ·
    split
    ·
     exact wd_heedA g kids h2
    ·
     split
     ·
      exact wd_heedA _ kids h2
     ·
      split
      ·
       exact wd_heedA _ kids h2
      ·
       exact h2
  ·
   intro e
   rw [if_neg (by omega), if_neg (by omega)]
   split
   ·
    rw [heedA_map, List.length_map]; exact h4 e
   ·
    split
    ·
     rw [heedA_map, List.length_map]; exact h4 e
    ·
     exact h4 e
  ·
   split
   ·
    rw [len_heedR]; exact h5
   ·
    split
    ·
     rw [heedA_map, List.length_map]; exact h5
    ·
     split
     ·
      rw [heedA_map, List.length_map]; exact h5
     ·
      split
      ·
       rw [heedA_map, List.length_map]; exact h5
      ·
       exact h5
  ·
   split
   ·
    exact pth_heedR g kids h6
   ·
    split
    ·
     exact pth_heedA g kids h6
    ·
     split
     ·
      exact pth_heedA _ kids h6
     ·
      split
      ·
       exact pth_heedA _ kids h6
      ·
       exact h6
theorem pth_heedR : ∀ (g : Nat) (ps : List Pt), PtsH ps → PtsH (heedR g ps).1
 | g, [], _ => by unfold heedR PtsH; trivial
 | g, p :: ps, h => by
  unfold PtsH at h
  unfold heedR PtsH
  exact ⟨pth_heed _ p h.1, pth_heedR g ps h.2⟩
theorem pth_heedA : ∀ (g : Nat) (ps : List Pt), PtsH ps → PtsH (heedA g ps)
 | g, [], _ => by unfold heedA PtsH; trivial
 | g, p :: ps, h => by
  unfold PtsH at h
  unfold heedA PtsH
  exact ⟨pth_heed g p h.1, pth_heedA g ps h.2⟩
theorem wd_heedR : ∀ (g : Nat) (ps : List Pt), WdOk ps → WdOk (heedR g ps).1
 | g, [], _ => by unfold heedR; trivial
 | g, p :: ps, h => by
  unfold heedR
  refine ⟨?_, wd_heedR g ps h.2⟩
  rw [(heed_P _ p).2.1, (heed_P _ p).2.2]
  exact h.1
theorem wd_heedA : ∀ (g : Nat) (ps : List Pt), WdOk ps → WdOk (heedA g ps)
 | g, [], _ => by unfold heedA; trivial
 | g, p :: ps, h => by
  unfold heedA
  refine ⟨?_, wd_heedA g ps h.2⟩
  rw [(heed_P _ p).2.1, (heed_P _ p).2.2]
  exact h.1
theorem len_heedR : ∀ (g : Nat) (ps : List Pt), (heedR g ps).1.length = ps.length
 | g, [] => by unfold heedR; rfl
 | g, p :: ps => by
  unfold heedR
  rw [List.length_cons, List.length_cons, len_heedR g ps]
end
def tellS {L : Nat} (s : List Pt × Nat) (j : Fin L) : List Pt × Nat :=
 match s.1[j.val]? with
 | some p => (s.1.set j.val (heed s.2 p), heedG s.2 p)
 | none => s
structure TellI (kids : List Pt) (s : List Pt × Nat) : Prop where
 len : s.1.length = kids.length
 bl : ∀ (j : Nat) p q, kids[j]? = some p → s.1[j]? = some q → blks q = blks p ∧ pblks q = pblks p ∧ q.P = p.P ∧ q.rd = p.rd ∧ q.st = p.st ∧ psize q = psize p ∧ PtH q
 g : s.2 < 8
theorem TellI.start {kids : List Pt} {g : Nat} (hh : PtsH kids) (hg : g < 8) : TellI kids (kids, g) :=
 ⟨rfl, fun j p q h1 h2 => by
  rw [h1] at h2
  injection h2 with h2
  subst h2
  exact ⟨rfl, rfl, rfl, rfl, rfl, rfl, hh.get p (List.mem_of_getElem? h1)⟩, hg⟩
theorem TellI.tell {kids : List Pt} {s : List Pt × Nat} (h : TellI kids s) (hw : WdOk kids) {L : Nat} (j : Fin L) : TellI kids (tellS s j) := by
 unfold tellS
 split
 ·
  rename_i p hp
  have hl : j.val < s.1.length := (List.getElem?_eq_some_iff.1 hp).1
  obtain ⟨p0, hp0⟩ : ∃ p0, kids[j.val]? = some p0 := ⟨_, List.getElem?_eq_getElem (by rw [← h.len]; exact hl)⟩
  obtain ⟨b1, b2, b3, b4, b5, b6, b7⟩ := h.bl _ _ _ hp0 hp
  refine ⟨by rw [List.length_set]; exact h.len, fun i a b h1 h2 => ?_, heedG_lt h.g (by rw [b4]; exact (hw.get _ _ hp0).1)⟩
  by_cases e : j.val = i
  ·
   subst e
   rw [List.getElem?_set_self hl] at h2
   injection h2 with h2
   rw [hp0] at h1
   injection h1 with h1
   subst h1 h2
   rw [(blks_heed _ p).1, (blks_heed _ p).2, (heed_P _ p).1, (heed_P _ p).2.1, (heed_P _ p).2.2, psize_heed]
   exact ⟨b1, b2, b3, b4, b5, b6, pth_heed _ p b7⟩
  ·
   rw [List.getElem?_set_ne e] at h2
   exact h.bl i a b h1 h2
 ·
  exact h
theorem blkss_same : ∀ {a b : List Pt}, a.length = b.length → (∀ (j : Nat) p q, b[j]? = some p → a[j]? = some q → blks q = blks p) → blkss a = blkss b
 | [], [], _, _ => rfl
 | [], y :: ys, h, _ => by cases h
 | x :: xs, [], h, _ => by cases h
 | x :: xs, y :: ys, h, hb => by
  unfold blkss
  rw [hb 0 y x rfl rfl, blkss_same (by simpa using h) (fun j p q h1 h2 => hb (j + 1) p q h1 h2)]
theorem TellI.nd {kids : List Pt} {s : List Pt × Nat} (h : TellI kids s) : blkss s.1 = blkss kids := blkss_same h.len (fun j p q h1 h2 => (h.bl j p q h1 h2).1)
theorem pblkss_same : ∀ {a b : List Pt}, a.length = b.length → (∀ (j : Nat) p q, b[j]? = some p → a[j]? = some q → pblks q = pblks p) → pblkss a = pblkss b
 | [], [], _, _ => rfl
 | [], y :: ys, h, _ => by cases h
 | x :: xs, [], h, _ => by cases h
 | x :: xs, y :: ys, h, hb => by
  unfold pblkss
  rw [hb 0 y x rfl rfl, pblkss_same (by simpa using h) (fun j p q h1 h2 => hb (j + 1) p q h1 h2)]
theorem TellI.ndp {kids : List Pt} {s : List Pt × Nat} (h : TellI kids s) : pblkss s.1 = pblkss kids := pblkss_same h.len (fun j p q h1 h2 => (h.bl j p q h1 h2).2.1)
def vis (L m : Nat) : List Nat := (List.range (L - m)).map (fun i => L - 1 - i)
theorem vis_start (L : Nat) : vis L L = [] := by unfold vis; rw [Nat.sub_self]; rfl
theorem vis_succ {L j : Nat} (h : j < L) : vis L j = vis L (j + 1) ++ [j] := by
 unfold vis
 rw [show L - j = (L - (j + 1)) + 1 by omega, List.range_succ, List.map_append]
 congr 1
 rw [List.map_cons, List.map_nil]
 congr 1
 omega
theorem tell_back {g : Nat} {kids : List Pt} : ∀ (d m : Nat) (pre : List (Fin kids.length)), m + d = kids.length → pre.map Fin.val = vis kids.length m → pre.foldl tellS (kids, g) = (backR g kids m, backG g kids m)
 | 0, m, pre, hm, hp => by
  have e : m = kids.length := by omega
  subst e
  rw [vis_start] at hp
  have : pre = [] := List.map_eq_nil_iff.1 hp
  rw [this]
  unfold backR backG
  rw [List.take_length, List.drop_length, heedR, List.append_nil]
  rfl
 | d + 1, m, pre, hm, hp => by
  have hlt : m < kids.length := by omega
  rw [vis_succ hlt] at hp
  obtain ⟨pre', x, rfl⟩ : ∃ pre' x, pre = pre' ++ [x] := by
   have hne : pre ≠ [] := fun e => by rw [e] at hp; simp at hp
   exact ⟨pre.dropLast, pre.getLast hne, (List.dropLast_concat_getLast hne).symm⟩
  rw [List.map_append] at hp
  obtain ⟨h1, h2⟩ := List.append_inj' hp (by simp)
  have h3 : x.val = m := by simpa using h2
  rw [List.foldl_append, tell_back d (m + 1) pre' (by omega) h1]
  obtain ⟨p, hp0⟩ : ∃ p, kids[m]? = some p := ⟨_, List.getElem?_eq_getElem hlt⟩
  show tellS (backR g kids (m + 1), backG g kids (m + 1)) x = _
  unfold tellS
  rw [h3, backR_get hp0]
  simp only
  rw [(backR_set hp0).1, (backR_set hp0).2]
theorem back_all (g : Nat) (kids : List Pt) : backR g kids 0 = (heedR g kids).1 := by
 unfold backR
 rw [List.take_zero, List.drop_zero, List.nil_append]
def KC (w w' : World) : Prop := w.heap.size ≤ w'.heap.size ∧ ∀ (b : Nat) (cs : Array Value) (t : TypeId) (fr : Nat × Nat), w.heap[b]? = some (Obj.cells cs t fr) → w'.heap[b]? = some (Obj.cells cs t fr)
theorem KC.cell {w w' : World} (h : KC w w') {a : Addr} {v : Value} (hv : w.cell? a = some v) : w'.cell? a = some v := by
 obtain ⟨o, ho, hc⟩ := cells_of_cell hv
 cases o with
 | cells cs t fr => exact (World.cell?_of_block (w := w) (a := a) ((h.2 _ _ _ _ ho).trans ho.symm)).trans hv
 | _ => cases hc
theorem KidS.kc {w w' : World} {ok : Nat → Prop} {ad : Option Addr} {c : Nat} {kids : List Pt} (h : KidS w ok ad c kids) (k : KC w w') : KidS w' ok ad c kids := by
 refine ⟨h.cap, fun hl => ?_⟩
 obtain ⟨b, e, hb, hlt, hc⟩ := h.at_ hl
 exact ⟨b, e, hb, Nat.lt_of_lt_of_le hlt k.1, fun j q hj => k.cell (hc j q hj)⟩
mutual
theorem PtAt.kc {w w' : World} {ok : Nat → Prop} (k : KC w w') : ∀ (p : Pt), PtAt w ok p → PtAt w' ok p
 | .mk kk low high n s P kn so rd st hd kids, h => by
  unfold PtAt at h ⊢
  obtain ⟨h1, ⟨ad, c, h2, h3, h4⟩, h5⟩ := h
  refine ⟨h1, ⟨ad, c, k.2 _ _ _ _ h2, h3, fun hl => ?_⟩, PtsAt.kc k kids h5⟩
  obtain ⟨b, e, hb, hlt, hc⟩ := h4 hl
  exact ⟨b, e, hb, Nat.lt_of_lt_of_le hlt k.1, fun j q hj => k.cell (hc j q hj)⟩
theorem PtsAt.kc {w w' : World} {ok : Nat → Prop} (k : KC w w') : ∀ (ps : List Pt), PtsAt w ok ps → PtsAt w' ok ps
 | [], _ => by unfold PtsAt; trivial
 | p :: ps, h => by
  unfold PtsAt at h ⊢
  exact ⟨PtAt.kc k p h.1, PtsAt.kc k ps h.2⟩
end
end Go.Proofs.YtnajcnhgeggngaaGreat.Way

/-! ### Back9 -/

namespace Go.Proofs.YtnajcnhgeggngaaGreat.Way
set_option maxHeartbeats 2000000
set_option maxRecDepth 100000
open Go.RowKit Go.Shelf Go.Proofs.YtnajcnhgeggngaaGreat
attribute [local go_sem] Oper.semAt_some

def K2b (Bs kb : Nat) (W W' : World) : Prop := W'.heap[Bs]? = W.heap[Bs]? ∧ W'.heap[kb]? = W.heap[kb]?
theorem K2b.trans {Bs kb : Nat} {A B C : World} (h : K2b Bs kb A B) (k : K2b Bs kb B C) : K2b Bs kb A C := ⟨k.1.trans h.1, k.2.trans h.2⟩
theorem make_back (ad : Option Addr) (L c : Nat) (w : World) : Calls Tryz.prog 51 #[.slice ad L c] w fun e w' => e = .returned (.func (.func 79) #[] #[.pointer (some ⟨w.heap.size, 0, none⟩)]) ∧ w' = w.alloc (.cells #[.slice ad L c] 124) := by
 go_enter Tryz.func51, Tryz.ntmps51
 go_wp2_with fail
 go_ret
 exact ⟨rfl, rfl⟩
theorem back1_in (n : Nat) (hn : 1 ≤ n) (l Bs kb L c : Nat) (f : Nat → Nat) (hL : L ≤ 1000000) (J Jx : List (Fin L) → World → Prop)
  (hY : ∀ pre x W, J pre W → pre.length < L → YieldAt Fence.wide (n - 1) Tryz.prog l #[.int .i64 (x.val : Int), ptv (f x.val)] W fun e W' =>
   (e = .returned (.bool true) ∧ J (pre ++ [x]) W' ∧ K2b Bs kb W W') ∨ (e = .returned (.bool false) ∧ Jx (pre ++ [x]) W'))
  (W : World) (hBs : W.cell? ⟨Bs, 0, none⟩ = some (.slice (some ⟨kb, 0, none⟩) L c)) (hc : ∀ j, j < L → W.cell? ⟨kb, j, none⟩ = some (ptv (f j))) (h0 : J [] W) :
  CallsIn Fence.wide n Tryz.prog 79 #[.func (.yield l) #[] #[], .pointer (some ⟨Bs, 0, none⟩)] W fun e W' => (∃ v, e = .returned v) ∧
   ((∃ ys : List (Fin L), ys.map Fin.val = vis L 0 ∧ J ys W') ∨ (∃ pre : List (Fin L), True ∧ Jx pre W')) := by
 refine callsIn_of_wp Tryz.func79 rfl trivial ?_ rfl
 simp only [Tryz.ntmps79, List.size_toArray, List.length_cons, List.length_nil, Nat.reduceAdd, Nat.reduceSub, Array.replicate_succ, Array.replicate_zero, List.push_toArray, List.append_toArray, List.nil_append, List.cons_append]
 have gw0 : IntKind.i64.wrap ((L : Int) - 1) = (L : Int) - 1 := by rw [IntKind.wrap_i64]; omega
 gi_wp2
 gi_loopw [3] (fun i wr => ∃ (m : Nat) (pre : List (Fin L)), m ≤ L ∧ i = .int .i64 ((m : Int) - 1) ∧ pre.map Fin.val = vis L m ∧ J pre wr ∧ K2b Bs kb W wr)
  (fun i _ => (intOf i + 1).toNat)
 case atStart => exact ⟨L, [], Nat.le_refl _, rfl, (vis_start L).symm, h0, rfl, rfl⟩
 case round =>
  obtain ⟨m, pre, hm, rfl, hp, hJs, hk1, hk2⟩ := hrel
  cases m with
  | zero =>
   have gneg : ¬ (0 : Int) ≤ ((0 : Nat) : Int) - 1 := by omega
   gi_wp2
   go_end0
   exact ⟨⟨_, rfl⟩, .inl ⟨pre, hp, hJs⟩⟩
  | succ j =>
   have ej : (((j + 1 : Nat) : Int) - 1) = (j : Int) := by omega
   rw [ej]
   have g0 : (0 : Int) ≤ (j : Int) := by omega
   have gj : (j : Int) < (L : Int) := by omega
   have gw : IntKind.i64.wrap ((j : Int) - 1) = (j : Int) - 1 := by rw [IntKind.wrap_i64]; omega
   have hlt : j < L := by omega
   have hpl : pre.length < L := by
    have := congrArg List.length hp
    rw [List.length_map] at this
    rw [this, vis, List.length_map, List.length_range]
    omega
   have cB : wr.cell? ⟨Bs, 0, none⟩ = some (.slice (some ⟨kb, 0, none⟩) L c) := (cell_same hk1 _).trans hBs
   have cK : wr.cell? ⟨kb, j, none⟩ = some (ptv (f j)) := (cell_same hk2 _).trans (hc j hlt)
   obtain ⟨fn, tmps, assign, body, hy, hR⟩ := hY pre ⟨j, hlt⟩ wr hJs hpl
   dsimp only at hy
   gi_wp2
   refine hR.mono ?_
   rintro e W3 (⟨rfl, hJ3, hk3⟩ | ⟨rfl, hJx3⟩)
   ·
    gi_wp2
    go_roundw
    case rel => exact ⟨j, pre ++ [⟨j, hlt⟩], by omega, by go_num, by rw [List.map_append, hp, vis_succ hlt]; rfl, hJ3, hk3.1.trans hk1, hk3.2.trans hk2⟩
    case measure => simp [intOf]
   ·
    gi_wp2
    refine bodyPost_ret (results_none rfl _ _ _) rfl ?_
    exact ⟨⟨_, rfl⟩, .inr ⟨_, trivial, hJx3⟩⟩
theorem back1_nil_in (n : Nat) (l Bs c : Nat) (ad : Option Addr) (J : List (Fin 0) → World → Prop) (W : World) (hBs : W.cell? ⟨Bs, 0, none⟩ = some (.slice ad 0 c)) (h0 : J [] W) :
  CallsIn Fence.wide n Tryz.prog 79 #[.func (.yield l) #[] #[], .pointer (some ⟨Bs, 0, none⟩)] W fun e W' => (∃ v, e = .returned v) ∧ J [] W' := by
 refine callsIn_of_wp Tryz.func79 rfl trivial ?_ rfl
 simp only [Tryz.ntmps79, List.size_toArray, List.length_cons, List.length_nil, Nat.reduceAdd, Nat.reduceSub, Array.replicate_succ, Array.replicate_zero, List.push_toArray, List.append_toArray, List.nil_append, List.cons_append]
 have gw0 : IntKind.i64.wrap (0 - 1) = -1 := by decide
 gi_wp2
 gi_loopw [3] (fun i wr => i = .int .i64 (-1) ∧ J [] wr) (fun _ _ => 0)
 case atStart => exact ⟨rfl, h0⟩
 case round =>
  obtain ⟨rfl, hJs⟩ := hrel
  gi_wp2
  go_end0
  exact ⟨⟨_, rfl⟩, hJs⟩
theorem back_stops (n : Nat) (hn : 1 ≤ n) (Bs kb L c : Nat) (ad : Option Addr) (f : Nat → Nat) (hL : L ≤ 1000000) (w : World) (hBl : Bs < w.heap.size) (hkl : kb < w.heap.size) (hBs : w.cell? ⟨Bs, 0, none⟩ = some (.slice ad L c)) (hc : 0 < L → ad = some ⟨kb, 0, none⟩ ∧ ∀ j, j < L → w.cell? ⟨kb, j, none⟩ = some (ptv (f j))) :
  SeqStopsK Fence.wide n Tryz.prog 79 #[.pointer (some ⟨Bs, 0, none⟩)] (fun x : Fin L => #[Value.int .i64 (x.val : Int), ptv (f x.val)]) (K2b Bs kb) (fun ys => ys.map Fin.val = vis L 0) (fun _ => True) L w := fun l J Jx W hW _ _ hY h0 => by
 have hB' := (hW.cell (p := ⟨Bs, 0, none⟩) hBl).trans hBs
 by_cases h : 0 < L
 ·
  obtain ⟨rfl, hcs⟩ := hc h
  exact back1_in n hn l Bs kb L c f hL J Jx hY W hB' (fun j hj => (hW.cell (p := ⟨kb, j, none⟩) hkl).trans (hcs j hj)) h0
 ·
  obtain rfl : L = 0 := by omega
  exact (back1_nil_in n l Bs c ad J W hB' h0).mono fun e W' ⟨he, hj⟩ => ⟨he, .inl ⟨[], rfl, hj⟩⟩
end Go.Proofs.YtnajcnhgeggngaaGreat.Way

/-! ### Has -/

namespace Go.Proofs.YtnajcnhgeggngaaGreat.Way
set_option maxHeartbeats 2000000
set_option maxRecDepth 100000
open Go.RowKit Go.Proofs.YtnajcnhgeggngaaGreat

theorem eq_sp (x y : Sp) (hx : x.Ok) (hy : y.Ok) (w : World) : (Op.equalIn 10000 83 (spv x) (spv y)).run Tryz.prog w = .ok (x == y) w := by
 obtain ⟨lx, kx⟩ := key_sp x hx
 obtain ⟨ly, ky⟩ := key_sp y hy
 obtain ⟨r, hr, hi⟩ := run_equal_deep (P := Tryz.prog) w (m := 8) (by decide) (k := 83) (by kernel_rfl) (by kernel_rfl) kx ky
 have hr2 : (Op.equalIn 10000 83 (spv x) (spv y)).run Tryz.prog w = .ok r w := hr
 rw [hr2]
 have : r = (x == y) := by
  rw [Bool.eq_iff_iff, hi, beq_iff_eq]
  constructor
  ·
   intro e
   subst e
   exact spv_inj (keyed83.inj kx ky)
  ·
   intro e
   subst e
   rw [kx] at ky
   injection ky
 rw [this]
theorem hasfA_any (R V K h : Nat) (hh : h < 8) (key x : Sp) (hk : key.Ok) (hx : x.Ok) (w : World) (hV : w.cell? ⟨V, 0, none⟩ = some (.pointer (some ⟨R, 0, none⟩))) (hR : w.cell? ⟨R, 0, none⟩ = some (.int .u8 (h : Int))) (hK : w.heap[K]? = some (spo key)) :
  Calls Tryz.prog 140 #[spv x, .pointer (some ⟨V, 0, none⟩), .pointer (some ⟨K, 0, none⟩)] w fun e w' => e = .returned (.bool (x.only h == key)) ∧ Kp w w' := by
 have HV := hid hV
 have HR := hid hR
 have HK := hid hK
 have OA := hid (fun W => only_any x h hh W)
 have es := eq_sp (x.only h) key (hx.only h) hk
 clear hV hR hK
 go_enter Tryz.func140, Tryz.ntmps140
 go_upto_region 1 with fail
 refine opq (fun W0 => W0.heap[w.heap.size]? = some (spo x) ∧ W0.heap[K]? = some (spo key) ∧ W0.cell? ⟨V, 0, none⟩ = some (.pointer (some ⟨R, 0, none⟩)) ∧ W0.cell? ⟨R, 0, none⟩ = some (.int .u8 (h : Int)) ∧ Kp w W0) ⟨by exact last_of _ _, by exact bl_kp HK.out kpt, by exact ((by repeat (first | exact Kp.refl _ | refine Kp.alloc ?_ _ | refine Kp.drew ?_ | refine Kp.drewN _ ?_) : Kp w _).cell (World.block_lt_of_cell? _ _ HV.out)).trans HV.out, by exact ((by repeat (first | exact Kp.refl _ | refine Kp.alloc ?_ _ | refine Kp.drew ?_ | refine Kp.drewN _ ?_) : Kp w _).cell (World.block_lt_of_cell? _ _ HR.out)).trans HR.out, by exact kpt⟩ ?_
 rintro W0 ⟨xA0, xKB, xCV, xCR, xK0⟩
 have A0 := hid xA0
 have KB := hid xKB
 have CV := hid xCV
 have CR := hid xCR
 have K0 := hid xK0
 clear xA0 xKB xCV xCR xK0
 have Q0 : Kp W0 W0.drew := (Kp.refl _).drew
 have MK : Hid (∀ W, Kp W0 W → W.cell? ⟨w.heap.size, 0, none⟩ = some (.int .i8 x.a) ∧ W.cell? ⟨w.heap.size, 1, none⟩ = some (.int .i8 x.f0) ∧ W.cell? ⟨w.heap.size, 2, none⟩ = some (.int .i8 x.t0) ∧ W.cell? ⟨w.heap.size, 3, none⟩ = some (.int .i8 x.f1) ∧ W.cell? ⟨w.heap.size, 4, none⟩ = some (.int .i8 x.t1) ∧ W.cell? ⟨w.heap.size, 5, none⟩ = some (.int .i8 x.f2) ∧ W.cell? ⟨w.heap.size, 6, none⟩ = some (.int .i8 x.t2) ∧ W.cell? ⟨V, 0, none⟩ = some (.pointer (some ⟨R, 0, none⟩)) ∧ W.cell? ⟨R, 0, none⟩ = some (.int .u8 (h : Int)) ∧ W.cell? ⟨K, 0, none⟩ = some (.int .i8 key.a) ∧ W.cell? ⟨K, 1, none⟩ = some (.int .i8 key.f0) ∧ W.cell? ⟨K, 2, none⟩ = some (.int .i8 key.t0) ∧ W.cell? ⟨K, 3, none⟩ = some (.int .i8 key.f1) ∧ W.cell? ⟨K, 4, none⟩ = some (.int .i8 key.t1) ∧ W.cell? ⟨K, 5, none⟩ = some (.int .i8 key.f2) ∧ W.cell? ⟨K, 6, none⟩ = some (.int .i8 key.t2) ∧ Hid (Kp W0 W)) := fun W k => ⟨bl_cell (bl_kp A0.out k) 0 _ rfl, bl_cell (bl_kp A0.out k) 1 _ rfl, bl_cell (bl_kp A0.out k) 2 _ rfl, bl_cell (bl_kp A0.out k) 3 _ rfl, bl_cell (bl_kp A0.out k) 4 _ rfl, bl_cell (bl_kp A0.out k) 5 _ rfl, bl_cell (bl_kp A0.out k) 6 _ rfl, (k.cell (World.block_lt_of_cell? _ _ CV.out)).trans CV.out, (k.cell (World.block_lt_of_cell? _ _ CR.out)).trans CR.out, bl_cell (bl_kp KB.out k) 0 _ rfl, bl_cell (bl_kp KB.out k) 1 _ rfl, bl_cell (bl_kp KB.out k) 2 _ rfl, bl_cell (bl_kp KB.out k) 3 _ rfl, bl_cell (bl_kp KB.out k) 4 _ rfl, bl_cell (bl_kp KB.out k) 5 _ rfl, bl_cell (bl_kp KB.out k) 6 _ rfl, k⟩
 refine wp_region_noPanic ?_
 refine hdrew MK Q0 (fun hH => ?_)
 have KQ := Q0
 refine tk 0 (some 5) (Op.load 83 (Operand.tmp 3)) 83 (v := ?v0a1) rfl ?h0a1 hH ?_
 case h0a1 => intro _ _; go_simp; try with_reducible rfl
 try simp only [ps]
 refine tk 1 (some 6) (Op.load 179 (Operand.tmp 1)) 179 (v := ?v1a2) rfl ?h1a2 hH ?_
 case h1a2 => intro _ _; go_simp; try with_reducible rfl
 try simp only [ps]
 refine tk 2 (some 7) (Op.nilCheck (Operand.tmp 6)) 0 (v := ?v2a3) rfl ?h2a3 hH ?_
 case h2a3 => intro _ _; go_simp; try with_reducible rfl
 try simp only [ps]
 refine tk 3 (some 8) (Op.fieldAddr 177 (Operand.tmp 7) 0) 0 (v := ?v3a4) rfl ?h3a4 hH ?_
 case h3a4 => intro _ _; go_simp; try with_reducible rfl
 try simp only [ps]
 refine tk 4 (some 9) (Op.load 75 (Operand.tmp 8)) 75 (v := ?v4a5) rfl ?h4a5 hH ?_
 case h4a5 => intro _ _; go_simp; try with_reducible rfl
 try simp only [ps]
 refine tk 6 (some 11) (Op.load 83 (Operand.tmp 2)) 83 (v := ?v6a6) rfl ?h6a6 hH ?_
 case h6a6 => intro _ _; go_simp; try with_reducible rfl
 try simp only [ps]
 refine wpAnyH_ready (rs := [5]) (by kernel_rfl) (by simp) ?_
 refine AllReadyH.cons (o := { dst := some 10, op := Op.call { callee := Callee.value (Operand.func 55), args := #[Operand.tmp 5, Operand.tmp 9], argTypes := #[83, 75] }, type := 83, pos := "spot.go:109", after := #[{ on := 0, ground := Ground.data }, { on := 4, ground := Ground.data }], guard := none }) rfl (fun K hKq => ?_) AllReadyH.nil
 go_simp
 refine (OA.out _).mono ?_
 rintro e y1 ⟨rfl, kq⟩
 refine hKq.out _ _ (MK.out _ (KQ.trans kq)) (fun hN => ?_)
 clear kq
 clear hKq K hH KQ
 have hH := hN
 clear hN
 have KQ := hH.2.2.2.2.2.2.2.2.2.2.2.2.2.2.2.2.out
 try simp only [ps]
 refine tk 7 (some 12) (Op.binOp BinOp.eql 83 (Operand.tmp 10) (Operand.tmp 11) 83) 4 (v := ?v7a7) rfl ?h7a7 hH ?_
 case h7a7 => intro _ _; go_simp; try with_reducible rfl
 try simp only [ps]
 refine tk 8 (some 4) (Op.assign (Operand.tmp 12)) 4 (v := ?v8a8) rfl ?h8a8 hH ?_
 case h8a8 => intro _ _; go_simp; try with_reducible rfl
 try simp only [ps]
 refine wpAnyH_done (by kernel_rfl) ?_ _
 refine NoPanic.normal ?_
 go_wp2_with fail
 go_ret
 exact ⟨rfl, K0.out.trans KQ⟩
theorem idxfA_any (R V K h : Nat) (hh : h < 8) (key : Sp) (hk : key.Ok) (ok : Nat → Prop) (v : Value) (xs : List Sp) (w : World) (hS : SpL w ok v xs) (hn : xs.length ≤ 5000000000000) (hV : w.cell? ⟨V, 0, none⟩ = some (.pointer (some ⟨R, 0, none⟩))) (hR : w.cell? ⟨R, 0, none⟩ = some (.int .u8 (h : Int))) (hK : w.heap[K]? = some (spo key)) :
  Calls Tryz.prog 145 #[v, .func (.func 140) #[] #[.pointer (some ⟨V, 0, none⟩), .pointer (some ⟨K, 0, none⟩)]] w fun e w' => (∃ i : Int, e = .returned (.int .i64 i) ∧ (decide (i ≥ 0) = xs.any (fun y => y.only h == key))) ∧ Kp w w' := by
 obtain ⟨ad, c, rfl, hlc, hcell⟩ := hS.ex
 obtain ⟨L, hL⟩ : ∃ L, xs.length = L := ⟨_, rfl⟩
 rw [hL] at hlc hcell hn ⊢
 have HC := hid hcell
 have HL := hid hL
 have HG := hid hS.good
 have HF := hid (fun (x : Sp) (hx : x.Ok) (W : World) (k : Kp w W) => hasfA_any R V K h hh key x hk hx W ((k.cell (World.block_lt_of_cell? _ _ hV)).trans hV) ((k.cell (World.block_lt_of_cell? _ _ hR)).trans hR) (bl_kp hK k))
 clear hcell hS hV hR hK hL
 go_enter Tryz.func145, Tryz.ntmps145
 go_wp2_with fail
 go_loopg [8] L (fun gg i wr => ∃ q : Nat, q + gg = L ∧ i = .int .i64 (q : Int) ∧ (xs.take q).any (fun y => y.only h == key) = false ∧ Kp w wr)
 case atStart => exact ⟨0, by omega, rfl, rfl, Kp.refl _⟩
 case round =>
  obtain ⟨q, hq, rfl, hA, hK⟩ := hrel
  have HA := hid hA
  have K := hid hK
  clear hA hK
  by_cases hlt : q < L
  ·
   have gkw : IntKind.i64.wrap ((q : Int) + 1) = (q : Int) + 1 := by rw [IntKind.wrap_i64]; omega
   have ga : (q : Int) < (L : Int) := by omega
   have g0 : (0 : Int) ≤ (q : Int) := by omega
   obtain ⟨b, rfl, _, hb, hce⟩ := HC.out (by omega)
   obtain ⟨x, hx⟩ : ∃ x, xs[q]? = some x := ⟨_, List.getElem?_eq_getElem (by rw [HL.out]; exact hlt)⟩
   have hsp := (hce q x hx).same (K.out.block b hb)
   have x0 := hsp.c0
   have x1 := hsp.c1
   have x2 := hsp.c2
   have x3 := hsp.c3
   have x4 := hsp.c4
   have x5 := hsp.c5
   have x6 := hsp.c6
   have HCL := hid (HF.out x (HG.out x (List.mem_of_getElem? hx)) wr K.out)
   have HTK : Hid ((xs.take (q + 1)).any (fun y => y.only h == key) = (x.only h == key)) := by
    show _ = _
    rw [List.take_succ_eq_append_getElem (by rw [HL.out]; exact hlt), List.any_append, HA.out, (List.getElem?_eq_some_iff.1 hx).2]
    simp
   clear hsp hx hb hce HF HC
   go_wp2_with fail
   clear x0 x1 x2 x3 x4 x5 x6
   refine (HCL.out).mono ?_
   rintro e w2 ⟨rfl, k2⟩
   have K2 := hid (K.out.trans k2)
   clear k2
   cases hv : (x.only h == key) with
   | true =>
    have E : Hid (xs.any (fun y => y.only h == key) = true) := by
     show _ = _
     have h1 := HTK.out
     rw [hv] at h1
     rw [← List.take_append_drop (q + 1) xs, List.any_append, h1]
     rfl
    go_wp2_with fail
    go_ret
    exact ⟨⟨_, rfl, by rw [E.out]; exact decide_eq_true (by omega)⟩, K2.out⟩
   | false =>
    go_wp2_with fail
    go_roundg (gk - 1)
    case measure => omega
    case rel => exact ⟨q + 1, by omega, by go_num, by rw [HTK.out, hv], K2.out⟩
  ·
   have ga : ¬ (q : Int) < (L : Int) := by omega
   have E : Hid (xs.any (fun y => y.only h == key) = false) := by
    show _ = _
    rw [← HA.out, List.take_of_length_le (by rw [HL.out]; omega)]
   go_wp2_with fail
   go_ret
   exact ⟨⟨_, rfl, by rw [E.out]; rfl⟩, K.out⟩
theorem confA_any (R V K h : Nat) (hh : h < 8) (key : Sp) (hk : key.Ok) (ok : Nat → Prop) (v : Value) (xs : List Sp) (w : World) (hS : SpL w ok v xs) (hn : xs.length ≤ 5000000000000) (hV : w.cell? ⟨V, 0, none⟩ = some (.pointer (some ⟨R, 0, none⟩))) (hR : w.cell? ⟨R, 0, none⟩ = some (.int .u8 (h : Int))) (hK : w.heap[K]? = some (spo key)) :
  Calls Tryz.prog 139 #[v, .func (.func 140) #[] #[.pointer (some ⟨V, 0, none⟩), .pointer (some ⟨K, 0, none⟩)]] w fun e w' => e = .returned (.bool (xs.any (fun y => y.only h == key))) ∧ Kp w w' := by
 have HI := hid (idxfA_any R V K h hh key hk ok v xs w hS hn hV hR hK)
 clear hS hV hR hK
 go_enter Tryz.func139, Tryz.ntmps139
 go_wp2_with fail
 refine (HI.out).mono ?_
 rintro e w2 ⟨⟨i, rfl, hi⟩, k2⟩
 have K2 := hid k2
 have HE := hid hi
 clear k2 hi
 go_wp2_with fail
 go_ret
 exact ⟨by rw [← HE.out]; rfl, K2.out⟩
theorem hasfB_any (R V K h : Nat) (hh : h < 8) (key x : Sp) (hk : key.Ok) (hx : x.Ok) (w : World) (hV : w.cell? ⟨V, 0, none⟩ = some (.pointer (some ⟨R, 4, none⟩))) (hR : w.cell? ⟨R, 4, none⟩ = some (.int .u8 (h : Int))) (hK : w.heap[K]? = some (spo key)) :
  Calls Tryz.prog 140 #[spv x, .pointer (some ⟨V, 0, none⟩), .pointer (some ⟨K, 0, none⟩)] w fun e w' => e = .returned (.bool (x.only h == key)) ∧ Kp w w' := by
 have HV := hid hV
 have HR := hid hR
 have HK := hid hK
 have OA := hid (fun W => only_any x h hh W)
 have es := eq_sp (x.only h) key (hx.only h) hk
 clear hV hR hK
 go_enter Tryz.func140, Tryz.ntmps140
 go_upto_region 1 with fail
 refine opq (fun W0 => W0.heap[w.heap.size]? = some (spo x) ∧ W0.heap[K]? = some (spo key) ∧ W0.cell? ⟨V, 0, none⟩ = some (.pointer (some ⟨R, 4, none⟩)) ∧ W0.cell? ⟨R, 4, none⟩ = some (.int .u8 (h : Int)) ∧ Kp w W0) ⟨by exact last_of _ _, by exact bl_kp HK.out kpt, by exact ((by repeat (first | exact Kp.refl _ | refine Kp.alloc ?_ _ | refine Kp.drew ?_ | refine Kp.drewN _ ?_) : Kp w _).cell (World.block_lt_of_cell? _ _ HV.out)).trans HV.out, by exact ((by repeat (first | exact Kp.refl _ | refine Kp.alloc ?_ _ | refine Kp.drew ?_ | refine Kp.drewN _ ?_) : Kp w _).cell (World.block_lt_of_cell? _ _ HR.out)).trans HR.out, by exact kpt⟩ ?_
 rintro W0 ⟨xA0, xKB, xCV, xCR, xK0⟩
 have A0 := hid xA0
 have KB := hid xKB
 have CV := hid xCV
 have CR := hid xCR
 have K0 := hid xK0
 clear xA0 xKB xCV xCR xK0
 have Q0 : Kp W0 W0.drew := (Kp.refl _).drew
 have MK : Hid (∀ W, Kp W0 W → W.cell? ⟨w.heap.size, 0, none⟩ = some (.int .i8 x.a) ∧ W.cell? ⟨w.heap.size, 1, none⟩ = some (.int .i8 x.f0) ∧ W.cell? ⟨w.heap.size, 2, none⟩ = some (.int .i8 x.t0) ∧ W.cell? ⟨w.heap.size, 3, none⟩ = some (.int .i8 x.f1) ∧ W.cell? ⟨w.heap.size, 4, none⟩ = some (.int .i8 x.t1) ∧ W.cell? ⟨w.heap.size, 5, none⟩ = some (.int .i8 x.f2) ∧ W.cell? ⟨w.heap.size, 6, none⟩ = some (.int .i8 x.t2) ∧ W.cell? ⟨V, 0, none⟩ = some (.pointer (some ⟨R, 4, none⟩)) ∧ W.cell? ⟨R, 4, none⟩ = some (.int .u8 (h : Int)) ∧ W.cell? ⟨K, 0, none⟩ = some (.int .i8 key.a) ∧ W.cell? ⟨K, 1, none⟩ = some (.int .i8 key.f0) ∧ W.cell? ⟨K, 2, none⟩ = some (.int .i8 key.t0) ∧ W.cell? ⟨K, 3, none⟩ = some (.int .i8 key.f1) ∧ W.cell? ⟨K, 4, none⟩ = some (.int .i8 key.t1) ∧ W.cell? ⟨K, 5, none⟩ = some (.int .i8 key.f2) ∧ W.cell? ⟨K, 6, none⟩ = some (.int .i8 key.t2) ∧ Hid (Kp W0 W)) := fun W k => ⟨bl_cell (bl_kp A0.out k) 0 _ rfl, bl_cell (bl_kp A0.out k) 1 _ rfl, bl_cell (bl_kp A0.out k) 2 _ rfl, bl_cell (bl_kp A0.out k) 3 _ rfl, bl_cell (bl_kp A0.out k) 4 _ rfl, bl_cell (bl_kp A0.out k) 5 _ rfl, bl_cell (bl_kp A0.out k) 6 _ rfl, (k.cell (World.block_lt_of_cell? _ _ CV.out)).trans CV.out, (k.cell (World.block_lt_of_cell? _ _ CR.out)).trans CR.out, bl_cell (bl_kp KB.out k) 0 _ rfl, bl_cell (bl_kp KB.out k) 1 _ rfl, bl_cell (bl_kp KB.out k) 2 _ rfl, bl_cell (bl_kp KB.out k) 3 _ rfl, bl_cell (bl_kp KB.out k) 4 _ rfl, bl_cell (bl_kp KB.out k) 5 _ rfl, bl_cell (bl_kp KB.out k) 6 _ rfl, k⟩
 refine wp_region_noPanic ?_
 refine hdrew MK Q0 (fun hH => ?_)
 have KQ := Q0
 refine tk 0 (some 5) (Op.load 83 (Operand.tmp 3)) 83 (v := ?v0a1) rfl ?h0a1 hH ?_
 case h0a1 => intro _ _; go_simp; try with_reducible rfl
 try simp only [ps]
 refine tk 1 (some 6) (Op.load 179 (Operand.tmp 1)) 179 (v := ?v1a2) rfl ?h1a2 hH ?_
 case h1a2 => intro _ _; go_simp; try with_reducible rfl
 try simp only [ps]
 refine tk 2 (some 7) (Op.nilCheck (Operand.tmp 6)) 0 (v := ?v2a3) rfl ?h2a3 hH ?_
 case h2a3 => intro _ _; go_simp; try with_reducible rfl
 try simp only [ps]
 refine tk 3 (some 8) (Op.fieldAddr 177 (Operand.tmp 7) 0) 0 (v := ?v3a4) rfl ?h3a4 hH ?_
 case h3a4 => intro _ _; go_simp; try with_reducible rfl
 try simp only [ps]
 refine tk 4 (some 9) (Op.load 75 (Operand.tmp 8)) 75 (v := ?v4a5) rfl ?h4a5 hH ?_
 case h4a5 => intro _ _; go_simp; try with_reducible rfl
 try simp only [ps]
 refine tk 6 (some 11) (Op.load 83 (Operand.tmp 2)) 83 (v := ?v6a6) rfl ?h6a6 hH ?_
 case h6a6 => intro _ _; go_simp; try with_reducible rfl
 try simp only [ps]
 refine wpAnyH_ready (rs := [5]) (by kernel_rfl) (by simp) ?_
 refine AllReadyH.cons (o := { dst := some 10, op := Op.call { callee := Callee.value (Operand.func 55), args := #[Operand.tmp 5, Operand.tmp 9], argTypes := #[83, 75] }, type := 83, pos := "spot.go:109", after := #[{ on := 0, ground := Ground.data }, { on := 4, ground := Ground.data }], guard := none }) rfl (fun K hKq => ?_) AllReadyH.nil
 go_simp
 refine (OA.out _).mono ?_
 rintro e y1 ⟨rfl, kq⟩
 refine hKq.out _ _ (MK.out _ (KQ.trans kq)) (fun hN => ?_)
 clear kq
 clear hKq K hH KQ
 have hH := hN
 clear hN
 have KQ := hH.2.2.2.2.2.2.2.2.2.2.2.2.2.2.2.2.out
 try simp only [ps]
 refine tk 7 (some 12) (Op.binOp BinOp.eql 83 (Operand.tmp 10) (Operand.tmp 11) 83) 4 (v := ?v7a7) rfl ?h7a7 hH ?_
 case h7a7 => intro _ _; go_simp; try with_reducible rfl
 try simp only [ps]
 refine tk 8 (some 4) (Op.assign (Operand.tmp 12)) 4 (v := ?v8a8) rfl ?h8a8 hH ?_
 case h8a8 => intro _ _; go_simp; try with_reducible rfl
 try simp only [ps]
 refine wpAnyH_done (by kernel_rfl) ?_ _
 refine NoPanic.normal ?_
 go_wp2_with fail
 go_ret
 exact ⟨rfl, K0.out.trans KQ⟩
theorem idxfB_any (R V K h : Nat) (hh : h < 8) (key : Sp) (hk : key.Ok) (ok : Nat → Prop) (v : Value) (xs : List Sp) (w : World) (hS : SpL w ok v xs) (hn : xs.length ≤ 5000000000000) (hV : w.cell? ⟨V, 0, none⟩ = some (.pointer (some ⟨R, 4, none⟩))) (hR : w.cell? ⟨R, 4, none⟩ = some (.int .u8 (h : Int))) (hK : w.heap[K]? = some (spo key)) :
  Calls Tryz.prog 145 #[v, .func (.func 140) #[] #[.pointer (some ⟨V, 0, none⟩), .pointer (some ⟨K, 0, none⟩)]] w fun e w' => (∃ i : Int, e = .returned (.int .i64 i) ∧ (decide (i ≥ 0) = xs.any (fun y => y.only h == key))) ∧ Kp w w' := by
 obtain ⟨ad, c, rfl, hlc, hcell⟩ := hS.ex
 obtain ⟨L, hL⟩ : ∃ L, xs.length = L := ⟨_, rfl⟩
 rw [hL] at hlc hcell hn ⊢
 have HC := hid hcell
 have HL := hid hL
 have HG := hid hS.good
 have HF := hid (fun (x : Sp) (hx : x.Ok) (W : World) (k : Kp w W) => hasfB_any R V K h hh key x hk hx W ((k.cell (World.block_lt_of_cell? _ _ hV)).trans hV) ((k.cell (World.block_lt_of_cell? _ _ hR)).trans hR) (bl_kp hK k))
 clear hcell hS hV hR hK hL
 go_enter Tryz.func145, Tryz.ntmps145
 go_wp2_with fail
 go_loopg [8] L (fun gg i wr => ∃ q : Nat, q + gg = L ∧ i = .int .i64 (q : Int) ∧ (xs.take q).any (fun y => y.only h == key) = false ∧ Kp w wr)
 case atStart => exact ⟨0, by omega, rfl, rfl, Kp.refl _⟩
 case round =>
  obtain ⟨q, hq, rfl, hA, hK⟩ := hrel
  have HA := hid hA
  have K := hid hK
  clear hA hK
  by_cases hlt : q < L
  ·
   have gkw : IntKind.i64.wrap ((q : Int) + 1) = (q : Int) + 1 := by rw [IntKind.wrap_i64]; omega
   have ga : (q : Int) < (L : Int) := by omega
   have g0 : (0 : Int) ≤ (q : Int) := by omega
   obtain ⟨b, rfl, _, hb, hce⟩ := HC.out (by omega)
   obtain ⟨x, hx⟩ : ∃ x, xs[q]? = some x := ⟨_, List.getElem?_eq_getElem (by rw [HL.out]; exact hlt)⟩
   have hsp := (hce q x hx).same (K.out.block b hb)
   have x0 := hsp.c0
   have x1 := hsp.c1
   have x2 := hsp.c2
   have x3 := hsp.c3
   have x4 := hsp.c4
   have x5 := hsp.c5
   have x6 := hsp.c6
   have HCL := hid (HF.out x (HG.out x (List.mem_of_getElem? hx)) wr K.out)
   have HTK : Hid ((xs.take (q + 1)).any (fun y => y.only h == key) = (x.only h == key)) := by
    show _ = _
    rw [List.take_succ_eq_append_getElem (by rw [HL.out]; exact hlt), List.any_append, HA.out, (List.getElem?_eq_some_iff.1 hx).2]
    simp
   clear hsp hx hb hce HF HC
   go_wp2_with fail
   clear x0 x1 x2 x3 x4 x5 x6
   refine (HCL.out).mono ?_
   rintro e w2 ⟨rfl, k2⟩
   have K2 := hid (K.out.trans k2)
   clear k2
   cases hv : (x.only h == key) with
   | true =>
    have E : Hid (xs.any (fun y => y.only h == key) = true) := by
     show _ = _
     have h1 := HTK.out
     rw [hv] at h1
     rw [← List.take_append_drop (q + 1) xs, List.any_append, h1]
     rfl
    go_wp2_with fail
    go_ret
    exact ⟨⟨_, rfl, by rw [E.out]; exact decide_eq_true (by omega)⟩, K2.out⟩
   | false =>
    go_wp2_with fail
    go_roundg (gk - 1)
    case measure => omega
    case rel => exact ⟨q + 1, by omega, by go_num, by rw [HTK.out, hv], K2.out⟩
  ·
   have ga : ¬ (q : Int) < (L : Int) := by omega
   have E : Hid (xs.any (fun y => y.only h == key) = false) := by
    show _ = _
    rw [← HA.out, List.take_of_length_le (by rw [HL.out]; omega)]
   go_wp2_with fail
   go_ret
   exact ⟨⟨_, rfl, by rw [E.out]; rfl⟩, K.out⟩
theorem confB_any (R V K h : Nat) (hh : h < 8) (key : Sp) (hk : key.Ok) (ok : Nat → Prop) (v : Value) (xs : List Sp) (w : World) (hS : SpL w ok v xs) (hn : xs.length ≤ 5000000000000) (hV : w.cell? ⟨V, 0, none⟩ = some (.pointer (some ⟨R, 4, none⟩))) (hR : w.cell? ⟨R, 4, none⟩ = some (.int .u8 (h : Int))) (hK : w.heap[K]? = some (spo key)) :
  Calls Tryz.prog 139 #[v, .func (.func 140) #[] #[.pointer (some ⟨V, 0, none⟩), .pointer (some ⟨K, 0, none⟩)]] w fun e w' => e = .returned (.bool (xs.any (fun y => y.only h == key))) ∧ Kp w w' := by
 have HI := hid (idxfB_any R V K h hh key hk ok v xs w hS hn hV hR hK)
 clear hS hV hR hK
 go_enter Tryz.func139, Tryz.ntmps139
 go_wp2_with fail
 refine (HI.out).mono ?_
 rintro e w2 ⟨⟨i, rfl, hi⟩, k2⟩
 have K2 := hid k2
 have HE := hid hi
 clear k2 hi
 go_wp2_with fail
 go_ret
 exact ⟨by rw [← HE.out]; rfl, K2.out⟩
end Go.Proofs.YtnajcnhgeggngaaGreat.Way

/-! ### SetW -/

namespace Go.Proofs.YtnajcnhgeggngaaGreat.Way
open Go.RowKit Go.Proofs.YtnajcnhgeggngaaGreat Go.Maps Go.WideElems Go.ChangeMaps Go.MapKept

theorem mem_sorted {H : Type} (l : List (Lit × DataW H)) (p : Lit × DataW H) : p ∈ l.foldr DataW.insert [] ↔ p ∈ l := (Go.WideShapes.sorted_perm l).mem_iff
theorem read_back {H : Type} {P : Program} {k : TypeId} {R : Value → Option (DataW H × List MemPlace)} {es : Array MapEntry} {clock : Nat} (F : Fit P k R es clock) (p : Lit × DataW H) (hp : p ∈ (es.toList.map (rg P k R)).foldr DataW.insert []) : ∃ e ∈ es.toList, keyOf P k e.key = some p.1 := by
 obtain ⟨e, he, hr⟩ := List.mem_map.1 ((mem_sorted _ p).1 hp)
 obtain ⟨q, hq⟩ := F.reads e he
 refine ⟨e, he, ?_⟩
 rw [← hr, rg_of hq]
 exact WideElems.rd_key hq
theorem read_forth {H : Type} {P : Program} {k : TypeId} {R : Value → Option (DataW H × List MemPlace)} {es : Array MapEntry} {clock : Nat} (F : Fit P k R es clock) {kl : Lit} {d : DataW H} (hkl : WideAt.IsKeyLit kl) (e : MapEntry) (he : e ∈ es.toList) (hne : keyOf P k e.key ≠ some kl) : ∃ q : Lit × DataW H, keyOf P k e.key = some q.1 ∧ q ∈ putKey kl d ((es.toList.map (rg P k R)).foldr DataW.insert []) := by
 obtain ⟨q, hq⟩ := F.reads e he
 have hqk := WideElems.rd_key hq
 refine ⟨q, hqk, ?_⟩
 unfold putKey
 refine (mem_insert_iff).2 (Or.inr (List.mem_filter.2 ⟨?_, (notKey_iff hkl).2 (fun e1 => hne (e1 ▸ hqk))⟩))
 exact (mem_sorted _ q).2 (List.mem_map.2 ⟨e, he, rg_of hq⟩)
theorem put_self {H : Type} (kl : Lit) (d : DataW H) (l : List (Lit × DataW H)) : (kl, d) ∈ putKey kl d l := by
 unfold putKey
 exact (mem_insert_iff).2 (Or.inl rfl)
structure SetAt (w : World) (b : Nat) (S : List Sp) : Prop where
 ex : ∃ es clock, w.heap[b]? = some (.map es clock) ∧ Stamped es clock ∧ (∀ e ∈ es.toList, ∃ x : Sp, x.Ok ∧ e.key = spv x ∧ x ∈ S ∧ e.val = .agg #[]) ∧ ∀ x ∈ S, ∃ e ∈ es.toList, e.key = spv x
theorem SetAt.lt {w : World} {b : Nat} {S : List Sp} (h : SetAt w b S) : b < w.heap.size := by
 obtain ⟨es, clock, hb, _⟩ := h.ex
 exact bl_lt hb
theorem SetAt.same {w w' : World} {b : Nat} {S : List Sp} (h : SetAt w b S) (hb : w'.heap[b]? = w.heap[b]?) : SetAt w' b S := by
 obtain ⟨es, clock, h1, h2, h3, h4⟩ := h.ex
 exact ⟨es, clock, hb.trans h1, h2, h3, h4⟩
theorem SetAt.made (w : World) : SetAt (w.alloc (.map #[] 0)) w.heap.size [] := ⟨#[], 0, last_of _ _, stamped_empty 0, (fun e he => by simp at he), (fun x hx => by cases hx)⟩
theorem zero206 (w : World) : (zeroValue 206).run Tryz.prog w = .ok (.agg #[]) w := by
 have := Tryz.zeroValue206
 go_simp
theorem SetAt.look {w : World} {b : Nat} {S : List Sp} (h : SetAt w b S) {t : TypeId} (ht : Tryz.prog.underlying t = some (.map 83 206)) (x : Sp) (hx : x.Ok) :
  (Instr.lookup t (.map (some b)) (spv x) true).run Tryz.prog w = .ok (.tuple #[.agg #[], .bool (S.contains x)]) w := by
 obtain ⟨es, clock, h1, h2, h3, h4⟩ := h.ex
 obtain ⟨F, _⟩ := fit_of h2 (fun e he => by obtain ⟨x, a1, a2, _⟩ := h3 e he; exact ⟨x, a1, a2⟩)
 obtain ⟨kl, hk⟩ := key_sp x hx
 rcases fit_look true keyed83 ht (zero206 w) h1 F hk with ⟨g1, g2, _⟩ | ⟨e0, y, g1, g2, g3, _⟩
 ·
  have : S.contains x = false := by
   cases hc : S.contains x with
   | false => rfl
   | true =>
    obtain ⟨e, he, hek⟩ := h4 x (List.contains_iff_mem.1 hc)
    exact absurd hek (g2 e he)
  rw [this]
  exact g1
 ·
  obtain ⟨x', _, a2, a3, a4⟩ := h3 e0 g1
  obtain rfl := spv_inj (g2.symm.trans a2)
  rw [List.contains_iff_mem.2 a3, ← a4]
  exact g3
theorem SetAt.put {w : World} {b : Nat} {S : List Sp} (h : SetAt w b S) {t : TypeId} (ht : Tryz.prog.underlying t = some (.map 83 206)) (x : Sp) (hx : x.Ok) :
  ∃ w', (Instr.mapUpdate t (.map (some b)) (spv x) (.agg #[])).run Tryz.prog w = .ok () w' ∧ SetAt w' b (S ++ [x]) ∧ w.grownBy w' (some b) := by
 obtain ⟨es, clock, h1, h2, h3, h4⟩ := h.ex
 have hkeys : ∀ e ∈ es.toList, ∃ x : Sp, x.Ok ∧ e.key = spv x := fun e he => by obtain ⟨x, a1, a2, _⟩ := h3 e he; exact ⟨x, a1, a2⟩
 obtain ⟨F, hroom⟩ := fit_of h2 hkeys
 obtain ⟨kl, hk⟩ := key_sp x hx
 obtain ⟨es', clock', hrun, F', hput, _, _, hent⟩ := fit_store (R' := RV) keyed83 ht h1 F hroom (fun _ _ _ _ hz => hz) hk (val := .agg #[]) (yv := (.held (.agg #[]), [])) rfl
 refine ⟨_, hrun, ⟨es', clock', heap_setBlock_same h1 _, F'.stamped, fun e he => ?_, fun y hy => ?_⟩, ⟨rfl, rfl, rfl, by simp [setBlock], fun i _ hi => heap_setBlock_other h1 _ (fun e => hi (by rw [e]))⟩⟩
 ·
  rcases hent e he with ⟨a1, _⟩ | ⟨a1, a2⟩
  ·
   obtain ⟨z, b1, b2, b3, b4⟩ := h3 e a1
   exact ⟨z, b1, b2, List.mem_append_left _ b3, b4⟩
  ·
   exact ⟨x, hx, a1, by simp, a2⟩
 ·
  -- who reads so stands there
  have back := fun p hp => read_back F' p hp
  rw [hput] at back
  rcases List.mem_append.1 hy with hy | hy
  ·
   by_cases hyx : y = x
   ·
    subst hyx
    obtain ⟨e, he, hek⟩ := back (kl, .held (.agg #[])) (put_self _ _ _)
    obtain ⟨z, z1, z2⟩ := (fun e he => by
     rcases hent e he with ⟨a1, _⟩ | ⟨a1, _⟩
     ·
      exact hkeys e a1
     ·
      exact ⟨y, hx, a1⟩ : ∀ e ∈ es'.toList, ∃ x : Sp, x.Ok ∧ e.key = spv x) e he
    exact ⟨e, he, keyed83.inj hek hk⟩
   ·
    obtain ⟨e, he, hek⟩ := h4 y hy
    obtain ⟨q, hqk, hq⟩ := read_forth F (keyed83.key hk) e he (fun e1 => hyx (spv_inj (hek.symm.trans (keyed83.inj e1 hk))))
    obtain ⟨e', he', hek'⟩ := back q hq
    exact ⟨e', he', (keyed83.inj hek' hqk).trans hek⟩
  ·
   obtain rfl := List.mem_singleton.1 hy
   obtain ⟨e, he, hek⟩ := back (kl, .held (.agg #[])) (put_self _ _ _)
   exact ⟨e, he, keyed83.inj hek hk⟩
end Go.Proofs.YtnajcnhgeggngaaGreat.Way

/-! ### RHas -/

namespace Go.Proofs.YtnajcnhgeggngaaGreat.Way
set_option maxHeartbeats 2000000
set_option maxRecDepth 100000
open Go.RowKit Go.Proofs.YtnajcnhgeggngaaGreat

theorem opqE {Q : Exit → Act → World → Prop} {x : Exit} {a : Act} {w : World} (R : World → Prop) (hr : R w) (h : ∀ W, R W → Q x a W) : Q x a w := h w hr
theorem map_nil (m : Option Nat) (w : World) : (binOp .eql 175 (.map m) (.map none)).run Tryz.prog w = .ok (.bool m.isNone) w := run_eql_map_nil w 175 83 206 m Tryz.underlying175
structure PlOk (pl : Nat) (xs : List Sp) : Prop where
 lt : pl < 2305843009213693952
 bit : ∀ i : Nat, i ≤ 60 → (pl / 2 ^ i % 2 = 1 ↔ ∃ y ∈ xs, y.a = (i : Int))
theorem rhasA_any (R h pl : Nat) (lv : Value) (sn : Option Nat) (hh : h < 8) (base : Nat) (xs : List Sp) (key : Sp) (hk : key.Ok) (hkey : key.only h = key) (w : World) (hR : w.heap[R]? = some (.cells #[.int .u8 (h : Int), lv, .int .u64 (pl : Int), .map sn] 177)) (hS : SpR base w lv xs) (hn : xs.length ≤ 5000000000000) (hP : PlOk pl xs) (hs : ∀ b, sn = some b → SetAt w b (xs.map (Sp.only h)) ∧ h ≠ 0) :
  Calls Tryz.prog 133 #[.pointer (some ⟨R, 0, none⟩), spv key] w fun e w' => e = .returned (.bool (xs.any (fun y => y.only h == key))) ∧ Kp w w' := by
 have HR := hid hR
 have HS := hid hS
 have HQS := hid hs
 have hka := hk.a0
 have hkb := hk.a1
 obtain ⟨a, ha⟩ : ∃ a, key.a.toNat = a := ⟨_, rfl⟩
 have HBI : Hid (bits .and .u64 ((pl : Int) / 2 ^ key.a.toNat) 1 = ((pl / 2 ^ a % 2 : Nat) : Int)) := by
  show _ = _
  rw [ha]
  have h1 : ((pl : Int) / 2 ^ a) = ((pl / 2 ^ a : Nat) : Int) := by rw [Int.natCast_ediv, Int.natCast_pow]; rfl
  have h2 : pl / 2 ^ a ≤ pl := Nat.div_le_self _ _
  have h3 := hP.lt
  rw [h1, show (1 : Int) = ((1 : Nat) : Int) from rfl, u64_and_nat _ _ (by omega) (by omega), Nat.and_one_is_mod]
 clear hR hS hs
 by_cases hb : pl / 2 ^ a % 2 = 1
 case neg =>
  have HB : Hid ((bits .and .u64 ((pl : Int) / 2 ^ key.a.toNat) 1 == 0) = true) := by show _ = _; rw [HBI.out, beq_iff_eq]; omega
  have E : Hid (xs.any (fun y => y.only h == key) = false) := by
   show _ = _
   rw [List.any_eq_false]
   intro y hy e
   have e2 : y.only h = key := by simpa using e
   refine hb ((hP.bit a (by omega)).2 ⟨y, hy, ?_⟩)
   have : (y.only h).a = y.a := rfl
   rw [← this, e2]
   omega
  clear hb HBI ha hP hkey
  go_enter Tryz.func133, Tryz.ntmps133
  go_upto_region 1 with fail
  refine opq (fun W0 => W0.heap[w.heap.size]? = some (.cells #[.pointer (some ⟨R, 0, none⟩)] 179) ∧ W0.heap[(w.heap.size + 1)]? = some (spo key) ∧ W0.heap[R]? = some (.cells #[.int .u8 (h : Int), lv, .int .u64 (pl : Int), .map sn] 177) ∧ Kp w W0 ∧ SpR base W0 lv xs ∧ ∀ b, sn = some b → SetAt W0 b (xs.map (Sp.only h))) ⟨by exact bl_alloc (last_of _ _) _, by exact last_at _ _ _ (by simp), by exact bl_kp HR.out kpt, by exact kpt, by exact HS.out.kp kpt, by exact fun b hb => ((HQS.out b hb).1).same (Below.block (show Kp w _ from kpt) b (HQS.out b hb).1.lt)⟩ ?_
  rintro W0 ⟨xV0, xKB, xR0, xK0, xS0, xQS0⟩
  have V0 := hid xV0
  have KB := hid xKB
  have R0 := hid xR0
  have K0 := hid xK0
  have S0 := hid xS0
  have QS0 := hid xQS0
  clear xV0 xKB xR0 xK0 xS0 xQS0
  have Q0 : Kp W0 W0.drew := (Kp.refl _).drew
  have MK : Hid (∀ W, Kp W0 W → W.cell? ⟨w.heap.size, 0, none⟩ = some (.pointer (some ⟨R, 0, none⟩)) ∧ W.cell? ⟨R, 2, none⟩ = some (.int .u64 (pl : Int)) ∧ W.cell? ⟨(w.heap.size + 1), 0, none⟩ = some (.int .i8 key.a) ∧ Hid (Kp W0 W)) := fun W k => ⟨bl_cell (bl_kp V0.out k) 0 _ rfl, bl_cell (bl_kp R0.out k) 2 _ rfl, bl_cell (bl_kp KB.out k) 0 _ rfl, k⟩
  refine wp_region_noPanic ?_
  refine hdrew MK Q0 (fun hH => ?_)
  have KQ := Q0
  refine tk 0 (some 8) (Op.load 179 (Operand.tmp 2)) 179 (v := ?v0a1) rfl ?h0a1 hH ?_
  case h0a1 => intro _ _; go_simp; try with_reducible rfl
  try simp only [ps]
  refine tk 1 (some 9) (Op.nilCheck (Operand.tmp 8)) 0 (v := ?v1a2) rfl ?h1a2 hH ?_
  case h1a2 => intro _ _; go_simp; try with_reducible rfl
  try simp only [ps]
  refine tk 2 (some 10) (Op.fieldAddr 177 (Operand.tmp 9) 2) 0 (v := ?v2a3) rfl ?h2a3 hH ?_
  case h2a3 => intro _ _; go_simp; try with_reducible rfl
  try simp only [ps]
  refine tk 3 (some 11) (Op.load 22 (Operand.tmp 10)) 22 (v := ?v3a4) rfl ?h3a4 hH ?_
  case h3a4 => intro _ _; go_simp; try with_reducible rfl
  try simp only [ps]
  refine tk 4 (some 12) (Op.fieldAddr 83 (Operand.tmp 3) 0) 0 (v := ?v4a5) rfl ?h4a5 hH ?_
  case h4a5 => intro _ _; go_simp; try with_reducible rfl
  try simp only [ps]
  refine tk 5 (some 13) (Op.load 78 (Operand.tmp 12)) 78 (v := ?v5a6) rfl ?h5a6 hH ?_
  case h5a6 => intro _ _; go_simp; try with_reducible rfl
  try simp only [ps]
  refine tk 6 (some 14) (Op.binOp BinOp.shr 22 (Operand.tmp 11) (Operand.tmp 13) 78) 22 (v := ?v6a7) rfl ?h6a7 hH ?_
  case h6a7 => intro _ _; go_simp; try with_reducible rfl
  try simp only [ps]
  refine tk 7 (some 15) (Op.binOp BinOp.and 22 (Operand.tmp 14) (Operand.const (Value.int IntKind.u64 1)) 22) 22 (v := ?v7a8) rfl ?h7a8 hH ?_
  case h7a8 => intro _ _; go_simp; try with_reducible rfl
  try simp only [ps]
  refine tk 8 (some 16) (Op.binOp BinOp.eql 22 (Operand.tmp 15) (Operand.const (Value.int IntKind.u64 0)) 22) 4 (v := ?v8a9) rfl ?h8a9 hH ?_
  case h8a9 => intro _ _; go_simp; try with_reducible rfl
  try simp only [ps]
  refine tk 9 (some 7) (Op.assign (Operand.tmp 16)) 4 (v := ?v9a10) rfl ?h9a10 hH ?_
  case h9a10 => intro _ _; go_simp; try with_reducible rfl
  try simp only [ps]
  refine wpAnyH_done (by kernel_rfl) ?_ _
  refine NoPanic.normal ?_
  rw [HB.out]
  refine opqE (fun W1 => W1.heap[w.heap.size]? = some (.cells #[.pointer (some ⟨R, 0, none⟩)] 179) ∧ W1.heap[(w.heap.size + 1)]? = some (spo key) ∧ W1.heap[R]? = some (.cells #[.int .u8 (h : Int), lv, .int .u64 (pl : Int), .map sn] 177) ∧ Kp w W1 ∧ SpR base W1 lv xs ∧ ∀ b, sn = some b → SetAt W1 b (xs.map (Sp.only h))) ⟨by exact bl_kp V0.out KQ, by exact bl_kp KB.out KQ, by exact bl_kp R0.out KQ, by exact K0.out.trans KQ, by exact S0.out.kp KQ, by exact fun b hb => (QS0.out b hb).same (KQ.block b (QS0.out b hb).lt)⟩ ?_
  rintro W1 ⟨xV1, xKB1, xR1, xK1, xS1, xQ1⟩
  have V1 := hid xV1
  have KB1 := hid xKB1
  have R1 := hid xR1
  have K1 := hid xK1
  have S1 := hid xS1
  have Q1 := hid xQ1
  clear xV1 xKB1 xR1 xK1 xS1 xQ1
  obtain ⟨r0, r1, r2, r3⟩ := cells4 R1.out
  have v0 := bl_cell V1.out 0 _ rfl
  go_wp2_with fail
  go_ret
  exact ⟨by rw [E.out]; rfl, K1.out⟩
 case pos =>
 have HB : Hid ((bits .and .u64 ((pl : Int) / 2 ^ key.a.toNat) 1 == 0) = false) := by show _ = _; rw [HBI.out, hb]; rfl
 by_cases h0 : h = 0
 ·
  have h0b : ((h : Int) == 0) = true := by rw [h0]; rfl
  have E : Hid (xs.any (fun y => y.only h == key) = true) := by
   show _ = _
   obtain ⟨y, hy, hya⟩ := (hP.bit a (by omega)).1 hb
   rw [List.any_eq_true]
   refine ⟨y, hy, ?_⟩
   have e1 : y.only h = key.only h := by
    rw [h0]
    unfold Sp.only
    rw [show y.a = key.a by omega]
    rfl
   rw [e1, hkey]
   simp
  clear hb HBI ha hP hkey h0
  go_enter Tryz.func133, Tryz.ntmps133
  go_upto_region 1 with fail
  refine opq (fun W0 => W0.heap[w.heap.size]? = some (.cells #[.pointer (some ⟨R, 0, none⟩)] 179) ∧ W0.heap[(w.heap.size + 1)]? = some (spo key) ∧ W0.heap[R]? = some (.cells #[.int .u8 (h : Int), lv, .int .u64 (pl : Int), .map sn] 177) ∧ Kp w W0 ∧ SpR base W0 lv xs ∧ ∀ b, sn = some b → SetAt W0 b (xs.map (Sp.only h))) ⟨by exact bl_alloc (last_of _ _) _, by exact last_at _ _ _ (by simp), by exact bl_kp HR.out kpt, by exact kpt, by exact HS.out.kp kpt, by exact fun b hb => ((HQS.out b hb).1).same (Below.block (show Kp w _ from kpt) b (HQS.out b hb).1.lt)⟩ ?_
  rintro W0 ⟨xV0, xKB, xR0, xK0, xS0, xQS0⟩
  have V0 := hid xV0
  have KB := hid xKB
  have R0 := hid xR0
  have K0 := hid xK0
  have S0 := hid xS0
  have QS0 := hid xQS0
  clear xV0 xKB xR0 xK0 xS0 xQS0
  have Q0 : Kp W0 W0.drew := (Kp.refl _).drew
  have MK : Hid (∀ W, Kp W0 W → W.cell? ⟨w.heap.size, 0, none⟩ = some (.pointer (some ⟨R, 0, none⟩)) ∧ W.cell? ⟨R, 2, none⟩ = some (.int .u64 (pl : Int)) ∧ W.cell? ⟨(w.heap.size + 1), 0, none⟩ = some (.int .i8 key.a) ∧ Hid (Kp W0 W)) := fun W k => ⟨bl_cell (bl_kp V0.out k) 0 _ rfl, bl_cell (bl_kp R0.out k) 2 _ rfl, bl_cell (bl_kp KB.out k) 0 _ rfl, k⟩
  refine wp_region_noPanic ?_
  refine hdrew MK Q0 (fun hH => ?_)
  have KQ := Q0
  refine tk 0 (some 8) (Op.load 179 (Operand.tmp 2)) 179 (v := ?v0b1) rfl ?h0b1 hH ?_
  case h0b1 => intro _ _; go_simp; try with_reducible rfl
  try simp only [ps]
  refine tk 1 (some 9) (Op.nilCheck (Operand.tmp 8)) 0 (v := ?v1b2) rfl ?h1b2 hH ?_
  case h1b2 => intro _ _; go_simp; try with_reducible rfl
  try simp only [ps]
  refine tk 2 (some 10) (Op.fieldAddr 177 (Operand.tmp 9) 2) 0 (v := ?v2b3) rfl ?h2b3 hH ?_
  case h2b3 => intro _ _; go_simp; try with_reducible rfl
  try simp only [ps]
  refine tk 3 (some 11) (Op.load 22 (Operand.tmp 10)) 22 (v := ?v3b4) rfl ?h3b4 hH ?_
  case h3b4 => intro _ _; go_simp; try with_reducible rfl
  try simp only [ps]
  refine tk 4 (some 12) (Op.fieldAddr 83 (Operand.tmp 3) 0) 0 (v := ?v4b5) rfl ?h4b5 hH ?_
  case h4b5 => intro _ _; go_simp; try with_reducible rfl
  try simp only [ps]
  refine tk 5 (some 13) (Op.load 78 (Operand.tmp 12)) 78 (v := ?v5b6) rfl ?h5b6 hH ?_
  case h5b6 => intro _ _; go_simp; try with_reducible rfl
  try simp only [ps]
  refine tk 6 (some 14) (Op.binOp BinOp.shr 22 (Operand.tmp 11) (Operand.tmp 13) 78) 22 (v := ?v6b7) rfl ?h6b7 hH ?_
  case h6b7 => intro _ _; go_simp; try with_reducible rfl
  try simp only [ps]
  refine tk 7 (some 15) (Op.binOp BinOp.and 22 (Operand.tmp 14) (Operand.const (Value.int IntKind.u64 1)) 22) 22 (v := ?v7b8) rfl ?h7b8 hH ?_
  case h7b8 => intro _ _; go_simp; try with_reducible rfl
  try simp only [ps]
  refine tk 8 (some 16) (Op.binOp BinOp.eql 22 (Operand.tmp 15) (Operand.const (Value.int IntKind.u64 0)) 22) 4 (v := ?v8b9) rfl ?h8b9 hH ?_
  case h8b9 => intro _ _; go_simp; try with_reducible rfl
  try simp only [ps]
  refine tk 9 (some 7) (Op.assign (Operand.tmp 16)) 4 (v := ?v9b10) rfl ?h9b10 hH ?_
  case h9b10 => intro _ _; go_simp; try with_reducible rfl
  try simp only [ps]
  refine wpAnyH_done (by kernel_rfl) ?_ _
  refine NoPanic.normal ?_
  rw [HB.out]
  refine opqE (fun W1 => W1.heap[w.heap.size]? = some (.cells #[.pointer (some ⟨R, 0, none⟩)] 179) ∧ W1.heap[(w.heap.size + 1)]? = some (spo key) ∧ W1.heap[R]? = some (.cells #[.int .u8 (h : Int), lv, .int .u64 (pl : Int), .map sn] 177) ∧ Kp w W1 ∧ SpR base W1 lv xs ∧ ∀ b, sn = some b → SetAt W1 b (xs.map (Sp.only h))) ⟨by exact bl_kp V0.out KQ, by exact bl_kp KB.out KQ, by exact bl_kp R0.out KQ, by exact K0.out.trans KQ, by exact S0.out.kp KQ, by exact fun b hb => (QS0.out b hb).same (KQ.block b (QS0.out b hb).lt)⟩ ?_
  rintro W1 ⟨xV1, xKB1, xR1, xK1, xS1, xQ1⟩
  have V1 := hid xV1
  have KB1 := hid xKB1
  have R1 := hid xR1
  have K1 := hid xK1
  have S1 := hid xS1
  have Q1 := hid xQ1
  clear xV1 xKB1 xR1 xK1 xS1 xQ1
  obtain ⟨r0, r1, r2, r3⟩ := cells4 R1.out
  have v0 := bl_cell V1.out 0 _ rfl
  go_wp2_with fail
  go_ret
  exact ⟨by rw [E.out]; rfl, K1.out⟩
 have h0b : ((h : Int) == 0) = false := by rw [beq_eq_false_iff_ne]; omega
 have h0c : ¬ (h : Int) = 0 := by omega
 clear hb HBI ha hP
 cases sn with
 | none =>
  go_enter Tryz.func133, Tryz.ntmps133
  go_upto_region 1 with fail
  refine opq (fun W0 => W0.heap[w.heap.size]? = some (.cells #[.pointer (some ⟨R, 0, none⟩)] 179) ∧ W0.heap[(w.heap.size + 1)]? = some (spo key) ∧ W0.heap[R]? = some (.cells #[.int .u8 (h : Int), lv, .int .u64 (pl : Int), .map none] 177) ∧ Kp w W0 ∧ SpR base W0 lv xs ∧ ∀ b', none = some b' → SetAt W0 b' (xs.map (Sp.only h))) ⟨by exact bl_alloc (last_of _ _) _, by exact last_at _ _ _ (by simp), by exact bl_kp HR.out kpt, by exact kpt, by exact HS.out.kp kpt, by exact fun b hb => ((HQS.out b hb).1).same (Below.block (show Kp w _ from kpt) b (HQS.out b hb).1.lt)⟩ ?_
  rintro W0 ⟨xV0, xKB, xR0, xK0, xS0, xQS0⟩
  have V0 := hid xV0
  have KB := hid xKB
  have R0 := hid xR0
  have K0 := hid xK0
  have S0 := hid xS0
  have QS0 := hid xQS0
  clear xV0 xKB xR0 xK0 xS0 xQS0
  have em := map_nil none
  have Q0 : Kp W0 W0.drew := (Kp.refl _).drew
  have MK : Hid (∀ W, Kp W0 W → W.cell? ⟨w.heap.size, 0, none⟩ = some (.pointer (some ⟨R, 0, none⟩)) ∧ W.cell? ⟨R, 2, none⟩ = some (.int .u64 (pl : Int)) ∧ W.cell? ⟨(w.heap.size + 1), 0, none⟩ = some (.int .i8 key.a) ∧ Hid (Kp W0 W)) := fun W k => ⟨bl_cell (bl_kp V0.out k) 0 _ rfl, bl_cell (bl_kp R0.out k) 2 _ rfl, bl_cell (bl_kp KB.out k) 0 _ rfl, k⟩
  refine wp_region_noPanic ?_
  refine hdrew MK Q0 (fun hH => ?_)
  have KQ := Q0
  refine tk 0 (some 8) (Op.load 179 (Operand.tmp 2)) 179 (v := ?v0c1) rfl ?h0c1 hH ?_
  case h0c1 => intro _ _; go_simp; try with_reducible rfl
  try simp only [ps]
  refine tk 1 (some 9) (Op.nilCheck (Operand.tmp 8)) 0 (v := ?v1c2) rfl ?h1c2 hH ?_
  case h1c2 => intro _ _; go_simp; try with_reducible rfl
  try simp only [ps]
  refine tk 2 (some 10) (Op.fieldAddr 177 (Operand.tmp 9) 2) 0 (v := ?v2c3) rfl ?h2c3 hH ?_
  case h2c3 => intro _ _; go_simp; try with_reducible rfl
  try simp only [ps]
  refine tk 3 (some 11) (Op.load 22 (Operand.tmp 10)) 22 (v := ?v3c4) rfl ?h3c4 hH ?_
  case h3c4 => intro _ _; go_simp; try with_reducible rfl
  try simp only [ps]
  refine tk 4 (some 12) (Op.fieldAddr 83 (Operand.tmp 3) 0) 0 (v := ?v4c5) rfl ?h4c5 hH ?_
  case h4c5 => intro _ _; go_simp; try with_reducible rfl
  try simp only [ps]
  refine tk 5 (some 13) (Op.load 78 (Operand.tmp 12)) 78 (v := ?v5c6) rfl ?h5c6 hH ?_
  case h5c6 => intro _ _; go_simp; try with_reducible rfl
  try simp only [ps]
  refine tk 6 (some 14) (Op.binOp BinOp.shr 22 (Operand.tmp 11) (Operand.tmp 13) 78) 22 (v := ?v6c7) rfl ?h6c7 hH ?_
  case h6c7 => intro _ _; go_simp; try with_reducible rfl
  try simp only [ps]
  refine tk 7 (some 15) (Op.binOp BinOp.and 22 (Operand.tmp 14) (Operand.const (Value.int IntKind.u64 1)) 22) 22 (v := ?v7c8) rfl ?h7c8 hH ?_
  case h7c8 => intro _ _; go_simp; try with_reducible rfl
  try simp only [ps]
  refine tk 8 (some 16) (Op.binOp BinOp.eql 22 (Operand.tmp 15) (Operand.const (Value.int IntKind.u64 0)) 22) 4 (v := ?v8c9) rfl ?h8c9 hH ?_
  case h8c9 => intro _ _; go_simp; try with_reducible rfl
  try simp only [ps]
  refine tk 9 (some 7) (Op.assign (Operand.tmp 16)) 4 (v := ?v9c10) rfl ?h9c10 hH ?_
  case h9c10 => intro _ _; go_simp; try with_reducible rfl
  try simp only [ps]
  refine wpAnyH_done (by kernel_rfl) ?_ _
  refine NoPanic.normal ?_
  rw [HB.out]
  refine opqE (fun W1 => W1.heap[w.heap.size]? = some (.cells #[.pointer (some ⟨R, 0, none⟩)] 179) ∧ W1.heap[(w.heap.size + 1)]? = some (spo key) ∧ W1.heap[R]? = some (.cells #[.int .u8 (h : Int), lv, .int .u64 (pl : Int), .map none] 177) ∧ Kp w W1 ∧ SpR base W1 lv xs ∧ ∀ b', none = some b' → SetAt W1 b' (xs.map (Sp.only h))) ⟨by exact bl_kp V0.out KQ, by exact bl_kp KB.out KQ, by exact bl_kp R0.out KQ, by exact K0.out.trans KQ, by exact S0.out.kp KQ, by exact fun b hb => (QS0.out b hb).same (KQ.block b (QS0.out b hb).lt)⟩ ?_
  rintro W1 ⟨xV1, xKB1, xR1, xK1, xS1, xQ1⟩
  have V1 := hid xV1
  have KB1 := hid xKB1
  have R1 := hid xR1
  have K1 := hid xK1
  have S1 := hid xS1
  have Q1 := hid xQ1
  clear xV1 xKB1 xR1 xK1 xS1 xQ1
  obtain ⟨r0, r1, r2, r3⟩ := cells4 R1.out
  have v0 := bl_cell V1.out 0 _ rfl
  go_wp2_with fail
  refine (confA_any R w.heap.size (w.heap.size + 1) h hh key hk (fun _ => True) lv xs _ (S1.out.spl (fun _ _ => trivial)) hn v0 r0 KB1.out).mono ?_
  rintro e w2 ⟨rfl, k2⟩
  go_wp2_with fail
  go_ret
  exact ⟨rfl, K1.out.trans k2⟩
 | some b =>
  obtain ⟨q, hq⟩ : ∃ q, (xs.map (Sp.only h)).contains key = q := ⟨_, rfl⟩
  have HQ : Hid (∀ W, (Instr.lookup 175 (.map (some b)) (spv key) true).run Tryz.prog W = .ok (.tuple #[.agg #[], .bool ((xs.map (Sp.only h)).contains key)]) W → (Instr.lookup 175 (.map (some b)) (spv key) true).run Tryz.prog W = .ok (.tuple #[.agg #[], .bool q]) W) := by
   rw [hq]
   exact fun W h => h
  have E : Hid (xs.any (fun y => y.only h == key) = q) := by
   show _ = _
   rw [← hq, Bool.eq_iff_iff, List.any_eq_true, List.contains_iff_mem, List.mem_map]
   constructor
   ·
    rintro ⟨y, hy, e⟩
    exact ⟨y, hy, by simpa using e⟩
   ·
    rintro ⟨y, hy, e⟩
    exact ⟨y, hy, by simp [e]⟩
  clear hq
  go_enter Tryz.func133, Tryz.ntmps133
  go_upto_region 1 with fail
  refine opq (fun W0 => W0.heap[w.heap.size]? = some (.cells #[.pointer (some ⟨R, 0, none⟩)] 179) ∧ W0.heap[(w.heap.size + 1)]? = some (spo key) ∧ W0.heap[R]? = some (.cells #[.int .u8 (h : Int), lv, .int .u64 (pl : Int), .map (some b)] 177) ∧ Kp w W0 ∧ SpR base W0 lv xs ∧ ∀ b', (some b) = some b' → SetAt W0 b' (xs.map (Sp.only h))) ⟨by exact bl_alloc (last_of _ _) _, by exact last_at _ _ _ (by simp), by exact bl_kp HR.out kpt, by exact kpt, by exact HS.out.kp kpt, by exact fun b hb => ((HQS.out b hb).1).same (Below.block (show Kp w _ from kpt) b (HQS.out b hb).1.lt)⟩ ?_
  rintro W0 ⟨xV0, xKB, xR0, xK0, xS0, xQS0⟩
  have V0 := hid xV0
  have KB := hid xKB
  have R0 := hid xR0
  have K0 := hid xK0
  have S0 := hid xS0
  have QS0 := hid xQS0
  clear xV0 xKB xR0 xK0 xS0 xQS0
  have em := map_nil (some b)
  have Q0 : Kp W0 W0.drew := (Kp.refl _).drew
  have MK : Hid (∀ W, Kp W0 W → W.cell? ⟨w.heap.size, 0, none⟩ = some (.pointer (some ⟨R, 0, none⟩)) ∧ W.cell? ⟨R, 2, none⟩ = some (.int .u64 (pl : Int)) ∧ W.cell? ⟨(w.heap.size + 1), 0, none⟩ = some (.int .i8 key.a) ∧ Hid (Kp W0 W)) := fun W k => ⟨bl_cell (bl_kp V0.out k) 0 _ rfl, bl_cell (bl_kp R0.out k) 2 _ rfl, bl_cell (bl_kp KB.out k) 0 _ rfl, k⟩
  refine wp_region_noPanic ?_
  refine hdrew MK Q0 (fun hH => ?_)
  have KQ := Q0
  refine tk 0 (some 8) (Op.load 179 (Operand.tmp 2)) 179 (v := ?v0d1) rfl ?h0d1 hH ?_
  case h0d1 => intro _ _; go_simp; try with_reducible rfl
  try simp only [ps]
  refine tk 1 (some 9) (Op.nilCheck (Operand.tmp 8)) 0 (v := ?v1d2) rfl ?h1d2 hH ?_
  case h1d2 => intro _ _; go_simp; try with_reducible rfl
  try simp only [ps]
  refine tk 2 (some 10) (Op.fieldAddr 177 (Operand.tmp 9) 2) 0 (v := ?v2d3) rfl ?h2d3 hH ?_
  case h2d3 => intro _ _; go_simp; try with_reducible rfl
  try simp only [ps]
  refine tk 3 (some 11) (Op.load 22 (Operand.tmp 10)) 22 (v := ?v3d4) rfl ?h3d4 hH ?_
  case h3d4 => intro _ _; go_simp; try with_reducible rfl
  try simp only [ps]
  refine tk 4 (some 12) (Op.fieldAddr 83 (Operand.tmp 3) 0) 0 (v := ?v4d5) rfl ?h4d5 hH ?_
  case h4d5 => intro _ _; go_simp; try with_reducible rfl
  try simp only [ps]
  refine tk 5 (some 13) (Op.load 78 (Operand.tmp 12)) 78 (v := ?v5d6) rfl ?h5d6 hH ?_
  case h5d6 => intro _ _; go_simp; try with_reducible rfl
  try simp only [ps]
  refine tk 6 (some 14) (Op.binOp BinOp.shr 22 (Operand.tmp 11) (Operand.tmp 13) 78) 22 (v := ?v6d7) rfl ?h6d7 hH ?_
  case h6d7 => intro _ _; go_simp; try with_reducible rfl
  try simp only [ps]
  refine tk 7 (some 15) (Op.binOp BinOp.and 22 (Operand.tmp 14) (Operand.const (Value.int IntKind.u64 1)) 22) 22 (v := ?v7d8) rfl ?h7d8 hH ?_
  case h7d8 => intro _ _; go_simp; try with_reducible rfl
  try simp only [ps]
  refine tk 8 (some 16) (Op.binOp BinOp.eql 22 (Operand.tmp 15) (Operand.const (Value.int IntKind.u64 0)) 22) 4 (v := ?v8d9) rfl ?h8d9 hH ?_
  case h8d9 => intro _ _; go_simp; try with_reducible rfl
  try simp only [ps]
  refine tk 9 (some 7) (Op.assign (Operand.tmp 16)) 4 (v := ?v9d10) rfl ?h9d10 hH ?_
  case h9d10 => intro _ _; go_simp; try with_reducible rfl
  try simp only [ps]
  refine wpAnyH_done (by kernel_rfl) ?_ _
  refine NoPanic.normal ?_
  rw [HB.out]
  refine opqE (fun W1 => W1.heap[w.heap.size]? = some (.cells #[.pointer (some ⟨R, 0, none⟩)] 179) ∧ W1.heap[(w.heap.size + 1)]? = some (spo key) ∧ W1.heap[R]? = some (.cells #[.int .u8 (h : Int), lv, .int .u64 (pl : Int), .map (some b)] 177) ∧ Kp w W1 ∧ SpR base W1 lv xs ∧ ∀ b', (some b) = some b' → SetAt W1 b' (xs.map (Sp.only h))) ⟨by exact bl_kp V0.out KQ, by exact bl_kp KB.out KQ, by exact bl_kp R0.out KQ, by exact K0.out.trans KQ, by exact S0.out.kp KQ, by exact fun b hb => (QS0.out b hb).same (KQ.block b (QS0.out b hb).lt)⟩ ?_
  rintro W1 ⟨xV1, xKB1, xR1, xK1, xS1, xQ1⟩
  have V1 := hid xV1
  have KB1 := hid xKB1
  have R1 := hid xR1
  have K1 := hid xK1
  have S1 := hid xS1
  have Q1 := hid xQ1
  clear xV1 xKB1 xR1 xK1 xS1 xQ1
  obtain ⟨r0, r1, r2, r3⟩ := cells4 R1.out
  have v0 := bl_cell V1.out 0 _ rfl
  go_upto_region 7 with fail
  clear r0 r1 r2 r3 v0
  have Q0 : Kp W1 W1.drew := (Kp.refl _).drew
  have MK : Hid (∀ W, Kp W1 W → W.cell? ⟨w.heap.size, 0, none⟩ = some (.pointer (some ⟨R, 0, none⟩)) ∧ W.cell? ⟨R, 3, none⟩ = some (.map (some b)) ∧ W.cell? ⟨(w.heap.size + 1), 0, none⟩ = some (.int .i8 key.a) ∧ W.cell? ⟨(w.heap.size + 1), 1, none⟩ = some (.int .i8 key.f0) ∧ W.cell? ⟨(w.heap.size + 1), 2, none⟩ = some (.int .i8 key.t0) ∧ W.cell? ⟨(w.heap.size + 1), 3, none⟩ = some (.int .i8 key.f1) ∧ W.cell? ⟨(w.heap.size + 1), 4, none⟩ = some (.int .i8 key.t1) ∧ W.cell? ⟨(w.heap.size + 1), 5, none⟩ = some (.int .i8 key.f2) ∧ W.cell? ⟨(w.heap.size + 1), 6, none⟩ = some (.int .i8 key.t2) ∧ (Instr.lookup 175 (.map (some b)) (spv key) true).run Tryz.prog W = .ok (.tuple #[.agg #[], .bool q]) W ∧ Hid (Kp W1 W)) := fun W k => ⟨bl_cell (bl_kp V1.out k) 0 _ rfl, bl_cell (bl_kp R1.out k) 3 _ rfl, bl_cell (bl_kp KB1.out k) 0 _ rfl, bl_cell (bl_kp KB1.out k) 1 _ rfl, bl_cell (bl_kp KB1.out k) 2 _ rfl, bl_cell (bl_kp KB1.out k) 3 _ rfl, bl_cell (bl_kp KB1.out k) 4 _ rfl, bl_cell (bl_kp KB1.out k) 5 _ rfl, bl_cell (bl_kp KB1.out k) 6 _ rfl, HQ.out _ (((Q1.out b rfl).same (k.block b (Q1.out b rfl).lt)).look Tryz.underlying175 key hk), k⟩
  refine wp_region_noPanic ?_
  refine hdrew MK Q0 (fun hH => ?_)
  have KQ := Q0
  refine tk 0 (some 36) (Op.load 179 (Operand.tmp 2)) 179 (v := ?v0s1) rfl ?h0s1 hH ?_
  case h0s1 => intro _ _; go_simp; try with_reducible rfl
  try simp only [ps]
  refine tk 1 (some 37) (Op.nilCheck (Operand.tmp 36)) 0 (v := ?v1s2) rfl ?h1s2 hH ?_
  case h1s2 => intro _ _; go_simp; try with_reducible rfl
  try simp only [ps]
  refine tk 2 (some 38) (Op.fieldAddr 177 (Operand.tmp 37) 3) 0 (v := ?v2s3) rfl ?h2s3 hH ?_
  case h2s3 => intro _ _; go_simp; try with_reducible rfl
  try simp only [ps]
  refine tk 3 (some 39) (Op.load 175 (Operand.tmp 38)) 175 (v := ?v3s4) rfl ?h3s4 hH ?_
  case h3s4 => intro _ _; go_simp; try with_reducible rfl
  try simp only [ps]
  refine tk 4 (some 40) (Op.load 83 (Operand.tmp 3)) 83 (v := ?v4s5) rfl ?h4s5 hH ?_
  case h4s5 => intro _ _; go_simp; try with_reducible rfl
  try simp only [ps]
  refine tk 5 (some 41) (Op.lookup 175 (Operand.tmp 39) (Operand.tmp 40) true) 215 (v := ?v5s6) rfl ?h5s6 hH ?_
  case h5s6 => intro _ _; go_simp; try with_reducible rfl
  try simp only [ps]
  refine tk 6 (some 35) (Op.move (Operand.tmp 41)) 215 (v := ?v6s7) rfl ?h6s7 hH ?_
  case h6s7 => intro _ _; go_simp; try with_reducible rfl
  try simp only [ps]
  refine tk 7 (some 42) (Op.extract (Operand.tmp 35) 0) 206 (v := ?v7s8) rfl ?h7s8 hH ?_
  case h7s8 => intro _ _; go_simp; try with_reducible rfl
  try simp only [ps]
  refine tk 8 (some 43) (Op.extract (Operand.tmp 35) 1) 4 (v := ?v8s9) rfl ?h8s9 hH ?_
  case h8s9 => intro _ _; go_simp; try with_reducible rfl
  try simp only [ps]
  refine wpAnyH_ready (rs := [9]) (by kernel_rfl) (by simp) ?_
  refine AllReadyH.cons (o := { dst := some 5, op := Op.alloc 206, type := 0, pos := "spot.go:111", after := #[], guard := none }) rfl (fun K hKq => ?_) AllReadyH.nil
  go_simp
  refine hKq.out _ _ (MK.out _ (by first | exact KQ.alloc _ | exact (KQ0.alloc _).drew)) (fun hN => ?_)
  clear hKq K hH KQ
  have hH := hN
  clear hN
  have KQ := hH.2.2.2.2.2.2.2.2.2.2.out
  try simp only [ps]
  refine wpAnyH_ready (rs := [10]) (by kernel_rfl) (by simp) ?_
  refine AllReadyH.cons (o := { dst := none, op := Op.store 206 (Operand.tmp 5) (Operand.tmp 42), type := 0, pos := "spot.go:111", after := #[{ on := 9, ground := Ground.data }, { on := 7, ground := Ground.data }, { on := 0, ground := Ground.phase }, { on := 1, ground := Ground.phase }, { on := 2, ground := Ground.phase }, { on := 3, ground := Ground.phase }, { on := 4, ground := Ground.phase }, { on := 5, ground := Ground.phase }, { on := 6, ground := Ground.phase }, { on := 7, ground := Ground.phase }, { on := 8, ground := Ground.textOnly Departure.lateStores }, { on := 9, ground := Ground.phase }], guard := none }) rfl (fun K hKq => ?_) AllReadyH.nil
  go_simp
  refine hKq.out _ _ (MK.out _ KQ) (fun hN => ?_)
  clear hKq K hH KQ
  have hH := hN
  clear hN
  have KQ := hH.2.2.2.2.2.2.2.2.2.2.out
  try simp only [ps]
  refine tk 11 (some 6) (Op.assign (Operand.tmp 43)) 4 (v := ?v11s10) rfl ?h11s10 hH ?_
  case h11s10 => intro _ _; go_simp; try with_reducible rfl
  try simp only [ps]
  refine wpAnyH_done (by kernel_rfl) ?_ _
  refine NoPanic.normal ?_
  go_wp2_with fail
  go_ret
  exact ⟨by rw [E.out]; rfl, K1.out.trans KQ⟩
theorem rhasB_any (R h pl : Nat) (lv : Value) (sn : Option Nat) (z0 z1 z2 z3 : Value) (hh : h < 8) (base : Nat) (xs : List Sp) (key : Sp) (hk : key.Ok) (hkey : key.only h = key) (w : World) (hR : w.heap[R]? = some (.cells #[z0, z1, z2, z3, .int .u8 (h : Int), lv, .int .u64 (pl : Int), .map sn] 182)) (hS : SpR base w lv xs) (hn : xs.length ≤ 5000000000000) (hP : PlOk pl xs) (hs : ∀ b, sn = some b → SetAt w b (xs.map (Sp.only h)) ∧ h ≠ 0) :
  Calls Tryz.prog 133 #[.pointer (some ⟨R, 4, none⟩), spv key] w fun e w' => e = .returned (.bool (xs.any (fun y => y.only h == key))) ∧ Kp w w' := by
 have HR := hid hR
 have HS := hid hS
 have HQS := hid hs
 have hka := hk.a0
 have hkb := hk.a1
 obtain ⟨a, ha⟩ : ∃ a, key.a.toNat = a := ⟨_, rfl⟩
 have HBI : Hid (bits .and .u64 ((pl : Int) / 2 ^ key.a.toNat) 1 = ((pl / 2 ^ a % 2 : Nat) : Int)) := by
  show _ = _
  rw [ha]
  have h1 : ((pl : Int) / 2 ^ a) = ((pl / 2 ^ a : Nat) : Int) := by rw [Int.natCast_ediv, Int.natCast_pow]; rfl
  have h2 : pl / 2 ^ a ≤ pl := Nat.div_le_self _ _
  have h3 := hP.lt
  rw [h1, show (1 : Int) = ((1 : Nat) : Int) from rfl, u64_and_nat _ _ (by omega) (by omega), Nat.and_one_is_mod]
 clear hR hS hs
 by_cases hb : pl / 2 ^ a % 2 = 1
 case neg =>
  have HB : Hid ((bits .and .u64 ((pl : Int) / 2 ^ key.a.toNat) 1 == 0) = true) := by show _ = _; rw [HBI.out, beq_iff_eq]; omega
  have E : Hid (xs.any (fun y => y.only h == key) = false) := by
   show _ = _
   rw [List.any_eq_false]
   intro y hy e
   have e2 : y.only h = key := by simpa using e
   refine hb ((hP.bit a (by omega)).2 ⟨y, hy, ?_⟩)
   have : (y.only h).a = y.a := rfl
   rw [← this, e2]
   omega
  clear hb HBI ha hP hkey
  go_enter Tryz.func133, Tryz.ntmps133
  go_upto_region 1 with fail
  refine opq (fun W0 => W0.heap[w.heap.size]? = some (.cells #[.pointer (some ⟨R, 4, none⟩)] 179) ∧ W0.heap[(w.heap.size + 1)]? = some (spo key) ∧ W0.heap[R]? = some (.cells #[z0, z1, z2, z3, .int .u8 (h : Int), lv, .int .u64 (pl : Int), .map sn] 182) ∧ Kp w W0 ∧ SpR base W0 lv xs ∧ ∀ b, sn = some b → SetAt W0 b (xs.map (Sp.only h))) ⟨by exact bl_alloc (last_of _ _) _, by exact last_at _ _ _ (by simp), by exact bl_kp HR.out kpt, by exact kpt, by exact HS.out.kp kpt, by exact fun b hb => ((HQS.out b hb).1).same (Below.block (show Kp w _ from kpt) b (HQS.out b hb).1.lt)⟩ ?_
  rintro W0 ⟨xV0, xKB, xR0, xK0, xS0, xQS0⟩
  have V0 := hid xV0
  have KB := hid xKB
  have R0 := hid xR0
  have K0 := hid xK0
  have S0 := hid xS0
  have QS0 := hid xQS0
  clear xV0 xKB xR0 xK0 xS0 xQS0
  have Q0 : Kp W0 W0.drew := (Kp.refl _).drew
  have MK : Hid (∀ W, Kp W0 W → W.cell? ⟨w.heap.size, 0, none⟩ = some (.pointer (some ⟨R, 4, none⟩)) ∧ W.cell? ⟨R, 6, none⟩ = some (.int .u64 (pl : Int)) ∧ W.cell? ⟨(w.heap.size + 1), 0, none⟩ = some (.int .i8 key.a) ∧ Hid (Kp W0 W)) := fun W k => ⟨bl_cell (bl_kp V0.out k) 0 _ rfl, bl_cell (bl_kp R0.out k) 6 _ rfl, bl_cell (bl_kp KB.out k) 0 _ rfl, k⟩
  refine wp_region_noPanic ?_
  refine hdrew MK Q0 (fun hH => ?_)
  have KQ := Q0
  refine tk 0 (some 8) (Op.load 179 (Operand.tmp 2)) 179 (v := ?v0a1) rfl ?h0a1 hH ?_
  case h0a1 => intro _ _; go_simp; try with_reducible rfl
  try simp only [ps]
  refine tk 1 (some 9) (Op.nilCheck (Operand.tmp 8)) 0 (v := ?v1a2) rfl ?h1a2 hH ?_
  case h1a2 => intro _ _; go_simp; try with_reducible rfl
  try simp only [ps]
  refine tk 2 (some 10) (Op.fieldAddr 177 (Operand.tmp 9) 2) 0 (v := ?v2a3) rfl ?h2a3 hH ?_
  case h2a3 => intro _ _; go_simp; try with_reducible rfl
  try simp only [ps]
  refine tk 3 (some 11) (Op.load 22 (Operand.tmp 10)) 22 (v := ?v3a4) rfl ?h3a4 hH ?_
  case h3a4 => intro _ _; go_simp; try with_reducible rfl
  try simp only [ps]
  refine tk 4 (some 12) (Op.fieldAddr 83 (Operand.tmp 3) 0) 0 (v := ?v4a5) rfl ?h4a5 hH ?_
  case h4a5 => intro _ _; go_simp; try with_reducible rfl
  try simp only [ps]
  refine tk 5 (some 13) (Op.load 78 (Operand.tmp 12)) 78 (v := ?v5a6) rfl ?h5a6 hH ?_
  case h5a6 => intro _ _; go_simp; try with_reducible rfl
  try simp only [ps]
  refine tk 6 (some 14) (Op.binOp BinOp.shr 22 (Operand.tmp 11) (Operand.tmp 13) 78) 22 (v := ?v6a7) rfl ?h6a7 hH ?_
  case h6a7 => intro _ _; go_simp; try with_reducible rfl
  try simp only [ps]
  refine tk 7 (some 15) (Op.binOp BinOp.and 22 (Operand.tmp 14) (Operand.const (Value.int IntKind.u64 1)) 22) 22 (v := ?v7a8) rfl ?h7a8 hH ?_
  case h7a8 => intro _ _; go_simp; try with_reducible rfl
  try simp only [ps]
  refine tk 8 (some 16) (Op.binOp BinOp.eql 22 (Operand.tmp 15) (Operand.const (Value.int IntKind.u64 0)) 22) 4 (v := ?v8a9) rfl ?h8a9 hH ?_
  case h8a9 => intro _ _; go_simp; try with_reducible rfl
  try simp only [ps]
  refine tk 9 (some 7) (Op.assign (Operand.tmp 16)) 4 (v := ?v9a10) rfl ?h9a10 hH ?_
  case h9a10 => intro _ _; go_simp; try with_reducible rfl
  try simp only [ps]
  refine wpAnyH_done (by kernel_rfl) ?_ _
  refine NoPanic.normal ?_
  rw [HB.out]
  refine opqE (fun W1 => W1.heap[w.heap.size]? = some (.cells #[.pointer (some ⟨R, 4, none⟩)] 179) ∧ W1.heap[(w.heap.size + 1)]? = some (spo key) ∧ W1.heap[R]? = some (.cells #[z0, z1, z2, z3, .int .u8 (h : Int), lv, .int .u64 (pl : Int), .map sn] 182) ∧ Kp w W1 ∧ SpR base W1 lv xs ∧ ∀ b, sn = some b → SetAt W1 b (xs.map (Sp.only h))) ⟨by exact bl_kp V0.out KQ, by exact bl_kp KB.out KQ, by exact bl_kp R0.out KQ, by exact K0.out.trans KQ, by exact S0.out.kp KQ, by exact fun b hb => (QS0.out b hb).same (KQ.block b (QS0.out b hb).lt)⟩ ?_
  rintro W1 ⟨xV1, xKB1, xR1, xK1, xS1, xQ1⟩
  have V1 := hid xV1
  have KB1 := hid xKB1
  have R1 := hid xR1
  have K1 := hid xK1
  have S1 := hid xS1
  have Q1 := hid xQ1
  clear xV1 xKB1 xR1 xK1 xS1 xQ1
  have r4 := bl_cell R1.out 4 _ rfl
  have r5 := bl_cell R1.out 5 _ rfl
  have r6 := bl_cell R1.out 6 _ rfl
  have r7 := bl_cell R1.out 7 _ rfl
  have v0 := bl_cell V1.out 0 _ rfl
  go_wp2_with fail
  go_ret
  exact ⟨by rw [E.out]; rfl, K1.out⟩
 case pos =>
 have HB : Hid ((bits .and .u64 ((pl : Int) / 2 ^ key.a.toNat) 1 == 0) = false) := by show _ = _; rw [HBI.out, hb]; rfl
 by_cases h0 : h = 0
 ·
  have h0b : ((h : Int) == 0) = true := by rw [h0]; rfl
  have E : Hid (xs.any (fun y => y.only h == key) = true) := by
   show _ = _
   obtain ⟨y, hy, hya⟩ := (hP.bit a (by omega)).1 hb
   rw [List.any_eq_true]
   refine ⟨y, hy, ?_⟩
   have e1 : y.only h = key.only h := by
    rw [h0]
    unfold Sp.only
    rw [show y.a = key.a by omega]
    rfl
   rw [e1, hkey]
   simp
  clear hb HBI ha hP hkey h0
  go_enter Tryz.func133, Tryz.ntmps133
  go_upto_region 1 with fail
  refine opq (fun W0 => W0.heap[w.heap.size]? = some (.cells #[.pointer (some ⟨R, 4, none⟩)] 179) ∧ W0.heap[(w.heap.size + 1)]? = some (spo key) ∧ W0.heap[R]? = some (.cells #[z0, z1, z2, z3, .int .u8 (h : Int), lv, .int .u64 (pl : Int), .map sn] 182) ∧ Kp w W0 ∧ SpR base W0 lv xs ∧ ∀ b, sn = some b → SetAt W0 b (xs.map (Sp.only h))) ⟨by exact bl_alloc (last_of _ _) _, by exact last_at _ _ _ (by simp), by exact bl_kp HR.out kpt, by exact kpt, by exact HS.out.kp kpt, by exact fun b hb => ((HQS.out b hb).1).same (Below.block (show Kp w _ from kpt) b (HQS.out b hb).1.lt)⟩ ?_
  rintro W0 ⟨xV0, xKB, xR0, xK0, xS0, xQS0⟩
  have V0 := hid xV0
  have KB := hid xKB
  have R0 := hid xR0
  have K0 := hid xK0
  have S0 := hid xS0
  have QS0 := hid xQS0
  clear xV0 xKB xR0 xK0 xS0 xQS0
  have Q0 : Kp W0 W0.drew := (Kp.refl _).drew
  have MK : Hid (∀ W, Kp W0 W → W.cell? ⟨w.heap.size, 0, none⟩ = some (.pointer (some ⟨R, 4, none⟩)) ∧ W.cell? ⟨R, 6, none⟩ = some (.int .u64 (pl : Int)) ∧ W.cell? ⟨(w.heap.size + 1), 0, none⟩ = some (.int .i8 key.a) ∧ Hid (Kp W0 W)) := fun W k => ⟨bl_cell (bl_kp V0.out k) 0 _ rfl, bl_cell (bl_kp R0.out k) 6 _ rfl, bl_cell (bl_kp KB.out k) 0 _ rfl, k⟩
  refine wp_region_noPanic ?_
  refine hdrew MK Q0 (fun hH => ?_)
  have KQ := Q0
  refine tk 0 (some 8) (Op.load 179 (Operand.tmp 2)) 179 (v := ?v0b1) rfl ?h0b1 hH ?_
  case h0b1 => intro _ _; go_simp; try with_reducible rfl
  try simp only [ps]
  refine tk 1 (some 9) (Op.nilCheck (Operand.tmp 8)) 0 (v := ?v1b2) rfl ?h1b2 hH ?_
  case h1b2 => intro _ _; go_simp; try with_reducible rfl
  try simp only [ps]
  refine tk 2 (some 10) (Op.fieldAddr 177 (Operand.tmp 9) 2) 0 (v := ?v2b3) rfl ?h2b3 hH ?_
  case h2b3 => intro _ _; go_simp; try with_reducible rfl
  try simp only [ps]
  refine tk 3 (some 11) (Op.load 22 (Operand.tmp 10)) 22 (v := ?v3b4) rfl ?h3b4 hH ?_
  case h3b4 => intro _ _; go_simp; try with_reducible rfl
  try simp only [ps]
  refine tk 4 (some 12) (Op.fieldAddr 83 (Operand.tmp 3) 0) 0 (v := ?v4b5) rfl ?h4b5 hH ?_
  case h4b5 => intro _ _; go_simp; try with_reducible rfl
  try simp only [ps]
  refine tk 5 (some 13) (Op.load 78 (Operand.tmp 12)) 78 (v := ?v5b6) rfl ?h5b6 hH ?_
  case h5b6 => intro _ _; go_simp; try with_reducible rfl
  try simp only [ps]
  refine tk 6 (some 14) (Op.binOp BinOp.shr 22 (Operand.tmp 11) (Operand.tmp 13) 78) 22 (v := ?v6b7) rfl ?h6b7 hH ?_
  case h6b7 => intro _ _; go_simp; try with_reducible rfl
  try simp only [ps]
  refine tk 7 (some 15) (Op.binOp BinOp.and 22 (Operand.tmp 14) (Operand.const (Value.int IntKind.u64 1)) 22) 22 (v := ?v7b8) rfl ?h7b8 hH ?_
  case h7b8 => intro _ _; go_simp; try with_reducible rfl
  try simp only [ps]
  refine tk 8 (some 16) (Op.binOp BinOp.eql 22 (Operand.tmp 15) (Operand.const (Value.int IntKind.u64 0)) 22) 4 (v := ?v8b9) rfl ?h8b9 hH ?_
  case h8b9 => intro _ _; go_simp; try with_reducible rfl
  try simp only [ps]
  refine tk 9 (some 7) (Op.assign (Operand.tmp 16)) 4 (v := ?v9b10) rfl ?h9b10 hH ?_
  case h9b10 => intro _ _; go_simp; try with_reducible rfl
  try simp only [ps]
  refine wpAnyH_done (by kernel_rfl) ?_ _
  refine NoPanic.normal ?_
  rw [HB.out]
  refine opqE (fun W1 => W1.heap[w.heap.size]? = some (.cells #[.pointer (some ⟨R, 4, none⟩)] 179) ∧ W1.heap[(w.heap.size + 1)]? = some (spo key) ∧ W1.heap[R]? = some (.cells #[z0, z1, z2, z3, .int .u8 (h : Int), lv, .int .u64 (pl : Int), .map sn] 182) ∧ Kp w W1 ∧ SpR base W1 lv xs ∧ ∀ b, sn = some b → SetAt W1 b (xs.map (Sp.only h))) ⟨by exact bl_kp V0.out KQ, by exact bl_kp KB.out KQ, by exact bl_kp R0.out KQ, by exact K0.out.trans KQ, by exact S0.out.kp KQ, by exact fun b hb => (QS0.out b hb).same (KQ.block b (QS0.out b hb).lt)⟩ ?_
  rintro W1 ⟨xV1, xKB1, xR1, xK1, xS1, xQ1⟩
  have V1 := hid xV1
  have KB1 := hid xKB1
  have R1 := hid xR1
  have K1 := hid xK1
  have S1 := hid xS1
  have Q1 := hid xQ1
  clear xV1 xKB1 xR1 xK1 xS1 xQ1
  have r4 := bl_cell R1.out 4 _ rfl
  have r5 := bl_cell R1.out 5 _ rfl
  have r6 := bl_cell R1.out 6 _ rfl
  have r7 := bl_cell R1.out 7 _ rfl
  have v0 := bl_cell V1.out 0 _ rfl
  go_wp2_with fail
  go_ret
  exact ⟨by rw [E.out]; rfl, K1.out⟩
 have h0b : ((h : Int) == 0) = false := by rw [beq_eq_false_iff_ne]; omega
 have h0c : ¬ (h : Int) = 0 := by omega
 clear hb HBI ha hP
 cases sn with
 | none =>
  go_enter Tryz.func133, Tryz.ntmps133
  go_upto_region 1 with fail
  refine opq (fun W0 => W0.heap[w.heap.size]? = some (.cells #[.pointer (some ⟨R, 4, none⟩)] 179) ∧ W0.heap[(w.heap.size + 1)]? = some (spo key) ∧ W0.heap[R]? = some (.cells #[z0, z1, z2, z3, .int .u8 (h : Int), lv, .int .u64 (pl : Int), .map none] 182) ∧ Kp w W0 ∧ SpR base W0 lv xs ∧ ∀ b', none = some b' → SetAt W0 b' (xs.map (Sp.only h))) ⟨by exact bl_alloc (last_of _ _) _, by exact last_at _ _ _ (by simp), by exact bl_kp HR.out kpt, by exact kpt, by exact HS.out.kp kpt, by exact fun b hb => ((HQS.out b hb).1).same (Below.block (show Kp w _ from kpt) b (HQS.out b hb).1.lt)⟩ ?_
  rintro W0 ⟨xV0, xKB, xR0, xK0, xS0, xQS0⟩
  have V0 := hid xV0
  have KB := hid xKB
  have R0 := hid xR0
  have K0 := hid xK0
  have S0 := hid xS0
  have QS0 := hid xQS0
  clear xV0 xKB xR0 xK0 xS0 xQS0
  have em := map_nil none
  have Q0 : Kp W0 W0.drew := (Kp.refl _).drew
  have MK : Hid (∀ W, Kp W0 W → W.cell? ⟨w.heap.size, 0, none⟩ = some (.pointer (some ⟨R, 4, none⟩)) ∧ W.cell? ⟨R, 6, none⟩ = some (.int .u64 (pl : Int)) ∧ W.cell? ⟨(w.heap.size + 1), 0, none⟩ = some (.int .i8 key.a) ∧ Hid (Kp W0 W)) := fun W k => ⟨bl_cell (bl_kp V0.out k) 0 _ rfl, bl_cell (bl_kp R0.out k) 6 _ rfl, bl_cell (bl_kp KB.out k) 0 _ rfl, k⟩
  refine wp_region_noPanic ?_
  refine hdrew MK Q0 (fun hH => ?_)
  have KQ := Q0
  refine tk 0 (some 8) (Op.load 179 (Operand.tmp 2)) 179 (v := ?v0c1) rfl ?h0c1 hH ?_
  case h0c1 => intro _ _; go_simp; try with_reducible rfl
  try simp only [ps]
  refine tk 1 (some 9) (Op.nilCheck (Operand.tmp 8)) 0 (v := ?v1c2) rfl ?h1c2 hH ?_
  case h1c2 => intro _ _; go_simp; try with_reducible rfl
  try simp only [ps]
  refine tk 2 (some 10) (Op.fieldAddr 177 (Operand.tmp 9) 2) 0 (v := ?v2c3) rfl ?h2c3 hH ?_
  case h2c3 => intro _ _; go_simp; try with_reducible rfl
  try simp only [ps]
  refine tk 3 (some 11) (Op.load 22 (Operand.tmp 10)) 22 (v := ?v3c4) rfl ?h3c4 hH ?_
  case h3c4 => intro _ _; go_simp; try with_reducible rfl
  try simp only [ps]
  refine tk 4 (some 12) (Op.fieldAddr 83 (Operand.tmp 3) 0) 0 (v := ?v4c5) rfl ?h4c5 hH ?_
  case h4c5 => intro _ _; go_simp; try with_reducible rfl
  try simp only [ps]
  refine tk 5 (some 13) (Op.load 78 (Operand.tmp 12)) 78 (v := ?v5c6) rfl ?h5c6 hH ?_
  case h5c6 => intro _ _; go_simp; try with_reducible rfl
  try simp only [ps]
  refine tk 6 (some 14) (Op.binOp BinOp.shr 22 (Operand.tmp 11) (Operand.tmp 13) 78) 22 (v := ?v6c7) rfl ?h6c7 hH ?_
  case h6c7 => intro _ _; go_simp; try with_reducible rfl
  try simp only [ps]
  refine tk 7 (some 15) (Op.binOp BinOp.and 22 (Operand.tmp 14) (Operand.const (Value.int IntKind.u64 1)) 22) 22 (v := ?v7c8) rfl ?h7c8 hH ?_
  case h7c8 => intro _ _; go_simp; try with_reducible rfl
  try simp only [ps]
  refine tk 8 (some 16) (Op.binOp BinOp.eql 22 (Operand.tmp 15) (Operand.const (Value.int IntKind.u64 0)) 22) 4 (v := ?v8c9) rfl ?h8c9 hH ?_
  case h8c9 => intro _ _; go_simp; try with_reducible rfl
  try simp only [ps]
  refine tk 9 (some 7) (Op.assign (Operand.tmp 16)) 4 (v := ?v9c10) rfl ?h9c10 hH ?_
  case h9c10 => intro _ _; go_simp; try with_reducible rfl
  try simp only [ps]
  refine wpAnyH_done (by kernel_rfl) ?_ _
  refine NoPanic.normal ?_
  rw [HB.out]
  refine opqE (fun W1 => W1.heap[w.heap.size]? = some (.cells #[.pointer (some ⟨R, 4, none⟩)] 179) ∧ W1.heap[(w.heap.size + 1)]? = some (spo key) ∧ W1.heap[R]? = some (.cells #[z0, z1, z2, z3, .int .u8 (h : Int), lv, .int .u64 (pl : Int), .map none] 182) ∧ Kp w W1 ∧ SpR base W1 lv xs ∧ ∀ b', none = some b' → SetAt W1 b' (xs.map (Sp.only h))) ⟨by exact bl_kp V0.out KQ, by exact bl_kp KB.out KQ, by exact bl_kp R0.out KQ, by exact K0.out.trans KQ, by exact S0.out.kp KQ, by exact fun b hb => (QS0.out b hb).same (KQ.block b (QS0.out b hb).lt)⟩ ?_
  rintro W1 ⟨xV1, xKB1, xR1, xK1, xS1, xQ1⟩
  have V1 := hid xV1
  have KB1 := hid xKB1
  have R1 := hid xR1
  have K1 := hid xK1
  have S1 := hid xS1
  have Q1 := hid xQ1
  clear xV1 xKB1 xR1 xK1 xS1 xQ1
  have r4 := bl_cell R1.out 4 _ rfl
  have r5 := bl_cell R1.out 5 _ rfl
  have r6 := bl_cell R1.out 6 _ rfl
  have r7 := bl_cell R1.out 7 _ rfl
  have v0 := bl_cell V1.out 0 _ rfl
  go_wp2_with fail
  refine (confB_any R w.heap.size (w.heap.size + 1) h hh key hk (fun _ => True) lv xs _ (S1.out.spl (fun _ _ => trivial)) hn v0 r4 KB1.out).mono ?_
  rintro e w2 ⟨rfl, k2⟩
  go_wp2_with fail
  go_ret
  exact ⟨rfl, K1.out.trans k2⟩
 | some b =>
  obtain ⟨q, hq⟩ : ∃ q, (xs.map (Sp.only h)).contains key = q := ⟨_, rfl⟩
  have HQ : Hid (∀ W, (Instr.lookup 175 (.map (some b)) (spv key) true).run Tryz.prog W = .ok (.tuple #[.agg #[], .bool ((xs.map (Sp.only h)).contains key)]) W → (Instr.lookup 175 (.map (some b)) (spv key) true).run Tryz.prog W = .ok (.tuple #[.agg #[], .bool q]) W) := by
   rw [hq]
   exact fun W h => h
  have E : Hid (xs.any (fun y => y.only h == key) = q) := by
   show _ = _
   rw [← hq, Bool.eq_iff_iff, List.any_eq_true, List.contains_iff_mem, List.mem_map]
   constructor
   ·
    rintro ⟨y, hy, e⟩
    exact ⟨y, hy, by simpa using e⟩
   ·
    rintro ⟨y, hy, e⟩
    exact ⟨y, hy, by simp [e]⟩
  clear hq
  go_enter Tryz.func133, Tryz.ntmps133
  go_upto_region 1 with fail
  refine opq (fun W0 => W0.heap[w.heap.size]? = some (.cells #[.pointer (some ⟨R, 4, none⟩)] 179) ∧ W0.heap[(w.heap.size + 1)]? = some (spo key) ∧ W0.heap[R]? = some (.cells #[z0, z1, z2, z3, .int .u8 (h : Int), lv, .int .u64 (pl : Int), .map (some b)] 182) ∧ Kp w W0 ∧ SpR base W0 lv xs ∧ ∀ b', (some b) = some b' → SetAt W0 b' (xs.map (Sp.only h))) ⟨by exact bl_alloc (last_of _ _) _, by exact last_at _ _ _ (by simp), by exact bl_kp HR.out kpt, by exact kpt, by exact HS.out.kp kpt, by exact fun b hb => ((HQS.out b hb).1).same (Below.block (show Kp w _ from kpt) b (HQS.out b hb).1.lt)⟩ ?_
  rintro W0 ⟨xV0, xKB, xR0, xK0, xS0, xQS0⟩
  have V0 := hid xV0
  have KB := hid xKB
  have R0 := hid xR0
  have K0 := hid xK0
  have S0 := hid xS0
  have QS0 := hid xQS0
  clear xV0 xKB xR0 xK0 xS0 xQS0
  have em := map_nil (some b)
  have Q0 : Kp W0 W0.drew := (Kp.refl _).drew
  have MK : Hid (∀ W, Kp W0 W → W.cell? ⟨w.heap.size, 0, none⟩ = some (.pointer (some ⟨R, 4, none⟩)) ∧ W.cell? ⟨R, 6, none⟩ = some (.int .u64 (pl : Int)) ∧ W.cell? ⟨(w.heap.size + 1), 0, none⟩ = some (.int .i8 key.a) ∧ Hid (Kp W0 W)) := fun W k => ⟨bl_cell (bl_kp V0.out k) 0 _ rfl, bl_cell (bl_kp R0.out k) 6 _ rfl, bl_cell (bl_kp KB.out k) 0 _ rfl, k⟩
  refine wp_region_noPanic ?_
  refine hdrew MK Q0 (fun hH => ?_)
  have KQ := Q0
  refine tk 0 (some 8) (Op.load 179 (Operand.tmp 2)) 179 (v := ?v0d1) rfl ?h0d1 hH ?_
  case h0d1 => intro _ _; go_simp; try with_reducible rfl
  try simp only [ps]
  refine tk 1 (some 9) (Op.nilCheck (Operand.tmp 8)) 0 (v := ?v1d2) rfl ?h1d2 hH ?_
  case h1d2 => intro _ _; go_simp; try with_reducible rfl
  try simp only [ps]
  refine tk 2 (some 10) (Op.fieldAddr 177 (Operand.tmp 9) 2) 0 (v := ?v2d3) rfl ?h2d3 hH ?_
  case h2d3 => intro _ _; go_simp; try with_reducible rfl
  try simp only [ps]
  refine tk 3 (some 11) (Op.load 22 (Operand.tmp 10)) 22 (v := ?v3d4) rfl ?h3d4 hH ?_
  case h3d4 => intro _ _; go_simp; try with_reducible rfl
  try simp only [ps]
  refine tk 4 (some 12) (Op.fieldAddr 83 (Operand.tmp 3) 0) 0 (v := ?v4d5) rfl ?h4d5 hH ?_
  case h4d5 => intro _ _; go_simp; try with_reducible rfl
  try simp only [ps]
  refine tk 5 (some 13) (Op.load 78 (Operand.tmp 12)) 78 (v := ?v5d6) rfl ?h5d6 hH ?_
  case h5d6 => intro _ _; go_simp; try with_reducible rfl
  try simp only [ps]
  refine tk 6 (some 14) (Op.binOp BinOp.shr 22 (Operand.tmp 11) (Operand.tmp 13) 78) 22 (v := ?v6d7) rfl ?h6d7 hH ?_
  case h6d7 => intro _ _; go_simp; try with_reducible rfl
  try simp only [ps]
  refine tk 7 (some 15) (Op.binOp BinOp.and 22 (Operand.tmp 14) (Operand.const (Value.int IntKind.u64 1)) 22) 22 (v := ?v7d8) rfl ?h7d8 hH ?_
  case h7d8 => intro _ _; go_simp; try with_reducible rfl
  try simp only [ps]
  refine tk 8 (some 16) (Op.binOp BinOp.eql 22 (Operand.tmp 15) (Operand.const (Value.int IntKind.u64 0)) 22) 4 (v := ?v8d9) rfl ?h8d9 hH ?_
  case h8d9 => intro _ _; go_simp; try with_reducible rfl
  try simp only [ps]
  refine tk 9 (some 7) (Op.assign (Operand.tmp 16)) 4 (v := ?v9d10) rfl ?h9d10 hH ?_
  case h9d10 => intro _ _; go_simp; try with_reducible rfl
  try simp only [ps]
  refine wpAnyH_done (by kernel_rfl) ?_ _
  refine NoPanic.normal ?_
  rw [HB.out]
  refine opqE (fun W1 => W1.heap[w.heap.size]? = some (.cells #[.pointer (some ⟨R, 4, none⟩)] 179) ∧ W1.heap[(w.heap.size + 1)]? = some (spo key) ∧ W1.heap[R]? = some (.cells #[z0, z1, z2, z3, .int .u8 (h : Int), lv, .int .u64 (pl : Int), .map (some b)] 182) ∧ Kp w W1 ∧ SpR base W1 lv xs ∧ ∀ b', (some b) = some b' → SetAt W1 b' (xs.map (Sp.only h))) ⟨by exact bl_kp V0.out KQ, by exact bl_kp KB.out KQ, by exact bl_kp R0.out KQ, by exact K0.out.trans KQ, by exact S0.out.kp KQ, by exact fun b hb => (QS0.out b hb).same (KQ.block b (QS0.out b hb).lt)⟩ ?_
  rintro W1 ⟨xV1, xKB1, xR1, xK1, xS1, xQ1⟩
  have V1 := hid xV1
  have KB1 := hid xKB1
  have R1 := hid xR1
  have K1 := hid xK1
  have S1 := hid xS1
  have Q1 := hid xQ1
  clear xV1 xKB1 xR1 xK1 xS1 xQ1
  have r4 := bl_cell R1.out 4 _ rfl
  have r5 := bl_cell R1.out 5 _ rfl
  have r6 := bl_cell R1.out 6 _ rfl
  have r7 := bl_cell R1.out 7 _ rfl
  have v0 := bl_cell V1.out 0 _ rfl
  go_upto_region 7 with fail
  clear r4 r5 r6 r7 v0
  have Q0 : Kp W1 W1.drew := (Kp.refl _).drew
  have MK : Hid (∀ W, Kp W1 W → W.cell? ⟨w.heap.size, 0, none⟩ = some (.pointer (some ⟨R, 4, none⟩)) ∧ W.cell? ⟨R, 7, none⟩ = some (.map (some b)) ∧ W.cell? ⟨(w.heap.size + 1), 0, none⟩ = some (.int .i8 key.a) ∧ W.cell? ⟨(w.heap.size + 1), 1, none⟩ = some (.int .i8 key.f0) ∧ W.cell? ⟨(w.heap.size + 1), 2, none⟩ = some (.int .i8 key.t0) ∧ W.cell? ⟨(w.heap.size + 1), 3, none⟩ = some (.int .i8 key.f1) ∧ W.cell? ⟨(w.heap.size + 1), 4, none⟩ = some (.int .i8 key.t1) ∧ W.cell? ⟨(w.heap.size + 1), 5, none⟩ = some (.int .i8 key.f2) ∧ W.cell? ⟨(w.heap.size + 1), 6, none⟩ = some (.int .i8 key.t2) ∧ (Instr.lookup 175 (.map (some b)) (spv key) true).run Tryz.prog W = .ok (.tuple #[.agg #[], .bool q]) W ∧ Hid (Kp W1 W)) := fun W k => ⟨bl_cell (bl_kp V1.out k) 0 _ rfl, bl_cell (bl_kp R1.out k) 7 _ rfl, bl_cell (bl_kp KB1.out k) 0 _ rfl, bl_cell (bl_kp KB1.out k) 1 _ rfl, bl_cell (bl_kp KB1.out k) 2 _ rfl, bl_cell (bl_kp KB1.out k) 3 _ rfl, bl_cell (bl_kp KB1.out k) 4 _ rfl, bl_cell (bl_kp KB1.out k) 5 _ rfl, bl_cell (bl_kp KB1.out k) 6 _ rfl, HQ.out _ (((Q1.out b rfl).same (k.block b (Q1.out b rfl).lt)).look Tryz.underlying175 key hk), k⟩
  refine wp_region_noPanic ?_
  refine hdrew MK Q0 (fun hH => ?_)
  have KQ := Q0
  refine tk 0 (some 36) (Op.load 179 (Operand.tmp 2)) 179 (v := ?v0s1) rfl ?h0s1 hH ?_
  case h0s1 => intro _ _; go_simp; try with_reducible rfl
  try simp only [ps]
  refine tk 1 (some 37) (Op.nilCheck (Operand.tmp 36)) 0 (v := ?v1s2) rfl ?h1s2 hH ?_
  case h1s2 => intro _ _; go_simp; try with_reducible rfl
  try simp only [ps]
  refine tk 2 (some 38) (Op.fieldAddr 177 (Operand.tmp 37) 3) 0 (v := ?v2s3) rfl ?h2s3 hH ?_
  case h2s3 => intro _ _; go_simp; try with_reducible rfl
  try simp only [ps]
  refine tk 3 (some 39) (Op.load 175 (Operand.tmp 38)) 175 (v := ?v3s4) rfl ?h3s4 hH ?_
  case h3s4 => intro _ _; go_simp; try with_reducible rfl
  try simp only [ps]
  refine tk 4 (some 40) (Op.load 83 (Operand.tmp 3)) 83 (v := ?v4s5) rfl ?h4s5 hH ?_
  case h4s5 => intro _ _; go_simp; try with_reducible rfl
  try simp only [ps]
  refine tk 5 (some 41) (Op.lookup 175 (Operand.tmp 39) (Operand.tmp 40) true) 215 (v := ?v5s6) rfl ?h5s6 hH ?_
  case h5s6 => intro _ _; go_simp; try with_reducible rfl
  try simp only [ps]
  refine tk 6 (some 35) (Op.move (Operand.tmp 41)) 215 (v := ?v6s7) rfl ?h6s7 hH ?_
  case h6s7 => intro _ _; go_simp; try with_reducible rfl
  try simp only [ps]
  refine tk 7 (some 42) (Op.extract (Operand.tmp 35) 0) 206 (v := ?v7s8) rfl ?h7s8 hH ?_
  case h7s8 => intro _ _; go_simp; try with_reducible rfl
  try simp only [ps]
  refine tk 8 (some 43) (Op.extract (Operand.tmp 35) 1) 4 (v := ?v8s9) rfl ?h8s9 hH ?_
  case h8s9 => intro _ _; go_simp; try with_reducible rfl
  try simp only [ps]
  refine wpAnyH_ready (rs := [9]) (by kernel_rfl) (by simp) ?_
  refine AllReadyH.cons (o := { dst := some 5, op := Op.alloc 206, type := 0, pos := "spot.go:111", after := #[], guard := none }) rfl (fun K hKq => ?_) AllReadyH.nil
  go_simp
  refine hKq.out _ _ (MK.out _ (by first | exact KQ.alloc _ | exact (KQ0.alloc _).drew)) (fun hN => ?_)
  clear hKq K hH KQ
  have hH := hN
  clear hN
  have KQ := hH.2.2.2.2.2.2.2.2.2.2.out
  try simp only [ps]
  refine wpAnyH_ready (rs := [10]) (by kernel_rfl) (by simp) ?_
  refine AllReadyH.cons (o := { dst := none, op := Op.store 206 (Operand.tmp 5) (Operand.tmp 42), type := 0, pos := "spot.go:111", after := #[{ on := 9, ground := Ground.data }, { on := 7, ground := Ground.data }, { on := 0, ground := Ground.phase }, { on := 1, ground := Ground.phase }, { on := 2, ground := Ground.phase }, { on := 3, ground := Ground.phase }, { on := 4, ground := Ground.phase }, { on := 5, ground := Ground.phase }, { on := 6, ground := Ground.phase }, { on := 7, ground := Ground.phase }, { on := 8, ground := Ground.textOnly Departure.lateStores }, { on := 9, ground := Ground.phase }], guard := none }) rfl (fun K hKq => ?_) AllReadyH.nil
  go_simp
  refine hKq.out _ _ (MK.out _ KQ) (fun hN => ?_)
  clear hKq K hH KQ
  have hH := hN
  clear hN
  have KQ := hH.2.2.2.2.2.2.2.2.2.2.out
  try simp only [ps]
  refine tk 11 (some 6) (Op.assign (Operand.tmp 43)) 4 (v := ?v11s10) rfl ?h11s10 hH ?_
  case h11s10 => intro _ _; go_simp; try with_reducible rfl
  try simp only [ps]
  refine wpAnyH_done (by kernel_rfl) ?_ _
  refine NoPanic.normal ?_
  go_wp2_with fail
  go_ret
  exact ⟨by rw [E.out]; rfl, K1.out.trans KQ⟩
end Go.Proofs.YtnajcnhgeggngaaGreat.Way

/-! ### RowI -/

namespace Go.Proofs.YtnajcnhgeggngaaGreat.Way
open Go.RowKit Go.Proofs.YtnajcnhgeggngaaGreat

theorem few_spots (h : Nat) (xs : List Sp) (hg : ∀ x ∈ xs, x.Ok) (hn : (xs.map (Sp.only h)).Nodup) : xs.length ≤ 4398046511104 := by
 have h1 : ((xs.map (Sp.only h)).map Sp.code).Nodup := by
  refine pairwise_map_inj Sp.code _ (hn.imp_of_mem (fun {a b} ha hb hne he => ?_))
  obtain ⟨y, hy, rfl⟩ := List.mem_map.1 ha
  obtain ⟨z, hz, rfl⟩ := List.mem_map.1 hb
  exact hne (Sp.code_inj ((hg y hy).only h) ((hg z hz).only h) he)
 have h2 := nodup_lt 4398046511104 _ h1 (fun a ha => by
  obtain ⟨y, hy, rfl⟩ := List.mem_map.1 ha
  obtain ⟨z, hz, rfl⟩ := List.mem_map.1 hy
  exact Sp.code_lt ((hg z hz).only h))
 simpa using h2
theorem only_only (h : Nat) (x : Sp) : (x.only h).only h = x.only h := by
 unfold Sp.only
 simp only
 cases bit0 h <;> cases bit1 h <;> cases bit2 h <;> rfl
structure RowI (base : Nat) (w : World) (h : Nat) (xs : List Sp) (lv : Value) (pl : Nat) (sn : Option Nat) : Prop where
 lt : h < 8
 row : SpR base w lv xs
 pl : PlOk pl xs
 set : ∀ b, sn = some b → base ≤ b ∧ SetAt w b (xs.map (Sp.only h)) ∧ h ≠ 0 ∧ 8 < xs.length
 nd : (xs.map (Sp.only h)).Nodup
theorem RowI.few {base : Nat} {w : World} {h : Nat} {xs : List Sp} {lv : Value} {pl : Nat} {sn : Option Nat} (q : RowI base w h xs lv pl sn) : xs.length ≤ 4398046511104 := few_spots h xs q.row.good q.nd
theorem RowI.turn {base : Nat} {w w' : World} {h : Nat} {xs : List Sp} {lv : Value} {pl : Nat} {sn : Option Nat} (q : RowI base w h xs lv pl sn) (hk : ∀ b, b < w.heap.size → (lv.ownBlock = some b ∨ sn = some b) → w'.heap[b]? = w.heap[b]?) : RowI base w' h xs lv pl sn :=
 ⟨q.lt, q.row.turn (fun b hb hl => hk b hl (Or.inl hb)), q.pl, fun b hb => ⟨(q.set b hb).1, (q.set b hb).2.1.same (hk b (q.set b hb).2.1.lt (Or.inr hb)), (q.set b hb).2.2⟩, q.nd⟩
theorem RowI.kp {base : Nat} {w w' : World} {h : Nat} {xs : List Sp} {lv : Value} {pl : Nat} {sn : Option Nat} (q : RowI base w h xs lv pl sn) (k : Kp w w') : RowI base w' h xs lv pl sn := q.turn (fun b hl _ => k.block b hl)
def rowB (R : Nat) (lv : Value) (sn : Option Nat) (b : Nat) : Prop := b = R ∨ lv.ownBlock = some b ∨ sn = some b
theorem PlOk.more {pl : Nat} {xs : List Sp} (h : PlOk pl xs) (x : Sp) (hx : x.Ok) : PlOk (pl ||| 2 ^ x.a.toNat) (xs ++ [x]) := by
 have h0 := hx.a0
 have h1 := hx.a1
 have hp : (2 : Nat) ^ x.a.toNat < 2 ^ 61 := Nat.pow_lt_pow_right (by omega) (by omega)
 have hl : pl < 2 ^ 61 := h.lt
 refine ⟨Nat.or_lt_two_pow hl hp, fun i hi => ?_⟩
 have hb := h.bit i hi
 have e1 : ∀ n : Nat, n / 2 ^ i % 2 = 1 ↔ n.testBit i = true := fun n => by
  rw [Nat.testBit_eq_decide_div_mod_eq, decide_eq_true_eq]
 rw [e1, Nat.testBit_or, Nat.testBit_two_pow, Bool.or_eq_true, ← e1, hb]
 constructor
 ·
  rintro (⟨y, hy, he⟩ | he)
  ·
   exact ⟨y, List.mem_append_left _ hy, he⟩
  ·
   have he : x.a.toNat = i := by simpa using he
   exact ⟨x, by simp, by omega⟩
 ·
  rintro ⟨y, hy, he⟩
  rcases List.mem_append.1 hy with hy | hy
  ·
   exact Or.inl ⟨y, hy, he⟩
  ·
   right
   rw [List.mem_singleton.1 hy] at he
   simp
   omega
end Go.Proofs.YtnajcnhgeggngaaGreat.Way
