/-
  Texts of this claim: Bld0, Heed0, Heed.
-/
import Derived.Test.YtnajcnhgeggngaaGreatM16
import Derived.Test.YtnajcnhgeggngaaGreatM17

/-! ### Bld0 -/

namespace Go.Proofs.YtnajcnhgeggngaaGreat.Way
open Go.RowKit Go.Proofs.YtnajcnhgeggngaaGreat

mutual
def bldE : Rx → Pt
 | .mk k mn mx n s kids => .mk k mn mx n s 0 none none (usedP k mn n (bldEs kids)).1 (usedP k mn n (bldEs kids)).2 0 (bldEs kids)
def bldEs : List Rx → List Pt
 | [] => []
 | r :: rs => bldE r :: bldEs rs
end
mutual
def er : Pt → Pt
 | .mk k low high n s _ _ _ rd st hd kids => .mk k low high n s 0 none none rd st hd (ers kids)
def ers : List Pt → List Pt
 | [] => []
 | p :: ps => er p :: ers ps
end
mutual
def blks : Pt → List Nat
 | .mk _ _ _ _ _ P kn so _ _ _ kids => P :: (kn.toList ++ so.toList ++ blkss kids)
def blkss : List Pt → List Nat
 | [] => []
 | p :: ps => blks p ++ blkss ps
end
mutual
def mapsOf : Pt → List Nat
 | .mk _ _ _ _ _ _ kn so _ _ _ kids => kn.toList ++ so.toList ++ mapss kids
def mapss : List Pt → List Nat
 | [] => []
 | p :: ps => mapsOf p ++ mapss ps
end
mutual
def PtN : Pt → Prop
 | .mk k _ _ _ _ _ kn so _ _ _ kids => (leafK k = false → (∃ b, kn = some b) ∧ ∃ c, so = some c) ∧ PtsN kids
def PtsN : List Pt → Prop
 | [] => True
 | p :: ps => PtN p ∧ PtsN ps
end
mutual
def RxW : Rx → Prop
 | .mk k mn _ n s kids => (leafK k = true → LeafOk k n s) ∧ (k = 5 → n = 1 ∨ n = 2 ∨ n = 3) ∧ (k = 4 → 0 ≤ mn ∧ mn ≤ 20) ∧ (k = 5 ∨ k = 4 → kids.length = 1) ∧ kids.length ≤ 1000000 ∧ RxsW kids
def RxsW : List Rx → Prop
 | [] => True
 | r :: rs => RxW r ∧ RxsW rs
end
theorem RxsW.get : ∀ {rs : List Rx}, RxsW rs → ∀ r, r ∈ rs → RxW r
 | [], _, r, hr => by cases hr
 | q :: qs, h, r, hr => by
  unfold RxsW at h
  rcases List.mem_cons.1 hr with e | e
  ·
   rw [e]; exact h.1
  ·
   exact h.2.get r e
theorem bldEs_len : ∀ (rs : List Rx), (bldEs rs).length = rs.length
 | [] => rfl
 | r :: rs => by unfold bldEs; rw [List.length_cons, List.length_cons, bldEs_len rs]
theorem ers_len : ∀ (ps : List Pt), (ers ps).length = ps.length
 | [] => rfl
 | p :: ps => by unfold ers; rw [List.length_cons, List.length_cons, ers_len ps]
theorem bldEs_app : ∀ (a b : List Rx), bldEs (a ++ b) = bldEs a ++ bldEs b
 | [], b => rfl
 | r :: rs, b => by
  have e : ∀ x xs, bldEs (x :: xs) = bldE x :: bldEs xs := fun x xs => by rw [bldEs]
  rw [List.cons_append, e, e, bldEs_app rs b, List.cons_append]
theorem ers_app : ∀ (a b : List Pt), ers (a ++ b) = ers a ++ ers b
 | [], b => rfl
 | r :: rs, b => by
  have e : ∀ x xs, ers (x :: xs) = er x :: ers xs := fun x xs => by rw [ers]
  rw [List.cons_append, e, e, ers_app rs b, List.cons_append]
theorem blkss_app : ∀ (a b : List Pt), blkss (a ++ b) = blkss a ++ blkss b
 | [], b => rfl
 | r :: rs, b => by
  have e : ∀ x xs, blkss (x :: xs) = blks x ++ blkss xs := fun x xs => by rw [blkss]
  rw [List.cons_append, e, e, blkss_app rs b, List.append_assoc]
theorem mapss_app : ∀ (a b : List Pt), mapss (a ++ b) = mapss a ++ mapss b
 | [], b => rfl
 | r :: rs, b => by
  have e : ∀ x xs, mapss (x :: xs) = mapsOf x ++ mapss xs := fun x xs => by rw [mapss]
  rw [List.cons_append, e, e, mapss_app rs b, List.append_assoc]
theorem PtsAt.app {w : World} {ok : Nat → Prop} : ∀ (a : List Pt) (p : Pt), PtsAt w ok a → PtAt w ok p → PtsAt w ok (a ++ [p])
 | [], p, _, h => by unfold PtsAt; exact ⟨h, by unfold PtsAt; trivial⟩
 | q :: qs, p, ha, h => by
  unfold PtsAt at ha ⊢
  exact ⟨ha.1, PtsAt.app qs p ha.2 h⟩
theorem PtsN.app : ∀ (a : List Pt) (p : Pt), PtsN a → PtN p → PtsN (a ++ [p])
 | [], p, _, h => by unfold PtsN; exact ⟨h, by unfold PtsN; trivial⟩
 | q :: qs, p, ha, h => by
  unfold PtsN at ha ⊢
  exact ⟨ha.1, PtsN.app qs p ha.2 h⟩
theorem er_rd (p : Pt) : (er p).rd = p.rd ∧ (er p).st = p.st := by
 cases p
 unfold er
 exact ⟨rfl, rfl⟩
theorem fold_row : ∀ (ps : List Pt) (u : Nat × Nat), (ers ps).foldl inRowF u = ps.foldl inRowF u
 | [], _ => rfl
 | p :: ps, u => by
  unfold ers
  rw [List.foldl_cons, List.foldl_cons, fold_row ps]
  congr 1
  unfold inRowF
  rw [(er_rd p).1, (er_rd p).2]
theorem fold_alt : ∀ (ps : List Pt) (u : Nat × Nat), (ers ps).foldl inAltF u = ps.foldl inAltF u
 | [], _ => rfl
 | p :: ps, u => by
  unfold ers
  rw [List.foldl_cons, List.foldl_cons, fold_alt ps]
  congr 1
  unfold inAltF
  rw [(er_rd p).1, (er_rd p).2]
theorem used_er (k low n : Int) (ps : List Pt) : usedP k low n (ers ps) = usedP k low n ps := by
 unfold usedP
 rw [fold_row, fold_alt]
 cases ps with
 | nil => rfl
 | cons p ps =>
  unfold ers
  simp only
  rw [(er_rd p).1, (er_rd p).2]
theorem used_lt (k low n : Int) (ps : List Pt) (h : WdOk ps) : (usedP k low n ps).1 < 8 ∧ (usedP k low n ps).2 < 8 := by
 unfold usedP
 split
 ·
  exact ⟨grp_lt n, by omega⟩
 ·
  split
  ·
   cases ps with
   | nil => exact ⟨Nat.succ_pos 7, Nat.succ_pos 7⟩
   | cons p ps => exact ⟨h.1.1, or8 _ _ h.1.2 (grp_lt n)⟩
  ·
   split
   ·
    exact row_lt ps (0, 0) h (by decide) (by decide)
   ·
    split
    ·
     exact alt_lt ps (0, 7) h (by decide) (by decide)
    ·
     split
     ·
      cases ps with
      | nil => exact ⟨Nat.succ_pos 7, Nat.succ_pos 7⟩
      | cons p ps =>
       refine ⟨h.1.1, ?_⟩
       simp only
       split
       ·
        omega
       ·
        exact h.1.2
     ·
      exact ⟨by omega, by omega⟩
mutual
theorem bldE_lt : ∀ (r : Rx), (bldE r).rd < 8 ∧ (bldE r).st < 8
 | .mk k mn mx n s kids => by
  unfold bldE
  exact used_lt k mn n _ (bldEs_wd kids)
theorem bldEs_wd : ∀ (rs : List Rx), WdOk (bldEs rs)
 | [] => by unfold bldEs; trivial
 | r :: rs => by
  unfold bldEs
  exact ⟨bldE_lt r, bldEs_wd rs⟩
end
theorem wd_er : ∀ (ps : List Pt), WdOk (ers ps) → WdOk ps
 | [], _ => trivial
 | p :: ps, h => by
  unfold ers at h
  refine ⟨⟨?_, ?_⟩, wd_er ps h.2⟩
  ·
   rw [← (er_rd p).1]; exact h.1.1
  ·
   rw [← (er_rd p).2]; exact h.1.2
mutual
theorem maps_sub : ∀ (p : Pt) b, b ∈ mapsOf p → b ∈ blks p
 | .mk k low high n s P kn so rd st hd kids, b, hb => by
  unfold mapsOf at hb
  unfold blks
  rcases List.mem_append.1 hb with h | h
  ·
   exact List.mem_cons_of_mem _ (List.mem_append_left _ h)
  ·
   exact List.mem_cons_of_mem _ (List.mem_append_right _ (mapss_sub kids b h))
theorem mapss_sub : ∀ (ps : List Pt) b, b ∈ mapss ps → b ∈ blkss ps
 | [], b, hb => by cases hb
 | p :: ps, b, hb => by
  unfold mapss at hb
  unfold blkss
  rcases List.mem_append.1 hb with h | h
  ·
   exact List.mem_append_left _ (maps_sub p b h)
  ·
   exact List.mem_append_right _ (mapss_sub ps b h)
end
structure PrR (base : Nat) (w : World) (v : Value) (xs : List Nat) : Prop where
 own : w.ownsRow base 71 1 v xs.length (xs.map ptv)
theorem info71 : ∃ i, Tryz.prog.info? 71 = some i ∧ i.zero = some (.pointer none) ∧ i.size = 1 ∧ i.bytes = 8 := by
 obtain ⟨i, hi, h0, h1, h2⟩ := info_parts (P := Tryz.prog) (e := 71) (z := .pointer none) (size := 1) (bytes := 8) (by kernel_rfl)
 exact ⟨i, hi, h0, h1, h2⟩
theorem PrR.nil (base : Nat) (w : World) : PrR base w (.slice none 0 0) [] := ⟨World.ownsRow_nil _ _ _ _⟩
theorem PrR.block {base : Nat} {w : World} {v : Value} {xs : List Nat} (h : PrR base w v xs) : ∀ b, v.ownBlock = some b → base ≤ b ∧ b < w.heap.size := h.own.lt
theorem PrR.turn {base : Nat} {w w' : World} {v : Value} {xs : List Nat} (h : PrR base w v xs) (hk : ∀ b, v.ownBlock = some b → b < w.heap.size → w'.heap[b]? = w.heap[b]?) : PrR base w' v xs := ⟨owns_same h.own hk⟩
theorem PrR.kp {base : Nat} {w w' : World} {v : Value} {xs : List Nat} (h : PrR base w v xs) (k : Kp w w') : PrR base w' v xs := h.turn (fun b _ hl => k.block b hl)
theorem PrR.form {base : Nat} {w : World} {v : Value} {xs : List Nat} (h : PrR base w v xs) : ∃ ad c, v = .slice ad xs.length c ∧ xs.length ≤ c := by
 rcases h.own.2 with ⟨rfl, h0⟩ | ⟨g, cap, cur, hv, _, _, hc, _⟩
 ·
  exact ⟨none, 0, by rw [h0], by omega⟩
 ·
  exact ⟨_, cap, hv, hc⟩
theorem PrR.kids {base : Nat} {w : World} {ps : List Pt} {ad : Option Addr} {c : Nat} (h : PrR base w (.slice ad (ps.map Pt.P).length c) (ps.map Pt.P)) {ok : Nat → Prop} (hok : ∀ b, base ≤ b → ok b) : KidS w ok ad c ps := by
 have hown := h.own
 rcases h.own.2 with ⟨h1, h0⟩ | ⟨g, cap, cur, h1, hb, hg, hc, _⟩
 ·
  rw [List.length_map] at h0
  exact ⟨by omega, fun hl => absurd hl (by omega)⟩
 ·
  injection h1 with e1 e2 e3
  subst e1 e3
  rw [List.length_map] at hc
  refine ⟨hc, fun _ => ⟨g, rfl, hok g hb, bl_lt hg, fun j q hj => ?_⟩⟩
  have hj' : j < ps.length := (List.getElem?_eq_some_iff.1 hj).1
  rw [World.ownsRow.cellAt hown j (by rw [List.length_map]; omega), List.getElem?_map, List.getElem?_map, hj]
  rfl
structure MoreP (base : Nat) (w : World) (v : Value) (xs : List Nat) (y : Nat) (v' : Value) (w' : World) : Prop where
 row : PrR base w' v' (xs ++ [y])
 grown : w.grownBy w' v.ownBlock
 block : v'.ownBlock = v.ownBlock ∨ v'.ownBlock = some w.heap.size
theorem step_append_pr {ops : Array Oper} {o : Oper} {a : Act} {K : Act → World → Prop} {Q : Exit → Act → World → Prop} {E : Prop} (w : World)
  (hw : Region.wanted o (yielded ops a.tmps) = true) (s y : Operand) (ho : o.op = .call { callee := .builtin .append, args := #[s, y], argTypes := #[124, 124] })
  (base : Nat) (v : Value) (xs : List Nat) (x : Nat) (hs : a.eval s = v) (B : Nat) (hy : a.eval y = .slice (some ⟨B, 0, none⟩) 1 1) (hG : PrR base w v xs) (hB : w.cell? ⟨B, 0, none⟩ = some (ptv x)) (hn : xs.length ≤ 5000000000000) (hb : base ≤ w.heap.size)
  (h : ∀ v' w', MoreP base w v xs x v' w' → K (a.put o.dst v') w') :
  if Region.wanted o (yielded ops a.tmps) = true then Oper.wp Tryz.prog o a w K Q else E := by
 rw [if_pos hw]
 obtain ⟨i, hi, hz, hsz, hby⟩ := info71
 obtain ⟨v', w', hr, h2, h3, _, h5⟩ := run_append_own_at (P := Tryz.prog) w base 124 o.type 71 i (.pointer none) 1 8 Tryz.underlying124 hi hz hsz hby rfl (by omega) v xs.length (xs.map ptv) hG.own ⟨B, 0, none⟩ 1 1 [ptv x] rfl (fun j u hj => by
  rw [Go.WideShapes.add_plain, Nat.zero_add]
  match j, hj with
  | 0, hj =>
   obtain rfl : ptv x = u := by simpa using hj
   exact hB
  | j + 1, hj => simp at hj) (fun u hu => by rw [List.mem_singleton.1 hu]; rfl) (by unfold maxLen; omega) (by omega) hb
 have hg : MoreP base w v xs x v' w' := ⟨⟨by rw [List.length_append, List.map_append]; exact h2⟩, h3, h5⟩
 unfold Oper.wp execOp
 simp only [ho, resolve, invoke, builtin, Sem.run_bind, Sem.run_pure, Result.andThen_ok, List.map_toArray, List.map_cons, List.map_nil, hs, hy, hr]
 exact h v' w' hg
structure BuildD (r : Rx) (w : World) (p : Pt) (w' : World) : Prop where
 er : er p = bldE r
 at_ : PtAt w' (fun b => w.heap.size ≤ b) p
 nd : (blks p).Nodup
 rng : ∀ b ∈ blks p, w.heap.size ≤ b ∧ b < w'.heap.size
 maps : ∀ b ∈ mapsOf p, w'.heap[b]? = some (.map #[] 0)
 n_ : PtN p
 kp : Kp w w'
structure BldW (P base : Nat) (k mn mx n : Int) (s : W4) (kn so : Option Nat) (rs : List Rx) (v : Value) (ps : List Pt) (w : World) : Prop where
 b : w.heap[P]? = some (pto k mn mx n s v 0 0 0 kn so)
 er : ers ps = bldEs rs
 row : PrR base w v (ps.map Pt.P)
 at_ : PtsAt w (fun b => base ≤ b ∧ v.ownBlock ≠ some b) ps
 nd : (blkss ps).Nodup
 rng : ∀ b ∈ blkss ps, base ≤ b ∧ b < w.heap.size ∧ v.ownBlock ≠ some b
 maps : ∀ b ∈ mapss ps, w.heap[b]? = some (.map #[] 0)
 n_ : PtsN ps
 pb : P < base
 le : base ≤ w.heap.size
theorem BldW.kp {P base : Nat} {k mn mx n : Int} {s : W4} {kn so : Option Nat} {rs : List Rx} {v : Value} {ps : List Pt} {w w' : World} (h : BldW P base k mn mx n s kn so rs v ps w) (K : Kp w w') : BldW P base k mn mx n s kn so rs v ps w' :=
 ⟨bl_kp h.b K, h.er, h.row.kp K, PtsAt.kp h.at_ K, h.nd, fun b hb => ⟨(h.rng b hb).1, Nat.lt_of_lt_of_le (h.rng b hb).2.1 K.size, (h.rng b hb).2.2⟩, fun b hb => bl_kp (h.maps b hb) K, h.n_, h.pb, Nat.le_trans h.le K.size⟩
theorem BldW.step {P base : Nat} {k mn mx n : Int} {s : W4} {kn so : Option Nat} {rs : List Rx} {v v' : Value} {ps : List Pt} {w W1 yy wq w1 w2 : World} {r : Rx} {p : Pt} (h : BldW P base k mn mx n s kn so rs v ps w) (k1 : Kp w W1) (d : BuildD r W1 p yy) (k2 : Kp yy wq) (m : MoreP base wq v (ps.map Pt.P) p.P v' w1) (h2 : w2 = w1.setCell ⟨P, 8, none⟩ v') : BldW P base k mn mx n s kn so (rs ++ [r]) v' (ps ++ [p]) w2 := by
 have hq := h.kp (k1.trans (d.kp.trans k2))
 have hvP : v.ownBlock ≠ some P := fun e => by have := (h.row.block P e).1; have := h.pb; omega
 have hb1 : w1.heap[P]? = some (pto k mn mx n s v 0 0 0 kn so) := (m.grown.block P (bl_lt hq.b) (fun e => hvP e.symm)).trans hq.b
 have off : ∀ b, b ≠ P → w2.heap[b]? = w1.heap[b]? := fun b hb => by rw [h2]; exact Below.heap_setCell w1 ⟨P, 8, none⟩ v' b hb
 have hs2 : wq.heap.size ≤ w2.heap.size := by rw [h2]; exact Nat.le_trans m.grown.size (by simp)
 have same : ∀ b, b < wq.heap.size → base ≤ b → v.ownBlock ≠ some b → w2.heap[b]? = wq.heap[b]? := fun b hl hb ho => (off b (by have := h.pb; omega)).trans (m.grown.block b hl (fun e => ho e.symm))
 have own : ∀ b, b < wq.heap.size → v.ownBlock ≠ some b → v'.ownBlock ≠ some b := fun b hl ho e => by
  rcases m.block with q | q
  ·
   exact ho (q ▸ e)
  ·
   rw [q] at e; injection e with e; omega
 have hwW := k1.size
 have hyq := k2.size
 have hle := h.le
 have vlt : ∀ b, W1.heap.size ≤ b → v.ownBlock ≠ some b := fun b hb e => by have := (h.row.block b e).2; omega
 refine ⟨by rw [h2]; exact bl_put hb1 v', ?_, ?_, ?_, ?_, ?_, ?_, PtsN.app ps p h.n_ d.n_, h.pb, Nat.le_trans hq.le hs2⟩
 ·
  rw [ers_app, bldEs_app, h.er]
  congr 1
  rw [ers, ers, bldEs, bldEs, d.er]
 ·
  rw [List.map_append]
  exact m.row.turn (fun b hb _ => off b (fun e => by rw [e] at hb; have := (m.row.block P hb).1; have := h.pb; omega))
 ·
  refine PtsAt.app ps p (PtsAt.keep hs2 (fun b hb hl => ⟨⟨hb.1, own b hl hb.2⟩, same b hl hb.1 hb.2⟩) ps hq.at_) (PtAt.keep hs2 (fun b hb hl => ?_) p (PtAt.kp d.at_ k2))
  have hb' : W1.heap.size ≤ b := hb
  exact ⟨⟨by omega, own b hl (vlt b hb')⟩, same b hl (by omega) (vlt b hb')⟩
 ·
  rw [blkss_app]
  have e : blkss [p] = blks p := by rw [blkss, blkss, List.append_nil]
  rw [e]
  refine List.nodup_append.2 ⟨h.nd, d.nd, fun a ha b hb e => ?_⟩
  have := (h.rng a ha).2.1
  have := (d.rng b hb).1
  omega
 ·
  intro b hb
  rw [blkss_app] at hb
  have e : blkss [p] = blks p := by rw [blkss, blkss, List.append_nil]
  rw [e] at hb
  rcases List.mem_append.1 hb with hb | hb
  ·
   obtain ⟨a1, a2, a3⟩ := hq.rng b hb
   exact ⟨a1, Nat.lt_of_lt_of_le a2 hs2, own b a2 a3⟩
  ·
   obtain ⟨a1, a2⟩ := d.rng b hb
   exact ⟨by omega, by omega, own b (by omega) (vlt b a1)⟩
 ·
  intro b hb
  rw [mapss_app] at hb
  have e : mapss [p] = mapsOf p := by rw [mapss, mapss, List.append_nil]
  rw [e] at hb
  rcases List.mem_append.1 hb with hb | hb
  ·
   obtain ⟨a1, a2, a3⟩ := hq.rng b (mapss_sub ps b hb)
   exact (same b a2 a1 a3).trans (hq.maps b hb)
  ·
   obtain ⟨a1, a2⟩ := d.rng b (maps_sub p b hb)
   exact (same b (by omega) (by omega) (vlt b a1)).trans (bl_kp (d.maps b hb) k2)
end Go.Proofs.YtnajcnhgeggngaaGreat.Way

/-! ### Heed0 -/

namespace Go.Proofs.YtnajcnhgeggngaaGreat.Way
open Go.RowKit Go.Proofs.YtnajcnhgeggngaaGreat

mutual
def pblks : Pt → List Nat
 | .mk _ _ _ _ _ P _ _ _ _ _ kids => P :: pblkss kids
def pblkss : List Pt → List Nat
 | [] => []
 | p :: ps => pblks p ++ pblkss ps
end
mutual
theorem pblks_sub : ∀ (p : Pt) b, b ∈ pblks p → b ∈ blks p
 | .mk k low high n s P kn so rd st hd kids, b, hb => by
  unfold pblks at hb
  unfold blks
  rcases List.mem_cons.1 hb with h | h
  ·
   rw [h]; exact List.mem_cons_self ..
  ·
   exact List.mem_cons_of_mem _ (List.mem_append_right _ (pblkss_sub kids b h))
theorem pblkss_sub : ∀ (ps : List Pt) b, b ∈ pblkss ps → b ∈ blkss ps
 | [], b, hb => by cases hb
 | p :: ps, b, hb => by
  unfold pblkss at hb
  unfold blkss
  rcases List.mem_append.1 hb with h | h
  ·
   exact List.mem_append_left _ (pblks_sub p b h)
  ·
   exact List.mem_append_right _ (pblkss_sub ps b h)
end
theorem pblkss_get : ∀ {ps : List Pt} {j : Nat} {p : Pt}, ps[j]? = some p → ∀ b ∈ pblks p, b ∈ pblkss ps
 | q :: qs, 0, p, hj, b, hb => by
  simp at hj
  subst hj
  unfold pblkss
  exact List.mem_append_left _ hb
 | q :: qs, j + 1, p, hj, b, hb => by
  simp at hj
  unfold pblkss
  exact List.mem_append_right _ (pblkss_get hj b hb)
theorem blkss_get : ∀ {ps : List Pt} {j : Nat} {p : Pt}, ps[j]? = some p → ∀ b ∈ blks p, b ∈ blkss ps
 | q :: qs, 0, p, hj, b, hb => by
  simp at hj
  subst hj
  unfold blkss
  exact List.mem_append_left _ hb
 | q :: qs, j + 1, p, hj, b, hb => by
  simp at hj
  unfold blkss
  exact List.mem_append_right _ (blkss_get hj b hb)
theorem blkss_nd : ∀ {ps : List Pt} {j : Nat} {p : Pt}, (blkss ps).Nodup → ps[j]? = some p → (blks p).Nodup
 | q :: qs, 0, p, hn, hj => by
  simp at hj
  subst hj
  unfold blkss at hn
  exact (List.nodup_append.1 hn).1
 | q :: qs, j + 1, p, hn, hj => by
  simp at hj
  unfold blkss at hn
  exact blkss_nd (List.nodup_append.1 hn).2.1 hj
theorem blkss_apart : ∀ {ps : List Pt} {i j : Nat} {p q : Pt}, (blkss ps).Nodup → ps[i]? = some p → ps[j]? = some q → i ≠ j → ∀ b ∈ blks p, b ∉ blks q
 | x :: xs, 0, 0, p, q, _, _, _, hne, _, _ => absurd rfl hne
 | x :: xs, 0, j + 1, p, q, hn, hi, hj, _, b, hb => by
  simp at hi hj
  subst hi
  unfold blkss at hn
  exact fun h => (List.nodup_append.1 hn).2.2 b hb b (blkss_get hj b h) rfl
 | x :: xs, i + 1, 0, p, q, hn, hi, hj, _, b, hb => by
  simp at hi hj
  subst hj
  unfold blkss at hn
  exact fun h => (List.nodup_append.1 hn).2.2 b h b (blkss_get hi b hb) rfl
 | x :: xs, i + 1, j + 1, p, q, hn, hi, hj, hne, b, hb => by
  simp at hi hj
  unfold blkss at hn
  exact blkss_apart (List.nodup_append.1 hn).2.1 hi hj (fun e => hne (by rw [e])) b hb
abbrev TT : Nat → Prop := fun _ => True
theorem PtsAt.of {w : World} {ok : Nat → Prop} : ∀ {ps : List Pt}, (∀ (j : Nat) p, ps[j]? = some p → PtAt w ok p) → PtsAt w ok ps
 | [], _ => by unfold PtsAt; trivial
 | p :: ps, h => by
  unfold PtsAt
  exact ⟨h 0 p rfl, PtsAt.of (fun j q hj => h (j + 1) q hj)⟩
def NumB (w : World) (b : Nat) : Prop := ∃ (K : IntKind) (n : Int), w.cell? ⟨b, 0, none⟩ = some (.int K n)
mutual
theorem PtAt.num {w : World} {ok : Nat → Prop} : ∀ (p : Pt), PtAt w ok p → ∀ b ∈ pblks p, NumB w b ∧ b < w.heap.size
 | .mk k low high n s P kn so rd st hd kids, h, b, hb => by
  unfold PtAt at h
  unfold pblks at hb
  obtain ⟨_, ⟨ad, c, h2, _⟩, h5⟩ := h
  rcases List.mem_cons.1 hb with e | e
  ·
   rw [e]; exact ⟨⟨_, k, bl_cell h2 0 _ rfl⟩, bl_lt h2⟩
  ·
   exact PtsAt.num kids h5 b e
theorem PtsAt.num {w : World} {ok : Nat → Prop} : ∀ (ps : List Pt), PtsAt w ok ps → ∀ b ∈ pblkss ps, NumB w b ∧ b < w.heap.size
 | [], _, b, hb => by cases hb
 | p :: ps, h, b, hb => by
  unfold PtsAt at h
  unfold pblkss at hb
  rcases List.mem_append.1 hb with e | e
  ·
   exact PtAt.num p h.1 b e
  ·
   exact PtsAt.num ps h.2 b e
end
theorem ptv_not {w : World} {b : Nat} {q : Nat} (h : w.cell? ⟨b, 0, none⟩ = some (ptv q)) : ¬ NumB w b := by
 rintro ⟨K, n, e⟩
 rw [h] at e
 cases e
theorem KidS.apart {w w' : World} {ok : Nat → Prop} {ad : Option Addr} {c : Nat} {kids : List Pt} (h : KidS w ok ad c kids) {S : Nat → Prop} (k : Kx S w w') (hS : ∀ b, b < w.heap.size → S b → NumB w b) : KidS w' ok ad c kids := by
 refine ⟨h.cap, fun hl => ?_⟩
 obtain ⟨b, e, hb, hlt, hc⟩ := h.at_ hl
 have hb0 : ∃ q, w.cell? ⟨b, 0, none⟩ = some (ptv q) := by
  cases kids with
  | nil => exact absurd hl (by simp)
  | cons p ps => exact ⟨p.P, hc 0 p rfl⟩
 obtain ⟨q, hq⟩ := hb0
 have hsame := k.block b hlt (fun s => ptv_not hq (hS b hlt s))
 exact ⟨b, e, hb, Nat.lt_of_lt_of_le hlt k.size, fun j p hj => (cell_same hsame _).trans (hc j p hj)⟩
mutual
theorem PtAt.apart {w w' : World} {ok : Nat → Prop} {S : Nat → Prop} (k : Kx S w w') (hS : ∀ b, b < w.heap.size → S b → NumB w b) : ∀ (p : Pt), PtAt w ok p → (∀ b ∈ pblks p, ¬ S b) → PtAt w' ok p
 | .mk kk low high n s P kn so rd st hd kids, h, hn => by
  unfold PtAt at h ⊢
  unfold pblks at hn
  obtain ⟨h1, ⟨ad, c, h2, h3, h4⟩, h5⟩ := h
  have hk := KidS.apart ⟨h3, h4⟩ k hS
  exact ⟨h1, ⟨ad, c, bl_kx h2 k (hn P (List.mem_cons_self ..)), hk.cap, hk.at_⟩, PtsAt.apart k hS kids h5 (fun b hb => hn b (List.mem_cons_of_mem _ hb))⟩
theorem PtsAt.apart {w w' : World} {ok : Nat → Prop} {S : Nat → Prop} (k : Kx S w w') (hS : ∀ b, b < w.heap.size → S b → NumB w b) : ∀ (ps : List Pt), PtsAt w ok ps → (∀ b ∈ pblkss ps, ¬ S b) → PtsAt w' ok ps
 | [], _, _ => by unfold PtsAt; trivial
 | p :: ps, h, hn => by
  unfold PtsAt at h ⊢
  unfold pblkss at hn
  exact ⟨PtAt.apart k hS p h.1 (fun b hb => hn b (List.mem_append_left _ hb)), PtsAt.apart k hS ps h.2 (fun b hb => hn b (List.mem_append_right _ hb))⟩
end
theorem PtsAt.set {w w' : World} {ok : Nat → Prop} {ps : List Pt} {q : Nat} {p p' : Pt} (h : PtsAt w ok ps) (hn : (blkss ps).Nodup) (hp : ps[q]? = some p) (k : Kx (fun b => b ∈ pblks p) w w') (h' : PtAt w' ok p') : PtsAt w' ok (ps.set q p') := by
 have hP := h.get q p hp
 refine PtsAt.of (fun j r hj => ?_)
 by_cases e : q = j
 ·
  subst e
  rw [List.getElem?_set_self (List.getElem?_eq_some_iff.1 hp).1] at hj
  injection hj with hj
  rw [← hj]
  exact h'
 ·
  rw [List.getElem?_set_ne e] at hj
  exact PtAt.apart k (fun b _ hb => (PtAt.num p hP b hb).1) r (h.get j r hj) (fun b hb hb2 => blkss_apart hn hp hj e b (pblks_sub p b hb2) (pblks_sub r b hb))
mutual
theorem blks_heed : ∀ (g : Nat) (p : Pt), blks (heed g p) = blks p ∧ pblks (heed g p) = pblks p
 | g, .mk k low high n s P kn so rd st hd kids => by
  unfold heed blks pblks
  split
  ·
   rw [(blks_heedR g kids).1, (blks_heedR g kids).2]; exact ⟨rfl, rfl⟩
  ·
   split
   ·
    rw [(blks_heedA g kids).1, (blks_heedA g kids).2]; exact ⟨rfl, rfl⟩
   ·
    split
    ·
     rw [(blks_heedA _ kids).1, (blks_heedA _ kids).2]; exact ⟨rfl, rfl⟩
    ·
     split
     ·
      rw [(blks_heedA _ kids).1, (blks_heedA _ kids).2]; exact ⟨rfl, rfl⟩
     ·
      exact ⟨rfl, rfl⟩
theorem blks_heedR : ∀ (g : Nat) (ps : List Pt), blkss (heedR g ps).1 = blkss ps ∧ pblkss (heedR g ps).1 = pblkss ps
 | g, [] => by unfold heedR; exact ⟨rfl, rfl⟩
 | g, p :: ps => by
  unfold heedR blkss pblkss
  rw [(blks_heed _ p).1, (blks_heed _ p).2, (blks_heedR g ps).1, (blks_heedR g ps).2]
  exact ⟨rfl, rfl⟩
theorem blks_heedA : ∀ (g : Nat) (ps : List Pt), blkss (heedA g ps) = blkss ps ∧ pblkss (heedA g ps) = pblkss ps
 | g, [] => by unfold heedA; exact ⟨rfl, rfl⟩
 | g, p :: ps => by
  unfold heedA blkss pblkss
  rw [(blks_heed g p).1, (blks_heed g p).2, (blks_heedA g ps).1, (blks_heedA g ps).2]
  exact ⟨rfl, rfl⟩
end
theorem heed_P (g : Nat) (p : Pt) : (heed g p).P = p.P ∧ (heed g p).rd = p.rd ∧ (heed g p).st = p.st := by
 cases p
 unfold heed
 exact ⟨rfl, rfl, rfl⟩
theorem heedA_map (g : Nat) : ∀ (ps : List Pt), heedA g ps = ps.map (heed g)
 | [] => by unfold heedA; rfl
 | p :: ps => by
  unfold heedA
  rw [heedA_map g ps, List.map_cons]
theorem pblkss_app : ∀ (a b : List Pt), pblkss (a ++ b) = pblkss a ++ pblkss b
 | [], b => rfl
 | r :: rs, b => by
  have e : ∀ x xs, pblkss (x :: xs) = pblks x ++ pblkss xs := fun x xs => by rw [pblkss]
  rw [List.cons_append, e, e, pblkss_app rs b, List.append_assoc]
def frontA (g : Nat) (kids : List Pt) (q : Nat) : List Pt := (kids.take q).map (heed g) ++ kids.drop q
theorem frontA_nd (g : Nat) (kids : List Pt) (q : Nat) : blkss (frontA g kids q) = blkss kids ∧ pblkss (frontA g kids q) = pblkss kids := by
 unfold frontA
 rw [← heedA_map, blkss_app, pblkss_app, (blks_heedA g _).1, (blks_heedA g _).2, ← blkss_app, ← pblkss_app, List.take_append_drop]
 exact ⟨rfl, rfl⟩
theorem frontA_get {g : Nat} {kids : List Pt} {q : Nat} {p : Pt} (hp : kids[q]? = some p) : (frontA g kids q)[q]? = some p := by
 have hl : q < kids.length := (List.getElem?_eq_some_iff.1 hp).1
 unfold frontA
 rw [List.getElem?_append_right (by rw [List.length_map, List.length_take]; omega), List.length_map, List.length_take, List.getElem?_drop, show q + (q - min q kids.length) = q by omega]
 exact hp
theorem frontA_set {g : Nat} {kids : List Pt} {q : Nat} {p : Pt} (hp : kids[q]? = some p) : (frontA g kids q).set q (heed g p) = frontA g kids (q + 1) := by
 obtain ⟨hl, he⟩ := List.getElem?_eq_some_iff.1 hp
 unfold frontA
 rw [List.set_append_right _ _ (by rw [List.length_map, List.length_take]; omega), List.length_map, List.length_take, show q - min q kids.length = 0 by omega, List.drop_eq_getElem_cons hl, he, List.set_cons_zero, List.take_succ_eq_append_getElem hl, he, List.map_append, List.append_assoc]
 rfl
def backR (g : Nat) (kids : List Pt) (m : Nat) : List Pt := kids.take m ++ (heedR g (kids.drop m)).1
def backG (g : Nat) (kids : List Pt) (m : Nat) : Nat := (heedR g (kids.drop m)).2
theorem backR_nd (g : Nat) (kids : List Pt) (m : Nat) : blkss (backR g kids m) = blkss kids ∧ pblkss (backR g kids m) = pblkss kids := by
 unfold backR
 rw [blkss_app, pblkss_app, (blks_heedR g _).1, (blks_heedR g _).2, ← blkss_app, ← pblkss_app, List.take_append_drop]
 exact ⟨rfl, rfl⟩
theorem backR_get {g : Nat} {kids : List Pt} {m : Nat} {p : Pt} (hp : kids[m]? = some p) : (backR g kids (m + 1))[m]? = some p := by
 have hl : m < kids.length := (List.getElem?_eq_some_iff.1 hp).1
 unfold backR
 rw [List.getElem?_append_left (by rw [List.length_take]; omega), List.getElem?_take_of_lt (by omega)]
 exact hp
theorem backR_set {g : Nat} {kids : List Pt} {m : Nat} {p : Pt} (hp : kids[m]? = some p) : (backR g kids (m + 1)).set m (heed (backG g kids (m + 1)) p) = backR g kids m ∧ backG g kids m = heedG (backG g kids (m + 1)) p := by
 obtain ⟨hl, he⟩ := List.getElem?_eq_some_iff.1 hp
 unfold backR backG
 rw [List.drop_eq_getElem_cons hl, he, heedR]
 refine ⟨?_, rfl⟩
 rw [List.set_append_left _ _ (by rw [List.length_take]; omega), List.take_succ_eq_append_getElem hl, List.set_append_right _ _ (by rw [List.length_take]; omega), List.length_take, show m - min m kids.length = 0 by omega, List.set_cons_zero, List.append_assoc]
 rfl
mutual
def PtH : Pt → Prop
 | .mk k _ _ n _ _ _ _ rd _ _ kids => rd < 8 ∧ WdOk kids ∧ (k = 5 → n = 1 ∨ n = 2 ∨ n = 3) ∧ (k = 5 ∨ k = 4 → kids.length = 1) ∧ kids.length ≤ 1000000 ∧ PtsH kids
def PtsH : List Pt → Prop
 | [] => True
 | p :: ps => PtH p ∧ PtsH ps
end
theorem PtsH.get : ∀ {ps : List Pt}, PtsH ps → ∀ p, p ∈ ps → PtH p
 | [], _, p, hp => by cases hp
 | q :: qs, h, p, hp => by
  unfold PtsH at h
  rcases List.mem_cons.1 hp with e | e
  ·
   rw [e]; exact h.1
  ·
   exact h.2.get p e
theorem heedG_lt {g : Nat} {p : Pt} (hg : g < 8) (hr : p.rd < 8) : heedG g p < 8 := or8 _ _ (and8 _ _ hg) hr
end Go.Proofs.YtnajcnhgeggngaaGreat.Way

/-! ### Heed -/

namespace Go.Proofs.YtnajcnhgeggngaaGreat.Way
set_option maxHeartbeats 2000000
set_option maxRecDepth 100000
open Go.RowKit Go.Proofs.YtnajcnhgeggngaaGreat

structure HeedD (p : Pt) (g : Nat) (w : World) (e : Ending) (w' : World) : Prop where
 ex : e = .returned (.tuple #[]) ∧ PtAt w' TT (heed g p) ∧ Kx (fun b => b ∈ pblks p) w w'
structure HeedS (p : Pt) : Prop where
 all : ∀ (g : Nat) (w : World), g < 8 → PtAt w TT p → (blks p).Nodup → Calls Tryz.prog 33 #[ptv p.P, .int .u8 (g : Int)] w fun e w' => HeedD p g w e w'
theorem heed_done2 {k low high n : Int} {s : W4} {P rd st hd g : Nat} {kn so : Option Nat} {kids kids' : List Pt} {ad : Option Addr} {c : Nat} {w w' : World} (hk : heed g (.mk k low high n s P kn so rd st hd kids) = .mk k low high n s P kn so rd st g kids') (hP : w'.heap[P]? = some (pto k low high n s (.slice ad kids.length c) rd st g kn so)) (hks : KidS w' TT ad c kids) (hm : kids'.map Pt.P = kids.map Pt.P) (hpts : PtsAt w' TT kids') (K : Kx (fun b => b = P ∨ b ∈ pblkss kids) w w') : HeedD (.mk k low high n s P kn so rd st hd kids) g w (.returned (.tuple #[])) w' := by
 have hl : kids'.length = kids.length := by have := congrArg List.length hm; simpa using this
 refine ⟨rfl, ?_, ?_⟩
 ·
  rw [hk]
  unfold PtAt
  refine ⟨trivial, ⟨ad, c, by rw [hl]; exact hP, by rw [hl]; exact hks.cap, fun h0 => ?_⟩, hpts⟩
  obtain ⟨b, e, hb, hlt, hc⟩ := hks.at_ (by rw [← hl]; exact h0)
  refine ⟨b, e, hb, hlt, fun j q hj => ?_⟩
  have h1 : (kids.map Pt.P)[j]? = some q.P := by rw [← hm, List.getElem?_map, hj]; rfl
  rw [List.getElem?_map] at h1
  cases hq : kids[j]? with
  | none => rw [hq] at h1; cases h1
  | some r =>
   rw [hq] at h1
   have e1 : r.P = q.P := by simpa using h1
   rw [← e1]
   exact hc j r hq
 ·
  have hs : ∀ b, b = P ∨ b ∈ pblkss kids → b ∈ pblks (.mk k low high n s P kn so rd st hd kids) := fun b hb => by
   unfold pblks
   rcases hb with e | e
   ·
    rw [e]; exact List.mem_cons_self ..
   ·
    exact List.mem_cons_of_mem _ e
  exact K.mono (fun b _ e => hs b e)
theorem heed_done {k low high n : Int} {s : W4} {P rd st hd g : Nat} {kn so : Option Nat} {kids kids' : List Pt} {ad : Option Addr} {c : Nat} {w W0 w' : World} (hk : heed g (.mk k low high n s P kn so rd st hd kids) = .mk k low high n s P kn so rd st g kids') (hP : w'.heap[P]? = some (pto k low high n s (.slice ad kids.length c) rd st g kn so)) (hks : KidS w' TT ad c kids) (hm : kids'.map Pt.P = kids.map Pt.P) (hpts : PtsAt w' TT kids') (K0 : Kx (fun b => b = P) w W0) (K : Kx (fun b => b ∈ pblkss kids) W0 w') : HeedD (.mk k low high n s P kn so rd st hd kids) g w (.returned (.tuple #[])) w' :=
 heed_done2 hk hP hks hm hpts ((K0.mono (fun _ _ e => Or.inl e)).trans (K.mono (fun _ _ e => Or.inr e)))
theorem map_heedR (g : Nat) : ∀ (ps : List Pt), (heedR g ps).1.map Pt.P = ps.map Pt.P
 | [] => by unfold heedR; rfl
 | p :: ps => by
  unfold heedR
  rw [List.map_cons, List.map_cons, map_heedR g ps, (heed_P _ p).1]
theorem map_heedA (g : Nat) (ps : List Pt) : (heedA g ps).map Pt.P = ps.map Pt.P := by
 rw [heedA_map, List.map_map]
 exact List.map_congr_left (fun p _ => (heed_P g p).1)
theorem heed_plain (k low high n : Int) (s : W4) (P rd st hd : Nat) (kn so : Option Nat) (kids : List Pt) (H : ∀ q, q ∈ kids → HeedS q) (hH : PtH (.mk k low high n s P kn so rd st hd kids)) (hk2 : k ≠ 2) : HeedS (.mk k low high n s P kn so rd st hd kids) := by
 refine ⟨fun g w hg hp hnd => ?_⟩
 unfold PtH at hH
 obtain ⟨hr8, hwd, h5, h54, hS, hHs⟩ := hH
 unfold PtAt at hp
 obtain ⟨_, ⟨ad, c, hblk, hcap, hat⟩, hpts⟩ := hp
 unfold blks at hnd
 have hndc := List.nodup_cons.1 hnd
 have hndk : (blkss kids).Nodup := (List.nodup_append.1 hndc.2).2.1
 have hPk : P ∉ pblkss kids := fun e => hndc.1 (List.mem_append_right _ (pblkss_sub kids P e))
 obtain ⟨L, hL⟩ : ∃ L, kids.length = L := ⟨_, rfl⟩
 rw [hL] at hblk hS
 have HLL := hid hL
 have HP := hid hblk
 have HKSw := hid (show KidS w TT ad c kids from ⟨hcap, hat⟩)
 have HPTw := hid hpts
 have HNDK := hid hndk
 have HPKK := hid hPk
 have HG := hid hg
 have HH := hid H
 have HWD := hid hwd
 have HR8 := hid hr8
 have HS := hid hS
 clear hblk hcap hat hpts hnd hndc hndk hPk hg H hwd hHs hL
 show Calls Tryz.prog 33 #[ptv P, .int .u8 (g : Int)] w fun e w' => HeedD (.mk k low high n s P kn so rd st hd kids) g w e w'
 go_enter Tryz.func33, Tryz.ntmps33
 go_upto_region 1 with fail
 refine opq (fun Wa => Wa.heap[w.heap.size]? = some (.cells #[.int .u8 (g : Int)] 75) ∧ Wa.heap[P]? = some (pto k low high n s (.slice ad L c) rd st hd kn so) ∧ Kp w Wa) ⟨by exact last_of _ _, by exact bl_kp HP.out kpt, by exact kpt⟩ ?_
 rintro Wa ⟨xGa, xPa, xKa⟩
 have Ga := hid xGa
 have Pa := hid xPa
 have Ka := hid xKa
 clear xGa xPa xKa
 have g0 := bl_cell Ga.out 0 _ rfl
 have p11 := bl_cell Pa.out 11 _ rfl
 have fp11 := bl_frozen Pa.out 11
 go_upto_region 2 with fail
 refine opq (fun W0 => W0.heap[P]? = some (pto k low high n s (.slice ad L c) rd st g kn so) ∧ W0.heap[w.heap.size]? = some (.cells #[.int .u8 (g : Int)] 75) ∧ Kx (fun b => b = P) w W0) ⟨by exact bl_put Pa.out _, by exact (Below.heap_setCell Wa ⟨P, 11, none⟩ _ w.heap.size (show w.heap.size ≠ P by have := bl_lt HP.out; omega)).trans Ga.out, by exact Kx.set (S := fun b => b = P) (Kp.kx Ka.out) (fun _ => rfl) _ _⟩ ?_
 rintro W0 ⟨xP0, xG0, xK0⟩
 have P0 := hid xP0
 have G0 := hid xG0
 have K0 := hid xK0
 clear xP0 xG0 xK0
 clear g0 p11 fp11 Ga Pa Ka
 have hnum : ∀ b, b < w.heap.size → b = P → NumB w b := fun b _ e => by rw [e]; exact ⟨_, k, bl_cell HP.out 0 _ rfl⟩
 have HKS := hid (KidS.apart HKSw.out K0.out hnum)
 have HPT := hid (PtsAt.apart K0.out hnum kids HPTw.out (fun b hb e => HPKK.out (by rw [← e]; exact hb)))
 have HGL := hid (show ∀ b ∈ pblkss kids, b < w.heap.size from fun b hb => (PtsAt.num kids HPTw.out b hb).2)
 clear HKSw HPTw HP hnum
 obtain ⟨p0, p1, p2, p3, p4, p5, p6, p7, p8, p9, p10, p11, p12, p13⟩ := cells14 (P0.out)
 have k2b : (k == 2) = false := by simp [hk2]
 by_cases k3 : k = 3
 ·
  subst k3
  have HHE : Hid (heed g (.mk 3 low high n s P kn so rd st hd kids) = .mk 3 low high n s P kn so rd st g (heedA g kids)) := by
   show _ = _
   rw [heed, if_neg (by decide), if_pos rfl]
  go_wp2_with fail
  clear p0 p1 p2 p3 p4 p5 p6 p7 p8 p9 p10 p11 p12 p13
  go_loopg [48] L (fun gg i wr => ∃ (q : Nat), q + gg = L ∧ i = .int .i64 (q : Int) ∧ PtsAt wr TT (frontA g kids q) ∧ Kx (fun b => b ∈ pblkss kids) W0 wr)
  case atStart => exact ⟨0, by omega, rfl, by unfold frontA; rw [List.take_zero, List.drop_zero]; exact HPT.out, Kx.refl _ _⟩
  case round =>
   obtain ⟨q, hq, rfl, hT, hK⟩ := hrel
   have T6 := hid hT
   have K6 := hid hK
   have KS6 := hid (KidS.apart HKS.out hK (fun b _ hb => (PtsAt.num kids HPT.out b hb).1))
   have G6 := hid (bl_kx G0.out hK (fun e => by have := HGL.out _ e; omega))
   have P6 := hid (bl_kx P0.out hK HPKK.out)
   clear hT hK
   by_cases hlt : q < L
   ·
    have gkw : IntKind.i64.wrap ((q : Int) + 1) = (q : Int) + 1 := by have := HS.out; rw [IntKind.wrap_i64]; omega
    have ga : (q : Int) < (L : Int) := by omega
    have g00 : (0 : Int) ≤ (q : Int) := by omega
    obtain ⟨kid, hkid⟩ : ∃ kid, kids[q]? = some kid := ⟨_, List.getElem?_eq_getElem (by rw [HLL.out]; exact hlt)⟩
    obtain ⟨bb, rfl, -, hbb, hce⟩ := KS6.out.at_ (by rw [HLL.out]; omega)
    have cp := hce q kid hkid
    have g0 := bl_cell G6.out 0 _ rfl
    have HKI := hid hkid
    have HC := hid ((HH.out kid (List.mem_of_getElem? hkid)).all g wr HG.out (T6.out.get q kid (frontA_get hkid)) (blkss_nd HNDK.out hkid))
    clear hce hkid hbb
    go_wp2_with fail
    clear cp g0
    refine (HC.out).mono ?_
    rintro e y hd0
    obtain ⟨rfl, hpt, hk⟩ := hd0.ex
    have T7 := hid (PtsAt.set T6.out (by rw [(frontA_nd g kids q).1]; exact HNDK.out) (frontA_get HKI.out) hk hpt)
    rw [frontA_set HKI.out] at T7
    have K7 := hid (K6.out.trans (hk.mono (fun b _ hb => pblkss_get HKI.out b hb)))
    clear hd0 hpt hk
    go_wp2_with fail
    go_roundg (gk - 1)
    case measure => omega
    case rel => exact ⟨q + 1, by omega, by go_num, T7.out, K7.out⟩
   ·
    have ga : ¬ (q : Int) < (L : Int) := by omega
    obtain rfl : q = L := by omega
    have HE : Hid (frontA g kids q = heedA g kids) := by
     show _ = _
     unfold frontA
     rw [heedA_map, List.take_of_length_le (by rw [HLL.out]; omega), List.drop_of_length_le (by rw [HLL.out]; omega), List.append_nil]
    rw [HE.out] at T6
    go_wp2_with fail
    refine bodyPost_end (v := .tuple #[]) (results_none rfl _ _ _) rfl (heed_done HHE.out (by rw [HLL.out]; exact P6.out) KS6.out (map_heedA g kids) T6.out K0.out K6.out)
 have k3b : (k == 3) = false := by simp [k3]
 by_cases k54 : k = 5 ∨ k = 4
 ·
  obtain ⟨kid, hkk⟩ : ∃ kid, kids = [kid] := List.length_eq_one_iff.1 (h54 k54)
  subst hkk
  have hL0 : 0 < L := by rw [← HLL.out]; simp
  have gL : (0 : Int) < (L : Int) := by omega
  obtain ⟨bb, hadd, -, hbl, hce⟩ := HKS.out.at_ (by simp)
  subst hadd
  have CB := hid (hce 0 kid rfl)
  have HBL := hid hbl
  have HKT := hid (HPT.out.get 0 kid rfl)
  have HBK := hid (show ¬ bb ∈ pblks kid from fun e => ptv_not CB.out (PtAt.num kid HKT.out bb e).1)
  have HPK := hid (show ¬ P ∈ pblks kid from fun e => HPKK.out (pblkss_get (ps := [kid]) (j := 0) rfl P e))
  have HGK := hid (show ¬ w.heap.size ∈ pblks kid from fun e => by have := HGL.out _ (pblkss_get (ps := [kid]) (j := 0) rfl _ e); omega)
  have HWK := hid (HWD.out.get 0 kid rfl)
  clear hbl hce
  rcases k54 with rfl | rfl
  ·
   have GB := hid (fun W => grp_any n (h5 rfl) W)
   have gan : bits .andNot .u8 (g : Int) (grpB n : Int) = ((g &&& (7 - grpB n) : Nat) : Int) := u8_not g (grpB n) HG.out (grp_lt n)
   obtain ⟨G, hG⟩ : ∃ G, g &&& (7 - grpB n) = G := ⟨_, rfl⟩
   have HHE : Hid (heed g (.mk 5 low high n s P kn so rd st hd [kid]) = .mk 5 low high n s P kn so rd st g [heed G kid]) := by
    show _ = _
    rw [heed, if_neg (by decide), if_neg (by decide), if_pos rfl, heedA_map, hG]
    rfl
   have HC := hid (fun (W : World) (k0 : Kp W0 W) => (HH.out kid (List.mem_cons_self ..)).all G W (by rw [← hG]; exact and8 _ _ HG.out) (PtAt.kp HKT.out k0) (blkss_nd (ps := [kid]) (j := 0) HNDK.out rfl))
   rw [hG] at gan
   obtain ⟨B, hB⟩ : ∃ B, grpB n = B := ⟨_, rfl⟩
   rw [hB] at gan GB
   clear hG hB
   go_upto_region 15 with fail
   clear p0 p1 p2 p3 p4 p5 p6 p7 p8 p9 p10 p11 p12 p13
   have Q0 : Kx (fun b => b ∈ pblks kid) W0 W0.drew := (Kx.refl _ _).drew
   have MK : Hid (∀ W, Kx (fun b => b ∈ pblks kid) W0 W → W.cell? ⟨P, 8, none⟩ = some (.slice (some ⟨bb, 0, none⟩) L c) ∧ W.cell? ⟨bb, 0, none⟩ = some (ptv kid.P) ∧ W.cell? ⟨w.heap.size, 0, none⟩ = some (.int .u8 (g : Int)) ∧ W.cell? ⟨P, 3, none⟩ = some (.int .i64 n) ∧ Hid (Kx (fun b => b ∈ pblks kid) W0 W)) := fun W k => ⟨bl_cell (bl_kx P0.out k HPK.out) 8 _ rfl, (cell_same (k.block bb HBL.out HBK.out) _).trans CB.out, bl_cell (bl_kx G0.out k HGK.out) 0 _ rfl, bl_cell (bl_kx P0.out k HPK.out) 3 _ rfl, k⟩
   refine wp_region_noPanic ?_
   refine hdrew MK Q0 (fun hH => ?_)
   have KQ := Q0
   refine tk 0 (some 58) (Op.move (Operand.tmp 0)) 71 (v := ?v0a1) rfl ?h0a1 hH ?_
   case h0a1 => intro _ _; go_simp; try with_reducible rfl
   try simp only [ps]
   refine tk 1 (some 59) (Op.nilCheck (Operand.tmp 58)) 0 (v := ?v1a2) rfl ?h1a2 hH ?_
   case h1a2 => intro _ _; go_simp; try with_reducible rfl
   try simp only [ps]
   refine tk 2 (some 60) (Op.fieldAddr 130 (Operand.tmp 59) 5) 0 (v := ?v2a3) rfl ?h2a3 hH ?_
   case h2a3 => intro _ _; go_simp; try with_reducible rfl
   try simp only [ps]
   refine tk 3 (some 61) (Op.load 124 (Operand.tmp 60)) 124 (v := ?v3a4) rfl ?h3a4 hH ?_
   case h3a4 => intro _ _; go_simp; try with_reducible rfl
   try simp only [ps]
   refine tk 4 (some 62) (Op.indexAddr 124 (Operand.tmp 61) (Operand.const (Value.int IntKind.i64 0))) 0 (v := ?v4a5) rfl ?h4a5 hH ?_
   case h4a5 => intro _ _; go_simp; try with_reducible rfl
   try simp only [ps]
   refine tk 5 (some 63) (Op.load 71 (Operand.tmp 62)) 71 (v := ?v5a6) rfl ?h5a6 hH ?_
   case h5a6 => intro _ _; go_simp; try with_reducible rfl
   try simp only [ps]
   refine tk 6 (some 64) (Op.load 75 (Operand.tmp 3)) 75 (v := ?v6a7) rfl ?h6a7 hH ?_
   case h6a7 => intro _ _; go_simp; try with_reducible rfl
   try simp only [ps]
   refine tk 7 (some 65) (Op.move (Operand.tmp 0)) 71 (v := ?v7a8) rfl ?h7a8 hH ?_
   case h7a8 => intro _ _; go_simp; try with_reducible rfl
   try simp only [ps]
   refine tk 8 (some 66) (Op.nilCheck (Operand.tmp 65)) 0 (v := ?v8a9) rfl ?h8a9 hH ?_
   case h8a9 => intro _ _; go_simp; try with_reducible rfl
   try simp only [ps]
   refine tk 9 (some 67) (Op.fieldAddr 130 (Operand.tmp 66) 3) 0 (v := ?v9a10) rfl ?h9a10 hH ?_
   case h9a10 => intro _ _; go_simp; try with_reducible rfl
   try simp only [ps]
   refine tk 10 (some 68) (Op.load 3 (Operand.tmp 67)) 3 (v := ?v10a11) rfl ?h10a11 hH ?_
   case h10a11 => intro _ _; go_simp; try with_reducible rfl
   try simp only [ps]
   refine wpAnyH_ready (rs := [11]) (by kernel_rfl) (by simp) ?_
   refine AllReadyH.cons (o := { dst := some 69, op := Op.call { callee := Callee.value (Operand.func 52), args := #[Operand.tmp 68], argTypes := #[3] }, type := 75, pos := "part.go:69", after := #[{ on := 10, ground := Ground.data }], guard := none }) rfl (fun K hKq => ?_) AllReadyH.nil
   go_simp
   refine (GB.out _).mono ?_
   rintro e yy ⟨rfl, rfl⟩
   refine hKq.out _ _ (MK.out _ KQ) (fun hN => ?_)
   clear hKq K hH KQ
   have hH := hN
   clear hN
   have KQ := hH.2.2.2.2.out
   try simp only [ps]
   refine tk 12 (some 70) (Op.binOp BinOp.andNot 75 (Operand.tmp 64) (Operand.tmp 69) 75) 75 (v := ?v12a12) rfl ?h12a12 hH ?_
   case h12a12 => intro _ _; go_simp; try with_reducible rfl
   try simp only [ps]
   refine wpAnyH_ready (rs := [13]) (by kernel_rfl) (by simp) ?_
   refine AllReadyH.cons (o := { dst := some 71, op := Op.call { callee := Callee.value (Operand.func 33), args := #[Operand.tmp 63, Operand.tmp 70], argTypes := #[71, 75] }, type := 0, pos := "part.go:69", after := #[{ on := 5, ground := Ground.data }, { on := 12, ground := Ground.data }, { on := 11, ground := Ground.chain }], guard := none }) rfl (fun K hKq => ?_) AllReadyH.nil
   go_simp
   refine (HC.out _ ((Kp.refl W0).drew)).mono ?_
   rintro e y2 hd0
   obtain ⟨he, hpt2, hk2⟩ := hd0.ex
   subst he
   have HPT2 := hid hpt2
   have HK2 := hid ((Kp.kx (S := fun b => b ∈ pblks kid) ((Kp.refl W0).drew)).trans hk2)
   clear hd0 hpt2 hk2
   refine hKq.out _ _ (MK.out _ HK2.out) (fun hN => ?_)
   clear hKq K hH KQ
   have hH := hN
   clear hN
   have KQ := hH.2.2.2.2.out
   try simp only [ps]
   refine wpAnyH_done (by kernel_rfl) ?_ _
   refine NoPanic.normal ?_
   go_wp2_with fail
   refine bodyPost_end (v := .tuple #[]) (results_none rfl _ _ _) rfl (heed_done (kids' := [heed G kid]) HHE.out (by rw [HLL.out]; exact bl_kx P0.out HK2.out HPK.out) (KidS.apart HKS.out HK2.out (fun b _ hb => (PtAt.num kid HKT.out b hb).1)) (by rw [List.map_cons, List.map_cons, (heed_P G kid).1]) (by unfold PtsAt; exact ⟨HPT2.out, by unfold PtsAt; trivial⟩) K0.out (HK2.out.mono (fun b _ hb => by unfold pblkss; exact List.mem_append_left _ hb)))
  ·
   have gor : bits .or .u8 (g : Int) (rd : Int) = ((g ||| rd : Nat) : Int) := u8_or g rd HG.out HR8.out
   obtain ⟨G, hG⟩ : ∃ G, g ||| rd = G := ⟨_, rfl⟩
   have HHE : Hid (heed g (.mk 4 low high n s P kn so rd st hd [kid]) = .mk 4 low high n s P kn so rd st g [heed G kid]) := by
    show _ = _
    rw [heed, if_neg (by decide), if_neg (by decide), if_neg (by decide), if_pos rfl, heedA_map, hG]
    rfl
   have HC := hid (fun (W : World) (k0 : Kp W0 W) => (HH.out kid (List.mem_cons_self ..)).all G W (by rw [← hG]; exact or8 _ _ HG.out HR8.out) (PtAt.kp HKT.out k0) (blkss_nd (ps := [kid]) (j := 0) HNDK.out rfl))
   rw [hG] at gor
   clear hG
   go_upto_region 17 with fail
   clear p0 p1 p2 p3 p4 p5 p6 p7 p8 p9 p10 p11 p12 p13
   have Q0 : Kx (fun b => b ∈ pblks kid) W0 W0.drew := (Kx.refl _ _).drew
   have MK : Hid (∀ W, Kx (fun b => b ∈ pblks kid) W0 W → W.cell? ⟨P, 8, none⟩ = some (.slice (some ⟨bb, 0, none⟩) L c) ∧ W.cell? ⟨bb, 0, none⟩ = some (ptv kid.P) ∧ W.cell? ⟨w.heap.size, 0, none⟩ = some (.int .u8 (g : Int)) ∧ W.cell? ⟨P, 9, none⟩ = some (.int .u8 (rd : Int)) ∧ Hid (Kx (fun b => b ∈ pblks kid) W0 W)) := fun W k => ⟨bl_cell (bl_kx P0.out k HPK.out) 8 _ rfl, (cell_same (k.block bb HBL.out HBK.out) _).trans CB.out, bl_cell (bl_kx G0.out k HGK.out) 0 _ rfl, bl_cell (bl_kx P0.out k HPK.out) 9 _ rfl, k⟩
   refine wp_region_noPanic ?_
   refine hdrew MK Q0 (fun hH => ?_)
   have KQ := Q0
   refine tk 0 (some 74) (Op.move (Operand.tmp 0)) 71 (v := ?v0b1) rfl ?h0b1 hH ?_
   case h0b1 => intro _ _; go_simp; try with_reducible rfl
   try simp only [ps]
   refine tk 1 (some 75) (Op.nilCheck (Operand.tmp 74)) 0 (v := ?v1b2) rfl ?h1b2 hH ?_
   case h1b2 => intro _ _; go_simp; try with_reducible rfl
   try simp only [ps]
   refine tk 2 (some 76) (Op.fieldAddr 130 (Operand.tmp 75) 5) 0 (v := ?v2b3) rfl ?h2b3 hH ?_
   case h2b3 => intro _ _; go_simp; try with_reducible rfl
   try simp only [ps]
   refine tk 3 (some 77) (Op.load 124 (Operand.tmp 76)) 124 (v := ?v3b4) rfl ?h3b4 hH ?_
   case h3b4 => intro _ _; go_simp; try with_reducible rfl
   try simp only [ps]
   refine tk 4 (some 78) (Op.indexAddr 124 (Operand.tmp 77) (Operand.const (Value.int IntKind.i64 0))) 0 (v := ?v4b5) rfl ?h4b5 hH ?_
   case h4b5 => intro _ _; go_simp; try with_reducible rfl
   try simp only [ps]
   refine tk 5 (some 79) (Op.load 71 (Operand.tmp 78)) 71 (v := ?v5b6) rfl ?h5b6 hH ?_
   case h5b6 => intro _ _; go_simp; try with_reducible rfl
   try simp only [ps]
   refine tk 6 (some 80) (Op.load 75 (Operand.tmp 3)) 75 (v := ?v6b7) rfl ?h6b7 hH ?_
   case h6b7 => intro _ _; go_simp; try with_reducible rfl
   try simp only [ps]
   refine tk 7 (some 81) (Op.move (Operand.tmp 0)) 71 (v := ?v7b8) rfl ?h7b8 hH ?_
   case h7b8 => intro _ _; go_simp; try with_reducible rfl
   try simp only [ps]
   refine tk 8 (some 82) (Op.nilCheck (Operand.tmp 81)) 0 (v := ?v8b9) rfl ?h8b9 hH ?_
   case h8b9 => intro _ _; go_simp; try with_reducible rfl
   try simp only [ps]
   refine tk 9 (some 83) (Op.fieldAddr 130 (Operand.tmp 82) 6) 0 (v := ?v9b10) rfl ?h9b10 hH ?_
   case h9b10 => intro _ _; go_simp; try with_reducible rfl
   try simp only [ps]
   refine tk 10 (some 84) (Op.fieldAddr 126 (Operand.tmp 83) 0) 0 (v := ?v10b11) rfl ?h10b11 hH ?_
   case h10b11 => intro _ _; go_simp; try with_reducible rfl
   try simp only [ps]
   refine tk 11 (some 85) (Op.load 75 (Operand.tmp 84)) 75 (v := ?v11b12) rfl ?h11b12 hH ?_
   case h11b12 => intro _ _; go_simp; try with_reducible rfl
   try simp only [ps]
   refine tk 12 (some 86) (Op.binOp BinOp.or 75 (Operand.tmp 80) (Operand.tmp 85) 75) 75 (v := ?v12b13) rfl ?h12b13 hH ?_
   case h12b13 => intro _ _; go_simp; try with_reducible rfl
   try simp only [ps]
   refine wpAnyH_ready (rs := [13]) (by kernel_rfl) (by simp) ?_
   refine AllReadyH.cons (o := { dst := some 87, op := Op.call { callee := Callee.value (Operand.func 33), args := #[Operand.tmp 79, Operand.tmp 86], argTypes := #[71, 75] }, type := 0, pos := "part.go:72", after := #[{ on := 5, ground := Ground.data }, { on := 12, ground := Ground.data }], guard := none }) rfl (fun K hKq => ?_) AllReadyH.nil
   go_simp
   refine (HC.out _ ((Kp.refl W0).drew)).mono ?_
   rintro e y2 hd0
   obtain ⟨he, hpt2, hk2⟩ := hd0.ex
   subst he
   have HPT2 := hid hpt2
   have HK2 := hid ((Kp.kx (S := fun b => b ∈ pblks kid) ((Kp.refl W0).drew)).trans hk2)
   clear hd0 hpt2 hk2
   refine hKq.out _ _ (MK.out _ HK2.out) (fun hN => ?_)
   clear hKq K hH KQ
   have hH := hN
   clear hN
   have KQ := hH.2.2.2.2.out
   try simp only [ps]
   refine wpAnyH_done (by kernel_rfl) ?_ _
   refine NoPanic.normal ?_
   go_wp2_with fail
   refine bodyPost_end (v := .tuple #[]) (results_none rfl _ _ _) rfl (heed_done (kids' := [heed G kid]) HHE.out (by rw [HLL.out]; exact bl_kx P0.out HK2.out HPK.out) (KidS.apart HKS.out HK2.out (fun b _ hb => (PtAt.num kid HKT.out b hb).1)) (by rw [List.map_cons, List.map_cons, (heed_P G kid).1]) (by unfold PtsAt; exact ⟨HPT2.out, by unfold PtsAt; trivial⟩) K0.out (HK2.out.mono (fun b _ hb => by unfold pblkss; exact List.mem_append_left _ hb)))
 ·
  have k5 : ¬ k = 5 := fun e => k54 (Or.inl e)
  have k4 : ¬ k = 4 := fun e => k54 (Or.inr e)
  have k5b : (k == 5) = false := by simp [k5]
  have k4b : (k == 4) = false := by simp [k4]
  have HHE : Hid (heed g (.mk k low high n s P kn so rd st hd kids) = .mk k low high n s P kn so rd st g kids) := by
   show _ = _
   rw [heed, if_neg hk2, if_neg k3, if_neg k5, if_neg k4]
  go_wp2_with fail
  refine bodyPost_end (v := .tuple #[]) (results_none rfl _ _ _) rfl (heed_done HHE.out (by rw [HLL.out]; exact P0.out) HKS.out rfl HPT.out K0.out (Kx.refl _ _))
end Go.Proofs.YtnajcnhgeggngaaGreat.Way
