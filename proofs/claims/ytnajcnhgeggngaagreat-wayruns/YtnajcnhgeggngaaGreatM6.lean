/-
  Texts of this claim: Asm, Lean2, Keep, Right1, Right2, Right3, Right4, Right5, Over, Spts, Stt0, Stt, Gro, Wys, Ens, Eqn.
-/
import Derived.Test.YtnajcnhgeggngaaGreatM4
import Derived.Test.YtnajcnhgeggngaaGreatM5
import Derived.Test.YtnajcnhgeggngaaGreatM2
import Derived.OwnWalk
import Derived.Deep.LoopGhost
import Derived.Lib.AppendZeros
set_option maxHeartbeats 2000000
set_option maxRecDepth 100000

/-! ### Asm -/

namespace Go.Proofs.YtnajcnhgeggngaaGreat.Way
open Go.RowKit Go.Proofs.YtnajcnhgeggngaaGreat Go.Maps Go.MapKept

theorem build_any : ∀ r, RxW r → BuildS r
 | .mk k mn mx n s kids, h => build_step k mn mx n s kids (fun a ha => build_any a (by unfold RxW at h; exact h.2.2.2.2.2.get a ha)) h
termination_by a => SizeOf.sizeOf a
decreasing_by
 have := List.sizeOf_lt_of_mem ha
 simp
 omega
theorem heed_upto : ∀ (N : Nat) (p : Pt), psize p ≤ N → PtH p → HeedS p
 | 0, .mk k low high n s P kn so rd st hd kids, hN, _ => by unfold psize at hN; omega
 | N + 1, .mk k low high n s P kn so rd st hd kids, hN, h => by
  by_cases k2 : k = 2
  ·
   subst k2
   exact heed_row low high n s P rd st hd kn so kids (fun q hq hh => heed_upto N q (by omega) hh) h
  ·
   refine heed_plain k low high n s P rd st hd kn so kids (fun q hq => heed_upto N q ?_ ?_) h k2
   ·
    unfold psize at hN
    have := psize_mem hq
    omega
   ·
    unfold PtH at h
    exact h.2.2.2.2.2.get q hq
theorem heed_any (p : Pt) (h : PtH p) : HeedS p := heed_upto (psize p) p (Nat.le_refl _) h
mutual
def PtF : Pt → Prop
 | .mk k low _ n s _ _ _ rd st hd kids => (rd < 8 ∧ st < 8 ∧ hd < 8) ∧ (leafK k = true → LeafOk k n s) ∧ (k = 5 → n = 1 ∨ n = 2 ∨ n = 3) ∧ (k = 4 → 0 ≤ low ∧ low ≤ 20) ∧ (k = 5 ∨ k = 4 → kids.length = 1) ∧ kids.length ≤ 1000000 ∧ PtsF kids
def PtsF : List Pt → Prop
 | [] => True
 | p :: ps => PtF p ∧ PtsF ps
end
theorem PtF.w {p : Pt} (h : PtF p) : p.rd < 8 ∧ p.st < 8 := by
 cases p
 unfold PtF at h
 exact ⟨h.1.1, h.1.2.1⟩
theorem PtsF.wd : ∀ {ps : List Pt}, PtsF ps → WdOk ps
 | [], _ => trivial
 | p :: ps, h => by
  unfold PtsF at h
  exact ⟨h.1.w, h.2.wd⟩
mutual
theorem PtF.h : ∀ (p : Pt), PtF p → PtH p
 | .mk k low high n s P kn so rd st hd kids, h => by
  unfold PtF at h
  unfold PtH
  exact ⟨h.1.1, h.2.2.2.2.2.2.wd, h.2.2.1, h.2.2.2.2.1, h.2.2.2.2.2.1, PtsF.h kids h.2.2.2.2.2.2⟩
theorem PtsF.h : ∀ (ps : List Pt), PtsF ps → PtsH ps
 | [], _ => by unfold PtsH; trivial
 | p :: ps, h => by
  unfold PtsF at h
  unfold PtsH
  exact ⟨PtF.h p h.1, PtsF.h ps h.2⟩
end
mutual
theorem ptf_of : ∀ (r : Rx) (p : Pt), er p = bldE r → RxW r → PtF p
 | .mk k mn mx n s rk, .mk k' low high n' s' P kn so rd st hd kids, e, h => by
  have hlt := bldE_lt (.mk k mn mx n s rk)
  unfold RxW at h
  unfold er bldE at e
  unfold bldE at hlt
  injection e with e1 e2 e3 e4 e5 e6 e7 e8 e9 e10 e11 e12
  subst e1 e2 e3 e4 e5 e11
  have hl : kids.length = rk.length := by rw [← ers_len, e12, bldEs_len]
  unfold PtF
  refine ⟨⟨by rw [e9]; exact hlt.1, by rw [e10]; exact hlt.2, by decide⟩, h.1, h.2.1, h.2.2.1, fun q => by rw [hl]; exact h.2.2.2.1 q, by rw [hl]; exact h.2.2.2.2.1, ptsf_of rk kids e12 h.2.2.2.2.2⟩
theorem ptsf_of : ∀ (rs : List Rx) (ps : List Pt), ers ps = bldEs rs → RxsW rs → PtsF ps
 | _, [], _, _ => by unfold PtsF; trivial
 | [], p :: ps, e, _ => by rw [ers, bldEs] at e; cases e
 | r :: rs, p :: ps, e, h => by
  rw [ers, bldEs] at e
  injection e with e1 e2
  unfold RxsW at h
  unfold PtsF
  exact ⟨ptf_of r p e1 h.1, ptsf_of rs ps e2 h.2⟩
end
theorem grp7 (g n : Nat) : g &&& (7 - n) < 8 := Nat.lt_of_le_of_lt Nat.and_le_right (by omega)
mutual
theorem ptf_heed : ∀ (g : Nat) (p : Pt), g < 8 → PtF p → PtF (heed g p)
 | g, .mk k low high n s P kn so rd st hd kids, hg, h => by
  unfold PtF at h
  obtain ⟨h1, h2, h3, h4, h5, h6, h7⟩ := h
  unfold heed PtF
  refine ⟨⟨h1.1, h1.2.1, hg⟩, h2, h3, h4, ?_, ?_, ?_⟩
  ·
   intro e
   rw [if_neg (by omega), if_neg (by omega)]
   split
   ·
    rw [heedA_map, List.length_map]; exact h5 e
   ·
    split
    ·
     rw [heedA_map, List.length_map]; exact h5 e
    ·
     exact h5 e
  ·
   split
   ·
    rw [len_heedR]; exact h6
   ·
    split
    ·
     rw [heedA_map, List.length_map]; exact h6
    ·
     split
     ·
      rw [heedA_map, List.length_map]; exact h6
     ·
      split
      ·
       rw [heedA_map, List.length_map]; exact h6
      ·
       exact h6
  ·
   split
   ·
    exact (ptf_heedR g kids hg h7).1
   ·
    split
    ·
     exact ptf_heedA g kids hg h7
    ·
     split
     ·
      exact ptf_heedA _ kids (grp7 _ _) h7
     ·
      split
      ·
       exact ptf_heedA _ kids (or8 _ _ hg h1.1) h7
      ·
       exact h7
theorem ptf_heedR : ∀ (g : Nat) (ps : List Pt), g < 8 → PtsF ps → PtsF (heedR g ps).1 ∧ (heedR g ps).2 < 8
 | g, [], hg, _ => by unfold heedR PtsF; exact ⟨trivial, hg⟩
 | g, p :: ps, hg, h => by
  unfold PtsF at h
  obtain ⟨i1, i2⟩ := ptf_heedR g ps hg h.2
  unfold heedR PtsF
  exact ⟨⟨ptf_heed _ p i2 h.1, i1⟩, heedG_lt i2 h.1.w.1⟩
theorem ptf_heedA : ∀ (g : Nat) (ps : List Pt), g < 8 → PtsF ps → PtsF (heedA g ps)
 | g, [], _, _ => by unfold heedA PtsF; trivial
 | g, p :: ps, hg, h => by
  unfold PtsF at h
  unfold heedA PtsF
  exact ⟨ptf_heed g p hg h.1, ptf_heedA g ps hg h.2⟩
end
mutual
theorem maps_heed : ∀ (g : Nat) (p : Pt), mapsOf (heed g p) = mapsOf p
 | g, .mk k low high n s P kn so rd st hd kids => by
  unfold heed mapsOf
  split
  ·
   rw [maps_heedR g kids]
  ·
   split
   ·
    rw [maps_heedA g kids]
   ·
    split
    ·
     rw [maps_heedA _ kids]
    ·
     split
     ·
      rw [maps_heedA _ kids]
     ·
      rfl
theorem maps_heedR : ∀ (g : Nat) (ps : List Pt), mapss (heedR g ps).1 = mapss ps
 | g, [] => by unfold heedR; rfl
 | g, p :: ps => by
  unfold heedR mapss
  rw [maps_heed _ p, maps_heedR g ps]
theorem maps_heedA : ∀ (g : Nat) (ps : List Pt), mapss (heedA g ps) = mapss ps
 | g, [] => by unfold heedA; rfl
 | g, p :: ps => by
  unfold heedA mapss
  rw [maps_heed g p, maps_heedA g ps]
end
mutual
theorem ptn_heed : ∀ (g : Nat) (p : Pt), PtN p → PtN (heed g p)
 | g, .mk k low high n s P kn so rd st hd kids, h => by
  unfold PtN at h
  unfold heed PtN
  refine ⟨h.1, ?_⟩
  split
  ·
   exact ptn_heedR g kids h.2
  ·
   split
   ·
    exact ptn_heedA g kids h.2
   ·
    split
    ·
     exact ptn_heedA _ kids h.2
    ·
     split
     ·
      exact ptn_heedA _ kids h.2
     ·
      exact h.2
theorem ptn_heedR : ∀ (g : Nat) (ps : List Pt), PtsN ps → PtsN (heedR g ps).1
 | g, [], _ => by unfold heedR PtsN; trivial
 | g, p :: ps, h => by
  unfold PtsN at h
  unfold heedR PtsN
  exact ⟨ptn_heed _ p h.1, ptn_heedR g ps h.2⟩
theorem ptn_heedA : ∀ (g : Nat) (ps : List Pt), PtsN ps → PtsN (heedA g ps)
 | g, [], _ => by unfold heedA PtsN; trivial
 | g, p :: ps, h => by
  unfold PtsN at h
  unfold heedA PtsN
  exact ⟨ptn_heed g p h.1, ptn_heedA g ps h.2⟩
end
mutual
theorem er_heed : ∀ (g : Nat) (p : Pt), er (heed g p) = heed g (er p)
 | g, .mk k low high n s P kn so rd st hd kids => by
  rw [heed, er, er, heed]
  by_cases k2 : k = 2
  ·
   rw [if_pos k2, if_pos k2, (er_heedR g kids).1]
  rw [if_neg k2, if_neg k2]
  by_cases k3 : k = 3
  ·
   rw [if_pos k3, if_pos k3, er_heedA g kids]
  rw [if_neg k3, if_neg k3]
  by_cases k5 : k = 5
  ·
   rw [if_pos k5, if_pos k5, er_heedA _ kids]
  rw [if_neg k5, if_neg k5]
  by_cases k4 : k = 4
  ·
   rw [if_pos k4, if_pos k4, er_heedA _ kids]
  rw [if_neg k4, if_neg k4]
theorem er_heedR : ∀ (g : Nat) (ps : List Pt), ers (heedR g ps).1 = (heedR g (ers ps)).1 ∧ (heedR g ps).2 = (heedR g (ers ps)).2
 | g, [] => ⟨rfl, rfl⟩
 | g, p :: ps => by
  obtain ⟨i1, i2⟩ := er_heedR g ps
  have e1 : heedR g (p :: ps) = (heed (heedR g ps).2 p :: (heedR g ps).1, heedG (heedR g ps).2 p) := by rw [heedR]
  have e2 : heedR g (er p :: ers ps) = (heed (heedR g (ers ps)).2 (er p) :: (heedR g (ers ps)).1, heedG (heedR g (ers ps)).2 (er p)) := by rw [heedR]
  have e3 : ers (p :: ps) = er p :: ers ps := by rw [ers]
  have e4 : ers (heed (heedR g ps).2 p :: (heedR g ps).1) = er (heed (heedR g ps).2 p) :: ers (heedR g ps).1 := by rw [ers]
  rw [e3, e1, e2]
  simp only
  rw [e4, er_heed _ p, i1, i2]
  refine ⟨rfl, ?_⟩
  unfold heedG
  rw [(er_rd p).1, (er_rd p).2]
theorem er_heedA : ∀ (g : Nat) (ps : List Pt), ers (heedA g ps) = heedA g (ers ps)
 | g, [] => rfl
 | g, p :: ps => by
  rw [heedA, ers, ers, heedA, er_heed g p, er_heedA g ps]
end
mutual
theorem maps_subl : ∀ (p : Pt), (mapsOf p).Sublist (blks p)
 | .mk k low high n s P kn so rd st hd kids => by
  unfold mapsOf blks
  exact List.Sublist.cons _ ((List.Sublist.refl _).append (mapss_subl kids))
theorem mapss_subl : ∀ (ps : List Pt), (mapss ps).Sublist (blkss ps)
 | [] => List.Sublist.refl _
 | p :: ps => by
  unfold mapss blkss
  exact (maps_subl p).append (mapss_subl ps)
end
mutual
def memos (L : List UInt8) (bol : Bool) : Pt → List (Nat × Memo)
 | .mk k low high n s P kn so rd st hd kids => kn.toList.map (fun b => (b, Memo.kn (ways L bol (.mk k low high n s P kn so rd st hd kids)))) ++ so.toList.map (fun c => (c, Memo.so (ways L bol (.mk k low high n s P kn so rd st hd kids)) hd)) ++ memoss L bol kids
def memoss (L : List UInt8) (bol : Bool) : List Pt → List (Nat × Memo)
 | [] => []
 | p :: ps => memos L bol p ++ memoss L bol ps
end
mutual
theorem memos_keys (L : List UInt8) (bol : Bool) : ∀ (p : Pt), (memos L bol p).map Prod.fst = mapsOf p
 | .mk k low high n s P kn so rd st hd kids => by
  unfold memos mapsOf
  rw [List.map_append, List.map_append, List.map_map, List.map_map, memoss_keys L bol kids]
  congr 1
  congr 1
  ·
   exact List.map_id _
  ·
   exact List.map_id _
theorem memoss_keys (L : List UInt8) (bol : Bool) : ∀ (ps : List Pt), (memoss L bol ps).map Prod.fst = mapss ps
 | [] => by unfold memoss; rfl
 | p :: ps => by
  unfold memoss mapss
  rw [List.map_append, memos_keys L bol p, memoss_keys L bol ps]
end
def findM : List (Nat × Memo) → Nat → Option Memo
 | [], _ => none
 | (c, m) :: l, b => if c = b then some m else findM l b
theorem findM_mem : ∀ {l : List (Nat × Memo)} {b : Nat} {m : Memo}, findM l b = some m → (b, m) ∈ l
 | (c, m') :: l, b, m, h => by
  unfold findM at h
  split at h
  ·
   rename_i e
   injection h with h
   rw [e, h]
   exact List.mem_cons_self ..
  ·
   exact List.mem_cons_of_mem _ (findM_mem h)
theorem findM_of : ∀ {l : List (Nat × Memo)} {b : Nat} {m : Memo}, (l.map Prod.fst).Nodup → (b, m) ∈ l → findM l b = some m
 | (c, m') :: l, b, m, hn, h => by
  rw [List.map_cons] at hn
  have hn := List.nodup_cons.1 hn
  unfold findM
  rcases List.mem_cons.1 h with e | e
  ·
   injection e with e1 e2
   rw [if_pos e1.symm, e2]
  ·
   rw [if_neg (fun e2 => hn.1 (by show c ∈ _; rw [e2]; exact List.mem_map.2 ⟨(b, m), e, rfl⟩))]
   exact findM_of hn.2 e
mutual
theorem ptw_of {M : Nat → Option Memo} {L : List UInt8} {bol : Bool} : ∀ (p : Pt), (∀ e ∈ memos L bol p, M e.1 = some e.2) → PtN p → PtF p → PtW M L bol p
 | .mk k low high n s P kn so rd st hd kids, hm, hn, hf => by
  unfold PtN at hn
  unfold PtF at hf
  unfold memos at hm
  unfold PtW
  refine ⟨hf.1, hf.2.1, fun hl => ?_, fun e => ⟨hf.2.2.1 e, fun e2 => by have := hf.2.2.2.2.1 (Or.inl e); rw [e2] at this; cases this⟩, fun e => ⟨hf.2.2.2.1 e, fun e2 => by have := hf.2.2.2.2.1 (Or.inr e); rw [e2] at this; cases this⟩, by have := hf.2.2.2.2.2.1; omega, ptsw_of kids (fun e he => hm e (List.mem_append_right _ he)) hn.2 hf.2.2.2.2.2.2⟩
  obtain ⟨⟨b, rfl⟩, c, rfl⟩ := hn.1 hl
  exact ⟨⟨b, rfl, hm (b, _) (List.mem_append_left _ (List.mem_append_left _ (List.mem_cons_self ..)))⟩, c, rfl, hm (c, _) (List.mem_append_left _ (List.mem_append_right _ (List.mem_cons_self ..)))⟩
theorem ptsw_of {M : Nat → Option Memo} {L : List UInt8} {bol : Bool} : ∀ (ps : List Pt), (∀ e ∈ memoss L bol ps, M e.1 = some e.2) → PtsN ps → PtsF ps → PtsW M L bol ps
 | [], _, _, _ => by unfold PtsW; trivial
 | p :: ps, hm, hn, hf => by
  unfold PtsN at hn
  unfold PtsF at hf
  unfold memoss at hm
  unfold PtsW
  exact ⟨ptw_of p (fun e he => hm e (List.mem_append_left _ he)) hn.1 hf.1, ptsw_of ps (fun e he => hm e (List.mem_append_right _ he)) hn.2 hf.2⟩
end
mutual
theorem ptat_ok {w : World} {ok : Nat → Prop} (hok : ∀ b, (NumB w b ∨ ∃ q, w.cell? ⟨b, 0, none⟩ = some (ptv q)) → ok b) : ∀ (p : Pt), PtAt w TT p → PtAt w ok p
 | .mk k low high n s P kn so rd st hd kids, h => by
  unfold PtAt at h ⊢
  obtain ⟨_, ⟨ad, c, h2, h3, h4⟩, h5⟩ := h
  refine ⟨hok P (Or.inl ⟨_, _, bl_cell h2 0 _ rfl⟩), ⟨ad, c, h2, h3, fun hl => ?_⟩, ptsat_ok hok kids h5⟩
  obtain ⟨b, e, _, hlt, hc⟩ := h4 hl
  obtain ⟨q, hq⟩ : ∃ q, kids[0]? = some q := ⟨_, List.getElem?_eq_getElem hl⟩
  exact ⟨b, e, hok b (Or.inr ⟨_, hc 0 q hq⟩), hlt, hc⟩
theorem ptsat_ok {w : World} {ok : Nat → Prop} (hok : ∀ b, (NumB w b ∨ ∃ q, w.cell? ⟨b, 0, none⟩ = some (ptv q)) → ok b) : ∀ (ps : List Pt), PtsAt w TT ps → PtsAt w ok ps
 | [], _ => by unfold PtsAt; trivial
 | p :: ps, h => by
  unfold PtsAt at h ⊢
  exact ⟨ptat_ok hok p h.1, ptsat_ok hok ps h.2⟩
end
theorem map_cell {w : World} {b : Nat} (h : w.heap[b]? = some (.map #[] 0)) : w.cell? ⟨b, 0, none⟩ = none := by
 simp [World.cell?, h]
structure ReadyP (L : List UInt8) (bol : Bool) (p : Pt) (M : Nat → Option Memo) (w : World) : Prop where
 at_ : PtAt w (okB M (fun _ => False)) p
 mem : MemOk M (fun _ => False) w
 w_ : PtW M L bol p
theorem ReadyP.of {L : List UInt8} {bol : Bool} {p : Pt} {w : World} (hp : PtAt w TT p) (hn : (blks p).Nodup) (hm : ∀ b ∈ mapsOf p, w.heap[b]? = some (.map #[] 0)) (hN : PtN p) (hF : PtF p) : ReadyP L bol p (findM (memos L bol p)) w := by
 have hk := memos_keys L bol p
 have hnd : ((memos L bol p).map Prod.fst).Nodup := by rw [hk]; exact hn.sublist (maps_subl p)
 have hb : ∀ b m, findM (memos L bol p) b = some m → w.heap[b]? = some (.map #[] 0) := fun b m h => hm b (by rw [← hk]; exact List.mem_map.2 ⟨_, findM_mem h, rfl⟩)
 refine ⟨ptat_ok (fun b hcc => ⟨id, ?h1⟩) p hp, ⟨fun b m h => ?h2, fun b h => h.elim⟩, ptw_of p (fun e he => findM_of hnd he) hN hF⟩
 case h1 =>
  cases hq : findM (memos L bol p) b with
  | none => rfl
  | some m =>
   have hz := map_cell (hb b m hq)
   rcases hcc with ⟨K, n, e⟩ | ⟨q, e⟩ <;> (rw [hz] at e; cases e)
 case h2 =>
  have h1 := hb b m h
  have emp : ∀ G : Sp → Value → Prop, MapAt w b G := fun G => ⟨#[], 0, h1, stamped_empty 0, fun e he => by simp at he⟩
  cases m with
  | kn W => exact emp _
  | so W hd => exact emp _
mutual
theorem ways_er (L : List UInt8) (bol : Bool) : ∀ (p : Pt), ways L bol (er p) = ways L bol p
 | .mk k low high n s P kn so rd st hd kids => by
  funext x
  unfold er ways
  rw [catW_er L bol kids, altW_er L bol kids hd, fstW_er L bol kids]
  have h1 : fstK (ers kids) = fstK kids := by
   cases kids with
   | nil => rfl
   | cons p ps => cases p; unfold ers er; rfl
  have h2 : fstR (ers kids) = fstR kids := by
   cases kids with
   | nil => rfl
   | cons p ps => cases p; unfold ers er; rfl
  have h3 : fstH (ers kids) = fstH kids := by
   cases kids with
   | nil => rfl
   | cons p ps => cases p; unfold ers er; rfl
  rw [h1, h2, h3]
theorem fstW_er (L : List UInt8) (bol : Bool) : ∀ (ps : List Pt), fstW L bol (ers ps) = fstW L bol ps
 | [] => rfl
 | p :: ps => by
  funext x
  rw [ers, fstW, fstW, ways_er L bol p]
theorem catW_er (L : List UInt8) (bol : Bool) : ∀ (ps : List Pt), catW L bol (ers ps) = catW L bol ps
 | [] => rfl
 | p :: ps => by
  funext l
  rw [ers, catW, catW, catW_er L bol ps, ways_er L bol p]
  have h : (er p).rd = p.rd ∧ (er p).hd = p.hd := by cases p; unfold er; exact ⟨rfl, rfl⟩
  rw [h.1, h.2]
theorem altW_er (L : List UInt8) (bol : Bool) : ∀ (ps : List Pt), ∀ h, altW L bol h (ers ps) = altW L bol h ps
 | [], _ => rfl
 | p :: ps, h => by
  funext x acc
  have h1 : (er p).rd = p.rd := by cases p; unfold er; rfl
  rw [ers, altW, altW, ways_er L bol p, h1, altW_er L bol ps h]
end
end Go.Proofs.YtnajcnhgeggngaaGreat.Way

/-! ### Lean2 -/

namespace Go.Proofs.YtnajcnhgeggngaaGreat
open Go.RowKit

theorem fit_nil (k mn mx n : Int) (s : W4) : RxFit (.mk k mn mx n s []) := by
 unfold RxFit
 exact ⟨by simp, fun a ha => by simp at ha⟩
theorem same_bare (k mn mx n mn' mx' n' : Int) (s s' : W4) (q : Bool) (hq : (mn == mn' && mx == mx' && n == n' && s == s') = q) (w : World) : Calls Tryz.prog 100 #[rxv k mn mx n s (.slice none 0 0), rxv k mn' mx' n' s' (.slice none 0 0)] w fun e w' => e = .returned (.bool q) ∧ Kp w w' := by
 have := same_any (.mk k mn mx n s []) (.mk k mn' mx' n' s' []) _ _ w (fun _ => True) (fun _ => True) (fit_nil _ _ _ _ _) (Is.leaf _ _ _ _ _ _ _) (Is.leaf _ _ _ _ _ _ _)
 rw [sameR, sameL] at this
 rw [show (k == k && mn == mn' && mx == mx' && n == n' && s == s' && true) = q by rw [← hq]; simp] at this
 exact this

theorem lean_any (k mn mx m : Int) (t : W4) (kids : List Rx) (ad : Option Addr) (l c : Nat) (w : World) (hl : l = kids.length) :
  Calls Tryz.prog 71 #[rxv k mn mx m t (.slice ad l c)] w fun e w' => e = .returned (.bool (leanB (.mk k mn mx m t kids))) ∧ Kp w w' := by
 have E0 : Hid (leanB (.mk k mn mx m t kids) = ((if k = 4 then true else mn == 0 && mx == 0) && (if k = 5 ∨ k = 6 then true else m == 0) && (if k = 1 then true else t == W4.z) && kidsFit k l)) := by show _ = _; rw [hl]; rfl
 clear hl
 obtain ⟨kf, hkf⟩ : ∃ kf, kidsFit k l = kf := ⟨_, rfl⟩
 have KF : Hid (∀ w, Calls Tryz.prog 101 #[.int .i64 k, .int .i64 (l : Int)] w fun e w' => e = .returned (.bool kf) ∧ w' = w) := fun w => by have := kidsFit_any k l w; rw [hkf] at this; exact this
 rw [hkf] at E0
 clear hkf
 go_enter Tryz.func71, Tryz.ntmps71
 go_upto_region 1 with fail
 refine opq (fun V0 => V0.heap[w.heap.size]? = some (rxo k mn mx m t (.slice ad l c)) ∧ Kp w V0) ⟨by (first | exact last_at _ _ _ (by simp) | (refine bl_alloc ?_ _; first | exact last_at _ _ _ (by simp) | (refine bl_alloc ?_ _; first | exact last_at _ _ _ (by simp) | (refine bl_alloc ?_ _; exact last_at _ _ _ (by simp))))), by exact kpt⟩ ?_
 rintro V0 ⟨xA, xK⟩
 have A := hid xA
 have K := hid xK
 clear xA xK
 obtain ⟨a0, a1, a2, a3, a4, a5, a6, a7, a8⟩ := cells9 (A.out)
 go_upto_region 2 with fail
 clear a0 a1 a2 a3 a4 a5 a6 a7 a8
 refine opq (fun W0 => W0.heap[w.heap.size]? = some (rxo k mn mx m t (.slice ad l c)) ∧ W0.heap[V0.heap.size]? = some (rxo k 0 0 0 W4.z (.slice none 0 0)) ∧ Kp w W0) ⟨by exact bl_kp A.out kpt, by exact last_at _ _ _ (by simp), by exact K.out.trans kpt⟩ ?_
 rintro W0 ⟨xA0, xB0, xK0⟩
 have A0 := hid xA0
 have B0 := hid xB0
 have K0 := hid xK0
 clear xA0 xB0 xK0
 have hsV : w.heap.size < V0.heap.size := bl_lt A.out
 clear A K
 by_cases k1 : k = 1
 ·
  subst k1
  obtain ⟨sm, hsm⟩ : ∃ sm, (mn == 0 && mx == 0 && m == 0 && t == t) = sm := ⟨_, rfl⟩
  have SB := hid (same_bare 1 mn mx m 0 0 0 t t sm hsm)
  have E : Hid (leanB (.mk 1 mn mx m t kids) = (sm && kf)) := by show _ = _; rw [E0.out, ← hsm]; (first | (simp; done) | (simp; cases mn == 0 <;> cases mx == 0 <;> cases m == 0 <;> rfl))
  clear hsm
  obtain ⟨a0, a1, a2, a3, a4, a5, a6, a7, a8⟩ := cells9 (A0.out)
  obtain ⟨b0, fb0, b1, fb1, b2, fb2, b3, fb3, b4, fb4, b5, fb5, b6, fb6, b7, fb7, b8, fb8⟩ := cellf9 (B0.out)
  go_upto_region 10 with fail
  clear a0 a1 a2 a3 a4 a5 a6 a7 a8 b0 fb0 b1 fb1 b2 fb2 b3 fb3 b4 fb4 b5 fb5 b6 fb6 b7 fb7 b8 fb8
  refine opq (fun W1 => W1.heap[w.heap.size]? = some (rxo 1 mn mx m t (.slice ad l c)) ∧ W1.heap[V0.heap.size]? = some (rxo 1 0 0 0 t (.slice none 0 0)) ∧ Kp w W1) ⟨by exact bl_set (bl_set (bl_set (bl_set A0.out (by omega) _) (by omega) _) (by omega) _) (by omega) _, by exact bl_put (bl_put (bl_put (bl_put B0.out _) _) _) _, by exact (((K0.out.setCell (Nat.le_of_lt hsV) _).setCell (Nat.le_of_lt hsV) _).setCell (Nat.le_of_lt hsV) _).setCell (Nat.le_of_lt hsV) _⟩ ?_
  rintro W1 ⟨xA1, xB1, xK1⟩
  have A1 := hid xA1
  have B1 := hid xB1
  have K1 := hid xK1
  clear xA1 xB1 xK1
  clear A0 B0 K0
  have A0 := A1
  have K0 := K1
  clear A1 K1
  obtain ⟨a0, fa0, a1, fa1, a2, fa2, a3, fa3, a4, fa4, a5, fa5, a6, fa6, a7, fa7, a8, fa8⟩ := cellf9 (A0.out)
  go_upto_region 12 with fail
  clear a0 fa0 a1 fa1 a2 fa2 a3 fa3 a4 fa4 a5 fa5 a6 fa6 a7 fa7 a8 fa8
  refine opq (fun W2 => W2.heap[w.heap.size]? = some (rxo 1 mn mx m t (.slice none 0 0)) ∧ W2.heap[V0.heap.size]? = some (rxo 1 0 0 0 t (.slice none 0 0)) ∧ Kp w W2) ⟨by exact bl_put A0.out _, by exact bl_set B1.out (by omega) _, by exact K0.out.setCell (Nat.le_refl _) _⟩ ?_
  rintro W2 ⟨xA2, xB2, xK2⟩
  have A2 := hid xA2
  have B2 := hid xB2
  have K2 := hid xK2
  clear xA2 xB2 xK2
  obtain ⟨a0, a1, a2, a3, a4, a5, a6, a7, a8⟩ := cells9 (A2.out)
  obtain ⟨b0, b1, b2, b3, b4, b5, b6, b7, b8⟩ := cells9 (B2.out)
  go_wp2_with fail
  refine (SB.out _).mono ?_
  rintro e W3 ⟨rfl, k3⟩
  have A3 := hid (bl_kp A2.out k3)
  have K3 := hid (K2.out.trans k3)
  clear k3 a0 a1 a2 a3 a4 a5 a6 a7 a8 b0 b1 b2 b3 b4 b5 b6 b7 b8
  have x0 := bl_cell A3.out 0 _ rfl
  cases sm with
  | false =>
   go_wp2_with fail
   go_ret
   exact ⟨ret_bool (by rw [E.out]; rfl), K3.out⟩
  | true =>
   go_wp2_with fail
   refine (KF.out _).mono ?_
   rintro e W3 ⟨rfl, rfl⟩
   go_wp2_with fail
   go_ret
   exact ⟨ret_bool (by rw [E.out]; rfl), K3.out⟩
 by_cases k4 : k = 4
 ·
  subst k4
  obtain ⟨sm, hsm⟩ : ∃ sm, (mn == mn && mx == mx && m == 0 && t == W4.z) = sm := ⟨_, rfl⟩
  have SB := hid (same_bare 4 mn mx m mn mx 0 t W4.z sm hsm)
  have E : Hid (leanB (.mk 4 mn mx m t kids) = (sm && kf)) := by show _ = _; rw [E0.out, ← hsm]; simp
  clear hsm
  obtain ⟨a0, a1, a2, a3, a4, a5, a6, a7, a8⟩ := cells9 (A0.out)
  go_upto_region 6 with fail
  clear a0 a1 a2 a3 a4 a5 a6 a7 a8
  have BB := hid B0.out
  have Q0 : Ks V0.heap.size W0 W0.drew := (Ks.refl _ _).drew
  have MK : Hid (∀ W, Ks V0.heap.size W0 W → W.cell? ⟨w.heap.size, 1, none⟩ = some (.int .i64 mn) ∧ W.cell? ⟨w.heap.size, 2, none⟩ = some (.int .i64 mx) ∧ Hid (Ks V0.heap.size W0 W)) := fun W k => ⟨bl_cell (bl_ks A0.out (by omega) k) 1 _ rfl, bl_cell (bl_ks A0.out (by omega) k) 2 _ rfl, k⟩
  refine wp_region_noPanic ?_
  refine hdrew MK Q0 (fun hH => ?_)
  have KQ := Q0
  refine tk 0 (some 17) (Op.fieldAddr 27 (Operand.tmp 1) 1) 0 (v := ?v0a1) rfl ?h0a1 hH ?_
  case h0a1 => intro _ _; go_simp; try with_reducible rfl
  try simp only [ps]
  refine tk 1 (some 18) (Op.load 3 (Operand.tmp 17)) 3 (v := ?v1a2) rfl ?h1a2 hH ?_
  case h1a2 => intro _ _; go_simp; try with_reducible rfl
  try simp only [ps]
  refine tk 2 (some 19) (Op.fieldAddr 27 (Operand.tmp 1) 2) 0 (v := ?v2a3) rfl ?h2a3 hH ?_
  case h2a3 => intro _ _; go_simp; try with_reducible rfl
  try simp only [ps]
  refine tk 3 (some 20) (Op.load 3 (Operand.tmp 19)) 3 (v := ?v3a4) rfl ?h3a4 hH ?_
  case h3a4 => intro _ _; go_simp; try with_reducible rfl
  try simp only [ps]
  refine tk 4 (some 21) (Op.fieldAddr 27 (Operand.tmp 3) 1) 0 (v := ?v4a5) rfl ?h4a5 hH ?_
  case h4a5 => intro _ _; go_simp; try with_reducible rfl
  try simp only [ps]
  refine wpAnyH_ready (rs := [5]) (by kernel_rfl) (by simp) ?_
  refine AllReadyH.cons (o := { dst := none, op := Op.store 3 (Operand.tmp 21) (Operand.tmp 18), type := 0, pos := "right.go:61", after := #[{ on := 4, ground := Ground.data }, { on := 1, ground := Ground.data }, { on := 0, ground := Ground.phase }, { on := 1, ground := Ground.phase }, { on := 2, ground := Ground.textOnly Departure.lateStores }, { on := 3, ground := Ground.textOnly Departure.lateStores }], guard := none }) rfl (fun K hKq => ?_) AllReadyH.nil
  have c1 := bl_cell BB.out 1 _ rfl
  have f1 := bl_frozen BB.out 1
  go_simp
  refine hKq.out _ _ (MK.out _ (KQ.set 1 _)) (fun hN => ?_)
  have BN := hid (bl_put (j := 1) BB.out (.int .i64 mn))
  clear BB c1 f1
  have BB := BN
  clear BN
  clear hKq K hH KQ
  have hH := hN
  clear hN
  have KQ := hH.2.2.out
  try simp only [ps]
  refine tk 6 (some 22) (Op.fieldAddr 27 (Operand.tmp 3) 2) 0 (v := ?v6a6) rfl ?h6a6 hH ?_
  case h6a6 => intro _ _; go_simp; try with_reducible rfl
  try simp only [ps]
  refine wpAnyH_ready (rs := [7]) (by kernel_rfl) (by simp) ?_
  refine AllReadyH.cons (o := { dst := none, op := Op.store 3 (Operand.tmp 22) (Operand.tmp 20), type := 0, pos := "right.go:61", after := #[{ on := 6, ground := Ground.data }, { on := 3, ground := Ground.data }, { on := 5, ground := Ground.chain }, { on := 0, ground := Ground.phase }, { on := 1, ground := Ground.phase }, { on := 2, ground := Ground.phase }, { on := 3, ground := Ground.phase }, { on := 4, ground := Ground.phase }, { on := 5, ground := Ground.phase }], guard := none }) rfl (fun K hKq => ?_) AllReadyH.nil
  have c2 := bl_cell BB.out 2 _ rfl
  have f2 := bl_frozen BB.out 2
  go_simp
  refine hKq.out _ _ (MK.out _ (KQ.set 2 _)) (fun hN => ?_)
  have BN := hid (bl_put (j := 2) BB.out (.int .i64 mx))
  clear BB c2 f2
  have BB := BN
  clear BN
  clear hKq K hH KQ
  have hH := hN
  clear hN
  have KQ := hH.2.2.out
  try simp only [ps]
  refine wpAnyH_done (by kernel_rfl) ?_ _
  refine NoPanic.normal ?_
  go_upto_region 10 with fail
  refine opq (fun W1 => W1.heap[w.heap.size]? = some (rxo 4 mn mx m t (.slice ad l c)) ∧ W1.heap[V0.heap.size]? = some (rxo 4 mn mx 0 W4.z (.slice none 0 0)) ∧ Kp w W1) ⟨by exact bl_ks A0.out (by omega) KQ, by exact bl_drew BB.out, by exact KQ.up K0.out (Nat.le_of_lt hsV)⟩ ?_
  rintro W1 ⟨xA1, xB1, xK1⟩
  have A1 := hid xA1
  have B1 := hid xB1
  have K1 := hid xK1
  clear xA1 xB1 xK1
  clear A0 B0 K0 BB hH KQ Q0 MK
  have A0 := A1
  have K0 := K1
  clear A1 K1
  obtain ⟨a0, fa0, a1, fa1, a2, fa2, a3, fa3, a4, fa4, a5, fa5, a6, fa6, a7, fa7, a8, fa8⟩ := cellf9 (A0.out)
  go_upto_region 12 with fail
  clear a0 fa0 a1 fa1 a2 fa2 a3 fa3 a4 fa4 a5 fa5 a6 fa6 a7 fa7 a8 fa8
  refine opq (fun W2 => W2.heap[w.heap.size]? = some (rxo 4 mn mx m t (.slice none 0 0)) ∧ W2.heap[V0.heap.size]? = some (rxo 4 mn mx 0 W4.z (.slice none 0 0)) ∧ Kp w W2) ⟨by exact bl_put A0.out _, by exact bl_set B1.out (by omega) _, by exact K0.out.setCell (Nat.le_refl _) _⟩ ?_
  rintro W2 ⟨xA2, xB2, xK2⟩
  have A2 := hid xA2
  have B2 := hid xB2
  have K2 := hid xK2
  clear xA2 xB2 xK2
  obtain ⟨a0, a1, a2, a3, a4, a5, a6, a7, a8⟩ := cells9 (A2.out)
  obtain ⟨b0, b1, b2, b3, b4, b5, b6, b7, b8⟩ := cells9 (B2.out)
  go_wp2_with fail
  refine (SB.out _).mono ?_
  rintro e W3 ⟨rfl, k3⟩
  have A3 := hid (bl_kp A2.out k3)
  have K3 := hid (K2.out.trans k3)
  clear k3 a0 a1 a2 a3 a4 a5 a6 a7 a8 b0 b1 b2 b3 b4 b5 b6 b7 b8
  have x0 := bl_cell A3.out 0 _ rfl
  cases sm with
  | false =>
   go_wp2_with fail
   go_ret
   exact ⟨ret_bool (by rw [E.out]; rfl), K3.out⟩
  | true =>
   go_wp2_with fail
   refine (KF.out _).mono ?_
   rintro e W3 ⟨rfl, rfl⟩
   go_wp2_with fail
   go_ret
   exact ⟨ret_bool (by rw [E.out]; rfl), K3.out⟩
 by_cases k5 : k = 5
 ·
  subst k5
  obtain ⟨sm, hsm⟩ : ∃ sm, (mn == 0 && mx == 0 && m == m && t == W4.z) = sm := ⟨_, rfl⟩
  have SB := hid (same_bare 5 mn mx m 0 0 m t W4.z sm hsm)
  have E : Hid (leanB (.mk 5 mn mx m t kids) = (sm && kf)) := by show _ = _; rw [E0.out, ← hsm]; (first | (simp; done) | (simp; cases mn == 0 <;> cases mx == 0 <;> cases t == W4.z <;> rfl))
  clear hsm
  obtain ⟨a0, a1, a2, a3, a4, a5, a6, a7, a8⟩ := cells9 (A0.out)
  obtain ⟨b0, fb0, b1, fb1, b2, fb2, b3, fb3, b4, fb4, b5, fb5, b6, fb6, b7, fb7, b8, fb8⟩ := cellf9 (B0.out)
  go_upto_region 10 with fail
  clear a0 a1 a2 a3 a4 a5 a6 a7 a8 b0 fb0 b1 fb1 b2 fb2 b3 fb3 b4 fb4 b5 fb5 b6 fb6 b7 fb7 b8 fb8
  refine opq (fun W1 => W1.heap[w.heap.size]? = some (rxo 5 mn mx m t (.slice ad l c)) ∧ W1.heap[V0.heap.size]? = some (rxo 5 0 0 m W4.z (.slice none 0 0)) ∧ Kp w W1) ⟨by exact bl_set A0.out (by omega) _, by exact bl_put B0.out _, by exact K0.out.setCell (Nat.le_of_lt hsV) _⟩ ?_
  rintro W1 ⟨xA1, xB1, xK1⟩
  have A1 := hid xA1
  have B1 := hid xB1
  have K1 := hid xK1
  clear xA1 xB1 xK1
  clear A0 B0 K0
  have A0 := A1
  have K0 := K1
  clear A1 K1
  obtain ⟨a0, fa0, a1, fa1, a2, fa2, a3, fa3, a4, fa4, a5, fa5, a6, fa6, a7, fa7, a8, fa8⟩ := cellf9 (A0.out)
  go_upto_region 12 with fail
  clear a0 fa0 a1 fa1 a2 fa2 a3 fa3 a4 fa4 a5 fa5 a6 fa6 a7 fa7 a8 fa8
  refine opq (fun W2 => W2.heap[w.heap.size]? = some (rxo 5 mn mx m t (.slice none 0 0)) ∧ W2.heap[V0.heap.size]? = some (rxo 5 0 0 m W4.z (.slice none 0 0)) ∧ Kp w W2) ⟨by exact bl_put A0.out _, by exact bl_set B1.out (by omega) _, by exact K0.out.setCell (Nat.le_refl _) _⟩ ?_
  rintro W2 ⟨xA2, xB2, xK2⟩
  have A2 := hid xA2
  have B2 := hid xB2
  have K2 := hid xK2
  clear xA2 xB2 xK2
  obtain ⟨a0, a1, a2, a3, a4, a5, a6, a7, a8⟩ := cells9 (A2.out)
  obtain ⟨b0, b1, b2, b3, b4, b5, b6, b7, b8⟩ := cells9 (B2.out)
  go_wp2_with fail
  refine (SB.out _).mono ?_
  rintro e W3 ⟨rfl, k3⟩
  have A3 := hid (bl_kp A2.out k3)
  have K3 := hid (K2.out.trans k3)
  clear k3 a0 a1 a2 a3 a4 a5 a6 a7 a8 b0 b1 b2 b3 b4 b5 b6 b7 b8
  have x0 := bl_cell A3.out 0 _ rfl
  cases sm with
  | false =>
   go_wp2_with fail
   go_ret
   exact ⟨ret_bool (by rw [E.out]; rfl), K3.out⟩
  | true =>
   go_wp2_with fail
   refine (KF.out _).mono ?_
   rintro e W3 ⟨rfl, rfl⟩
   go_wp2_with fail
   go_ret
   exact ⟨ret_bool (by rw [E.out]; rfl), K3.out⟩
 by_cases k6 : k = 6
 ·
  subst k6
  obtain ⟨sm, hsm⟩ : ∃ sm, (mn == 0 && mx == 0 && m == m && t == W4.z) = sm := ⟨_, rfl⟩
  have SB := hid (same_bare 6 mn mx m 0 0 m t W4.z sm hsm)
  have E : Hid (leanB (.mk 6 mn mx m t kids) = (sm && kf)) := by show _ = _; rw [E0.out, ← hsm]; (first | (simp; done) | (simp; cases mn == 0 <;> cases mx == 0 <;> cases t == W4.z <;> rfl))
  clear hsm
  obtain ⟨a0, a1, a2, a3, a4, a5, a6, a7, a8⟩ := cells9 (A0.out)
  obtain ⟨b0, fb0, b1, fb1, b2, fb2, b3, fb3, b4, fb4, b5, fb5, b6, fb6, b7, fb7, b8, fb8⟩ := cellf9 (B0.out)
  go_upto_region 10 with fail
  clear a0 a1 a2 a3 a4 a5 a6 a7 a8 b0 fb0 b1 fb1 b2 fb2 b3 fb3 b4 fb4 b5 fb5 b6 fb6 b7 fb7 b8 fb8
  refine opq (fun W1 => W1.heap[w.heap.size]? = some (rxo 6 mn mx m t (.slice ad l c)) ∧ W1.heap[V0.heap.size]? = some (rxo 6 0 0 m W4.z (.slice none 0 0)) ∧ Kp w W1) ⟨by exact bl_set A0.out (by omega) _, by exact bl_put B0.out _, by exact K0.out.setCell (Nat.le_of_lt hsV) _⟩ ?_
  rintro W1 ⟨xA1, xB1, xK1⟩
  have A1 := hid xA1
  have B1 := hid xB1
  have K1 := hid xK1
  clear xA1 xB1 xK1
  clear A0 B0 K0
  have A0 := A1
  have K0 := K1
  clear A1 K1
  obtain ⟨a0, fa0, a1, fa1, a2, fa2, a3, fa3, a4, fa4, a5, fa5, a6, fa6, a7, fa7, a8, fa8⟩ := cellf9 (A0.out)
  go_upto_region 12 with fail
  clear a0 fa0 a1 fa1 a2 fa2 a3 fa3 a4 fa4 a5 fa5 a6 fa6 a7 fa7 a8 fa8
  refine opq (fun W2 => W2.heap[w.heap.size]? = some (rxo 6 mn mx m t (.slice none 0 0)) ∧ W2.heap[V0.heap.size]? = some (rxo 6 0 0 m W4.z (.slice none 0 0)) ∧ Kp w W2) ⟨by exact bl_put A0.out _, by exact bl_set B1.out (by omega) _, by exact K0.out.setCell (Nat.le_refl _) _⟩ ?_
  rintro W2 ⟨xA2, xB2, xK2⟩
  have A2 := hid xA2
  have B2 := hid xB2
  have K2 := hid xK2
  clear xA2 xB2 xK2
  obtain ⟨a0, a1, a2, a3, a4, a5, a6, a7, a8⟩ := cells9 (A2.out)
  obtain ⟨b0, b1, b2, b3, b4, b5, b6, b7, b8⟩ := cells9 (B2.out)
  go_wp2_with fail
  refine (SB.out _).mono ?_
  rintro e W3 ⟨rfl, k3⟩
  have A3 := hid (bl_kp A2.out k3)
  have K3 := hid (K2.out.trans k3)
  clear k3 a0 a1 a2 a3 a4 a5 a6 a7 a8 b0 b1 b2 b3 b4 b5 b6 b7 b8
  have x0 := bl_cell A3.out 0 _ rfl
  cases sm with
  | false =>
   go_wp2_with fail
   go_ret
   exact ⟨ret_bool (by rw [E.out]; rfl), K3.out⟩
  | true =>
   go_wp2_with fail
   refine (KF.out _).mono ?_
   rintro e W3 ⟨rfl, rfl⟩
   go_wp2_with fail
   go_ret
   exact ⟨ret_bool (by rw [E.out]; rfl), K3.out⟩
 have g1 : (k == 1) = false := by simp [k1]
 have g4 : (k == 4) = false := by simp [k4]
 have g5 : (k == 5) = false := by simp [k5]
 have g6 : (k == 6) = false := by simp [k6]
 obtain ⟨sm, hsm⟩ : ∃ sm, (mn == 0 && mx == 0 && m == 0 && t == W4.z) = sm := ⟨_, rfl⟩
 have SB := hid (same_bare k mn mx m 0 0 0 t W4.z sm hsm)
 have E : Hid (leanB (.mk k mn mx m t kids) = (sm && kf)) := by show _ = _; rw [E0.out, ← hsm]; rw [if_neg k4, if_neg (by omega), if_neg k1]; first | done | (cases mn == 0 <;> cases mx == 0 <;> cases m == 0 <;> cases t == W4.z <;> rfl)
 clear hsm
 obtain ⟨a0, fa0, a1, fa1, a2, fa2, a3, fa3, a4, fa4, a5, fa5, a6, fa6, a7, fa7, a8, fa8⟩ := cellf9 (A0.out)
 go_upto_region 12 with fail
 clear a0 fa0 a1 fa1 a2 fa2 a3 fa3 a4 fa4 a5 fa5 a6 fa6 a7 fa7 a8 fa8
 refine opq (fun W2 => W2.heap[w.heap.size]? = some (rxo k mn mx m t (.slice none 0 0)) ∧ W2.heap[V0.heap.size]? = some (rxo k 0 0 0 W4.z (.slice none 0 0)) ∧ Kp w W2) ⟨by exact bl_put A0.out _, by exact bl_set B0.out (by omega) _, by exact K0.out.setCell (Nat.le_refl _) _⟩ ?_
 rintro W2 ⟨xA2, xB2, xK2⟩
 have A2 := hid xA2
 have B2 := hid xB2
 have K2 := hid xK2
 clear xA2 xB2 xK2
 obtain ⟨a0, a1, a2, a3, a4, a5, a6, a7, a8⟩ := cells9 (A2.out)
 obtain ⟨b0, b1, b2, b3, b4, b5, b6, b7, b8⟩ := cells9 (B2.out)
 go_wp2_with fail
 refine (SB.out _).mono ?_
 rintro e W3 ⟨rfl, k3⟩
 have A3 := hid (bl_kp A2.out k3)
 have K3 := hid (K2.out.trans k3)
 clear k3 a0 a1 a2 a3 a4 a5 a6 a7 a8 b0 b1 b2 b3 b4 b5 b6 b7 b8
 have x0 := bl_cell A3.out 0 _ rfl
 cases sm with
 | false =>
  go_wp2_with fail
  go_ret
  exact ⟨ret_bool (by rw [E.out]; rfl), K3.out⟩
 | true =>
  go_wp2_with fail
  refine (KF.out _).mono ?_
  rintro e W3 ⟨rfl, rfl⟩
  go_wp2_with fail
  go_ret
  exact ⟨ret_bool (by rw [E.out]; rfl), K3.out⟩
end Go.Proofs.YtnajcnhgeggngaaGreat

/-! ### Keep -/

namespace Go.Proofs.YtnajcnhgeggngaaGreat
open Go.RowKit
attribute [local go_sem] field91

theorem keep_any (base : Nat) (v : Value) (ts : List Rx) (r : Rx) (k mn mx m : Int) (t : W4) (ad : Option Addr) (l c : Nat) (s : ByteArray) (ere : Bool) (i n g d P : Nat) (w : World) (h : Rd w P s ere i n g d) (hK : RKids base w v ts) (hI : Is w (fun b => base ≤ b ∧ v.ownBlock ≠ some b) r (rxv k mn mx m t (.slice ad l c))) (hb : base ≤ w.heap.size) (ht : ts.length ≤ 1000) :
  Calls Tryz.prog 46 #[.pointer (some ⟨P, 0, none⟩), v, rxv k mn mx m t (.slice ad l c)] w fun e w' => ∃ v', e = .returned v' ∧ RKids base w' v' (keepL n ts r) ∧ w.grownBy w' v.ownBlock := by
 have R : Hid (Rd w P s ere i n g d) := h
 have HK : Hid (RKids base w v ts) := hK
 have HI : Hid (Is w (fun b => base ≤ b ∧ v.ownBlock ≠ some b) r (rxv k mn mx m t (.slice ad l c))) := hI
 clear h hK hI
 by_cases hc : n > 40
 ·
  have E : Hid (keepL n ts r = ts) := by show _ = _; unfold keepL; rw [if_pos hc]
  have c1 : (40 : Int) < (n : Int) := by omega
  go_enter Tryz.func46, Tryz.ntmps46
  go_upto_region 1 with fail
  refine opq (fun W0 => Rd W0 P s ere i n g d ∧ W0.heap[w.heap.size]? = some (rxo k mn mx m t (.slice ad l c)) ∧ RKids base W0 v ts ∧ Is W0 (fun b => base ≤ b ∧ v.ownBlock ≠ some b) r (rxv k mn mx m t (.slice ad l c)) ∧ Kp w W0) ⟨by exact R.out.kp kpt, by (first | exact last_at _ _ _ (by simp) | (refine bl_alloc ?_ _; first | exact last_at _ _ _ (by simp) | (refine bl_alloc ?_ _; first | exact last_at _ _ _ (by simp) | (refine bl_alloc ?_ _; exact last_at _ _ _ (by simp))))), by exact HK.out.kp kpt, by exact HI.out.kp kpt, by exact kpt⟩ ?_
  rintro W0 ⟨xR0, xA0, xHK0, xHI0, xK0⟩
  have R0 := hid xR0
  have A0 := hid xA0
  have HK0 := hid xHK0
  have HI0 := hid xHI0
  have K0 := hid xK0
  clear xR0 xA0 xHK0 xHI0 xK0
  have p3 := R0.out.cells.2.2.2.1
  have hs0 := K0.out.size
  go_wp2
  go_ret
  exact ⟨_, rfl, by rw [E.out]; exact HK0.out, K0.out.grown _⟩
 ·
  have E : Hid (keepL n ts r = ts ++ [r]) := by show _ = _; unfold keepL; rw [if_neg hc]
  have c1 : ¬ (40 : Int) < (n : Int) := by omega
  go_enter Tryz.func46, Tryz.ntmps46
  go_upto_region 1 with fail
  refine opq (fun W0 => Rd W0 P s ere i n g d ∧ W0.heap[w.heap.size]? = some (rxo k mn mx m t (.slice ad l c)) ∧ RKids base W0 v ts ∧ Is W0 (fun b => base ≤ b ∧ v.ownBlock ≠ some b) r (rxv k mn mx m t (.slice ad l c)) ∧ Kp w W0) ⟨by exact R.out.kp kpt, by (first | exact last_at _ _ _ (by simp) | (refine bl_alloc ?_ _; first | exact last_at _ _ _ (by simp) | (refine bl_alloc ?_ _; first | exact last_at _ _ _ (by simp) | (refine bl_alloc ?_ _; exact last_at _ _ _ (by simp))))), by exact HK.out.kp kpt, by exact HI.out.kp kpt, by exact kpt⟩ ?_
  rintro W0 ⟨xR0, xA0, xHK0, xHI0, xK0⟩
  have R0 := hid xR0
  have A0 := hid xA0
  have HK0 := hid xHK0
  have HI0 := hid xHI0
  have K0 := hid xK0
  clear xR0 xA0 xHK0 xHI0 xK0
  have p3 := R0.out.cells.2.2.2.1
  have hs0 := K0.out.size
  obtain ⟨a0, a1, a2, a3, a4, a5, a6, a7, a8⟩ := cells9 (A0.out)
  go_wp2_with (at_builtin; go_must (refine wpList_append_rx W0 (by rfl) _ _ (by rfl) base v ts r (by rfl) HK0 k mn mx m t ad l c HI0 _ (by rfl) (by rfl) ?h1 ?h2 ?_))
  case h1 => omega
  case h2 => omega
  intro v' w' hk' hg'
  have HK' : Hid (RKids base w' v' (ts ++ [r])) := hk'
  have HG' : Hid (w.grownBy w' v.ownBlock) := ⟨hg'.os.trans K0.out.os, hg'.tape.trans K0.out.tape, hg'.output.trans K0.out.output, Nat.le_trans K0.out.size hg'.size, fun b hb hne => (hg'.block b (Nat.lt_of_lt_of_le hb K0.out.size) hne).trans (K0.out.block b hb)⟩
  clear hk' hg'
  go_wp2_with fail
  go_ret
  exact ⟨_, rfl, by rw [E.out]; exact HK'.out, HG'.out⟩

theorem rowEnds_any (s : ByteArray) (ere : Bool) (i n g d P : Nat) (w : World) (h : Rd w P s ere i n g d) (hi : i ≤ s.size) (hs : s.size ≤ 1000000) :
  Calls Tryz.prog 68 #[.pointer (some ⟨P, 0, none⟩)] w fun e w' => e = .returned (.bool (ends (sgn s ere i).1)) ∧ Kp w w' := by
 have R : Hid (Rd w P s ere i n g d) := h
 clear h
 obtain ⟨x, y, z, hg⟩ : ∃ x y z, sgn s ere i = (x, y, z) := ⟨_, _, _, rfl⟩
 have HG : Hid (sgn s ere i = (x, y, z)) := hg
 rw [hg]
 clear hg
 show Calls _ _ _ _ fun e w' => e = .returned (.bool (ends x)) ∧ _
 by_cases h1 : x = 1
 ·
  subst h1
  go_enter Tryz.func68, Tryz.ntmps68
  go_wp2_with fail
  refine (sign_any s ere i n g d P _ R.out hi hs).mono ?_
  rintro e w1 ⟨rfl, kq⟩
  rw [HG.out, sg3]
  have KQ : Hid (Kp w w1) := kq
  clear kq
  go_wp2_with fail
  go_ret
  exact ⟨rfl, KQ.out⟩
 by_cases h9 : x = 9
 ·
  subst h9
  go_enter Tryz.func68, Tryz.ntmps68
  go_wp2_with fail
  refine (sign_any s ere i n g d P _ R.out hi hs).mono ?_
  rintro e w1 ⟨rfl, kq⟩
  rw [HG.out, sg3]
  have KQ : Hid (Kp w w1) := kq
  clear kq
  go_wp2_with fail
  go_ret
  exact ⟨rfl, KQ.out⟩
 by_cases h8 : x = 8
 ·
  subst h8
  go_enter Tryz.func68, Tryz.ntmps68
  go_wp2_with fail
  refine (sign_any s ere i n g d P _ R.out hi hs).mono ?_
  rintro e w1 ⟨rfl, kq⟩
  rw [HG.out, sg3]
  have KQ : Hid (Kp w w1) := kq
  clear kq
  go_wp2_with fail
  go_ret
  exact ⟨rfl, KQ.out⟩
 have g1 : ((x : Int) == 1) = false := by simp; omega
 have g9 : ((x : Int) == 9) = false := by simp; omega
 have g8 : ((x : Int) == 8) = false := by simp; omega
 have E : Hid (ends x = false) := by show _ = _; unfold ends; simp [h1, h9, h8]
 go_enter Tryz.func68, Tryz.ntmps68
 go_wp2_with fail
 refine (sign_any s ere i n g d P _ R.out hi hs).mono ?_
 rintro e w1 ⟨rfl, kq⟩
 rw [HG.out, sg3]
 have KQ : Hid (Kp w w1) := kq
 clear kq
 go_wp2_with fail
 go_ret
 exact ⟨ret_bool E.out.symm, KQ.out⟩

theorem timesFit_any (a b : Int) (w : World) : Calls Tryz.prog 105 #[.int .i64 a, .int .i64 b] w fun e w' => e = .returned (.bool (timesFit a b)) ∧ w' = w := by
 by_cases h0 : a < 0
 ·
  have E : Hid (timesFit a b = false) := by show _ = _; unfold timesFit; rw [if_pos (Or.inl h0)]
  go_enter Tryz.func105, Tryz.ntmps105
  go_wp2
  go_ret
  exact ⟨ret_bool E.out.symm, rfl⟩
 by_cases h1 : a > 20
 ·
  have E : Hid (timesFit a b = false) := by show _ = _; unfold timesFit; rw [if_pos (Or.inr h1)]
  have h1' : (20 : Int) < a := h1
  go_enter Tryz.func105, Tryz.ntmps105
  go_wp2
  go_ret
  exact ⟨ret_bool E.out.symm, rfl⟩
 have h1' : ¬ (20 : Int) < a := h1
 by_cases h2 : b = -1
 ·
  subst h2
  have E : Hid (timesFit a (-1) = true) := by show _ = _; unfold timesFit; rw [if_neg (by omega)]; rfl
  go_enter Tryz.func105, Tryz.ntmps105
  go_wp2
  go_ret
  exact ⟨ret_bool E.out.symm, rfl⟩
 have g2 : (b == -1) = false := by simp [h2]
 by_cases h3 : max a 1 ≤ b
 ·
  by_cases h4 : b ≤ 20
  ·
   have E : Hid (timesFit a b = true) := by show _ = _; unfold timesFit; rw [if_neg (by omega), g2, decide_eq_true h3, decide_eq_true h4]; rfl
   go_enter Tryz.func105, Tryz.ntmps105
   go_wp2
   go_ret
   exact ⟨ret_bool E.out.symm, rfl⟩
  ·
   have E : Hid (timesFit a b = false) := by show _ = _; unfold timesFit; rw [if_neg (by omega), g2, decide_eq_true h3, decide_eq_false h4]; rfl
   go_enter Tryz.func105, Tryz.ntmps105
   go_wp2
   go_ret
   exact ⟨ret_bool E.out.symm, rfl⟩
 ·
  have E : Hid (timesFit a b = false) := by show _ = _; unfold timesFit; rw [if_neg (by omega), g2, decide_eq_false h3]; rfl
  go_enter Tryz.func105, Tryz.ntmps105
  go_wp2
  go_ret
  exact ⟨ret_bool E.out.symm, rfl⟩
end Go.Proofs.YtnajcnhgeggngaaGreat

/-! ### Right1 -/

namespace Go.Proofs.YtnajcnhgeggngaaGreat
open Go.RowKit

theorem RowAt.ks {P : Nat} {w w' : World} {ok : Nat → Prop} {ts : List Rx} {ad : Option Addr} {l c : Nat} (h : RowAt w ok ts ad l c) (k : Ks P w w') (hP : ∀ x, ok x → x ≠ P) : RowAt w' ok ts ad l c :=
 ⟨h.ln, h.cp, fun hn => by
  obtain ⟨b, o, h1, h2, h3, h4⟩ := h.ex hn
  exact ⟨b, o, h1, h2, Nat.lt_of_lt_of_le h3 k.size, IsL.turn k.size (fun b hb hl => ⟨hb, k.block b hl (hP b hb)⟩) ts b o (k.block b h3 (hP b h2)) h4⟩⟩
theorem Cb.lt {w : World} {C : Nat} {ere : Bool} {n g d : Nat} (h : Cb w C ere n g d) : C < w.heap.size := bl_lt h
theorem Ckd.no {C : Nat} {ere : Bool} {o : Option Ck} {w w' : World} {d0 n g d : Nat} (ho : o = none) (hc : Cb w' C ere n g d) (hn : n ≤ 41) (hg : g ≤ 41) (hd : d ≤ 7) (h0 : d0 ≤ d) (k : Ks C w w') : Ckd C ere d0 o w (.returned (.bool false)) w' :=
 ⟨false, rfl, by rw [ho]; rfl, ⟨n, g, d, hc, hn, hg, hd, h0, fun c h => by rw [ho] at h; cases h⟩, k⟩
theorem Ckd.yes {C : Nat} {ere : Bool} {o : Option Ck} {w w' : World} {d0 n g d : Nat} (ho : o = some ⟨n, g, d⟩) (hc : Cb w' C ere n g d) (hn : n ≤ 41) (hg : g ≤ 41) (hd : d ≤ 7) (h0 : d0 ≤ d) (k : Ks C w w') : Ckd C ere d0 o w (.returned (.bool true)) w' :=
 ⟨true, rfl, by rw [ho]; rfl, ⟨n, g, d, hc, hn, hg, hd, h0, fun c h => by rw [ho] at h; injection h with h; subst h; exact ⟨rfl, rfl, rfl⟩⟩, k⟩

structure CkOk (c c' : Ck) : Prop where
 n : c'.n ≤ 40
 g : c'.g ≤ c'.n
 d : c'.d = c.d
mutual
theorem chk_ok (ere : Bool) : ∀ (r : Rx) (b e : Bool) (c c' : Ck), c.n ≤ 40 → c.g ≤ c.n → chk ere r b e c = some c' → CkOk c c' ∧ c.n < c'.n
 | .mk k mn mx n s kids, b, e, c, c', hn, hg, h => by
  unfold chk at h
  split at h
  ·
   cases h
  ·
   rename_i h0
   have h40 : c.n + 1 ≤ 40 := by omega
   have one : some (⟨c.n + 1, c.g, c.d⟩ : Ck) = some c' → CkOk c c' ∧ c.n < c'.n := fun h => by
    injection h with h; subst h
    exact ⟨⟨h40, by show c.g ≤ c.n + 1; omega, rfl⟩, by show c.n < c.n + 1; omega⟩
   split at h
   ·
    split at h
    ·
     exact one h
    ·
     cases h
   split at h
   ·
    have := chkCat_ok ere kids true ⟨c.n + 1, c.g, c.d⟩ c' h40 (by show c.g ≤ c.n + 1; omega) h
    exact ⟨⟨this.1.n, this.1.g, this.1.d⟩, by have := this.2; simp only at this; omega⟩
   split at h
   ·
    split at h
    ·
     have := chkAlt_ok ere kids ⟨c.n + 1, c.g, c.d⟩ c' h40 (by show c.g ≤ c.n + 1; omega) h
     exact ⟨⟨this.1.n, this.1.g, this.1.d⟩, by have := this.2; simp only at this; omega⟩
    ·
     cases h
   split at h
   ·
    split at h
    ·
     have := chkRep_ok ere kids ⟨c.n + 1, c.g, c.d⟩ c' h40 (by show c.g ≤ c.n + 1; omega) h
     exact ⟨⟨this.1.n, this.1.g, this.1.d⟩, by have := this.2; simp only at this; omega⟩
    ·
     cases h
   split at h
   ·
    split at h
    ·
     cases h
    ·
     have := chkGroup_ok ere kids ⟨c.n + 1, c.g + 1, c.d + 1⟩ c' h40 (by show c.g + 1 ≤ c.n + 1; omega) h
     exact ⟨⟨this.1, this.2.1, by have := this.2.2.1; simp only at this; omega⟩, by have := this.2.2.2; simp only at this; omega⟩
   split at h
   ·
    split at h
    ·
     exact one h
    ·
     cases h
   split at h
   ·
    split at h
    ·
     exact one h
    ·
     cases h
   split at h
   ·
    split at h
    ·
     exact one h
    ·
     cases h
   ·
    cases h
theorem chkCat_ok (ere : Bool) : ∀ (rs : List Rx) (f : Bool) (c c' : Ck), c.n ≤ 40 → c.g ≤ c.n → chkCat ere rs f c = some c' → CkOk c c' ∧ c.n ≤ c'.n
 | [], f, c, c', hn, hg, h => by
  unfold chkCat at h
  injection h with h; subst h
  exact ⟨⟨hn, hg, rfl⟩, Nat.le_refl _⟩
 | r :: rs, f, c, c', hn, hg, h => by
  unfold chkCat at h
  split at h
  ·
   cases h
  ·
   split at h
   ·
    cases h
   ·
    rename_i c1 hc1
    have h1 := chk_ok ere r f rs.isEmpty c c1 hn hg hc1
    have h2 := chkCat_ok ere rs false c1 c' h1.1.n h1.1.g h
    exact ⟨⟨h2.1.n, h2.1.g, h2.1.d.trans h1.1.d⟩, by omega⟩
theorem chkAlt_ok (ere : Bool) : ∀ (rs : List Rx) (c c' : Ck), c.n ≤ 40 → c.g ≤ c.n → chkAlt ere rs c = some c' → CkOk c c' ∧ c.n ≤ c'.n
 | [], c, c', hn, hg, h => by
  unfold chkAlt at h
  injection h with h; subst h
  exact ⟨⟨hn, hg, rfl⟩, Nat.le_refl _⟩
 | r :: rs, c, c', hn, hg, h => by
  unfold chkAlt at h
  split at h
  ·
   cases h
  ·
   split at h
   ·
    cases h
   ·
    rename_i c1 hc1
    have h1 := chk_ok ere r false false c c1 hn hg hc1
    have h2 := chkAlt_ok ere rs c1 c' h1.1.n h1.1.g h
    exact ⟨⟨h2.1.n, h2.1.g, h2.1.d.trans h1.1.d⟩, by omega⟩
theorem chkRep_ok (ere : Bool) : ∀ (rs : List Rx) (c c' : Ck), c.n ≤ 40 → c.g ≤ c.n → chkRep ere rs c = some c' → CkOk c c' ∧ c.n ≤ c'.n
 | [], c, c', hn, hg, h => by unfold chkRep at h; cases h
 | r :: rs, c, c', hn, hg, h => by
  unfold chkRep at h
  split at h
  ·
   have h1 := chk_ok ere r false false c c' hn hg h
   exact ⟨h1.1, by omega⟩
  ·
   cases h
theorem chkGroup_ok (ere : Bool) : ∀ (rs : List Rx) (c c' : Ck), c.n ≤ 40 → c.g ≤ c.n → chkGroup ere rs c = some c' → c'.n ≤ 40 ∧ c'.g ≤ c'.n ∧ c'.d = c.d - 1 ∧ c.n ≤ c'.n
 | [], c, c', hn, hg, h => by unfold chkGroup at h; cases h
 | r :: rs, c, c', hn, hg, h => by
  unfold chkGroup at h
  split at h
  ·
   cases h
  ·
   rename_i c1 hc1
   injection h with h; subst h
   have h1 := chk_ok ere r true true c c1 hn hg hc1
   exact ⟨h1.1.n, h1.1.g, by show c1.d - 1 = c.d - 1; rw [h1.1.d], by show c.n ≤ c1.n; omega⟩
end
end Go.Proofs.YtnajcnhgeggngaaGreat

/-! ### Right2 -/

namespace Go.Proofs.YtnajcnhgeggngaaGreat
open Go.RowKit

theorem chkCat_cons (ere : Bool) (r : Rx) (rs : List Rx) (f : Bool) (c : Ck) : chkCat ere (r :: rs) f c = if r.k = 2 ∨ r.k = 3 then none else (chk ere r f rs.isEmpty c).bind fun c' => chkCat ere rs false c' := by
 rw [chkCat]
 split
 ·
  rfl
 ·
  cases chk ere r f rs.isEmpty c <;> rfl
theorem Is.kind' {w : World} {ok : Nat → Prop} {r : Rx} {k mn mx n : Int} {s : W4} {ks : Value} (h : Is w ok r (rxv k mn mx n s ks)) : r.k = k := by
 cases r with
 | mk k' mn' mx' n' s' kids =>
  unfold Is at h
  obtain ⟨ad, l, c, he, _⟩ := h
  injection he with he
  injection he with he
  simp at he
  exact he.1.symm
theorem Ks.kpt' {P : Nat} {a b c : World} (h : Ks P a b) (k : Kp b c) (hP : P < b.heap.size) : Ks P a c := h.kp k (Nat.le_of_lt hP)
structure Kw (ere : Bool) (C : Nat) (d0 : Nat) (w : World) (ts : List Rx) (o : Option Ck) (k : Nat) (wr : World) (c : Ck) : Prop where
 cb : Cb wr C ere c.n c.g c.d
 n : c.n ≤ 40
 g : c.g ≤ c.n
 d : c.d = d0
 eq : chkCat ere (ts.drop k) (k == 0) c = o
 ks : Ks C w wr
theorem Ckd.form {C : Nat} {ere : Bool} {d0 : Nat} {o : Option Ck} {w w' : World} {e : Ending} (h : Ckd C ere d0 o w e w') : (∃ c, o = some c ∧ e = .returned (.bool true) ∧ Cb w' C ere c.n c.g c.d ∧ Ks C w w') ∨ (o = none ∧ e = .returned (.bool false) ∧ (∃ n g d, Cb w' C ere n g d ∧ n ≤ 41 ∧ g ≤ 41 ∧ d ≤ 7 ∧ d0 ≤ d) ∧ Ks C w w') := by
 obtain ⟨b, he, hb, ⟨n, g, d, hc, h1, h2, h3, h3', h4⟩, hk⟩ := h.ex
 cases o with
 | none =>
  refine Or.inr ⟨rfl, ?_, ⟨n, g, d, hc, h1, h2, h3, h3'⟩, hk⟩
  rw [he, hb]; rfl
 | some c =>
  obtain ⟨e1, e2, e3⟩ := h4 c rfl
  subst e1; subst e2; subst e3
  refine Or.inl ⟨c, rfl, ?_, hc, hk⟩
  rw [he, hb]; rfl

theorem cat_any (ere : Bool) (ts : List Rx) (H : ∀ r, r ∈ ts → RightSaid ere r) (C : Nat) (ok : Nat → Prop) (ad : Option Addr) (l c : Nat) (n g d : Nat) (w : World) (hr : RowAt w ok ts ad l c) (hok : ∀ x, ok x → x ≠ C) (hc : Cb w C ere n g d) (hn : n ≤ 40) (hg : g ≤ n) (hd : d ≤ 6) (hl : ts.length ≤ 1000000) :
  Calls Tryz.prog 73 #[.pointer (some ⟨C, 0, none⟩), .slice ad l c] w fun e w' => Ckd C ere d (chkCat ere ts true ⟨n, g, d⟩) w e w' := by
 have hle := hr.ln
 have hlc := hr.cp
 subst hle
 obtain ⟨L, hL⟩ : ∃ L, ts.length = L := ⟨_, rfl⟩
 rw [hL] at hr hlc hl ⊢
 have HL := hid hL
 have RR := hid hr
 have HC := hid hc
 have HH := hid H
 have HOK := hid hok
 clear hL hr hc H hok
 obtain ⟨o, ho⟩ : ∃ o, chkCat ere ts true ⟨n, g, d⟩ = o := ⟨_, rfl⟩
 rw [ho]
 have HO := hid ho
 clear ho
 go_enter Tryz.func73, Tryz.ntmps73
 go_wp2_with fail
 go_loopg [9] L (fun gg v wr => ∃ (k : Nat) (c : Ck), k + gg = L ∧ v = .int .i64 (k : Int) ∧ Kw ere C d w ts o k wr c)
 case atStart => exact ⟨0, ⟨n, g, d⟩, by omega, rfl, HC.out, hn, hg, rfl, HO.out, Ks.refl _ _⟩
 case round =>
  obtain ⟨k, ⟨n1, g1, d1⟩, hk, rfl, hw⟩ := hrel
  have KW := hid hw
  have hn1 : n1 ≤ 40 := hw.n
  have hg1 : g1 ≤ n1 := hw.g
  have hd1 : d1 = d := hw.d
  subst hd1
  clear hw
  by_cases hlt : k < L
  ·
   have gkw : IntKind.i64.wrap ((k : Int) + 1) = (k : Int) + 1 := by rw [IntKind.wrap_i64]; omega
   have ga : (k : Int) < (L : Int) := by omega
   have g0 : (0 : Int) ≤ (k : Int) := by omega
   have gl : IntKind.i64.wrap ((L : Int) - 1) = (L : Int) - 1 := by rw [IntKind.wrap_i64]; omega
   obtain ⟨r, hr⟩ : ∃ r, ts[k]? = some r := ⟨_, List.getElem?_eq_getElem (by rw [HL.out]; exact hlt)⟩
   have hdrop : ts.drop k = r :: ts.drop (k + 1) := List.drop_eq_getElem_cons (by rw [HL.out]; exact hlt) ▸ by
    have := (List.getElem?_eq_some_iff.1 hr).2
    rw [this]
   have RW := hid (RR.out.ks KW.out.ks HOK.out)
   obtain ⟨bb, oo, kk, mn, mx, mm, tt, ad', ll, cc, e1, hbb, i1, ce1⟩ := RW.out.at k r hr
   subst e1
   have RS := hid (HH.out r (List.mem_of_getElem? hr))
   have I1 := hid i1
   have hkk : r.k = kk := i1.kind'
   have HKK := hid hkk
   have CE1 := hid ce1
   have HD := hid hdrop
   have lastB : (ts.drop (k + 1)).isEmpty = ((k : Int) == (L : Int) - 1) := by
    rw [Bool.eq_iff_iff]
    simp
    rw [HL.out]
    omega
   have HLB := hid lastB
   have E0 : Hid (o = if kk = 2 ∨ kk = 3 then none else (chk ere r ((k : Int) == 0) ((k : Int) == (L : Int) - 1) ⟨n1, g1, d1⟩).bind fun c' => chkCat ere (ts.drop (k + 1)) false c') := by
    show _ = _
    rw [← KW.out.eq, hdrop, chkCat_cons, hkk, lastB]
    rw [show (k == 0) = ((k : Int) == 0) by rw [Bool.eq_iff_iff]; simp]
   obtain ⟨zb, hzb⟩ : ∃ zb, ((k : Int) == 0) = zb := ⟨_, rfl⟩
   obtain ⟨zl, hzl⟩ : ∃ zl, ((k : Int) == (L : Int) - 1) = zl := ⟨_, rfl⟩
   rw [hzb, hzl] at E0
   clear hr i1 ce1 hkk hdrop lastB
   obtain ⟨x0, x1, x2, x3, x4, x5, x6, x7, x8⟩ := cells_of_is CE1.out
   go_upto_region 4 with fail
   clear x0 x1 x2 x3 x4 x5 x6 x7 x8
   refine opq (fun W => W.heap[wr.heap.size]? = some (rxo kk mn mx mm tt (.slice ad' ll cc)) ∧ Kp wr W) ⟨by exact last_at _ _ _ (by simp), by exact (Kp.refl _).alloc _⟩ ?_
   rintro W1 ⟨y1, y2⟩
   have A1 := hid y1
   have K1 := hid y2
   clear y1 y2
   obtain ⟨a0, a1, a2, a3, a4, a5, a6, a7, a8⟩ := cells9 (A1.out)
   have hCw := KW.out.cb.lt
   have CB1 := hid (KW.out.cb.kp K1.out)
   have KS1 := hid (KW.out.ks.kpt' K1.out hCw)
   by_cases h2 : kk = 2
   ·
    subst h2
    have E : Hid (o = none) := by show _ = _; rw [E0.out]; rfl
    go_wp2_with fail
    go_ret
    exact Ckd.no E.out CB1.out (by show n1 ≤ 41; omega) (by show g1 ≤ 41; omega) (by show d1 ≤ 7; omega) (Nat.le_refl _) KS1.out
   by_cases h3 : kk = 3
   ·
    subst h3
    have E : Hid (o = none) := by show _ = _; rw [E0.out]; rfl
    go_wp2_with fail
    go_ret
    exact Ckd.no E.out CB1.out (by show n1 ≤ 41; omega) (by show g1 ≤ 41; omega) (by show d1 ≤ 7; omega) (Nat.le_refl _) KS1.out
   have g2 : (kk == 2) = false := by simp [h2]
   have g3 : (kk == 3) = false := by simp [h3]
   have E1 : Hid (o = (chk ere r zb zl ⟨n1, g1, d1⟩).bind fun c' => chkCat ere (ts.drop (k + 1)) false c') := by show _ = _; rw [E0.out, if_neg (by omega)]
   go_wp2_with fail
   clear a0 a1 a2 a3 a4 a5 a6 a7 a8
   refine (RS.out.all C ok _ zb zl n1 g1 d1 _ (I1.out.kp K1.out) HOK.out CB1.out hn1 hg1 hd).mono ?_
   intro e W2 hcd
   rcases hcd.form with ⟨c2, ho2, rfl, hcb2, hks2⟩ | ⟨ho2, rfl, ⟨n2, g2', d2, hcb2, b1, b2, b3, b4⟩, hks2⟩
   ·
    have hck := chk_ok ere r zb zl ⟨n1, g1, d1⟩ c2 hn1 hg1 ho2
    have CB2 := hid hcb2
    have KS2 := hid (KS1.out.trans hks2)
    have E2 : Hid (chkCat ere (ts.drop (k + 1)) (k + 1 == 0) c2 = o) := by show _ = _; rw [E1.out, ho2]; rfl
    have b1 : c2.n ≤ 40 := hck.1.n
    have b2 : c2.g ≤ c2.n := hck.1.g
    have b3 : c2.d = d1 := hck.1.d
    have B3 := hid b3
    clear b3
    clear hcd hcb2 hks2 ho2 hck
    go_wp2_with fail
    go_roundg (gk - 1)
    case measure => omega
    case rel => exact ⟨k + 1, c2, by omega, by go_num, CB2.out, b1, b2, B3.out, E2.out, KS2.out⟩
   ·
    have CB2 := hid hcb2
    have KS2 := hid (KS1.out.trans hks2)
    have E : Hid (o = none) := by show _ = _; rw [E1.out, ho2]; rfl
    clear hcd hcb2 hks2 ho2
    go_wp2_with fail
    go_ret
    exact Ckd.no E.out CB2.out b1 b2 b3 b4 KS2.out
  ·
   have ga : ¬ (k : Int) < (L : Int) := by omega
   have E : Hid (o = some ⟨n1, g1, d1⟩) := by
    have := KW.out.eq
    rw [List.drop_eq_nil_of_le (by rw [HL.out]; omega)] at this
    unfold chkCat at this
    exact this.symm
   go_wp2
   go_ret
   exact Ckd.yes E.out KW.out.cb (by omega) (by omega) (by omega) (Nat.le_refl _) KW.out.ks
end Go.Proofs.YtnajcnhgeggngaaGreat

/-! ### Right3 -/

namespace Go.Proofs.YtnajcnhgeggngaaGreat
open Go.RowKit

theorem Cb.groups {w : World} {C : Nat} {ere : Bool} {n g d : Nat} (h : Cb w C ere n g d) (j : Nat) : Cb (w.setCell ⟨C, 2, none⟩ (.int .i64 (j : Int))) C ere n j d := bl_put h _
theorem Cb.deep {w : World} {C : Nat} {ere : Bool} {n g d : Nat} (h : Cb w C ere n g d) (j : Nat) : Cb (w.setCell ⟨C, 3, none⟩ (.int .i64 (j : Int))) C ere n g j := bl_put h _
theorem Cb.nodes {w : World} {C : Nat} {ere : Bool} {n g d : Nat} (h : Cb w C ere n g d) (j : Nat) : Cb (w.setCell ⟨C, 1, none⟩ (.int .i64 (j : Int))) C ere j g d := bl_put h _

theorem rep_any (ere : Bool) (r : Rx) (H : RightSaid ere r) (C : Nat) (ok : Nat → Prop) (k mn mx m : Int) (t : W4) (ad : Option Addr) (l c : Nat) (n g d : Nat) (w : World) (hr : RowAt w ok [r] ad l c) (hok : ∀ x, ok x → x ≠ C) (hc : Cb w C ere n g d) (hn : n ≤ 40) (hg : g ≤ n) (hd : d ≤ 6) :
  Calls Tryz.prog 75 #[.pointer (some ⟨C, 0, none⟩), rxv k mn mx m t (.slice ad l c)] w fun e w' => Ckd C ere d (if timesFit mn mx then chkRep ere [r] ⟨n, g, d⟩ else none) w e w' := by
 have hle : l = 1 := hr.ln
 subst hle
 have hlc := hr.cp
 obtain ⟨bb, oo, kk, mn', mx', mm', tt', ad', ll', cc', e1, hbb, i1, ce1⟩ := hr.at 0 r rfl
 subst e1
 rw [Nat.zero_mul, Nat.add_zero] at ce1
 have I1 := hid i1
 have CE1 := hid ce1
 have hkk : r.k = kk := i1.kind'
 have HKK := hid hkk
 have HC := hid hc
 have hCw := hc.lt
 have HOK := hid hok
 have HH := hid H
 clear hr i1 ce1 hkk hc hok H
 obtain ⟨tf, htf⟩ : ∃ tf, timesFit mn mx = tf := ⟨_, rfl⟩
 have TF : Hid (∀ w, Calls Tryz.prog 105 #[.int .i64 mn, .int .i64 mx] w fun e w' => e = .returned (.bool tf) ∧ w' = w) := fun w => by have := timesFit_any mn mx w; rw [htf] at this; exact this
 rw [htf]
 clear htf
 obtain ⟨mr, hmr⟩ : ∃ mr, mayRep kk = mr := ⟨_, rfl⟩
 have RP : Hid (∀ w, Calls Tryz.prog 96 #[.int .i64 kk] w fun e w' => e = .returned (.bool mr) ∧ w' = w) := fun w => by
  have := repeatable_any kk w
  rw [show (kk == 1 || kk == 5 || kk == 6) = mr from hmr] at this
  exact this
 have E0 : Hid (chkRep ere [r] ⟨n, g, d⟩ = if mr then chk ere r false false ⟨n, g, d⟩ else none) := by show _ = _; rw [chkRep, HKK.out, hmr]
 clear hmr
 go_enter Tryz.func75, Tryz.ntmps75
 go_upto_region 1 with fail
 refine opq (fun W0 => W0.heap[w.heap.size]? = some (rxo k mn mx m t (.slice (some ⟨bb, oo, none⟩) 1 c)) ∧ Kp w W0) ⟨by (first | exact last_at _ _ _ (by simp) | (refine bl_alloc ?_ _; first | exact last_at _ _ _ (by simp) | (refine bl_alloc ?_ _; first | exact last_at _ _ _ (by simp) | (refine bl_alloc ?_ _; exact last_at _ _ _ (by simp))))), by exact kpt⟩ ?_
 rintro W0 ⟨xA0, xK0⟩
 have A0 := hid xA0
 have K0 := hid xK0
 clear xA0 xK0
 obtain ⟨a0, a1, a2, a3, a4, a5, a6, a7, a8⟩ := cells9 (A0.out)
 have CB0 := hid (HC.out.kp K0.out)
 have KS0 := hid (K0.out.ks (Nat.le_of_lt hCw))
 have CE0 := hid (CE1.out.turn (K0.out.block _ hbb))
 obtain ⟨x0, x1, x2, x3, x4, x5, x6, x7, x8⟩ := cells_of_is CE0.out
 go_wp2_with fail
 refine (TF.out _).mono ?_
 rintro e W0 ⟨rfl, rfl⟩
 cases tf with
 | false =>
  go_wp2_with fail
  go_ret
  exact Ckd.no rfl CB0.out (by omega) (by omega) (by omega) (Nat.le_refl _) KS0.out
 | true =>
  go_wp2_with fail
  refine (RP.out _).mono ?_
  rintro e W0 ⟨rfl, rfl⟩
  cases mr with
  | false =>
   go_wp2_with fail
   go_ret
   exact Ckd.no (by rw [E0.out]; rfl) CB0.out (by omega) (by omega) (by omega) (Nat.le_refl _) KS0.out
  | true =>
   go_wp2_with fail
   clear x0 x1 x2 x3 x4 x5 x6 x7 x8 a0 a1 a2 a3 a4 a5 a6 a7 a8
   refine (HH.out.all C ok _ false false n g d _ (I1.out.kp K0.out) HOK.out CB0.out hn hg hd).mono ?_
   intro e W2 hcd
   have HE : Hid (chkRep ere [r] ⟨n, g, d⟩ = chk ere r false false ⟨n, g, d⟩) := by show _ = _; rw [E0.out]; rfl
   rw [← HE.out] at hcd
   rcases hcd.form with ⟨c2, ho2, rfl, hcb2, hks2⟩ | ⟨ho2, rfl, ⟨n2, g2', d2, hcb2, b1, b2, b3, b4⟩, hks2⟩
   ·
    have HCD := hid (show Ckd C ere d (if true = true then chkRep ere [r] ⟨n, g, d⟩ else none) w (.returned (.bool true)) W2 from by
     obtain ⟨q, h1, h2, h3, h4⟩ := hcd.ex
     exact ⟨q, h1, h2, h3, KS0.out.trans h4⟩)
    clear hcd ho2 hcb2 hks2
    go_wp2_with fail
    go_ret
    exact HCD.out
   ·
    have HCD := hid (show Ckd C ere d (if true = true then chkRep ere [r] ⟨n, g, d⟩ else none) w (.returned (.bool false)) W2 from by
     obtain ⟨q, h1, h2, h3, h4⟩ := hcd.ex
     exact ⟨q, h1, h2, h3, KS0.out.trans h4⟩)
    clear hcd ho2 hcb2 hks2
    go_wp2_with fail
    go_ret
    exact HCD.out

theorem cgroup_any (ere : Bool) (r : Rx) (H : RightSaid ere r) (C : Nat) (ok : Nat → Prop) (k mn mx m : Int) (t : W4) (ad : Option Addr) (l c : Nat) (n g d : Nat) (w : World) (hr : RowAt w ok [r] ad l c) (hok : ∀ x, ok x → x ≠ C) (hc : Cb w C ere n g d) (hn : n ≤ 40) (hg : g + 1 ≤ n) (hd : d ≤ 6) :
  Calls Tryz.prog 76 #[.pointer (some ⟨C, 0, none⟩), rxv k mn mx m t (.slice ad l c)] w fun e w' => Ckd C ere d (if m ≠ (g + 1 : Nat) ∨ g + 1 > 3 ∨ d = 6 then none else chkGroup ere [r] ⟨n, g + 1, d + 1⟩) w e w' := by
 have hle : l = 1 := hr.ln
 subst hle
 have hlc := hr.cp
 obtain ⟨bb, oo, kk, mn', mx', mm', tt', ad', ll', cc', e1, hbb, i1, ce1⟩ := hr.at 0 r rfl
 subst e1
 rw [Nat.zero_mul, Nat.add_zero] at ce1
 have I1 := hid i1
 have CE1 := hid ce1
 have HC := hid hc
 have hCw := hc.lt
 have HOK := hid hok
 have HH := hid H
 have hbC : Hid (bb ≠ C) := by
  obtain ⟨b', o', h1, h2, _, _⟩ := hr.ex (by simp)
  injection h1 with h1; injection h1 with h1 _
  rw [h1]; exact hok _ h2
 clear hr i1 ce1 hc hok H
 have gg : IntKind.i64.wrap ((g : Int) + 1) = (g : Int) + 1 := by rw [IntKind.wrap_i64]; omega
 have gd : IntKind.i64.wrap ((d : Int) + 1) = (d : Int) + 1 := by rw [IntKind.wrap_i64]; omega
 obtain ⟨o, ho⟩ : ∃ o, (if m ≠ (g + 1 : Nat) ∨ g + 1 > 3 ∨ d = 6 then none else chkGroup ere [r] ⟨n, g + 1, d + 1⟩) = o := ⟨_, rfl⟩
 rw [ho]
 have HO := hid ho
 clear ho
 go_enter Tryz.func76, Tryz.ntmps76
 go_upto_region 1 with fail
 refine opq (fun W0 => W0.heap[w.heap.size]? = some (rxo k mn mx m t (.slice (some ⟨bb, oo, none⟩) 1 c)) ∧ Cb W0 C ere n g d ∧ Kp w W0) ⟨by (first | exact last_at _ _ _ (by simp) | (refine bl_alloc ?_ _; first | exact last_at _ _ _ (by simp) | (refine bl_alloc ?_ _; first | exact last_at _ _ _ (by simp) | (refine bl_alloc ?_ _; exact last_at _ _ _ (by simp))))), by exact HC.out.kp kpt, by exact kpt⟩ ?_
 rintro W0 ⟨xA0, xCB0, xK0⟩
 have A0 := hid xA0
 have CB0 := hid xCB0
 have K0 := hid xK0
 clear xA0 xCB0 xK0
 have c2 := CB0.out.cells.2.2.1
 have f2 := bl_frozen CB0.out 2
 go_upto_region 2 with fail
 clear c2 f2
 refine opq (fun W1 => W1.heap[w.heap.size]? = some (rxo k mn mx m t (.slice (some ⟨bb, oo, none⟩) 1 c)) ∧ Cb W1 C ere n (g + 1) d ∧ Ks C w W1) ⟨by exact bl_set A0.out (by omega) _, by exact CB0.out.groups (g + 1), by exact (K0.out.ks (Nat.le_of_lt hCw)).set 2 _⟩ ?_
 rintro W1 ⟨xA1, xCB1, xKS1⟩
 have A1 := hid xA1
 have CB1 := hid xCB1
 have KS1 := hid xKS1
 clear xA1 xCB1 xKS1
 have CE0 := hid ((CE1.out.turn (K0.out.block _ hbb)))
 have I0 := hid (I1.out.ks KS1.out (fun x hx _ => HOK.out x hx))
 have CEk := hid (CE1.out.turn (KS1.out.block _ hbb hbC.out))
 clear A0 CB0 K0 CE0
 by_cases h1 : m = ((g + 1 : Nat) : Int)
 ·
  have n1 : (m != (g : Int) + 1) = false := by rw [h1]; simp
  have n1' : m = (g : Int) + 1 := by omega
  by_cases h2 : g + 1 > 3
  ·
   have n2 : (3 : Int) < (g : Int) + 1 := by omega
   have E : Hid (o = none) := by show _ = _; rw [← HO.out, if_pos (Or.inr (Or.inl h2))]
   clear h1 n1'
   go_cut [33] (fun v wc => v = .bool true ∧ Kp W1 wc)
   case first =>
    have Q0 : Kp W1 W1.drew := (Kp.refl _).drew
    have MK : Hid (∀ W, Kp W1 W → W.cell? ⟨w.heap.size, 3, none⟩ = some (.int .i64 m) ∧ W.cell? ⟨C, 2, none⟩ = some (.int .i64 ((g : Int) + 1)) ∧ W.cell? ⟨C, 3, none⟩ = some (.int .i64 (d : Int)) ∧ Hid (Kp W1 W)) := fun W k => ⟨bl_cell (bl_kp A1.out k) 3 _ rfl, (CB1.out.kp k).cells.2.2.1, (CB1.out.kp k).cells.2.2.2, k⟩
    refine wp_region_noPanic ?_
    refine hdrew MK Q0 (fun hH => ?_)
    have KQ := Q0
    refine tk 0 (some 13) (Op.fieldAddr 27 (Operand.tmp 3) 3) 0 (v := ?v0a1) rfl ?h0a1 hH ?_
    case h0a1 => intro _ _; go_simp; try with_reducible rfl
    try simp only [ps]
    refine tk 1 (some 14) (Op.load 3 (Operand.tmp 13)) 3 (v := ?v1a2) rfl ?h1a2 hH ?_
    case h1a2 => intro _ _; go_simp; try with_reducible rfl
    try simp only [ps]
    refine tk 2 (some 15) (Op.move (Operand.tmp 0)) 152 (v := ?v2a3) rfl ?h2a3 hH ?_
    case h2a3 => intro _ _; go_simp; try with_reducible rfl
    try simp only [ps]
    refine tk 3 (some 16) (Op.nilCheck (Operand.tmp 15)) 0 (v := ?v3a4) rfl ?h3a4 hH ?_
    case h3a4 => intro _ _; go_simp; try with_reducible rfl
    try simp only [ps]
    refine tk 4 (some 17) (Op.fieldAddr 120 (Operand.tmp 16) 2) 0 (v := ?v4a5) rfl ?h4a5 hH ?_
    case h4a5 => intro _ _; go_simp; try with_reducible rfl
    try simp only [ps]
    refine tk 5 (some 18) (Op.load 3 (Operand.tmp 17)) 3 (v := ?v5a6) rfl ?h5a6 hH ?_
    case h5a6 => intro _ _; go_simp; try with_reducible rfl
    try simp only [ps]
    refine tk 6 (some 19) (Op.binOp BinOp.neq 3 (Operand.tmp 14) (Operand.tmp 18) 3) 4 (v := ?v6a7) rfl ?h6a7 hH ?_
    case h6a7 => intro _ _; go_simp; try with_reducible rfl
    try simp only [ps]
    refine tk 7 (some 20) (Op.move (Operand.tmp 19)) 4 (v := ?v7a8) rfl ?h7a8 hH ?_
    case h7a8 => intro _ _; go_simp; try with_reducible rfl
    try simp only [ps]
    refine tk 8 (some 21) (Op.move (Operand.tmp 0)) 152 (v := ?v8a9) rfl ?h8a9 hH ?_
    case h8a9 => intro _ _; go_simp; try with_reducible rfl
    try simp only [ps]
    refine tk 9 (some 22) (Op.nilCheck (Operand.tmp 21)) 0 (v := ?v9a10) rfl ?h9a10 hH ?_
    case h9a10 => intro _ _; go_simp; try with_reducible rfl
    try simp only [ps]
    refine tk 10 (some 23) (Op.fieldAddr 120 (Operand.tmp 22) 2) 0 (v := ?v10a11) rfl ?h10a11 hH ?_
    case h10a11 => intro _ _; go_simp; try with_reducible rfl
    try simp only [ps]
    refine tk 11 (some 24) (Op.load 3 (Operand.tmp 23)) 3 (v := ?v11a12) rfl ?h11a12 hH ?_
    case h11a12 => intro _ _; go_simp; try with_reducible rfl
    try simp only [ps]
    refine tk 12 (some 25) (Op.binOp BinOp.gtr 3 (Operand.tmp 24) (Operand.const (Value.int IntKind.i64 3)) 3) 4 (v := ?v12a13) rfl ?h12a13 hH ?_
    case h12a13 => intro _ _; go_simp; try with_reducible rfl
    try simp only [ps]
    refine tk 13 (some 26) (Op.pick (Operand.tmp 20) (Operand.const (Value.bool true)) (Operand.tmp 25)) 4 (v := ?v13a14) rfl ?h13a14 hH ?_
    case h13a14 => intro _ _; go_simp; try with_reducible rfl
    try simp only [ps]
    refine tk 14 (some 27) (Op.move (Operand.tmp 26)) 4 (v := ?v14a15) rfl ?h14a15 hH ?_
    case h14a15 => intro _ _; go_simp; try with_reducible rfl
    try simp only [ps]
    refine tn 15 (some 28) (Op.move (Operand.tmp 0)) 152 rfl hH ?_
    try simp only [ps]
    refine tn 16 (some 29) (Op.nilCheck (Operand.tmp 28)) 0 rfl hH ?_
    try simp only [ps]
    refine tn 17 (some 30) (Op.fieldAddr 120 (Operand.tmp 29) 3) 0 rfl hH ?_
    try simp only [ps]
    refine tn 18 (some 31) (Op.load 3 (Operand.tmp 30)) 3 rfl hH ?_
    try simp only [ps]
    refine tn 19 (some 32) (Op.binOp BinOp.eql 3 (Operand.tmp 31) (Operand.const (Value.int IntKind.i64 6)) 3) 4 rfl hH ?_
    try simp only [ps]
    refine tk 20 (some 33) (Op.pick (Operand.tmp 27) (Operand.const (Value.bool true)) (Operand.tmp 32)) 4 (v := ?v20a21) rfl ?h20a21 hH ?_
    case h20a21 => intro _ _; go_simp; try with_reducible rfl
    try simp only [ps]
    refine wpAnyH_done (by kernel_rfl) ?_ _
    refine NoPanic.normal ?_
    go_wp2_with fail
    go_meet
    case rel => exact ⟨rfl, KQ⟩
   case rest =>
    obtain ⟨rfl, k2⟩ := hcut
    rename World => W2
    have hC1 := CB1.out.lt
    have CB2 := hid (CB1.out.kp k2)
    have A2 := hid (bl_kp A1.out k2)
    have KS2 := hid (KS1.out.kpt' k2 hC1)
    have I2 := hid (I0.out.kp k2)
    have CE2 := hid (CEk.out.turn (k2.block _ (Nat.lt_of_lt_of_le hbb KS1.out.size)))
    clear k2 CB1 A1 KS1 I0 CEk
    go_wp2_with fail
    go_ret
    exact Ckd.no E.out CB2.out (by omega) (by omega) (by omega) (Nat.le_refl _) KS2.out
  have n2 : ¬ (3 : Int) < (g : Int) + 1 := by omega
  by_cases h3 : d = 6
  ·
   have E : Hid (o = none) := by show _ = _; rw [← HO.out, if_pos (Or.inr (Or.inr h3))]
   subst h3
   clear h1 n1'
   go_cut [33] (fun v wc => v = .bool true ∧ Kp W1 wc)
   case first =>
    have Q0 : Kp W1 W1.drew := (Kp.refl _).drew
    have MK : Hid (∀ W, Kp W1 W → W.cell? ⟨w.heap.size, 3, none⟩ = some (.int .i64 m) ∧ W.cell? ⟨C, 2, none⟩ = some (.int .i64 ((g : Int) + 1)) ∧ W.cell? ⟨C, 3, none⟩ = some (.int .i64 6) ∧ Hid (Kp W1 W)) := fun W k => ⟨bl_cell (bl_kp A1.out k) 3 _ rfl, (CB1.out.kp k).cells.2.2.1, (CB1.out.kp k).cells.2.2.2, k⟩
    refine wp_region_noPanic ?_
    refine hdrew MK Q0 (fun hH => ?_)
    have KQ := Q0
    refine tk 0 (some 13) (Op.fieldAddr 27 (Operand.tmp 3) 3) 0 (v := ?v0b1) rfl ?h0b1 hH ?_
    case h0b1 => intro _ _; go_simp; try with_reducible rfl
    try simp only [ps]
    refine tk 1 (some 14) (Op.load 3 (Operand.tmp 13)) 3 (v := ?v1b2) rfl ?h1b2 hH ?_
    case h1b2 => intro _ _; go_simp; try with_reducible rfl
    try simp only [ps]
    refine tk 2 (some 15) (Op.move (Operand.tmp 0)) 152 (v := ?v2b3) rfl ?h2b3 hH ?_
    case h2b3 => intro _ _; go_simp; try with_reducible rfl
    try simp only [ps]
    refine tk 3 (some 16) (Op.nilCheck (Operand.tmp 15)) 0 (v := ?v3b4) rfl ?h3b4 hH ?_
    case h3b4 => intro _ _; go_simp; try with_reducible rfl
    try simp only [ps]
    refine tk 4 (some 17) (Op.fieldAddr 120 (Operand.tmp 16) 2) 0 (v := ?v4b5) rfl ?h4b5 hH ?_
    case h4b5 => intro _ _; go_simp; try with_reducible rfl
    try simp only [ps]
    refine tk 5 (some 18) (Op.load 3 (Operand.tmp 17)) 3 (v := ?v5b6) rfl ?h5b6 hH ?_
    case h5b6 => intro _ _; go_simp; try with_reducible rfl
    try simp only [ps]
    refine tk 6 (some 19) (Op.binOp BinOp.neq 3 (Operand.tmp 14) (Operand.tmp 18) 3) 4 (v := ?v6b7) rfl ?h6b7 hH ?_
    case h6b7 => intro _ _; go_simp; try with_reducible rfl
    try simp only [ps]
    refine tk 7 (some 20) (Op.move (Operand.tmp 19)) 4 (v := ?v7b8) rfl ?h7b8 hH ?_
    case h7b8 => intro _ _; go_simp; try with_reducible rfl
    try simp only [ps]
    refine tk 8 (some 21) (Op.move (Operand.tmp 0)) 152 (v := ?v8b9) rfl ?h8b9 hH ?_
    case h8b9 => intro _ _; go_simp; try with_reducible rfl
    try simp only [ps]
    refine tk 9 (some 22) (Op.nilCheck (Operand.tmp 21)) 0 (v := ?v9b10) rfl ?h9b10 hH ?_
    case h9b10 => intro _ _; go_simp; try with_reducible rfl
    try simp only [ps]
    refine tk 10 (some 23) (Op.fieldAddr 120 (Operand.tmp 22) 2) 0 (v := ?v10b11) rfl ?h10b11 hH ?_
    case h10b11 => intro _ _; go_simp; try with_reducible rfl
    try simp only [ps]
    refine tk 11 (some 24) (Op.load 3 (Operand.tmp 23)) 3 (v := ?v11b12) rfl ?h11b12 hH ?_
    case h11b12 => intro _ _; go_simp; try with_reducible rfl
    try simp only [ps]
    refine tk 12 (some 25) (Op.binOp BinOp.gtr 3 (Operand.tmp 24) (Operand.const (Value.int IntKind.i64 3)) 3) 4 (v := ?v12b13) rfl ?h12b13 hH ?_
    case h12b13 => intro _ _; go_simp; try with_reducible rfl
    try simp only [ps]
    refine tk 13 (some 26) (Op.pick (Operand.tmp 20) (Operand.const (Value.bool true)) (Operand.tmp 25)) 4 (v := ?v13b14) rfl ?h13b14 hH ?_
    case h13b14 => intro _ _; go_simp; try with_reducible rfl
    try simp only [ps]
    refine tk 14 (some 27) (Op.move (Operand.tmp 26)) 4 (v := ?v14b15) rfl ?h14b15 hH ?_
    case h14b15 => intro _ _; go_simp; try with_reducible rfl
    try simp only [ps]
    refine tk 15 (some 28) (Op.move (Operand.tmp 0)) 152 (v := ?v15b16) rfl ?h15b16 hH ?_
    case h15b16 => intro _ _; go_simp; try with_reducible rfl
    try simp only [ps]
    refine tk 16 (some 29) (Op.nilCheck (Operand.tmp 28)) 0 (v := ?v16b17) rfl ?h16b17 hH ?_
    case h16b17 => intro _ _; go_simp; try with_reducible rfl
    try simp only [ps]
    refine tk 17 (some 30) (Op.fieldAddr 120 (Operand.tmp 29) 3) 0 (v := ?v17b18) rfl ?h17b18 hH ?_
    case h17b18 => intro _ _; go_simp; try with_reducible rfl
    try simp only [ps]
    refine tk 18 (some 31) (Op.load 3 (Operand.tmp 30)) 3 (v := ?v18b19) rfl ?h18b19 hH ?_
    case h18b19 => intro _ _; go_simp; try with_reducible rfl
    try simp only [ps]
    refine tk 19 (some 32) (Op.binOp BinOp.eql 3 (Operand.tmp 31) (Operand.const (Value.int IntKind.i64 6)) 3) 4 (v := ?v19b20) rfl ?h19b20 hH ?_
    case h19b20 => intro _ _; go_simp; try with_reducible rfl
    try simp only [ps]
    refine tk 20 (some 33) (Op.pick (Operand.tmp 27) (Operand.const (Value.bool true)) (Operand.tmp 32)) 4 (v := ?v20b21) rfl ?h20b21 hH ?_
    case h20b21 => intro _ _; go_simp; try with_reducible rfl
    try simp only [ps]
    refine wpAnyH_done (by kernel_rfl) ?_ _
    refine NoPanic.normal ?_
    go_wp2_with fail
    go_meet
    case rel => exact ⟨rfl, KQ⟩
   case rest =>
    obtain ⟨rfl, k2⟩ := hcut
    rename World => W2
    have hC1 := CB1.out.lt
    have CB2 := hid (CB1.out.kp k2)
    have A2 := hid (bl_kp A1.out k2)
    have KS2 := hid (KS1.out.kpt' k2 hC1)
    have I2 := hid (I0.out.kp k2)
    have CE2 := hid (CEk.out.turn (k2.block _ (Nat.lt_of_lt_of_le hbb KS1.out.size)))
    clear k2 CB1 A1 KS1 I0 CEk
    go_wp2_with fail
    go_ret
    exact Ckd.no E.out CB2.out (by omega) (by omega) (by omega) (Nat.le_refl _) KS2.out
  have n3 : ((d : Int) == 6) = false := by simp; omega
  have n3' : ¬ (d : Int) = 6 := by omega
  have E0 : Hid (chkGroup ere [r] ⟨n, g + 1, d + 1⟩ = o) := by show _ = _; rw [← HO.out, if_neg (by omega)]
  clear h1 n1'
  go_cut [33] (fun v wc => v = .bool false ∧ Kp W1 wc)
  case first =>
   have Q0 : Kp W1 W1.drew := (Kp.refl _).drew
   have MK : Hid (∀ W, Kp W1 W → W.cell? ⟨w.heap.size, 3, none⟩ = some (.int .i64 m) ∧ W.cell? ⟨C, 2, none⟩ = some (.int .i64 ((g : Int) + 1)) ∧ W.cell? ⟨C, 3, none⟩ = some (.int .i64 (d : Int)) ∧ Hid (Kp W1 W)) := fun W k => ⟨bl_cell (bl_kp A1.out k) 3 _ rfl, (CB1.out.kp k).cells.2.2.1, (CB1.out.kp k).cells.2.2.2, k⟩
   refine wp_region_noPanic ?_
   refine hdrew MK Q0 (fun hH => ?_)
   have KQ := Q0
   refine tk 0 (some 13) (Op.fieldAddr 27 (Operand.tmp 3) 3) 0 (v := ?v0c1) rfl ?h0c1 hH ?_
   case h0c1 => intro _ _; go_simp; try with_reducible rfl
   try simp only [ps]
   refine tk 1 (some 14) (Op.load 3 (Operand.tmp 13)) 3 (v := ?v1c2) rfl ?h1c2 hH ?_
   case h1c2 => intro _ _; go_simp; try with_reducible rfl
   try simp only [ps]
   refine tk 2 (some 15) (Op.move (Operand.tmp 0)) 152 (v := ?v2c3) rfl ?h2c3 hH ?_
   case h2c3 => intro _ _; go_simp; try with_reducible rfl
   try simp only [ps]
   refine tk 3 (some 16) (Op.nilCheck (Operand.tmp 15)) 0 (v := ?v3c4) rfl ?h3c4 hH ?_
   case h3c4 => intro _ _; go_simp; try with_reducible rfl
   try simp only [ps]
   refine tk 4 (some 17) (Op.fieldAddr 120 (Operand.tmp 16) 2) 0 (v := ?v4c5) rfl ?h4c5 hH ?_
   case h4c5 => intro _ _; go_simp; try with_reducible rfl
   try simp only [ps]
   refine tk 5 (some 18) (Op.load 3 (Operand.tmp 17)) 3 (v := ?v5c6) rfl ?h5c6 hH ?_
   case h5c6 => intro _ _; go_simp; try with_reducible rfl
   try simp only [ps]
   refine tk 6 (some 19) (Op.binOp BinOp.neq 3 (Operand.tmp 14) (Operand.tmp 18) 3) 4 (v := ?v6c7) rfl ?h6c7 hH ?_
   case h6c7 => intro _ _; go_simp; try with_reducible rfl
   try simp only [ps]
   refine tk 7 (some 20) (Op.move (Operand.tmp 19)) 4 (v := ?v7c8) rfl ?h7c8 hH ?_
   case h7c8 => intro _ _; go_simp; try with_reducible rfl
   try simp only [ps]
   refine tk 8 (some 21) (Op.move (Operand.tmp 0)) 152 (v := ?v8c9) rfl ?h8c9 hH ?_
   case h8c9 => intro _ _; go_simp; try with_reducible rfl
   try simp only [ps]
   refine tk 9 (some 22) (Op.nilCheck (Operand.tmp 21)) 0 (v := ?v9c10) rfl ?h9c10 hH ?_
   case h9c10 => intro _ _; go_simp; try with_reducible rfl
   try simp only [ps]
   refine tk 10 (some 23) (Op.fieldAddr 120 (Operand.tmp 22) 2) 0 (v := ?v10c11) rfl ?h10c11 hH ?_
   case h10c11 => intro _ _; go_simp; try with_reducible rfl
   try simp only [ps]
   refine tk 11 (some 24) (Op.load 3 (Operand.tmp 23)) 3 (v := ?v11c12) rfl ?h11c12 hH ?_
   case h11c12 => intro _ _; go_simp; try with_reducible rfl
   try simp only [ps]
   refine tk 12 (some 25) (Op.binOp BinOp.gtr 3 (Operand.tmp 24) (Operand.const (Value.int IntKind.i64 3)) 3) 4 (v := ?v12c13) rfl ?h12c13 hH ?_
   case h12c13 => intro _ _; go_simp; try with_reducible rfl
   try simp only [ps]
   refine tk 13 (some 26) (Op.pick (Operand.tmp 20) (Operand.const (Value.bool true)) (Operand.tmp 25)) 4 (v := ?v13c14) rfl ?h13c14 hH ?_
   case h13c14 => intro _ _; go_simp; try with_reducible rfl
   try simp only [ps]
   refine tk 14 (some 27) (Op.move (Operand.tmp 26)) 4 (v := ?v14c15) rfl ?h14c15 hH ?_
   case h14c15 => intro _ _; go_simp; try with_reducible rfl
   try simp only [ps]
   refine tk 15 (some 28) (Op.move (Operand.tmp 0)) 152 (v := ?v15c16) rfl ?h15c16 hH ?_
   case h15c16 => intro _ _; go_simp; try with_reducible rfl
   try simp only [ps]
   refine tk 16 (some 29) (Op.nilCheck (Operand.tmp 28)) 0 (v := ?v16c17) rfl ?h16c17 hH ?_
   case h16c17 => intro _ _; go_simp; try with_reducible rfl
   try simp only [ps]
   refine tk 17 (some 30) (Op.fieldAddr 120 (Operand.tmp 29) 3) 0 (v := ?v17c18) rfl ?h17c18 hH ?_
   case h17c18 => intro _ _; go_simp; try with_reducible rfl
   try simp only [ps]
   refine tk 18 (some 31) (Op.load 3 (Operand.tmp 30)) 3 (v := ?v18c19) rfl ?h18c19 hH ?_
   case h18c19 => intro _ _; go_simp; try with_reducible rfl
   try simp only [ps]
   refine tk 19 (some 32) (Op.binOp BinOp.eql 3 (Operand.tmp 31) (Operand.const (Value.int IntKind.i64 6)) 3) 4 (v := ?v19c20) rfl ?h19c20 hH ?_
   case h19c20 => intro _ _; go_simp; try with_reducible rfl
   try simp only [ps]
   refine tk 20 (some 33) (Op.pick (Operand.tmp 27) (Operand.const (Value.bool true)) (Operand.tmp 32)) 4 (v := ?v20c21) rfl ?h20c21 hH ?_
   case h20c21 => intro _ _; go_simp; try with_reducible rfl
   try simp only [ps]
   refine wpAnyH_done (by kernel_rfl) ?_ _
   refine NoPanic.normal ?_
   go_wp2_with fail
   go_meet
   case rel => exact ⟨rfl, KQ⟩
  case rest =>
   obtain ⟨rfl, k2⟩ := hcut
   rename World => W2
   have hC1 := CB1.out.lt
   have CB2 := hid (CB1.out.kp k2)
   have A2 := hid (bl_kp A1.out k2)
   have KS2 := hid (KS1.out.kpt' k2 hC1)
   have I2 := hid (I0.out.kp k2)
   have CE2 := hid (CEk.out.turn (k2.block _ (Nat.lt_of_lt_of_le hbb KS1.out.size)))
   clear k2 CB1 A1 KS1 I0 CEk
   have c3 := CB2.out.cells.2.2.2
   have f3 := bl_frozen CB2.out 3
   have hC2 := CB2.out.lt
   go_upto_region 5 with fail
   clear c3 f3
   refine opq (fun W3 => W3.heap[w.heap.size]? = some (rxo k mn mx m t (.slice (some ⟨bb, oo, none⟩) 1 c)) ∧ Cb W3 C ere n (g + 1) (d + 1) ∧ Ks C w W3 ∧ Is W3 ok r (rxv kk mn' mx' mm' tt' (.slice ad' ll' cc')) ∧ CellsAt W3 bb oo (rxv kk mn' mx' mm' tt' (.slice ad' ll' cc'))) ⟨by exact bl_set A2.out (by omega) _, by exact CB2.out.deep (d + 1), by exact KS2.out.set 3 _, by exact I2.out.ks ((Ks.refl _ _).set 3 _) (fun x hx _ => HOK.out x hx), by exact CE2.out.turn (((Ks.refl C W2).set 3 _).block _ (Nat.lt_of_lt_of_le hbb KS2.out.size) hbC.out)⟩ ?_
   rintro W3 ⟨xA3, xCB3, xKS3, xI3, xCE3⟩
   have A3 := hid xA3
   have CB3 := hid xCB3
   have KS3 := hid xKS3
   have I3 := hid xI3
   have CE3 := hid xCE3
   clear xA3 xCB3 xKS3 xI3 xCE3
   clear A2 CB2 KS2 I2 CE2
   obtain ⟨a0, a1, a2, a3, a4, a5, a6, a7, a8⟩ := cells9 (A3.out)
   obtain ⟨x0, x1, x2, x3, x4, x5, x6, x7, x8⟩ := cells_of_is CE3.out
   go_wp2_with fail
   clear x0 x1 x2 x3 x4 x5 x6 x7 x8 a0 a1 a2 a3 a4 a5 a6 a7 a8
   refine (HH.out.all C ok _ true true n (g + 1) (d + 1) _ I3.out HOK.out CB3.out hn (by omega) (by omega)).mono ?_
   intro e W4 hcd
   rcases hcd.form with ⟨⟨c2, g2, d2⟩, ho2, rfl, hcb2, hks2⟩ | ⟨ho2, rfl, ⟨n2, g2', d2, hcb2, b1, b2, b3, b4⟩, hks2⟩
   ·
    have hck := chk_ok ere r true true ⟨n, g + 1, d + 1⟩ ⟨c2, g2, d2⟩ hn (by show g + 1 ≤ n; omega) ho2
    have b1 : c2 ≤ 40 := hck.1.n
    have b2 : g2 ≤ c2 := hck.1.g
    have b3 : d2 = d + 1 := hck.1.d
    subst b3
    have E : Hid (o = some ⟨c2, g2, d⟩) := by show _ = _; rw [← E0.out, chkGroup, ho2]; rfl
    have CB4 : Hid (Cb W4 C ere c2 g2 (d + 1)) := hcb2
    have KS4 := hid (KS3.out.trans hks2)
    have gd1 : IntKind.i64.wrap ((d : Int) + 1 - 1) = (d : Int) := by rw [IntKind.wrap_i64]; omega
    have gd2 : IntKind.i64.wrap (d : Int) = (d : Int) := by rw [IntKind.wrap_i64]; omega
    clear hcd ho2 hcb2 hks2 hck
    have c3 := CB4.out.cells.2.2.2
    have f3 := bl_frozen CB4.out 3
    go_wp2_with fail
    go_ret
    exact Ckd.yes E.out (CB4.out.deep d) (by omega) (by omega) (by omega) (Nat.le_refl _) (KS4.out.set 3 _)
   ·
    have E : Hid (o = none) := by show _ = _; rw [← E0.out, chkGroup, ho2]
    have CB4 : Hid (Cb W4 C ere n2 g2' d2) := hcb2
    have KS4 := hid (KS3.out.trans hks2)
    obtain ⟨d3, rfl⟩ : ∃ d3, d2 = d3 + 1 := ⟨d2 - 1, by omega⟩
    have gd1 : IntKind.i64.wrap ((d3 : Int) + 1 - 1) = (d3 : Int) := by rw [IntKind.wrap_i64]; omega
    have gd2 : IntKind.i64.wrap (d3 : Int) = (d3 : Int) := by rw [IntKind.wrap_i64]; omega
    clear hcd ho2 hcb2 hks2
    have c3 := CB4.out.cells.2.2.2
    have f3 := bl_frozen CB4.out 3
    go_wp2_with fail
    go_ret
    exact Ckd.no E.out (CB4.out.deep d3) b1 b2 (by omega) (by omega) (KS4.out.set 3 _)
 ·
  have n1 : (m != (g : Int) + 1) = true := by simp; omega
  have E : Hid (o = none) := by show _ = _; rw [← HO.out, if_pos (Or.inl h1)]
  go_cut [33] (fun v wc => v = .bool true ∧ Kp W1 wc)
  case first =>
   have Q0 : Kp W1 W1.drew := (Kp.refl _).drew
   have MK : Hid (∀ W, Kp W1 W → W.cell? ⟨w.heap.size, 3, none⟩ = some (.int .i64 m) ∧ W.cell? ⟨C, 2, none⟩ = some (.int .i64 ((g : Int) + 1)) ∧ W.cell? ⟨C, 3, none⟩ = some (.int .i64 (d : Int)) ∧ Hid (Kp W1 W)) := fun W k => ⟨bl_cell (bl_kp A1.out k) 3 _ rfl, (CB1.out.kp k).cells.2.2.1, (CB1.out.kp k).cells.2.2.2, k⟩
   refine wp_region_noPanic ?_
   refine hdrew MK Q0 (fun hH => ?_)
   have KQ := Q0
   refine tk 0 (some 13) (Op.fieldAddr 27 (Operand.tmp 3) 3) 0 (v := ?v0d1) rfl ?h0d1 hH ?_
   case h0d1 => intro _ _; go_simp; try with_reducible rfl
   try simp only [ps]
   refine tk 1 (some 14) (Op.load 3 (Operand.tmp 13)) 3 (v := ?v1d2) rfl ?h1d2 hH ?_
   case h1d2 => intro _ _; go_simp; try with_reducible rfl
   try simp only [ps]
   refine tk 2 (some 15) (Op.move (Operand.tmp 0)) 152 (v := ?v2d3) rfl ?h2d3 hH ?_
   case h2d3 => intro _ _; go_simp; try with_reducible rfl
   try simp only [ps]
   refine tk 3 (some 16) (Op.nilCheck (Operand.tmp 15)) 0 (v := ?v3d4) rfl ?h3d4 hH ?_
   case h3d4 => intro _ _; go_simp; try with_reducible rfl
   try simp only [ps]
   refine tk 4 (some 17) (Op.fieldAddr 120 (Operand.tmp 16) 2) 0 (v := ?v4d5) rfl ?h4d5 hH ?_
   case h4d5 => intro _ _; go_simp; try with_reducible rfl
   try simp only [ps]
   refine tk 5 (some 18) (Op.load 3 (Operand.tmp 17)) 3 (v := ?v5d6) rfl ?h5d6 hH ?_
   case h5d6 => intro _ _; go_simp; try with_reducible rfl
   try simp only [ps]
   refine tk 6 (some 19) (Op.binOp BinOp.neq 3 (Operand.tmp 14) (Operand.tmp 18) 3) 4 (v := ?v6d7) rfl ?h6d7 hH ?_
   case h6d7 => intro _ _; go_simp; try with_reducible rfl
   try simp only [ps]
   refine tk 7 (some 20) (Op.move (Operand.tmp 19)) 4 (v := ?v7d8) rfl ?h7d8 hH ?_
   case h7d8 => intro _ _; go_simp; try with_reducible rfl
   try simp only [ps]
   refine tn 8 (some 21) (Op.move (Operand.tmp 0)) 152 rfl hH ?_
   try simp only [ps]
   refine tn 9 (some 22) (Op.nilCheck (Operand.tmp 21)) 0 rfl hH ?_
   try simp only [ps]
   refine tn 10 (some 23) (Op.fieldAddr 120 (Operand.tmp 22) 2) 0 rfl hH ?_
   try simp only [ps]
   refine tn 11 (some 24) (Op.load 3 (Operand.tmp 23)) 3 rfl hH ?_
   try simp only [ps]
   refine tn 12 (some 25) (Op.binOp BinOp.gtr 3 (Operand.tmp 24) (Operand.const (Value.int IntKind.i64 3)) 3) 4 rfl hH ?_
   try simp only [ps]
   refine tk 13 (some 26) (Op.pick (Operand.tmp 20) (Operand.const (Value.bool true)) (Operand.tmp 25)) 4 (v := ?v13d14) rfl ?h13d14 hH ?_
   case h13d14 => intro _ _; go_simp; try with_reducible rfl
   try simp only [ps]
   refine tk 14 (some 27) (Op.move (Operand.tmp 26)) 4 (v := ?v14d15) rfl ?h14d15 hH ?_
   case h14d15 => intro _ _; go_simp; try with_reducible rfl
   try simp only [ps]
   refine tn 15 (some 28) (Op.move (Operand.tmp 0)) 152 rfl hH ?_
   try simp only [ps]
   refine tn 16 (some 29) (Op.nilCheck (Operand.tmp 28)) 0 rfl hH ?_
   try simp only [ps]
   refine tn 17 (some 30) (Op.fieldAddr 120 (Operand.tmp 29) 3) 0 rfl hH ?_
   try simp only [ps]
   refine tn 18 (some 31) (Op.load 3 (Operand.tmp 30)) 3 rfl hH ?_
   try simp only [ps]
   refine tn 19 (some 32) (Op.binOp BinOp.eql 3 (Operand.tmp 31) (Operand.const (Value.int IntKind.i64 6)) 3) 4 rfl hH ?_
   try simp only [ps]
   refine tk 20 (some 33) (Op.pick (Operand.tmp 27) (Operand.const (Value.bool true)) (Operand.tmp 32)) 4 (v := ?v20d21) rfl ?h20d21 hH ?_
   case h20d21 => intro _ _; go_simp; try with_reducible rfl
   try simp only [ps]
   refine wpAnyH_done (by kernel_rfl) ?_ _
   refine NoPanic.normal ?_
   go_wp2_with fail
   go_meet
   case rel => exact ⟨rfl, KQ⟩
  case rest =>
   obtain ⟨rfl, k2⟩ := hcut
   rename World => W2
   have hC1 := CB1.out.lt
   have CB2 := hid (CB1.out.kp k2)
   have A2 := hid (bl_kp A1.out k2)
   have KS2 := hid (KS1.out.kpt' k2 hC1)
   have I2 := hid (I0.out.kp k2)
   have CE2 := hid (CEk.out.turn (k2.block _ (Nat.lt_of_lt_of_le hbb KS1.out.size)))
   clear k2 CB1 A1 KS1 I0 CEk
   go_wp2_with fail
   go_ret
   exact Ckd.no E.out CB2.out (by omega) (by omega) (by omega) (Nat.le_refl _) KS2.out
end Go.Proofs.YtnajcnhgeggngaaGreat

/-! ### Right4 -/

namespace Go.Proofs.YtnajcnhgeggngaaGreat
open Go.RowKit

theorem chkAlt_cons (ere : Bool) (r : Rx) (rs : List Rx) (c : Ck) : chkAlt ere (r :: rs) c = if r.k = 3 then none else (chk ere r false false c).bind fun c' => chkAlt ere rs c' := by
 rw [chkAlt]
 split
 ·
  rfl
 ·
  cases chk ere r false false c <;> rfl

structure NotD (C : Nat) (ere : Bool) (d0 : Nat) (o : Option Ck) (w : World) (e : Ending) (w' : World) : Prop where
 ex : ∃ b, e = .returned (.bool (!b)) ∧ Ckd C ere d0 o w (.returned (.bool b)) w'
theorem Ckd.from {C : Nat} {ere : Bool} {d0 : Nat} {o : Option Ck} {w w1 w' : World} {e : Ending} (h : Ckd C ere d0 o w1 e w') (k : Ks C w w1) : Ckd C ere d0 o w e w' := by
 obtain ⟨b, h1, h2, h3, h4⟩ := h.ex
 exact ⟨b, h1, h2, h3, k.trans h4⟩

theorem alt1_any (ere : Bool) (r : Rx) (H : RightSaid ere r) (C V : Nat) (ok : Nat → Prop) (k mn mx m : Int) (t : W4) (ad : Option Addr) (l c : Nat) (n g d : Nat) (w : World) (hI : Is w ok r (rxv k mn mx m t (.slice ad l c))) (hok : ∀ x, ok x → x ≠ C) (hc : Cb w C ere n g d) (hV : w.heap[V]? = some (.cells #[.pointer (some ⟨C, 0, none⟩)] 152)) (hn : n ≤ 40) (hg : g ≤ n) (hd : d ≤ 6) :
  Calls Tryz.prog 104 #[rxv k mn mx m t (.slice ad l c), .pointer (some ⟨V, 0, none⟩)] w fun e w' => NotD C ere d (if k = 3 then none else chk ere r false false ⟨n, g, d⟩) w e w' := by
 have HI := hid hI
 have HOK := hid hok
 have HC := hid hc
 have HV := hid hV
 have hCw := hc.lt
 have HH := hid H
 clear hI hok hc hV H
 go_enter Tryz.func104, Tryz.ntmps104
 go_upto_region 1 with fail
 refine opq (fun W0 => W0.heap[w.heap.size]? = some (rxo k mn mx m t (.slice ad l c)) ∧ Cb W0 C ere n g d ∧ W0.heap[V]? = some (.cells #[.pointer (some ⟨C, 0, none⟩)] 152) ∧ Is W0 ok r (rxv k mn mx m t (.slice ad l c)) ∧ Ks C w W0) ⟨by (first | exact last_at _ _ _ (by simp) | (refine bl_alloc ?_ _; first | exact last_at _ _ _ (by simp) | (refine bl_alloc ?_ _; first | exact last_at _ _ _ (by simp) | (refine bl_alloc ?_ _; exact last_at _ _ _ (by simp))))), by exact HC.out.kp kpt, by exact bl_kp HV.out kpt, by exact HI.out.kp kpt, by exact Kp.ks kpt (Nat.le_of_lt hCw)⟩ ?_
 rintro W0 ⟨xA0, xCB0, xV0, xI0, xKS0⟩
 have A0 := hid xA0
 have CB0 := hid xCB0
 have V0 := hid xV0
 have I0 := hid xI0
 have KS0 := hid xKS0
 clear xA0 xCB0 xV0 xI0 xKS0
 obtain ⟨a0, a1, a2, a3, a4, a5, a6, a7, a8⟩ := cells9 (A0.out)
 have v0 := bl_cell V0.out 0 _ rfl
 by_cases h3 : k = 3
 ·
  subst h3
  go_wp2_with fail
  go_ret
  exact ⟨false, rfl, Ckd.no rfl CB0.out (by omega) (by omega) (by omega) (Nat.le_refl _) KS0.out⟩
 have g3 : (k == 3) = false := by simp [h3]
 go_wp2_with fail
 clear a0 a1 a2 a3 a4 a5 a6 a7 a8 v0
 refine (HH.out.all C ok _ false false n g d _ I0.out HOK.out CB0.out hn hg hd).mono ?_
 intro e W2 hcd
 obtain ⟨b, rfl, hb⟩ : ∃ b, e = .returned (.bool b) ∧ True := by
  obtain ⟨b, h1, _⟩ := hcd.ex
  exact ⟨b, h1, trivial⟩
 have CD := hid (hcd.from KS0.out)
 clear hcd hb
 go_wp2_with fail
 go_ret
 exact ⟨b, rfl, CD.out⟩

structure Aw (ere : Bool) (C V : Nat) (d0 : Nat) (w : World) (ts : List Rx) (o : Option Ck) (k : Nat) (wr : World) (c : Ck) : Prop where
 cb : Cb wr C ere c.n c.g c.d
 v : wr.heap[V]? = some (.cells #[.pointer (some ⟨C, 0, none⟩)] 152)
 n : c.n ≤ 40
 g : c.g ≤ c.n
 d : c.d = d0
 eq : chkAlt ere (ts.drop k) c = o
 ks : Ks C w wr
structure IdxD (C : Nat) (ere : Bool) (d0 : Nat) (o : Option Ck) (w : World) (e : Ending) (w' : World) : Prop where
 ex : ∃ (i : Int) (b : Bool), e = .returned (.int .i64 i) ∧ decide (0 ≤ i) = !b ∧ Ckd C ere d0 o w (.returned (.bool b)) w'

theorem indexFunc_any (ere : Bool) (ts : List Rx) (H : ∀ r, r ∈ ts → RightSaid ere r) (C V : Nat) (ok : Nat → Prop) (ad : Option Addr) (l c : Nat) (n g d : Nat) (w : World) (hr : RowAt w ok ts ad l c) (hok : ∀ x, ok x → x ≠ C) (hc : Cb w C ere n g d) (hV : w.heap[V]? = some (.cells #[.pointer (some ⟨C, 0, none⟩)] 152)) (hVC : V ≠ C) (hn : n ≤ 40) (hg : g ≤ n) (hd : d ≤ 6) (hl : ts.length ≤ 1000000) :
  Calls Tryz.prog 124 #[.slice ad l c, .func (.func 104) #[] #[.pointer (some ⟨V, 0, none⟩)]] w fun e w' => IdxD C ere d (chkAlt ere ts ⟨n, g, d⟩) w e w' := by
 have hle := hr.ln
 have hlc := hr.cp
 subst hle
 obtain ⟨L, hL⟩ : ∃ L, ts.length = L := ⟨_, rfl⟩
 rw [hL] at hr hlc hl ⊢
 have HL := hid hL
 have RR := hid hr
 have HC := hid hc
 have HV := hid hV
 have HH := hid H
 have HOK := hid hok
 clear hL hr hc H hok hV
 obtain ⟨o, ho⟩ : ∃ o, chkAlt ere ts ⟨n, g, d⟩ = o := ⟨_, rfl⟩
 rw [ho]
 have HO := hid ho
 clear ho
 go_enter Tryz.func124, Tryz.ntmps124
 go_wp2_with fail
 go_loopg [8] L (fun gg v wr => ∃ (k : Nat) (c : Ck), k + gg = L ∧ v = .int .i64 (k : Int) ∧ Aw ere C V d w ts o k wr c)
 case atStart => exact ⟨0, ⟨n, g, d⟩, by omega, rfl, HC.out, HV.out, hn, hg, rfl, HO.out, Ks.refl _ _⟩
 case round =>
  obtain ⟨k, ⟨n1, g1, d1⟩, hk, rfl, hw⟩ := hrel
  have KW := hid hw
  have hn1 : n1 ≤ 40 := hw.n
  have hg1 : g1 ≤ n1 := hw.g
  have hd1 : d1 = d := hw.d
  subst hd1
  clear hw
  by_cases hlt : k < L
  ·
   have gkw : IntKind.i64.wrap ((k : Int) + 1) = (k : Int) + 1 := by rw [IntKind.wrap_i64]; omega
   have ga : (k : Int) < (L : Int) := by omega
   have g0 : (0 : Int) ≤ (k : Int) := by omega
   obtain ⟨r, hr⟩ : ∃ r, ts[k]? = some r := ⟨_, List.getElem?_eq_getElem (by rw [HL.out]; exact hlt)⟩
   have hdrop : ts.drop k = r :: ts.drop (k + 1) := List.drop_eq_getElem_cons (by rw [HL.out]; exact hlt) ▸ by
    have := (List.getElem?_eq_some_iff.1 hr).2
    rw [this]
   have RW := hid (RR.out.ks KW.out.ks HOK.out)
   obtain ⟨bb, oo, kk, mn, mx, mm, tt, ad', ll, cc, e1, hbb, i1, ce1⟩ := RW.out.at k r hr
   subst e1
   have RS := hid (HH.out r (List.mem_of_getElem? hr))
   have hkk : r.k = kk := i1.kind'
   have I1 := hid i1
   have CE1 := hid ce1
   have E0 : Hid (o = if kk = 3 then none else (chk ere r false false ⟨n1, g1, d1⟩).bind fun c' => chkAlt ere (ts.drop (k + 1)) c') := by
    show _ = _
    rw [← KW.out.eq, hdrop, chkAlt_cons, hkk]
   clear hr i1 ce1 hkk hdrop
   obtain ⟨x0, x1, x2, x3, x4, x5, x6, x7, x8⟩ := cells_of_is CE1.out
   go_wp2_with fail
   clear x0 x1 x2 x3 x4 x5 x6 x7 x8
   refine (alt1_any ere r RS.out C V ok kk mn mx mm tt ad' ll cc n1 g1 d1 _ I1.out HOK.out KW.out.cb KW.out.v hn1 hg1 hd).mono ?_
   intro e W2 hnd
   obtain ⟨b, rfl, hcd⟩ := hnd.ex
   clear hnd
   rcases hcd.form with ⟨c2, ho2, hb, hcb2, hks2⟩ | ⟨ho2, hb, ⟨n2, g2', d2, hcb2, b1, b2, b3, b4⟩, hks2⟩
   ·
    have hb' : b = true := by injection hb with hb; injection hb
    subst hb'
    have h3 : ¬ kk = 3 := by intro h; rw [if_pos h] at ho2; cases ho2
    rw [if_neg h3] at ho2
    have hck := chk_ok ere r false false ⟨n1, g1, d1⟩ c2 hn1 hg1 ho2
    have CB2 := hid hcb2
    have V2 := hid (bl_ks KW.out.v hVC hks2)
    have KS2 := hid (KW.out.ks.trans hks2)
    have E2 : Hid (chkAlt ere (ts.drop (k + 1)) c2 = o) := by show _ = _; rw [E0.out, if_neg h3, ho2]; rfl
    have b1 : c2.n ≤ 40 := hck.1.n
    have b2 : c2.g ≤ c2.n := hck.1.g
    have b3 : c2.d = d1 := hck.1.d
    have B3 := hid b3
    clear b3 hcd hcb2 hks2 ho2 hck hb
    go_wp2_with fail
    go_roundg (gk - 1)
    case measure => omega
    case rel => exact ⟨k + 1, c2, by omega, by go_num, CB2.out, V2.out, b1, b2, B3.out, E2.out, KS2.out⟩
   ·
    have hb' : b = false := by injection hb with hb; injection hb
    subst hb'
    have CB2 := hid hcb2
    have KS2 := hid (KW.out.ks.trans hks2)
    have E : Hid (o = none) := by
     show _ = _
     rw [E0.out]
     by_cases h3 : kk = 3
     ·
      rw [if_pos h3]
     ·
      rw [if_neg h3] at ho2 ⊢; rw [ho2]; rfl
    clear hcd hcb2 hks2 ho2 hb
    go_wp2_with fail
    go_ret
    exact ⟨(k : Int), false, rfl, by simp, Ckd.no E.out CB2.out b1 b2 b3 b4 KS2.out⟩
  ·
   have ga : ¬ (k : Int) < (L : Int) := by omega
   have E : Hid (o = some ⟨n1, g1, d1⟩) := by
    have := KW.out.eq
    rw [List.drop_eq_nil_of_le (by rw [HL.out]; omega)] at this
    unfold chkAlt at this
    exact this.symm
   go_wp2
   go_ret
   exact ⟨-1, true, rfl, by decide, Ckd.yes E.out KW.out.cb (by omega) (by omega) (by omega) (Nat.le_refl _) KW.out.ks⟩

theorem containsFunc_any (ere : Bool) (ts : List Rx) (H : ∀ r, r ∈ ts → RightSaid ere r) (C V : Nat) (ok : Nat → Prop) (ad : Option Addr) (l c : Nat) (n g d : Nat) (w : World) (hr : RowAt w ok ts ad l c) (hok : ∀ x, ok x → x ≠ C) (hc : Cb w C ere n g d) (hV : w.heap[V]? = some (.cells #[.pointer (some ⟨C, 0, none⟩)] 152)) (hVC : V ≠ C) (hn : n ≤ 40) (hg : g ≤ n) (hd : d ≤ 6) (hl : ts.length ≤ 1000000) :
  Calls Tryz.prog 103 #[.slice ad l c, .func (.func 104) #[] #[.pointer (some ⟨V, 0, none⟩)]] w fun e w' => NotD C ere d (chkAlt ere ts ⟨n, g, d⟩) w e w' := by
 have IX := hid (indexFunc_any ere ts H C V ok ad l c n g d w hr hok hc hV hVC hn hg hd hl)
 clear hr hok hc hV H
 go_enter Tryz.func103, Tryz.ntmps103
 go_wp2_with fail
 refine IX.out.mono ?_
 intro e W1 hx
 obtain ⟨i, b, rfl, hi, hcd⟩ := hx.ex
 have CD := hid hcd
 have HI := hid hi
 clear hx hcd hi IX
 go_wp2_with fail
 go_ret
 exact ⟨b, by rw [← HI.out]; rfl, CD.out⟩

theorem alt_any (ere : Bool) (ts : List Rx) (H : ∀ r, r ∈ ts → RightSaid ere r) (C : Nat) (ok : Nat → Prop) (ad : Option Addr) (l c : Nat) (n g d : Nat) (w : World) (hr : RowAt w ok ts ad l c) (hok : ∀ x, ok x → x ≠ C) (hc : Cb w C ere n g d) (hn : n ≤ 40) (hg : g ≤ n) (hd : d ≤ 6) (hl : ts.length ≤ 1000000) :
  Calls Tryz.prog 74 #[.pointer (some ⟨C, 0, none⟩), .slice ad l c] w fun e w' => Ckd C ere d (chkAlt ere ts ⟨n, g, d⟩) w e w' := by
 have RR := hid hr
 have HC := hid hc
 have HOK := hid hok
 have HH := hid H
 have hCw := hc.lt
 clear hr hc hok H
 go_enter Tryz.func74, Tryz.ntmps74
 go_upto_region 1 with fail
 refine opq (fun W0 => W0.heap[w.heap.size]? = some (.cells #[.pointer (some ⟨C, 0, none⟩)] 152) ∧ Cb W0 C ere n g d ∧ RowAt W0 ok ts ad l c ∧ Ks C w W0) ⟨by (first | exact last_at _ _ _ (by simp) | (refine bl_alloc ?_ _; first | exact last_at _ _ _ (by simp) | (refine bl_alloc ?_ _; first | exact last_at _ _ _ (by simp) | (refine bl_alloc ?_ _; exact last_at _ _ _ (by simp))))), by exact HC.out.kp kpt, by exact RR.out.kp kpt, by exact Kp.ks kpt (Nat.le_of_lt hCw)⟩ ?_
 rintro W0 ⟨xV0, xCB0, xR0, xKS0⟩
 have V0 := hid xV0
 have CB0 := hid xCB0
 have R0 := hid xR0
 have KS0 := hid xKS0
 clear xV0 xCB0 xR0 xKS0
 go_wp2_with fail
 refine (containsFunc_any ere ts HH.out C w.heap.size ok ad l c n g d _ R0.out HOK.out CB0.out V0.out (by omega) hn hg hd hl).mono ?_
 intro e W1 hnd
 obtain ⟨b, rfl, hcd⟩ := hnd.ex
 have CD := hid (hcd.from KS0.out)
 clear hnd hcd
 go_wp2_with fail
 go_ret
 cases b <;> exact CD.out
end Go.Proofs.YtnajcnhgeggngaaGreat

/-! ### Right5 -/

namespace Go.Proofs.YtnajcnhgeggngaaGreat
open Go.RowKit

theorem kidsFit_one {k : Int} {mn mx n : Int} {s : W4} {kids : List Rx} (h : leanB (.mk k mn mx n s kids) = true) (hk : k = 4 ∨ k = 5) : ∃ r, kids = [r] := by
 unfold leanB at h
 simp only [Bool.and_eq_true] at h
 have h2 := h.2
 unfold kidsFit at h2
 rw [if_neg (by omega), if_neg (by omega), if_pos hk] at h2
 exact List.length_eq_one_iff.1 (by simpa using h2)

theorem right_step (ere : Bool) (k mn mx m : Int) (t : W4) (kids : List Rx) (H : ∀ r, r ∈ kids → RightSaid ere r) (hl : kids.length ≤ 1000000) (hs : t.a < 18446744073709551616 ∧ t.b < 18446744073709551616 ∧ t.c < 18446744073709551616 ∧ t.d < 18446744073709551616) : RightSaid ere (.mk k mn mx m t kids) := by
 refine ⟨fun C ok v b e n g d w hI hok hc hn hg hd => ?_⟩
 obtain ⟨ad, l, c, rfl, hr⟩ := hI.row
 have RR := hid hr
 have hlen := hr.ln
 have HC := hid hc
 have HOK := hid hok
 have HH := hid H
 have hCw := hc.lt
 have LE := hid (fun w => lean_any k mn mx m t kids ad l c w hlen)
 have HSV : Hid (vv t.a t.b t.c t.d = sv (W4.bit t)) := vv_sv t.a t.b t.c t.d hs.1 hs.2.1 hs.2.2.1 hs.2.2.2
 clear hI hr hc hok H hlen
 obtain ⟨o, ho⟩ : ∃ o, chk ere (.mk k mn mx m t kids) b e ⟨n, g, d⟩ = o := ⟨_, rfl⟩
 rw [ho]
 unfold chk at ho
 obtain ⟨lb, hlb⟩ : ∃ lb, leanB (.mk k mn mx m t kids) = lb := ⟨_, rfl⟩
 rw [hlb] at ho LE
 have K1 : lb = true → (k = 4 ∨ k = 5) → ∃ r, kids = [r] := fun h hk => kidsFit_one (by rw [hlb, h]) hk
 have HK1 := hid K1
 have HO := hid ho
 clear hlb ho K1
 have gn : IntKind.i64.wrap ((n : Int) + 1) = (n : Int) + 1 := by rw [IntKind.wrap_i64]; omega
 go_enter Tryz.func48, Tryz.ntmps48
 go_upto_region 1 with fail
 refine opq (fun W0 => W0.heap[w.heap.size]? = some (rxo k mn mx m t (.slice ad l c)) ∧ W0.heap[(w.heap.size + 1)]? = some (.cells #[.bool b, .bool e] 123) ∧ Cb W0 C ere n g d ∧ Kp w W0) ⟨by (first | exact last_at _ _ _ (by simp) | (refine bl_alloc ?_ _; first | exact last_at _ _ _ (by simp) | (refine bl_alloc ?_ _; first | exact last_at _ _ _ (by simp) | (refine bl_alloc ?_ _; exact last_at _ _ _ (by simp))))), by (first | exact last_at _ _ _ (by simp) | (refine bl_alloc ?_ _; first | exact last_at _ _ _ (by simp) | (refine bl_alloc ?_ _; first | exact last_at _ _ _ (by simp) | (refine bl_alloc ?_ _; exact last_at _ _ _ (by simp))))), by exact HC.out.kp kpt, by exact kpt⟩ ?_
 rintro W0 ⟨xA0, xP0, xCB0, xK0⟩
 have A0 := hid xA0
 have P0 := hid xP0
 have CB0 := hid xCB0
 have K0 := hid xK0
 clear xA0 xP0 xCB0 xK0
 have c1 := CB0.out.cells.2.1
 have f1 := bl_frozen CB0.out 1
 go_upto_region 2 with fail
 clear c1 f1
 refine opq (fun W1 => W1.heap[w.heap.size]? = some (rxo k mn mx m t (.slice ad l c)) ∧ W1.heap[(w.heap.size + 1)]? = some (.cells #[.bool b, .bool e] 123) ∧ Cb W1 C ere (n + 1) g d ∧ Ks C w W1) ⟨by exact bl_set A0.out (by omega) _, by exact bl_set P0.out (by omega) _, by exact CB0.out.nodes (n + 1), by exact (K0.out.ks (Nat.le_of_lt hCw)).set 1 _⟩ ?_
 rintro W1 ⟨xA1, xP1, xCB1, xKS1⟩
 have A1 := hid xA1
 have P1 := hid xP1
 have CB1 := hid xCB1
 have KS1 := hid xKS1
 clear xA1 xP1 xCB1 xKS1
 clear A0 P0 CB0 K0
 have R1 := hid (RR.out.ks KS1.out HOK.out)
 obtain ⟨a0, a1, a2, a3, a4, a5, a6, a7, a8⟩ := cells9 (A1.out)
 have c1 := CB1.out.cells.2.1
 have hs1 := KS1.out.size
 by_cases h40 : n + 1 > 40
 ·
  have g40 : (40 : Int) < (n : Int) + 1 := by omega
  have E : Hid (o = none) := by show _ = _; rw [← HO.out, if_pos (Or.inl h40)]
  go_wp2_with fail
  go_ret
  exact Ckd.no E.out CB1.out (by omega) (by omega) (by omega) (Nat.le_refl _) KS1.out
 have g40 : ¬ (40 : Int) < (n : Int) + 1 := by omega
 go_wp2_with fail
 refine (LE.out _).mono ?_
 rintro ex W2 ⟨rfl, k2⟩
 have A2 := hid (bl_kp A1.out k2)
 have P2 := hid (bl_kp P1.out k2)
 have CB2 := hid (CB1.out.kp k2)
 have KS2 := hid (KS1.out.kpt' k2 CB1.out.lt)
 have R2 := hid (R1.out.kp k2)
 clear k2 A1 P1 CB1 KS1 R1 a0 a1 a2 a3 a4 a5 a6 a7 a8 c1
 cases lb with
 | false =>
  have E : Hid (o = none) := by show _ = _; rw [← HO.out, if_pos (Or.inr rfl)]
  go_wp2_with fail
  go_ret
  exact Ckd.no E.out CB2.out (by omega) (by omega) (by omega) (Nat.le_refl _) KS2.out
 | true =>
  obtain ⟨a0, a1, a2, a3, a4, a5, a6, a7, a8⟩ := cells9 (A2.out)
  have q0 := CB2.out.cells.1
  have q2 := CB2.out.cells.2.2.1
  have e0 := bl_cell P2.out 0 _ rfl
  have e1 := bl_cell P2.out 1 _ rfl
  by_cases k1 : k = 1
  ·
   subst k1
   have E0 : Hid (o = if cnt (W4.bit t) 256 > 0 then some ⟨n + 1, g, d⟩ else none) := by show _ = _; rw [← HO.out, if_neg (by simp; omega), if_pos rfl]
   have CN : Hid (∀ w, Calls Tryz.prog 72 #[vv t.a t.b t.c t.d] w fun e w' => e = .returned (.int .i64 (cnt (W4.bit t) 256 : Nat)) ∧ Kp w w') := fun w => by rw [HSV.out]; exact count_any _ w
   go_wp2_with fail
   clear a0 a1 a2 a3 a4 a5 a6 a7 a8 q0 q2 e0 e1
   refine (CN.out _).mono ?_
   rintro ex W3 ⟨rfl, k3⟩
   have CB3 := hid (CB2.out.kp k3)
   have KS3 := hid (KS2.out.kpt' k3 CB2.out.lt)
   clear k3
   by_cases h0 : cnt (W4.bit t) 256 > 0
   ·
    have E : Hid (o = some ⟨n + 1, g, d⟩) := by show _ = _; rw [E0.out, if_pos h0]
    have g0 : (0 : Int) < (cnt (W4.bit t) 256 : Int) := by omega
    go_wp2_with fail
    go_ret
    exact Ckd.yes E.out CB3.out (by omega) (by omega) (by omega) (Nat.le_refl _) KS3.out
   ·
    have E : Hid (o = none) := by show _ = _; rw [E0.out, if_neg h0]
    have g0 : ¬ (0 : Int) < (cnt (W4.bit t) 256 : Int) := by omega
    go_wp2_with fail
    go_ret
    exact Ckd.no E.out CB3.out (by omega) (by omega) (by omega) (Nat.le_refl _) KS3.out
  by_cases k2 : k = 2
  ·
   subst k2
   have E : Hid (o = chkCat ere kids true ⟨n + 1, g, d⟩) := by show _ = _; rw [← HO.out, if_neg (by simp; omega), if_neg (by omega), if_pos rfl]
   go_wp2_with fail
   clear a0 a1 a2 a3 a4 a5 a6 a7 a8 q0 q2 e0 e1
   refine (cat_any ere kids HH.out C ok ad l c (n + 1) g d _ R2.out HOK.out CB2.out (by omega) (by omega) hd hl).mono ?_
   intro ex W3 hcd
   obtain ⟨bq, rfl⟩ : ∃ bq, ex = .returned (.bool bq) := by obtain ⟨bq, h1, _⟩ := hcd.ex; exact ⟨bq, h1⟩
   have CD := hid (hcd.from KS2.out)
   clear hcd
   go_wp2_with fail
   go_ret
   rw [E.out]
   exact CD.out
  by_cases k3 : k = 3
  ·
   subst k3
   have E0 : Hid (o = if ere then chkAlt ere kids ⟨n + 1, g, d⟩ else none) := by show _ = _; rw [← HO.out, if_neg (by simp; omega), if_neg (by omega), if_neg (by omega), if_pos rfl]
   cases ere with
   | false =>
    have E : Hid (o = none) := by show _ = _; rw [E0.out]; rfl
    go_wp2_with fail
    go_ret
    exact Ckd.no E.out CB2.out (by omega) (by omega) (by omega) (Nat.le_refl _) KS2.out
   | true =>
    have E : Hid (o = chkAlt true kids ⟨n + 1, g, d⟩) := by show _ = _; rw [E0.out]; rfl
    go_wp2_with fail
    clear a0 a1 a2 a3 a4 a5 a6 a7 a8 q0 q2 e0 e1
    refine (alt_any true kids HH.out C ok ad l c (n + 1) g d _ R2.out HOK.out CB2.out (by omega) (by omega) hd hl).mono ?_
    intro ex W3 hcd
    obtain ⟨bq, rfl⟩ : ∃ bq, ex = .returned (.bool bq) := by obtain ⟨bq, h1, _⟩ := hcd.ex; exact ⟨bq, h1⟩
    have CD := hid (hcd.from KS2.out)
    clear hcd
    go_wp2_with fail
    go_ret
    rw [E.out]
    exact CD.out
  by_cases k4 : k = 4
  ·
   subst k4
   obtain ⟨r, rfl⟩ := HK1.out rfl (by omega)
   have E : Hid (o = if timesFit mn mx then chkRep ere [r] ⟨n + 1, g, d⟩ else none) := by show _ = _; rw [← HO.out, if_neg (by simp; omega), if_neg (by omega), if_neg (by omega), if_neg (by omega), if_pos rfl]
   go_wp2_with fail
   clear a0 a1 a2 a3 a4 a5 a6 a7 a8 q0 q2 e0 e1
   refine (rep_any ere r (HH.out r (by simp)) C ok 4 mn mx m t ad l c (n + 1) g d _ R2.out HOK.out CB2.out (by omega) (by omega) hd).mono ?_
   intro ex W3 hcd
   obtain ⟨bq, rfl⟩ : ∃ bq, ex = .returned (.bool bq) := by obtain ⟨bq, h1, _⟩ := hcd.ex; exact ⟨bq, h1⟩
   have CD := hid (hcd.from KS2.out)
   clear hcd
   go_wp2_with fail
   go_ret
   rw [E.out]
   exact CD.out
  by_cases k5 : k = 5
  ·
   subst k5
   obtain ⟨r, rfl⟩ := HK1.out rfl (by omega)
   have E : Hid (o = if m ≠ (g + 1 : Nat) ∨ g + 1 > 3 ∨ d = 6 then none else chkGroup ere [r] ⟨n + 1, g + 1, d + 1⟩) := by show _ = _; rw [← HO.out, if_neg (by simp; omega), if_neg (by omega), if_neg (by omega), if_neg (by omega), if_neg (by omega), if_pos rfl]
   go_wp2_with fail
   clear a0 a1 a2 a3 a4 a5 a6 a7 a8 q0 q2 e0 e1
   refine (cgroup_any ere r (HH.out r (by simp)) C ok 5 mn mx m t ad l c (n + 1) g d _ R2.out HOK.out CB2.out (by omega) (by omega) hd).mono ?_
   intro ex W3 hcd
   obtain ⟨bq, rfl⟩ : ∃ bq, ex = .returned (.bool bq) := by obtain ⟨bq, h1, _⟩ := hcd.ex; exact ⟨bq, h1⟩
   have CD := hid (hcd.from KS2.out)
   clear hcd
   go_wp2_with fail
   go_ret
   rw [E.out]
   exact CD.out
  by_cases k6 : k = 6
  ·
   subst k6
   have E0 : Hid (o = if 1 ≤ m ∧ m ≤ (g : Int) then some ⟨n + 1, g, d⟩ else none) := by show _ = _; rw [← HO.out, if_neg (by simp; omega), if_neg (by omega), if_neg (by omega), if_neg (by omega), if_neg (by omega), if_neg (by omega), if_pos rfl]
   by_cases m1 : 1 ≤ m
   ·
    by_cases m2 : m ≤ (g : Int)
    ·
     have E : Hid (o = some ⟨n + 1, g, d⟩) := by show _ = _; rw [E0.out, if_pos ⟨m1, m2⟩]
     go_upto_region 16 with fail
     clear a0 a1 a2 a3 a4 a5 a6 a7 a8 q0 q2 e0 e1
     have Q0 : Kp W2 W2.drew := (Kp.refl _).drew
     have MK : Hid (∀ W, Kp W2 W → W.cell? ⟨w.heap.size, 3, none⟩ = some (.int .i64 m) ∧ W.cell? ⟨C, 2, none⟩ = some (.int .i64 (g : Int)) ∧ Hid (Kp W2 W)) := fun W k => ⟨bl_cell (bl_kp A2.out k) 3 _ rfl, (CB2.out.kp k).cells.2.2.1, k⟩
     refine wp_region_noPanic ?_
     refine hdrew MK Q0 (fun hH => ?_)
     have KQ := Q0
     refine tk 0 (some 62) (Op.fieldAddr 27 (Operand.tmp 4) 3) 0 (v := ?v0a1) rfl ?h0a1 hH ?_
     case h0a1 => intro _ _; go_simp; try with_reducible rfl
     try simp only [ps]
     refine tk 1 (some 63) (Op.load 3 (Operand.tmp 62)) 3 (v := ?v1a2) rfl ?h1a2 hH ?_
     case h1a2 => intro _ _; go_simp; try with_reducible rfl
     try simp only [ps]
     refine tk 2 (some 64) (Op.binOp BinOp.leq 3 (Operand.const (Value.int IntKind.i64 1)) (Operand.tmp 63) 3) 4 (v := ?v2a3) rfl ?h2a3 hH ?_
     case h2a3 => intro _ _; go_simp; try with_reducible rfl
     try simp only [ps]
     refine tk 3 (some 65) (Op.move (Operand.tmp 64)) 4 (v := ?v3a4) rfl ?h3a4 hH ?_
     case h3a4 => intro _ _; go_simp; try with_reducible rfl
     try simp only [ps]
     refine tk 4 (some 66) (Op.fieldAddr 27 (Operand.tmp 4) 3) 0 (v := ?v4a5) rfl ?h4a5 hH ?_
     case h4a5 => intro _ _; go_simp; try with_reducible rfl
     try simp only [ps]
     refine tk 5 (some 67) (Op.load 3 (Operand.tmp 66)) 3 (v := ?v5a6) rfl ?h5a6 hH ?_
     case h5a6 => intro _ _; go_simp; try with_reducible rfl
     try simp only [ps]
     refine tk 6 (some 68) (Op.move (Operand.tmp 0)) 152 (v := ?v6a7) rfl ?h6a7 hH ?_
     case h6a7 => intro _ _; go_simp; try with_reducible rfl
     try simp only [ps]
     refine tk 7 (some 69) (Op.nilCheck (Operand.tmp 68)) 0 (v := ?v7a8) rfl ?h7a8 hH ?_
     case h7a8 => intro _ _; go_simp; try with_reducible rfl
     try simp only [ps]
     refine tk 8 (some 70) (Op.fieldAddr 120 (Operand.tmp 69) 2) 0 (v := ?v8a9) rfl ?h8a9 hH ?_
     case h8a9 => intro _ _; go_simp; try with_reducible rfl
     try simp only [ps]
     refine tk 9 (some 71) (Op.load 3 (Operand.tmp 70)) 3 (v := ?v9a10) rfl ?h9a10 hH ?_
     case h9a10 => intro _ _; go_simp; try with_reducible rfl
     try simp only [ps]
     refine tk 10 (some 72) (Op.binOp BinOp.leq 3 (Operand.tmp 67) (Operand.tmp 71) 3) 4 (v := ?v10a11) rfl ?h10a11 hH ?_
     case h10a11 => intro _ _; go_simp; try with_reducible rfl
     try simp only [ps]
     refine tk 11 (some 73) (Op.pick (Operand.tmp 65) (Operand.tmp 72) (Operand.const (Value.bool false))) 4 (v := ?v11a12) rfl ?h11a12 hH ?_
     case h11a12 => intro _ _; go_simp; try with_reducible rfl
     try simp only [ps]
     refine tk 12 (some 6) (Op.assign (Operand.tmp 73)) 4 (v := ?v12a13) rfl ?h12a13 hH ?_
     case h12a13 => intro _ _; go_simp; try with_reducible rfl
     try simp only [ps]
     refine wpAnyH_done (by kernel_rfl) ?_ _
     refine NoPanic.normal ?_
     go_wp2_with fail
     go_ret
     exact Ckd.yes E.out (CB2.out.kp KQ) (by omega) (by omega) (by omega) (Nat.le_refl _) (KS2.out.kpt' KQ CB2.out.lt)
    ·
     have E : Hid (o = none) := by show _ = _; rw [E0.out, if_neg (fun h => m2 h.2)]
     have m2d : decide (m ≤ (g : Int)) = false := decide_eq_false m2
     go_upto_region 16 with fail
     clear a0 a1 a2 a3 a4 a5 a6 a7 a8 q0 q2 e0 e1
     have Q0 : Kp W2 W2.drew := (Kp.refl _).drew
     have MK : Hid (∀ W, Kp W2 W → W.cell? ⟨w.heap.size, 3, none⟩ = some (.int .i64 m) ∧ W.cell? ⟨C, 2, none⟩ = some (.int .i64 (g : Int)) ∧ Hid (Kp W2 W)) := fun W k => ⟨bl_cell (bl_kp A2.out k) 3 _ rfl, (CB2.out.kp k).cells.2.2.1, k⟩
     refine wp_region_noPanic ?_
     refine hdrew MK Q0 (fun hH => ?_)
     have KQ := Q0
     refine tk 0 (some 62) (Op.fieldAddr 27 (Operand.tmp 4) 3) 0 (v := ?v0b1) rfl ?h0b1 hH ?_
     case h0b1 => intro _ _; go_simp; try with_reducible rfl
     try simp only [ps]
     refine tk 1 (some 63) (Op.load 3 (Operand.tmp 62)) 3 (v := ?v1b2) rfl ?h1b2 hH ?_
     case h1b2 => intro _ _; go_simp; try with_reducible rfl
     try simp only [ps]
     refine tk 2 (some 64) (Op.binOp BinOp.leq 3 (Operand.const (Value.int IntKind.i64 1)) (Operand.tmp 63) 3) 4 (v := ?v2b3) rfl ?h2b3 hH ?_
     case h2b3 => intro _ _; go_simp; try with_reducible rfl
     try simp only [ps]
     refine tk 3 (some 65) (Op.move (Operand.tmp 64)) 4 (v := ?v3b4) rfl ?h3b4 hH ?_
     case h3b4 => intro _ _; go_simp; try with_reducible rfl
     try simp only [ps]
     refine tk 4 (some 66) (Op.fieldAddr 27 (Operand.tmp 4) 3) 0 (v := ?v4b5) rfl ?h4b5 hH ?_
     case h4b5 => intro _ _; go_simp; try with_reducible rfl
     try simp only [ps]
     refine tk 5 (some 67) (Op.load 3 (Operand.tmp 66)) 3 (v := ?v5b6) rfl ?h5b6 hH ?_
     case h5b6 => intro _ _; go_simp; try with_reducible rfl
     try simp only [ps]
     refine tk 6 (some 68) (Op.move (Operand.tmp 0)) 152 (v := ?v6b7) rfl ?h6b7 hH ?_
     case h6b7 => intro _ _; go_simp; try with_reducible rfl
     try simp only [ps]
     refine tk 7 (some 69) (Op.nilCheck (Operand.tmp 68)) 0 (v := ?v7b8) rfl ?h7b8 hH ?_
     case h7b8 => intro _ _; go_simp; try with_reducible rfl
     try simp only [ps]
     refine tk 8 (some 70) (Op.fieldAddr 120 (Operand.tmp 69) 2) 0 (v := ?v8b9) rfl ?h8b9 hH ?_
     case h8b9 => intro _ _; go_simp; try with_reducible rfl
     try simp only [ps]
     refine tk 9 (some 71) (Op.load 3 (Operand.tmp 70)) 3 (v := ?v9b10) rfl ?h9b10 hH ?_
     case h9b10 => intro _ _; go_simp; try with_reducible rfl
     try simp only [ps]
     refine tk 10 (some 72) (Op.binOp BinOp.leq 3 (Operand.tmp 67) (Operand.tmp 71) 3) 4 (v := ?v10b11) rfl ?h10b11 hH ?_
     case h10b11 => intro _ _; go_simp; try with_reducible rfl
     try simp only [ps]
     refine tk 11 (some 73) (Op.pick (Operand.tmp 65) (Operand.tmp 72) (Operand.const (Value.bool false))) 4 (v := ?v11b12) rfl ?h11b12 hH ?_
     case h11b12 => intro _ _; go_simp; try with_reducible rfl
     try simp only [ps]
     refine tk 12 (some 6) (Op.assign (Operand.tmp 73)) 4 (v := ?v12b13) rfl ?h12b13 hH ?_
     case h12b13 => intro _ _; go_simp; try with_reducible rfl
     try simp only [ps]
     refine wpAnyH_done (by kernel_rfl) ?_ _
     refine NoPanic.normal ?_
     go_wp2_with fail
     go_ret
     exact Ckd.no E.out (CB2.out.kp KQ) (by omega) (by omega) (by omega) (Nat.le_refl _) (KS2.out.kpt' KQ CB2.out.lt)
   ·
    have E : Hid (o = none) := by show _ = _; rw [E0.out, if_neg (fun h => m1 h.1)]
    have m1d : decide (1 ≤ m) = false := decide_eq_false m1
    go_upto_region 16 with fail
    clear a0 a1 a2 a3 a4 a5 a6 a7 a8 q0 q2 e0 e1
    have Q0 : Kp W2 W2.drew := (Kp.refl _).drew
    have MK : Hid (∀ W, Kp W2 W → W.cell? ⟨w.heap.size, 3, none⟩ = some (.int .i64 m) ∧ W.cell? ⟨C, 2, none⟩ = some (.int .i64 (g : Int)) ∧ Hid (Kp W2 W)) := fun W k => ⟨bl_cell (bl_kp A2.out k) 3 _ rfl, (CB2.out.kp k).cells.2.2.1, k⟩
    refine wp_region_noPanic ?_
    refine hdrew MK Q0 (fun hH => ?_)
    have KQ := Q0
    refine tk 0 (some 62) (Op.fieldAddr 27 (Operand.tmp 4) 3) 0 (v := ?v0c1) rfl ?h0c1 hH ?_
    case h0c1 => intro _ _; go_simp; try with_reducible rfl
    try simp only [ps]
    refine tk 1 (some 63) (Op.load 3 (Operand.tmp 62)) 3 (v := ?v1c2) rfl ?h1c2 hH ?_
    case h1c2 => intro _ _; go_simp; try with_reducible rfl
    try simp only [ps]
    refine tk 2 (some 64) (Op.binOp BinOp.leq 3 (Operand.const (Value.int IntKind.i64 1)) (Operand.tmp 63) 3) 4 (v := ?v2c3) rfl ?h2c3 hH ?_
    case h2c3 => intro _ _; go_simp; try with_reducible rfl
    try simp only [ps]
    refine tk 3 (some 65) (Op.move (Operand.tmp 64)) 4 (v := ?v3c4) rfl ?h3c4 hH ?_
    case h3c4 => intro _ _; go_simp; try with_reducible rfl
    try simp only [ps]
    refine tn 4 (some 66) (Op.fieldAddr 27 (Operand.tmp 4) 3) 0 rfl hH ?_
    try simp only [ps]
    refine tn 5 (some 67) (Op.load 3 (Operand.tmp 66)) 3 rfl hH ?_
    try simp only [ps]
    refine tn 6 (some 68) (Op.move (Operand.tmp 0)) 152 rfl hH ?_
    try simp only [ps]
    refine tn 7 (some 69) (Op.nilCheck (Operand.tmp 68)) 0 rfl hH ?_
    try simp only [ps]
    refine tn 8 (some 70) (Op.fieldAddr 120 (Operand.tmp 69) 2) 0 rfl hH ?_
    try simp only [ps]
    refine tn 9 (some 71) (Op.load 3 (Operand.tmp 70)) 3 rfl hH ?_
    try simp only [ps]
    refine tn 10 (some 72) (Op.binOp BinOp.leq 3 (Operand.tmp 67) (Operand.tmp 71) 3) 4 rfl hH ?_
    try simp only [ps]
    refine tk 11 (some 73) (Op.pick (Operand.tmp 65) (Operand.tmp 72) (Operand.const (Value.bool false))) 4 (v := ?v11c12) rfl ?h11c12 hH ?_
    case h11c12 => intro _ _; go_simp; try with_reducible rfl
    try simp only [ps]
    refine tk 12 (some 6) (Op.assign (Operand.tmp 73)) 4 (v := ?v12c13) rfl ?h12c13 hH ?_
    case h12c13 => intro _ _; go_simp; try with_reducible rfl
    try simp only [ps]
    refine wpAnyH_done (by kernel_rfl) ?_ _
    refine NoPanic.normal ?_
    go_wp2_with fail
    go_ret
    exact Ckd.no E.out (CB2.out.kp KQ) (by omega) (by omega) (by omega) (Nat.le_refl _) (KS2.out.kpt' KQ CB2.out.lt)
  by_cases k7 : k = 7
  ·
   subst k7
   have E0 : Hid (o = if ere || b then some ⟨n + 1, g, d⟩ else none) := by show _ = _; rw [← HO.out, if_neg (by simp; omega), if_neg (by omega), if_neg (by omega), if_neg (by omega), if_neg (by omega), if_neg (by omega), if_neg (by omega), if_pos rfl]
   cases ere with
   | true =>
    have E : Hid (o = some ⟨n + 1, g, d⟩) := by show _ = _; rw [E0.out]; rfl
    go_wp2_with fail
    go_ret
    exact Ckd.yes E.out CB2.out (by omega) (by omega) (by omega) (Nat.le_refl _) KS2.out
   | false =>
    cases b with
    | true =>
     have E : Hid (o = some ⟨n + 1, g, d⟩) := by show _ = _; rw [E0.out]; rfl
     go_wp2_with fail
     go_ret
     exact Ckd.yes E.out CB2.out (by omega) (by omega) (by omega) (Nat.le_refl _) KS2.out
    | false =>
     have E : Hid (o = none) := by show _ = _; rw [E0.out]; rfl
     go_wp2_with fail
     go_ret
     exact Ckd.no E.out CB2.out (by omega) (by omega) (by omega) (Nat.le_refl _) KS2.out
  by_cases k8 : k = 8
  ·
   subst k8
   have E0 : Hid (o = if ere || e then some ⟨n + 1, g, d⟩ else none) := by show _ = _; rw [← HO.out, if_neg (by simp; omega), if_neg (by omega), if_neg (by omega), if_neg (by omega), if_neg (by omega), if_neg (by omega), if_neg (by omega), if_neg (by omega), if_pos rfl]
   cases ere with
   | true =>
    have E : Hid (o = some ⟨n + 1, g, d⟩) := by show _ = _; rw [E0.out]; rfl
    go_wp2_with fail
    go_ret
    exact Ckd.yes E.out CB2.out (by omega) (by omega) (by omega) (Nat.le_refl _) KS2.out
   | false =>
    cases e with
    | true =>
     have E : Hid (o = some ⟨n + 1, g, d⟩) := by show _ = _; rw [E0.out]; rfl
     go_wp2_with fail
     go_ret
     exact Ckd.yes E.out CB2.out (by omega) (by omega) (by omega) (Nat.le_refl _) KS2.out
    | false =>
     have E : Hid (o = none) := by show _ = _; rw [E0.out]; rfl
     go_wp2_with fail
     go_ret
     exact Ckd.no E.out CB2.out (by omega) (by omega) (by omega) (Nat.le_refl _) KS2.out
  have g1 : (k == 1) = false := by simp [k1]
  have g2 : (k == 2) = false := by simp [k2]
  have g3 : (k == 3) = false := by simp [k3]
  have g4 : (k == 4) = false := by simp [k4]
  have g5 : (k == 5) = false := by simp [k5]
  have g6 : (k == 6) = false := by simp [k6]
  have g7 : (k == 7) = false := by simp [k7]
  have g8 : (k == 8) = false := by simp [k8]
  have E : Hid (o = none) := by show _ = _; rw [← HO.out, if_neg (by simp; omega), if_neg (by omega), if_neg (by omega), if_neg (by omega), if_neg (by omega), if_neg (by omega), if_neg (by omega), if_neg (by omega), if_neg (by omega)]
  go_wp2_with fail
  go_ret
  exact Ckd.no E.out CB2.out (by omega) (by omega) (by omega) (Nat.le_refl _) KS2.out

def RxOk : Rx → Prop
 | .mk _ _ _ _ s kids => kids.length ≤ 1000000 ∧ (s.a < 18446744073709551616 ∧ s.b < 18446744073709551616 ∧ s.c < 18446744073709551616 ∧ s.d < 18446744073709551616) ∧ ∀ a, a ∈ kids → RxOk a
termination_by r => SizeOf.sizeOf r
decreasing_by
 have := List.sizeOf_lt_of_mem (by assumption)
 simp
 omega
theorem right_all (ere : Bool) : ∀ a, RxOk a → RightSaid ere a
 | .mk k mn mx n s kids, h => by
  unfold RxOk at h
  exact right_step ere k mn mx n s kids (fun a ha => right_all ere a (h.2.2 a ha)) h.1 h.2.1
termination_by a => SizeOf.sizeOf a
decreasing_by
 have := List.sizeOf_lt_of_mem ha
 simp
 omega

theorem Right_any (r : Rx) (ere : Bool) (ok : Nat → Prop) (k mn mx m : Int) (t : W4) (ad : Option Addr) (l c : Nat) (w : World) (hR : RxOk r) (hI : Is w ok r (rxv k mn mx m t (.slice ad l c))) :
  Calls Tryz.prog 31 #[rxv k mn mx m t (.slice ad l c), .bool ere] w fun e w' => e = .returned (.bool (right ere r)) ∧ Kp w w' := by
 have RA := hid (right_all ere r hR)
 have HI := hid (hI.weak (ok' := fun x => ok x ∧ x < w.heap.size) (fun _ hb hl => ⟨hb, hl⟩))
 clear hR hI
 go_enter Tryz.func31, Tryz.ntmps31
 go_upto_region 2 with fail
 refine opq (fun W0 => W0.heap[w.heap.size]? = some (rxo k mn mx m t (.slice ad l c)) ∧ Cb W0 (w.heap.size + 1) ere 0 0 0 ∧ Is W0 (fun x => ok x ∧ x < w.heap.size) r (rxv k mn mx m t (.slice ad l c)) ∧ Kp w W0) ⟨by (first | exact last_at _ _ _ (by simp) | (refine bl_alloc ?_ _; first | exact last_at _ _ _ (by simp) | (refine bl_alloc ?_ _; first | exact last_at _ _ _ (by simp) | (refine bl_alloc ?_ _; exact last_at _ _ _ (by simp))))), by exact last_at _ _ _ (by simp), by exact HI.out.kp kpt, by exact kpt⟩ ?_
 rintro W0 ⟨xA0, xCB0, xI0, xK0⟩
 have A0 := hid xA0
 have CB0 := hid xCB0
 have I0 := hid xI0
 have K0 := hid xK0
 clear xA0 xCB0 xI0 xK0
 obtain ⟨a0, a1, a2, a3, a4, a5, a6, a7, a8⟩ := cells9 (A0.out)
 go_wp2_with fail
 clear a0 a1 a2 a3 a4 a5 a6 a7 a8
 refine (RA.out.all (w.heap.size + 1) _ _ true true 0 0 0 _ I0.out (fun _ hx => by omega) CB0.out (by omega) (by omega) (by omega)).mono ?_
 intro e W1 hcd
 obtain ⟨bq, rfl, hbq, _, hks⟩ := hcd.ex
 have HB : Hid (bq = right ere r) := hbq
 have K1 := hid (hks.up K0.out (by omega))
 clear hcd hbq hks
 go_wp2_with fail
 go_ret
 exact ⟨ret_bool HB.out, K1.out⟩
end Go.Proofs.YtnajcnhgeggngaaGreat

/-! ### Over -/

namespace Go.Proofs.YtnajcnhgeggngaaGreat.Way
open Go.RowKit Go.Proofs.YtnajcnhgeggngaaGreat

theorem times_lt {mn mx : Int} (h : timesFit mn mx = true) : 0 ≤ mn ∧ mn ≤ 20 := by
 unfold timesFit at h
 split at h
 ·
  cases h
 ·
  omega
mutual
theorem rxw_chk : ∀ (r : Rx) (b e : Bool) (c c' : Ck), RxOk r → c.g ≤ 3 → chk true r b e c = some c' → RxW r ∧ c'.g ≤ 3
 | .mk k mn mx n s kids, b, e, c, c', ho, hg, h => by
  unfold RxOk at ho
  rw [chk] at h
  by_cases h0 : c.n + 1 > 40 ∨ leanB (.mk k mn mx n s kids) = false
  ·
   rw [if_pos h0] at h; cases h
  rw [if_neg h0] at h
  have hlean : leanB (.mk k mn mx n s kids) = true := by
   cases hb : leanB (.mk k mn mx n s kids) with
   | true => rfl
   | false => exact absurd (Or.inr hb) h0
  unfold leanB at hlean
  have hfit : kidsFit k kids.length = true := (Bool.and_eq_true_iff.1 hlean).2
  have nil_of : k ≠ 2 → k ≠ 3 → k ≠ 4 → k ≠ 5 → kids = [] := fun a1 a2 a3 a4 => by
   unfold kidsFit at hfit
   rw [if_neg a1, if_neg a2, if_neg (by omega)] at hfit
   exact List.length_eq_zero_iff.1 (by simpa using hfit)
  have one_of : k = 4 ∨ k = 5 → ∃ r, kids = [r] := fun a => by
   unfold kidsFit at hfit
   rw [if_neg (by omega), if_neg (by omega), if_pos a] at hfit
   exact List.length_eq_one_iff.1 (by simpa using hfit)
  unfold RxW
  by_cases k1 : k = 1
  ·
   subst k1
   rw [if_pos rfl] at h
   obtain rfl := nil_of (by decide) (by decide) (by decide) (by decide)
   split at h
   ·
    cases h
    exact ⟨⟨fun _ => ⟨Or.inl rfl, ho.2.1⟩, (fun e => by cases e), (fun e => by cases e), (fun e => by rcases e with e | e <;> cases e), Nat.zero_le _, by unfold RxsW; trivial⟩, hg⟩
   ·
    cases h
  rw [if_neg k1] at h
  by_cases k2 : k = 2
  ·
   subst k2
   rw [if_pos rfl] at h
   obtain ⟨a1, a2⟩ := rxw_cat kids true ⟨c.n + 1, c.g, c.d⟩ c' ho.2.2 hg h
   exact ⟨⟨(fun e => by cases e), (fun e => by cases e), (fun e => by cases e), (fun e => by rcases e with e | e <;> cases e), ho.1, a1⟩, a2⟩
  rw [if_neg k2] at h
  by_cases k3 : k = 3
  ·
   subst k3
   rw [if_pos rfl, if_pos rfl] at h
   obtain ⟨a1, a2⟩ := rxw_alt kids ⟨c.n + 1, c.g, c.d⟩ c' ho.2.2 hg h
   exact ⟨⟨(fun e => by cases e), (fun e => by cases e), (fun e => by cases e), (fun e => by rcases e with e | e <;> cases e), ho.1, a1⟩, a2⟩
  rw [if_neg k3] at h
  by_cases k4 : k = 4
  ·
   subst k4
   rw [if_pos rfl] at h
   split at h
   ·
    rename_i ht
    obtain ⟨r, rfl⟩ := one_of (Or.inl rfl)
    rw [chkRep] at h
    split at h
    ·
     obtain ⟨a1, a2⟩ := rxw_chk r false false ⟨c.n + 1, c.g, c.d⟩ c' (ho.2.2 r (List.mem_cons_self ..)) hg h
     exact ⟨⟨(fun e => by cases e), (fun e => by cases e), (fun _ => times_lt ht), (fun _ => rfl), ho.1, by unfold RxsW; exact ⟨a1, by unfold RxsW; trivial⟩⟩, a2⟩
    ·
     cases h
   ·
    cases h
  rw [if_neg k4] at h
  by_cases k5 : k = 5
  ·
   subst k5
   rw [if_pos rfl] at h
   by_cases hc : n ≠ (c.g + 1 : Nat) ∨ c.g + 1 > 3 ∨ c.d = 6
   ·
    rw [if_pos hc] at h; cases h
   rw [if_neg hc] at h
   obtain ⟨r, rfl⟩ := one_of (Or.inr rfl)
   rw [chkGroup] at h
   split at h
   ·
    cases h
   ·
    rename_i c2 hc2
    cases h
    obtain ⟨a1, a2⟩ := rxw_chk r true true _ c2 (ho.2.2 r (List.mem_cons_self ..)) (by show c.g + 1 ≤ 3; omega) hc2
    exact ⟨⟨(fun e => by cases e), (fun _ => by omega), (fun e => by cases e), (fun _ => rfl), ho.1, by unfold RxsW; exact ⟨a1, by unfold RxsW; trivial⟩⟩, a2⟩
  rw [if_neg k5] at h
  obtain rfl := nil_of k2 k3 k4 k5
  have rest : (leafK k = true → LeafOk k n s) → c'.g ≤ 3 → ((leafK k = true → LeafOk k n s) ∧ (k = 5 → n = 1 ∨ n = 2 ∨ n = 3) ∧ (k = 4 → 0 ≤ mn ∧ mn ≤ 20) ∧ (k = 5 ∨ k = 4 → ([] : List Rx).length = 1) ∧ ([] : List Rx).length ≤ 1000000 ∧ RxsW []) ∧ c'.g ≤ 3 := fun a1 a2 => ⟨⟨a1, (fun e => absurd e k5), (fun e => absurd e k4), (fun e => e.elim (fun e => absurd e k5) (fun e => absurd e k4)), Nat.zero_le _, by unfold RxsW; trivial⟩, a2⟩
  by_cases k6 : k = 6
  ·
   subst k6
   rw [if_pos rfl] at h
   by_cases hc : 1 ≤ n ∧ n ≤ (c.g : Int)
   ·
    rw [if_pos hc] at h
    cases h
    exact rest (fun _ => ⟨Or.inr (Or.inr (Or.inr ⟨rfl, by omega⟩)), ho.2.1⟩) hg
   ·
    rw [if_neg hc] at h; cases h
  rw [if_neg k6] at h
  by_cases k7 : k = 7
  ·
   subst k7
   rw [if_pos rfl] at h
   split at h
   ·
    cases h; exact rest (fun _ => ⟨Or.inr (Or.inl rfl), ho.2.1⟩) hg
   ·
    cases h
  rw [if_neg k7] at h
  by_cases k8 : k = 8
  ·
   subst k8
   rw [if_pos rfl] at h
   split at h
   ·
    cases h; exact rest (fun _ => ⟨Or.inr (Or.inr (Or.inl rfl)), ho.2.1⟩) hg
   ·
    cases h
  rw [if_neg k8] at h
  cases h
theorem rxw_cat : ∀ (ks : List Rx) (first : Bool) (c c' : Ck), (∀ a, a ∈ ks → RxOk a) → c.g ≤ 3 → chkCat true ks first c = some c' → RxsW ks ∧ c'.g ≤ 3
 | [], first, c, c', _, hg, h => by
  rw [chkCat] at h
  cases h
  exact ⟨by unfold RxsW; trivial, hg⟩
 | r :: rs, first, c, c', ho, hg, h => by
  rw [chkCat] at h
  split at h
  ·
   cases h
  ·
   split at h
   ·
    cases h
   ·
    rename_i c2 hc2
    obtain ⟨a1, a2⟩ := rxw_chk r _ _ c c2 (ho r (List.mem_cons_self ..)) hg hc2
    obtain ⟨b1, b2⟩ := rxw_cat rs _ c2 c' (fun a ha => ho a (List.mem_cons_of_mem _ ha)) a2 h
    exact ⟨by unfold RxsW; exact ⟨a1, b1⟩, b2⟩
theorem rxw_alt : ∀ (ks : List Rx) (c c' : Ck), (∀ a, a ∈ ks → RxOk a) → c.g ≤ 3 → chkAlt true ks c = some c' → RxsW ks ∧ c'.g ≤ 3
 | [], c, c', _, hg, h => by
  rw [chkAlt] at h
  cases h
  exact ⟨by unfold RxsW; trivial, hg⟩
 | r :: rs, c, c', ho, hg, h => by
  rw [chkAlt] at h
  split at h
  ·
   cases h
  ·
   split at h
   ·
    cases h
   ·
    rename_i c2 hc2
    obtain ⟨a1, a2⟩ := rxw_chk r _ _ c c2 (ho r (List.mem_cons_self ..)) hg hc2
    obtain ⟨b1, b2⟩ := rxw_alt rs c2 c' (fun a ha => ho a (List.mem_cons_of_mem _ ha)) a2 h
    exact ⟨by unfold RxsW; exact ⟨a1, b1⟩, b2⟩
end
theorem rxw_right {r : Rx} (ho : RxOk r) (h : right true r = true) : RxW r := by
 unfold right at h
 obtain ⟨c, hc⟩ := Option.isSome_iff_exists.1 h
 exact (rxw_chk r true true ⟨0, 0, 0⟩ c ho (by decide) hc).1
abbrev wlv (s : ByteArray) (bol : Bool) (v : Value) : Value := .agg #[.string s, .bool bol, v]
theorem wl_ret {fn : Func} {p : Tmp} (h : fn.results = #[.cell p 73]) (tmps : Array Value) (w : World) (S : Nat) (cs : Array Value) (hp : tmps.getD p undef = .pointer (some ⟨S, 0, none⟩)) (hA : w.heap[S]? = some (.cells cs 73)) (hc : cs.size = 3) : (results fn tmps).run Tryz.prog w = .ok (.agg cs) w :=
 results_cell_row h tmps w S 73 _ (0, 0) _ hp hA Tryz.underlying73 rfl (by rw [hc]; kernel_rfl)
theorem new_keys {L : List UInt8} {bol : Bool} {p : Pt} {n b : Nat} (hb : findM (memos L bol p) b ≠ none) (h : ∀ c, c ∈ mapsOf p → n ≤ c) : n ≤ b := by
 cases hm : findM (memos L bol p) b with
 | none => exact absurd hm hb
 | some m =>
  refine h b ?_
  rw [← memos_keys L bol p]
  exact List.mem_map.2 ⟨_, findM_mem hm, rfl⟩
structure OverD (r : Rx) (s : ByteArray) (bol : Bool) (g : Nat) (w : World) (e : Ending) (w' : World) : Prop where
 yes : s.size ≤ 60 → right true r = true → ∃ p M, e = .returned (wlv s bol (ptv p.P)) ∧ er p = heed g (bldE r) ∧ ReadyP s.data.toList bol p M w' ∧ ∀ b, M b ≠ none → w.heap.size ≤ b
 no : ¬ (s.size ≤ 60 ∧ right true r = true) → e = .returned (wlv ⟨#[]⟩ false (.pointer none))
 kp : Kp w w'
theorem OverD.not {r : Rx} {s : ByteArray} {bol : Bool} {g : Nat} {w w' : World} (h : ¬ (s.size ≤ 60 ∧ right true r = true)) (k : Kp w w') : OverD r s bol g w (.returned (wlv ⟨#[]⟩ false (.pointer none))) w' := ⟨fun a b => absurd ⟨a, b⟩ h, fun _ => rfl, k⟩
theorem over_any (r : Rx) (s : ByteArray) (bol : Bool) (g : Nat) (hg : g < 8) (ok : Nat → Prop) (k mn mx m : Int) (t : W4) (ad : Option Addr) (l c : Nat) (w : World) (hR : RxOk r) (hI : Is w ok r (rxv k mn mx m t (.slice ad l c))) :
  Calls Tryz.prog 22 #[rxv k mn mx m t (.slice ad l c), .string s, .bool bol, .int .u8 (g : Int)] w fun e w' => OverD r s bol g w e w' := by
 have HR := hid hR
 have HI := hid hI
 have HG := hid hg
 clear hR hI hg
 go_enter Tryz.func22, Tryz.ntmps22
 go_upto_region 1 with fail
 refine opq (fun W0 => W0.heap[w.heap.size]? = some (rxo k mn mx m t (.slice ad l c)) ∧ W0.heap[(w.heap.size + 1)]? = some (.cells #[.string ⟨#[]⟩, .bool false, .pointer none] 73) ∧ Kp w W0) ⟨by exact bl_alloc (last_of _ _) _, by exact last_at _ _ _ (by simp), by exact kpt⟩ ?_
 rintro W0 ⟨xA0, xZ0, xK0⟩
 have A0 := hid xA0
 have Z0 := hid xZ0
 have K0 := hid xK0
 clear xA0 xZ0 xK0
 by_cases h60 : s.size ≤ 60
 ·
  have g60 : ¬ (60 : Int) < (s.size : Int) := by omega
  have H60 := hid h60
  obtain ⟨a0, a1, a2, a3, a4, a5, a6, a7, a8⟩ := cells9 (A0.out)
  go_wp2_with fail
  clear a0 a1 a2 a3 a4 a5 a6 a7 a8
  refine (Right_any r true ok k mn mx m t ad l c _ HR.out (HI.out.kp K0.out)).mono ?_
  rintro e w1 ⟨rfl, hk⟩
  have A1 := hid (bl_kp A0.out hk)
  have Z1 := hid (bl_kp Z0.out hk)
  have K1 := hid (K0.out.trans hk)
  clear hk A0 Z0 K0
  cases hr : right true r with
  | false =>
   have HNO := hid (show ¬ (s.size ≤ 60 ∧ right true r = true) from fun e => by rw [hr] at e; cases e.2)
   clear hr
   obtain ⟨z0, fz0, z1, fz1, z2, fz2⟩ := cellf3 (Z1.out)
   go_wp2_with fail
   exact bodyPost_ret (v := .agg _) (wl_ret rfl _ _ _ _ rfl (bl_put (bl_put (bl_put Z1.out _) _) _) rfl) rfl (OverD.not HNO.out (Ks.up (P := w.heap.size + 1) ((((Ks.refl _ _).set _ _).set _ _).set _ _) K1.out (by omega)))
  | true =>
   have HRT := hid hr
   have BS := hid (build_any r (rxw_right HR.out hr))
   have HRW := hid (rxw_right HR.out hr)
   clear hr
   obtain ⟨a0, a1, a2, a3, a4, a5, a6, a7, a8⟩ := cells9 (A1.out)
   go_wp2_with fail
   clear a0 a1 a2 a3 a4 a5 a6 a7 a8
   refine (BS.out.all ok _ w1 (HI.out.kp K1.out)).mono ?_
   rintro e w2 ⟨p, rfl, hd0⟩
   have BD := hid hd0
   have HPF := hid (ptf_of r p hd0.er HRW.out)
   have HC := hid ((heed_any p (PtF.h p HPF.out)).all g w2 HG.out (PtAt.keep (Nat.le_refl _) (fun b _ _ => ⟨trivial, rfl⟩) p hd0.at_) hd0.nd)
   clear hd0
   go_wp2_with fail
   refine (HC.out).mono ?_
   rintro e w3 hd0
   obtain ⟨rfl, hp3, hk3⟩ := hd0.ex
   have K3 := hid (show Kp w w3 from Kx.kp (Kx.past2 (S := fun _ => False) (Kp.kx (K1.out.trans BD.out.kp)) hk3 (fun b hb e => by have := (BD.out.rng b (pblks_sub p b e)).1; have := K1.out.size; omega)))
   have Z3 := hid (bl_kx (bl_kp Z1.out BD.out.kp) hk3 (fun e => by have := (BD.out.rng _ (pblks_sub p _ e)).1; have := bl_lt Z1.out; omega))
   have HP3 := hid hp3
   have HM3 := hid (show ∀ b ∈ mapsOf p, w3.heap[b]? = some (.map #[] 0) from fun b hb => (hk3.block b (BD.out.rng b (maps_sub p b hb)).2 (fun e => by
    obtain ⟨K, n, e2⟩ := (PtAt.num p (PtAt.keep (ok' := TT) (Nat.le_refl _) (fun b _ _ => ⟨trivial, rfl⟩) p BD.out.at_) b e).1
    rw [map_cell (BD.out.maps b hb)] at e2
    cases e2)).trans (BD.out.maps b hb))
   clear hd0 hp3 hk3 HC Z1
   have Z1 := Z3
   obtain ⟨z0, fz0, z1, fz1, z2, fz2⟩ := cellf3 (Z1.out)
   go_wp2_with fail
   have KF := hid (show Ks (w.heap.size + 1) w3 _ from (((Ks.refl (w.heap.size + 1) w3).set 0 (.string s)).set 1 (.bool bol)).set 2 (ptv p.P))
   refine bodyPost_ret (v := .agg _) (wl_ret rfl _ _ _ _ rfl (bl_put (bl_put (bl_put Z1.out _) _) _) rfl) rfl ⟨fun _ _ => ⟨heed g p, _, by rw [(heed_P g p).1]; rfl, by rw [er_heed, BD.out.er], ReadyP.of (PtAt.keep KF.out.size (fun b hb hl => ⟨trivial, KF.out.block b hl hb⟩) _ (ptat_ok (ok := fun b => b ≠ w.heap.size + 1) (fun b hb e => ?_) _ HP3.out)) (by rw [(blks_heed g p).1]; exact BD.out.nd) (fun b hb => ?_) (ptn_heed g p BD.out.n_) (ptf_heed g p HG.out HPF.out), fun b hb => new_keys hb (fun c hc => by rw [maps_heed] at hc; have := (BD.out.rng c (maps_sub p c hc)).1; have := K1.out.size; omega)⟩, fun h => absurd ⟨H60.out, HRT.out⟩ h, KF.out.up K3.out (by omega)⟩
   ·
    rw [e] at hb
    have hz := bl_cell Z3.out 0 _ rfl
    rcases hb with ⟨K, n, e2⟩ | ⟨q, e2⟩ <;> (rw [hz] at e2; cases e2)
   ·
    rw [maps_heed] at hb
    have hm := HM3.out b hb
    exact (KF.out.block b (Array.getElem?_eq_some_iff.1 hm).1 (fun e => by rw [e, Z3.out] at hm; cases hm)).trans hm
 ·
  have g60 : (60 : Int) < (s.size : Int) := by omega
  have HNO := hid (show ¬ (s.size ≤ 60 ∧ right true r = true) from fun e => h60 e.1)
  have Z1 := Z0
  have K1 := K0
  obtain ⟨z0, fz0, z1, fz1, z2, fz2⟩ := cellf3 (Z1.out)
  go_wp2_with fail
  exact bodyPost_ret (v := .agg _) (wl_ret rfl _ _ _ _ rfl (bl_put (bl_put (bl_put Z1.out _) _) _) rfl) rfl (OverD.not HNO.out (Ks.up (P := w.heap.size + 1) ((((Ks.refl _ _).set _ _).set _ _).set _ _) K1.out (by omega)))
end Go.Proofs.YtnajcnhgeggngaaGreat.Way

/-! ### Spts -/

namespace Go.Proofs.YtnajcnhgeggngaaGreat.Way
open Go.RowKit Go.Proofs.YtnajcnhgeggngaaGreat

theorem at_ok {a N : Nat} (h : a ≤ N) (hN : N ≤ 60) : (Sp.at_ (a : Int)).Ok ∧ (Sp.at_ (a : Int)).In N := by
 unfold Sp.at_
 exact ⟨⟨by simp only; omega, by simp only; omega, Or.inl ⟨rfl, rfl⟩, Or.inl ⟨rfl, rfl⟩, Or.inl ⟨rfl, rfl⟩⟩, ⟨by simp only; omega, by simp only; omega, by simp only; omega, by simp only; omega⟩⟩
theorem spots_nil (s : ByteArray) (bol : Bool) (at_ : Int) (w : World) :
  Calls Tryz.prog 23 #[wlv s bol (.pointer none), .int .i64 at_] w fun e w' => e = .returned (.slice none 0 0) ∧ Kp w w' := by
 go_enter Tryz.func23, Tryz.ntmps23
 go_upto_region 1 with fail
 refine opq (fun W0 => W0.heap[w.heap.size]? = some (.cells #[.string s, .bool bol, .pointer none] 73) ∧ Kp w W0) ⟨by exact last_of _ _, by exact kpt⟩ ?_
 rintro W0 ⟨xA0, xK0⟩
 have A0 := hid xA0
 have K0 := hid xK0
 clear xA0 xK0
 obtain ⟨a0, a1, a2⟩ := cells3 (A0.out)
 go_wp2_with fail
 go_ret
 exact ⟨rfl, K0.out⟩
theorem spots_low (s : ByteArray) (bol : Bool) (P : Nat) (at_ : Int) (h : at_ < 0) (w : World) :
  Calls Tryz.prog 23 #[wlv s bol (ptv P), .int .i64 at_] w fun e w' => e = .returned (.slice none 0 0) ∧ Kp w w' := by
 go_enter Tryz.func23, Tryz.ntmps23
 go_upto_region 1 with fail
 refine opq (fun W0 => W0.heap[w.heap.size]? = some (.cells #[.string s, .bool bol, ptv P] 73) ∧ Kp w W0) ⟨by exact last_of _ _, by exact kpt⟩ ?_
 rintro W0 ⟨xA0, xK0⟩
 have A0 := hid xA0
 have K0 := hid xK0
 clear xA0 xK0
 obtain ⟨a0, a1, a2⟩ := cells3 (A0.out)
 go_wp2_with fail
 go_ret
 exact ⟨rfl, K0.out⟩
theorem spots_high (s : ByteArray) (bol : Bool) (P : Nat) (at_ : Int) (h0 : ¬ at_ < 0) (h : (s.size : Int) < at_) (w : World) :
  Calls Tryz.prog 23 #[wlv s bol (ptv P), .int .i64 at_] w fun e w' => e = .returned (.slice none 0 0) ∧ Kp w w' := by
 go_enter Tryz.func23, Tryz.ntmps23
 go_upto_region 1 with fail
 refine opq (fun W0 => W0.heap[w.heap.size]? = some (.cells #[.string s, .bool bol, ptv P] 73) ∧ Kp w W0) ⟨by exact last_of _ _, by exact kpt⟩ ?_
 rintro W0 ⟨xA0, xK0⟩
 have A0 := hid xA0
 have K0 := hid xK0
 clear xA0 xK0
 obtain ⟨a0, a1, a2⟩ := cells3 (A0.out)
 go_wp2_with fail
 go_ret
 exact ⟨rfl, K0.out⟩
theorem spots_any (s : ByteArray) (bol : Bool) (h60 : s.size ≤ 60) (p : Pt) (M : Nat → Option Memo) (a : Nat) (ha : a ≤ s.size) (w : World) (hR : ReadyP s.data.toList bol p M w) :
  Calls Tryz.prog 23 #[wlv s bol (ptv p.P), .int .i64 (a : Int)] w fun e w' => WaysD (ways s.data.toList bol p (Sp.at_ (a : Int))) (okB M (fun _ => False)) (Km M w) e w' := by
 have WS := hid (wsaid h60 p hR.w_)
 have HR := hid hR
 have g0 : ¬ (a : Int) < 0 := by omega
 have g1 : ¬ (s.size : Int) < (a : Int) := by omega
 have SA := hid (start_any a (by omega))
 have HX := hid (at_ok ha h60)
 clear hR h60 ha
 obtain ⟨P, hP⟩ : ∃ P, p.P = P := ⟨_, rfl⟩
 have CA : Hid (∀ W, Kp w W → Calls Tryz.prog 34 #[wkv s bol, ptv P, spv (Sp.at_ (a : Int))] W fun e w' => WaysD (ways s.data.toList bol p (Sp.at_ (a : Int))) (okB M (fun _ => False)) (fun w' => Km M W w' ∧ MemOk M (fun _ => False) w') e w') := fun W k => by
  rw [← hP]
  exact WS.out.all (fun _ => False) _ W HX.out.1 HX.out.2 (fun _ h => h.elim) (PtAt.keep k.size (fun b hb hl => ⟨hb, k.block b hl⟩) p HR.out.at_) ⟨fun b m hm => (HR.out.mem.at_ b m hm).keep (k.block b (HR.out.mem.at_ b m hm).lt) k.size (fun b hb hl => ⟨hb, k.block b hl⟩), HR.out.mem.own⟩
 rw [hP]
 clear hP WS HR HX
 go_enter Tryz.func23, Tryz.ntmps23
 go_upto_region 1 with fail
 refine opq (fun W0 => W0.heap[w.heap.size]? = some (.cells #[.string s, .bool bol, ptv P] 73) ∧ Kp w W0) ⟨by exact last_of _ _, by exact kpt⟩ ?_
 rintro W0 ⟨xA0, xK0⟩
 have A0 := hid xA0
 have K0 := hid xK0
 clear xA0 xK0
 obtain ⟨a0, a1, a2⟩ := cells3 (A0.out)
 go_upto_region 3 with fail
 clear a0 a1 a2
 have Q0 : Kp W0 W0.drew := (Kp.refl _).drew
 have MK : Hid (∀ W, Kp W0 W → W.cell? ⟨w.heap.size, 0, none⟩ = some (.string s) ∧ W.cell? ⟨w.heap.size, 1, none⟩ = some (.bool bol) ∧ W.cell? ⟨w.heap.size, 2, none⟩ = some (ptv P) ∧ Hid (Kp W0 W)) := fun W k => ⟨bl_cell (bl_kp A0.out k) 0 _ rfl, bl_cell (bl_kp A0.out k) 1 _ rfl, bl_cell (bl_kp A0.out k) 2 _ rfl, k⟩
 refine wp_region_noPanic ?_
 refine hdrewZ 6 MK Q0 (fun hH => ?_)
 have KQ := Q0
 refine zk 6 0 [1] (some 20) (Op.fieldAddr 73 (Operand.tmp 2) 0) 0 (v := ?v0z31) rfl ?h0z31 hH ?_
 case h0z31 => intro _ _; go_simp; try with_reducible rfl
 try simp only [ps]
 refine zk 6 1 [] (some 21) (Op.load 70 (Operand.tmp 20)) 70 (v := ?v1z32) rfl ?h1z32 hH ?_
 case h1z32 => intro _ _; go_simp; try with_reducible rfl
 try simp only [ps]
 refine zk 6 2 [3] (some 22) (Op.fieldAddr 73 (Operand.tmp 2) 1) 0 (v := ?v2z33) rfl ?h2z33 hH ?_
 case h2z33 => intro _ _; go_simp; try with_reducible rfl
 try simp only [ps]
 refine zk 6 3 [] (some 23) (Op.load 71 (Operand.tmp 22)) 71 (v := ?v3z34) rfl ?h3z34 hH ?_
 case h3z34 => intro _ _; go_simp; try with_reducible rfl
 try simp only [ps]
 refine zk 6 4 [5] (some 24) (Op.move (Operand.tmp 1)) 3 (v := ?v4z35) rfl ?h4z35 hH ?_
 case h4z35 => intro _ _; go_simp; try with_reducible rfl
 try simp only [ps]
 refine anyZ_ready (rs := [5]) (by kernel_rfl) (by simp) ?_
 refine AllZ.cons (o := { dst := some 25, op := Op.call { callee := Callee.value (Operand.func 35), args := #[Operand.tmp 24], argTypes := #[3] }, type := 83, pos := "way.go:84", after := #[{ on := 4, ground := Ground.data }], guard := none }) rfl (fun K hKq => ?_) AllZ.nil
 go_simp
 refine (SA.out _).mono ?_
 rintro e y1 ⟨rfl, kq⟩
 refine hKq.out _ _ (MK.out _ (KQ.trans kq)) (fun hN => ?_)
 clear kq
 clear hKq K hH KQ
 have hH := hN
 clear hN
 have KQ := hH.2.2.2.out
 try simp only [ps]
 refine anyZ_ready (rs := [6]) (by kernel_rfl) (by simp) ?_
 refine AllZ.last (o := { dst := some 26, op := Op.call { callee := Callee.value (Operand.func 34), args := #[Operand.tmp 21, Operand.tmp 23, Operand.tmp 25], argTypes := #[70, 71, 83] }, type := 68, pos := "way.go:84", after := #[{ on := 1, ground := Ground.data }, { on := 3, ground := Ground.data }, { on := 5, ground := Ground.data }, { on := 5, ground := Ground.chain }], guard := none }) rfl (Or.inl rfl) (fun K hKq => ?_) AllZ.nil
 go_simp
 refine (CA.out _ (K0.out.trans KQ)).mono ?_
 rintro e y2 hd0
 obtain ⟨v, rfl, hv, hk, hm⟩ := hd0.ex
 have HV := hid hv
 have HK := hid hk
 clear hd0 hv hk hm
 refine hKq.out _ _ ?_
 clear hKq K
 try simp only [ps]
 refine anyZ_ready (rs := [7]) (by kernel_rfl) (by simp) ?_
 refine AllZ.last (o := { dst := some 4, op := Op.assign (Operand.tmp 26), type := 68, pos := "way.go:84", after := #[{ on := 6, ground := Ground.data }, { on := 6, ground := Ground.chain }, { on := 0, ground := Ground.phase }, { on := 1, ground := Ground.phase }, { on := 2, ground := Ground.phase }, { on := 3, ground := Ground.phase }, { on := 4, ground := Ground.phase }, { on := 5, ground := Ground.phase }, { on := 6, ground := Ground.phase }], guard := none }) rfl (Or.inr (by kernel_rfl)) (fun K hKq => ?_) AllZ.nil
 go_simp
 refine hKq.out _ _ ?_
 clear hKq K
 try simp only [ps]
 refine anyZ_done (by kernel_rfl) ?_ _
 refine NoPanic.normal ?_
 have KF := hid (K0.out.trans KQ)
 go_wp2_with fail
 go_ret
 exact ⟨_, rfl, HV.out, (Kp.kx KF.out).trans HK.out⟩
end Go.Proofs.YtnajcnhgeggngaaGreat.Way

/-! ### Stt0 -/

namespace Go.Proofs.YtnajcnhgeggngaaGreat.Way
open Go.RowKit Go.Proofs.YtnajcnhgeggngaaGreat

abbrev none8 : Value := .agg #[.int .i64 (-1), .int .i64 (-1), .int .i64 (-1), .int .i64 (-1), .int .i64 (-1), .int .i64 (-1), .int .i64 (-1), .int .i64 (-1)]
def non8 : Nat → Obj
 | 0 => (.cells #[.int .i64 0, .int .i64 0, .int .i64 0, .int .i64 0, .int .i64 0, .int .i64 0, .int .i64 0, .int .i64 0] 36)
 | 1 => (.cells #[.int .i64 (-1), .int .i64 (-1), .int .i64 0, .int .i64 0, .int .i64 0, .int .i64 0, .int .i64 0, .int .i64 0] 36)
 | 2 => (.cells #[.int .i64 (-1), .int .i64 (-1), .int .i64 (-1), .int .i64 (-1), .int .i64 0, .int .i64 0, .int .i64 0, .int .i64 0] 36)
 | 3 => (.cells #[.int .i64 (-1), .int .i64 (-1), .int .i64 (-1), .int .i64 (-1), .int .i64 (-1), .int .i64 (-1), .int .i64 0, .int .i64 0] 36)
 | _ => (.cells #[.int .i64 (-1), .int .i64 (-1), .int .i64 (-1), .int .i64 (-1), .int .i64 (-1), .int .i64 (-1), .int .i64 (-1), .int .i64 (-1)] 36)
theorem non_ret {fn : Func} {p : Tmp} (h : fn.results = #[.cell p 36]) (tmps : Array Value) (w : World) (S : Nat) (cs : Array Value) (hp : tmps.getD p undef = .pointer (some ⟨S, 0, none⟩)) (hA : w.heap[S]? = some (.cells cs 36)) (hc : cs.size = 8) : (results fn tmps).run Tryz.prog w = .ok (.agg cs) w :=
 results_cell_row h tmps w S 36 _ (0, 0) _ hp hA Tryz.underlying36 rfl (by rw [hc]; kernel_rfl)
theorem nones_any (w : World) : Calls Tryz.prog 17 #[] w fun e w' => e = .returned none8 ∧ Kp w w' := by
 go_enter Tryz.func17, Tryz.ntmps17
 go_upto_region 2 with fail
 refine opq (fun W0 => W0.heap[w.heap.size]? = some (.cells #[.int .i64 0, .int .i64 0, .int .i64 0, .int .i64 0, .int .i64 0, .int .i64 0, .int .i64 0, .int .i64 0] 36) ∧ W0.heap[(w.heap.size + 1)]? = some (.cells #[.int .i64 0, .int .i64 0, .int .i64 0, .int .i64 0, .int .i64 0, .int .i64 0, .int .i64 0, .int .i64 0] 36) ∧ Kp w W0) ⟨by exact bl_alloc (last_of _ _) _, by exact last_at _ _ _ (by simp), by exact kpt⟩ ?_
 rintro W0 ⟨xZ0, xA0, xK0⟩
 have Z0 := hid xZ0
 have A0 := hid xA0
 have K0 := hid xK0
 clear xZ0 xA0 xK0
 go_wp2_with fail
 go_loopg [3] 4 (fun gg i wr => ∃ q : Nat, q + gg = 4 ∧ i = .int .i64 (q : Int) ∧ wr.heap[(w.heap.size + 1)]? = some (non8 q) ∧ Ks (w.heap.size + 1) W0 wr)
 case atStart => exact ⟨0, by omega, rfl, A0.out, Ks.refl _ _⟩
 case round =>
  obtain ⟨q, hq, rfl, hA, hK⟩ := hrel
  have K := hid hK
  have Z := hid (bl_ks Z0.out (by omega) hK)
  clear hK
  match q, hq with
  | 0, hq =>
   have A : Hid (wr.heap[(w.heap.size + 1)]? = some (.cells #[.int .i64 0, .int .i64 0, .int .i64 0, .int .i64 0, .int .i64 0, .int .i64 0, .int .i64 0, .int .i64 0] 36)) := hA
   clear hA
   have a0 := bl_cell (A.out) 0 _ rfl
   have a1 := bl_cell (A.out) 1 _ rfl
   have fa0 := bl_frozen (A.out) 0
   have fa1 := bl_frozen (A.out) 1
   go_wp2_with fail
   go_roundg (gk - 1)
   case measure => omega
   case rel => exact ⟨1, by omega, rfl, bl_put (bl_put A.out _) _, (K.out.set _ _).set _ _⟩
  | 1, hq =>
   have A : Hid (wr.heap[(w.heap.size + 1)]? = some (.cells #[.int .i64 (-1), .int .i64 (-1), .int .i64 0, .int .i64 0, .int .i64 0, .int .i64 0, .int .i64 0, .int .i64 0] 36)) := hA
   clear hA
   have a0 := bl_cell (A.out) 2 _ rfl
   have a1 := bl_cell (A.out) 3 _ rfl
   have fa0 := bl_frozen (A.out) 2
   have fa1 := bl_frozen (A.out) 3
   go_wp2_with fail
   go_roundg (gk - 1)
   case measure => omega
   case rel => exact ⟨2, by omega, rfl, bl_put (bl_put A.out _) _, (K.out.set _ _).set _ _⟩
  | 2, hq =>
   have A : Hid (wr.heap[(w.heap.size + 1)]? = some (.cells #[.int .i64 (-1), .int .i64 (-1), .int .i64 (-1), .int .i64 (-1), .int .i64 0, .int .i64 0, .int .i64 0, .int .i64 0] 36)) := hA
   clear hA
   have a0 := bl_cell (A.out) 4 _ rfl
   have a1 := bl_cell (A.out) 5 _ rfl
   have fa0 := bl_frozen (A.out) 4
   have fa1 := bl_frozen (A.out) 5
   go_wp2_with fail
   go_roundg (gk - 1)
   case measure => omega
   case rel => exact ⟨3, by omega, rfl, bl_put (bl_put A.out _) _, (K.out.set _ _).set _ _⟩
  | 3, hq =>
   have A : Hid (wr.heap[(w.heap.size + 1)]? = some (.cells #[.int .i64 (-1), .int .i64 (-1), .int .i64 (-1), .int .i64 (-1), .int .i64 (-1), .int .i64 (-1), .int .i64 0, .int .i64 0] 36)) := hA
   clear hA
   have a0 := bl_cell (A.out) 6 _ rfl
   have a1 := bl_cell (A.out) 7 _ rfl
   have fa0 := bl_frozen (A.out) 6
   have fa1 := bl_frozen (A.out) 7
   go_wp2_with fail
   go_roundg (gk - 1)
   case measure => omega
   case rel => exact ⟨4, by omega, rfl, bl_put (bl_put A.out _) _, (K.out.set _ _).set _ _⟩
  | 4, hq =>
   obtain rfl : gk = 0 := by omega
   have A : Hid (wr.heap[(w.heap.size + 1)]? = some (.cells #[.int .i64 (-1), .int .i64 (-1), .int .i64 (-1), .int .i64 (-1), .int .i64 (-1), .int .i64 (-1), .int .i64 (-1), .int .i64 (-1)] 36)) := hA
   clear hA
   obtain ⟨a0, a1, a2, a3, a4, a5, a6, a7⟩ := cells8 (A.out)
   have fz0 := bl_frozen (Z.out) 0
   have fz1 := bl_frozen (Z.out) 1
   have fz2 := bl_frozen (Z.out) 2
   have fz3 := bl_frozen (Z.out) 3
   have fz4 := bl_frozen (Z.out) 4
   have fz5 := bl_frozen (Z.out) 5
   have fz6 := bl_frozen (Z.out) 6
   have fz7 := bl_frozen (Z.out) 7
   obtain ⟨z0, z1, z2, z3, z4, z5, z6, z7⟩ := cells8 (Z.out)
   go_wp2_with fail
   exact bodyPost_ret (v := none8) (non_ret rfl _ _ _ _ rfl (bl_set8 Z.out _ _ _ _ _ _ _ _) rfl) rfl ⟨rfl, Ks.up (P := w.heap.size) (ks_set8 _ _ _ _ _ _ _ _) (K.out.up K0.out (by omega)) (Nat.le_refl _)⟩
  | q + 5, hq => omega
end Go.Proofs.YtnajcnhgeggngaaGreat.Way

/-! ### Stt -/

namespace Go.Proofs.YtnajcnhgeggngaaGreat.Way
open Go.RowKit Go.Proofs.YtnajcnhgeggngaaGreat

def stc (x : Sp) : List Value := [.int .i64 x.a, .int .i64 (-1), .int .i64 (-1), .int .i64 x.f0, .int .i64 x.t0, .int .i64 x.f1, .int .i64 x.t1, .int .i64 x.f2, .int .i64 x.t2]
abbrev stv (x : Sp) : Value := .agg #[.int .i64 x.a, .int .i64 (-1), .int .i64 (-1), .int .i64 x.f0, .int .i64 x.t0, .int .i64 x.f1, .int .i64 x.t1, .int .i64 x.f2, .int .i64 x.t2]
abbrev sto (x : Sp) : Obj := .cells #[.int .i64 x.a, .int .i64 (-1), .int .i64 (-1), .int .i64 x.f0, .int .i64 x.t0, .int .i64 x.f1, .int .i64 x.t1, .int .i64 x.f2, .int .i64 x.t2] 38
theorem bl_set9s {w : World} {B : Nat} {a0 a1 a2 a3 a4 a5 a6 a7 a8 : Value} {t : TypeId} (h : w.heap[B]? = some (.cells #[a0, a1, a2, a3, a4, a5, a6, a7, a8] t)) (x0 x1 x2 x3 x4 x5 x6 x7 x8 : Value) :
  (((((((((w.setCell ⟨B, 0, none⟩ x0).setCell ⟨B, 1, none⟩ x1).setCell ⟨B, 2, none⟩ x2).setCell ⟨B, 3, none⟩ x3).setCell ⟨B, 4, none⟩ x4).setCell ⟨B, 5, none⟩ x5).setCell ⟨B, 6, none⟩ x6).setCell ⟨B, 7, none⟩ x7).setCell ⟨B, 8, none⟩ x8).heap[B]? = some (.cells #[x0, x1, x2, x3, x4, x5, x6, x7, x8] t) := by
 have h0_ : (w.setCell ⟨B, 0, none⟩ x0).heap[B]? = some (.cells #[x0, a1, a2, a3, a4, a5, a6, a7, a8] t) := bl_put h x0
 have h1 : ((w.setCell ⟨B, 0, none⟩ x0).setCell ⟨B, 1, none⟩ x1).heap[B]? = some (.cells #[x0, x1, a2, a3, a4, a5, a6, a7, a8] t) := bl_put h0_ x1
 have h2 : (((w.setCell ⟨B, 0, none⟩ x0).setCell ⟨B, 1, none⟩ x1).setCell ⟨B, 2, none⟩ x2).heap[B]? = some (.cells #[x0, x1, x2, a3, a4, a5, a6, a7, a8] t) := bl_put h1 x2
 have h3 : ((((w.setCell ⟨B, 0, none⟩ x0).setCell ⟨B, 1, none⟩ x1).setCell ⟨B, 2, none⟩ x2).setCell ⟨B, 3, none⟩ x3).heap[B]? = some (.cells #[x0, x1, x2, x3, a4, a5, a6, a7, a8] t) := bl_put h2 x3
 have h4 : (((((w.setCell ⟨B, 0, none⟩ x0).setCell ⟨B, 1, none⟩ x1).setCell ⟨B, 2, none⟩ x2).setCell ⟨B, 3, none⟩ x3).setCell ⟨B, 4, none⟩ x4).heap[B]? = some (.cells #[x0, x1, x2, x3, x4, a5, a6, a7, a8] t) := bl_put h3 x4
 have h5 : ((((((w.setCell ⟨B, 0, none⟩ x0).setCell ⟨B, 1, none⟩ x1).setCell ⟨B, 2, none⟩ x2).setCell ⟨B, 3, none⟩ x3).setCell ⟨B, 4, none⟩ x4).setCell ⟨B, 5, none⟩ x5).heap[B]? = some (.cells #[x0, x1, x2, x3, x4, x5, a6, a7, a8] t) := bl_put h4 x5
 have h6 : (((((((w.setCell ⟨B, 0, none⟩ x0).setCell ⟨B, 1, none⟩ x1).setCell ⟨B, 2, none⟩ x2).setCell ⟨B, 3, none⟩ x3).setCell ⟨B, 4, none⟩ x4).setCell ⟨B, 5, none⟩ x5).setCell ⟨B, 6, none⟩ x6).heap[B]? = some (.cells #[x0, x1, x2, x3, x4, x5, x6, a7, a8] t) := bl_put h5 x6
 have h7 : ((((((((w.setCell ⟨B, 0, none⟩ x0).setCell ⟨B, 1, none⟩ x1).setCell ⟨B, 2, none⟩ x2).setCell ⟨B, 3, none⟩ x3).setCell ⟨B, 4, none⟩ x4).setCell ⟨B, 5, none⟩ x5).setCell ⟨B, 6, none⟩ x6).setCell ⟨B, 7, none⟩ x7).heap[B]? = some (.cells #[x0, x1, x2, x3, x4, x5, x6, x7, a8] t) := bl_put h6 x7
 have h8 : (((((((((w.setCell ⟨B, 0, none⟩ x0).setCell ⟨B, 1, none⟩ x1).setCell ⟨B, 2, none⟩ x2).setCell ⟨B, 3, none⟩ x3).setCell ⟨B, 4, none⟩ x4).setCell ⟨B, 5, none⟩ x5).setCell ⟨B, 6, none⟩ x6).setCell ⟨B, 7, none⟩ x7).setCell ⟨B, 8, none⟩ x8).heap[B]? = some (.cells #[x0, x1, x2, x3, x4, x5, x6, x7, x8] t) := bl_put h7 x8
 exact h8
theorem ks_set9s {w : World} {B : Nat} (x0 x1 x2 x3 x4 x5 x6 x7 x8 : Value) : Ks B w (((((((((w.setCell ⟨B, 0, none⟩ x0).setCell ⟨B, 1, none⟩ x1).setCell ⟨B, 2, none⟩ x2).setCell ⟨B, 3, none⟩ x3).setCell ⟨B, 4, none⟩ x4).setCell ⟨B, 5, none⟩ x5).setCell ⟨B, 6, none⟩ x6).setCell ⟨B, 7, none⟩ x7).setCell ⟨B, 8, none⟩ x8) :=
 (ks_set8 x0 x1 x2 x3 x4 x5 x6 x7).set 8 x8
def spn8 (x : Sp) : Nat → Obj
 | 0 => .cells #[.int .i64 (-1), .int .i64 (-1), .int .i64 (-1), .int .i64 (-1), .int .i64 (-1), .int .i64 (-1), .int .i64 (-1), .int .i64 (-1)] 36
 | 1 => .cells #[.int .i64 (-1), .int .i64 (-1), .int .i64 x.f0, .int .i64 x.t0, .int .i64 (-1), .int .i64 (-1), .int .i64 (-1), .int .i64 (-1)] 36
 | 2 => .cells #[.int .i64 (-1), .int .i64 (-1), .int .i64 x.f0, .int .i64 x.t0, .int .i64 x.f1, .int .i64 x.t1, .int .i64 (-1), .int .i64 (-1)] 36
 | _ => .cells #[.int .i64 (-1), .int .i64 (-1), .int .i64 x.f0, .int .i64 x.t0, .int .i64 x.f1, .int .i64 x.t1, .int .i64 x.f2, .int .i64 x.t2] 36
theorem st_ret {fn : Func} {p : Tmp} (h : fn.results = #[.cell p 38]) (tmps : Array Value) (w : World) (S : Nat) (cs : Array Value) (hp : tmps.getD p undef = .pointer (some ⟨S, 0, none⟩)) (hA : w.heap[S]? = some (.cells cs 38)) (hc : cs.size = 9) : (results fn tmps).run Tryz.prog w = .ok (.agg cs) w :=
 results_cell_row h tmps w S 38 _ (0, 0) _ hp hA Tryz.underlying38 rfl (by rw [hc]; kernel_rfl)
theorem spn_i64 {f t : Int} (h : Spn f t) : IntKind.i64.wrap f = f ∧ IntKind.i64.wrap t = t := by
 rcases h with ⟨rfl, rfl⟩ | ⟨h0, h1, h2⟩
 ·
  exact ⟨rfl, rfl⟩
 ·
  rw [IntKind.wrap_i64, IntKind.wrap_i64]; omega
theorem state_any (x : Sp) (hx : x.Ok) (w : World) : Calls Tryz.prog 25 #[spv x] w fun e w' => e = .returned (stv x) ∧ Kp w w' := by
 obtain ⟨cf0, ct0⟩ := spn_i64 hx.s0
 obtain ⟨cf1, ct1⟩ := spn_i64 hx.s1
 obtain ⟨cf2, ct2⟩ := spn_i64 hx.s2
 have ca : IntKind.i64.wrap x.a = x.a := by have := hx.a0; have := hx.a1; rw [IntKind.wrap_i64]; omega
 clear hx
 have i0 : ∀ w : World, (Instr.index 81 (.agg #[.int .i8 x.f0, .int .i8 x.t0, .int .i8 x.f1, .int .i8 x.t1, .int .i8 x.f2, .int .i8 x.t2]) (.int .i64 0)).run Tryz.prog w = .ok (.agg #[.int .i8 x.f0, .int .i8 x.t0]) w := fun w => by kernel_rfl
 have i1 : ∀ w : World, (Instr.index 81 (.agg #[.int .i8 x.f0, .int .i8 x.t0, .int .i8 x.f1, .int .i8 x.t1, .int .i8 x.f2, .int .i8 x.t2]) (.int .i64 1)).run Tryz.prog w = .ok (.agg #[.int .i8 x.f1, .int .i8 x.t1]) w := fun w => by kernel_rfl
 have i2 : ∀ w : World, (Instr.index 81 (.agg #[.int .i8 x.f0, .int .i8 x.t0, .int .i8 x.f1, .int .i8 x.t1, .int .i8 x.f2, .int .i8 x.t2]) (.int .i64 2)).run Tryz.prog w = .ok (.agg #[.int .i8 x.f2, .int .i8 x.t2]) w := fun w => by kernel_rfl
 go_enter Tryz.func25, Tryz.ntmps25
 go_upto_region 1 with fail
 refine opq (fun W0 => W0.heap[w.heap.size]? = some (spo x) ∧ W0.heap[(w.heap.size + 1)]? = some (.cells #[.int .i64 0, .int .i64 0, .int .i64 0, .int .i64 0, .int .i64 0, .int .i64 0, .int .i64 0, .int .i64 0, .int .i64 0] 38) ∧ Kp w W0) ⟨by exact bl_alloc (last_of _ _) _, by exact last_at _ _ _ (by simp), by exact kpt⟩ ?_
 rintro W0 ⟨xX0, xZ0, xK0⟩
 have X0 := hid xX0
 have Z0 := hid xZ0
 have K0 := hid xK0
 clear xX0 xZ0 xK0
 go_wp2_with fail
 refine (nones_any _).mono ?_
 rintro e w1 ⟨rfl, hk⟩
 have X1 := hid (bl_kp X0.out hk)
 have Z1 := hid (bl_kp Z0.out hk)
 have K1 := hid (K0.out.trans hk)
 clear hk X0 Z0 K0
 go_upto_region 2 with fail
 refine opq (fun W2 => W2.heap[w1.heap.size]? = some (.cells #[.int .i64 (-1), .int .i64 (-1), .int .i64 (-1), .int .i64 (-1), .int .i64 (-1), .int .i64 (-1), .int .i64 (-1), .int .i64 (-1)] 36) ∧ Kp w1 W2) ⟨by exact last_of _ _, by exact kpt⟩ ?_
 rintro W2 ⟨xA2, xK2⟩
 have A2 := hid xA2
 have K2 := hid xK2
 clear xA2 xK2
 have X2 := hid (bl_kp X1.out K2.out)
 have Z2 := hid (bl_kp Z1.out K2.out)
 have KW := hid (K1.out.trans K2.out)
 have HX1 := hid (bl_lt X1.out)
 have HZ1 := hid (bl_lt Z1.out)
 clear X1 Z1
 obtain ⟨x0, x1, x2, x3, x4, x5, x6⟩ := cells7 (X2.out)
 go_wp2_with fail
 clear x0 x1 x2 x3 x4 x5 x6
 go_loopg [9] 3 (fun gg i wr => ∃ q : Nat, q + gg = 3 ∧ i = .int .i64 (q : Int) ∧ wr.heap[w1.heap.size]? = some (spn8 x q) ∧ Ks w1.heap.size W2 wr)
 case atStart => exact ⟨0, by omega, rfl, A2.out, Ks.refl _ _⟩
 case round =>
  obtain ⟨q, hq, rfl, hA, hK⟩ := hrel
  have K := hid hK
  have X := hid (bl_ks X2.out (by have := HX1.out; omega) hK)
  have Z := hid (bl_ks Z2.out (by have := HZ1.out; omega) hK)
  clear hK
  match q, hq with
  | 0, hq =>
   have A : Hid (wr.heap[w1.heap.size]? = some (.cells #[.int .i64 (-1), .int .i64 (-1), .int .i64 (-1), .int .i64 (-1), .int .i64 (-1), .int .i64 (-1), .int .i64 (-1), .int .i64 (-1)] 36)) := hA
   clear hA
   go_upto_region 5 with fail
   refine opq (fun W5 => W5.heap[wr.heap.size]? = some (.cells #[.int .i8 x.f0, .int .i8 x.t0] 80) ∧ Kp wr W5) ⟨by exact last_of _ _, by exact kpt⟩ ?_
   rintro W5 ⟨xU5, xK5⟩
   have U5 := hid xU5
   have K5 := hid xK5
   clear xU5 xK5
   have A5 := hid (bl_kp A.out K5.out)
   have u0 := bl_cell (U5.out) 0 _ rfl
   have u1 := bl_cell (U5.out) 1 _ rfl
   have a0 := bl_cell (A5.out) 2 _ rfl
   have a1 := bl_cell (A5.out) 3 _ rfl
   have fa0 := bl_frozen (A5.out) 2
   have fa1 := bl_frozen (A5.out) 3
   go_wp2_with fail
   go_roundg (gk - 1)
   case measure => omega
   case rel => exact ⟨1, by omega, rfl, bl_put (bl_put A5.out _) _, ((K.out.kp K5.out (Nat.le_of_lt (bl_lt A.out))).set _ _).set _ _⟩
  | 1, hq =>
   have A : Hid (wr.heap[w1.heap.size]? = some (.cells #[.int .i64 (-1), .int .i64 (-1), .int .i64 x.f0, .int .i64 x.t0, .int .i64 (-1), .int .i64 (-1), .int .i64 (-1), .int .i64 (-1)] 36)) := hA
   clear hA
   go_upto_region 5 with fail
   refine opq (fun W5 => W5.heap[wr.heap.size]? = some (.cells #[.int .i8 x.f1, .int .i8 x.t1] 80) ∧ Kp wr W5) ⟨by exact last_of _ _, by exact kpt⟩ ?_
   rintro W5 ⟨xU5, xK5⟩
   have U5 := hid xU5
   have K5 := hid xK5
   clear xU5 xK5
   have A5 := hid (bl_kp A.out K5.out)
   have u0 := bl_cell (U5.out) 0 _ rfl
   have u1 := bl_cell (U5.out) 1 _ rfl
   have a0 := bl_cell (A5.out) 4 _ rfl
   have a1 := bl_cell (A5.out) 5 _ rfl
   have fa0 := bl_frozen (A5.out) 4
   have fa1 := bl_frozen (A5.out) 5
   go_wp2_with fail
   go_roundg (gk - 1)
   case measure => omega
   case rel => exact ⟨2, by omega, rfl, bl_put (bl_put A5.out _) _, ((K.out.kp K5.out (Nat.le_of_lt (bl_lt A.out))).set _ _).set _ _⟩
  | 2, hq =>
   have A : Hid (wr.heap[w1.heap.size]? = some (.cells #[.int .i64 (-1), .int .i64 (-1), .int .i64 x.f0, .int .i64 x.t0, .int .i64 x.f1, .int .i64 x.t1, .int .i64 (-1), .int .i64 (-1)] 36)) := hA
   clear hA
   go_upto_region 5 with fail
   refine opq (fun W5 => W5.heap[wr.heap.size]? = some (.cells #[.int .i8 x.f2, .int .i8 x.t2] 80) ∧ Kp wr W5) ⟨by exact last_of _ _, by exact kpt⟩ ?_
   rintro W5 ⟨xU5, xK5⟩
   have U5 := hid xU5
   have K5 := hid xK5
   clear xU5 xK5
   have A5 := hid (bl_kp A.out K5.out)
   have u0 := bl_cell (U5.out) 0 _ rfl
   have u1 := bl_cell (U5.out) 1 _ rfl
   have a0 := bl_cell (A5.out) 6 _ rfl
   have a1 := bl_cell (A5.out) 7 _ rfl
   have fa0 := bl_frozen (A5.out) 6
   have fa1 := bl_frozen (A5.out) 7
   go_wp2_with fail
   go_roundg (gk - 1)
   case measure => omega
   case rel => exact ⟨3, by omega, rfl, bl_put (bl_put A5.out _) _, ((K.out.kp K5.out (Nat.le_of_lt (bl_lt A.out))).set _ _).set _ _⟩
  | 3, hq =>
   obtain rfl : gk = 0 := by omega
   have A : Hid (wr.heap[w1.heap.size]? = some (.cells #[.int .i64 (-1), .int .i64 (-1), .int .i64 x.f0, .int .i64 x.t0, .int .i64 x.f1, .int .i64 x.t1, .int .i64 x.f2, .int .i64 x.t2] 36)) := hA
   clear hA
   obtain ⟨a0, a1, a2, a3, a4, a5, a6, a7⟩ := cells8 (A.out)
   have x0 := bl_cell (X.out) 0 _ rfl
   have fz0 := bl_frozen (Z.out) 0
   have fz1 := bl_frozen (Z.out) 1
   have fz2 := bl_frozen (Z.out) 2
   have fz3 := bl_frozen (Z.out) 3
   have fz4 := bl_frozen (Z.out) 4
   have fz5 := bl_frozen (Z.out) 5
   have fz6 := bl_frozen (Z.out) 6
   have fz7 := bl_frozen (Z.out) 7
   have fz8 := bl_frozen (Z.out) 8
   obtain ⟨z0, z1, z2, z3, z4, z5, z6, z7, z8⟩ := cells9 (Z.out)
   go_wp2_with fail
   exact bodyPost_ret (v := stv x) (st_ret rfl _ _ _ _ rfl (bl_set9s Z.out _ _ _ _ _ _ _ _ _) rfl) rfl ⟨rfl, Ks.up (P := w.heap.size + 1) (ks_set9s _ _ _ _ _ _ _ _ _) (K.out.up KW.out (by have := HZ1.out; have := K1.out.size; omega)) (by omega)⟩
  | q + 4, hq => omega
end Go.Proofs.YtnajcnhgeggngaaGreat.Way

/-! ### Gro -/

namespace Go.Proofs.YtnajcnhgeggngaaGreat.Way
open Go.RowKit Go.Proofs.YtnajcnhgeggngaaGreat

def stcs : List Sp → List Value
 | [] => []
 | x :: xs => stc x ++ stcs xs
theorem stcs_append (a b : List Sp) : stcs (a ++ b) = stcs a ++ stcs b := by
 induction a with
 | nil => rfl
 | cons x xs ih => rw [List.cons_append, stcs, stcs, ih, List.append_assoc]
theorem stcs_one (x : Sp) : stcs [x] = stc x := by rw [stcs, stcs, List.append_nil]
theorem stcs_length (a : List Sp) : (stcs a).length = a.length * 9 := by
 induction a with
 | nil => rfl
 | cons x xs ih => rw [stcs, List.length_append, ih, List.length_cons]; show 9 + xs.length * 9 = _; omega
theorem stcs_get (a : List Sp) : ∀ (j : Nat) x, a[j]? = some x → ∀ (i : Nat) u, (stc x)[i]? = some u → (stcs a)[j * 9 + i]? = some u := by
 induction a with
 | nil => intro j x hj; simp at hj
 | cons y ys ih =>
  intro j x hj i u hi
  have hi9 : i < 9 := (List.getElem?_eq_some_iff.1 hi).1
  match j, hj with
  | 0, hj =>
   obtain rfl : y = x := by simpa using hj
   rw [stcs, Nat.zero_mul, Nat.zero_add, List.getElem?_append_left (by show i < 9; exact hi9)]
   exact hi
  | j + 1, hj =>
   rw [stcs, List.getElem?_append_right (by show 9 ≤ _; omega), show (j + 1) * 9 + i - (stc y).length = j * 9 + i by show (j + 1) * 9 + i - 9 = _; omega]
   exact ih j x (by simpa using hj) i u hi
theorem stc_one (x : Sp) : ∀ u ∈ stc x, u.oneCell' = true := by
 intro u hu
 simp [stc] at hu
 rcases hu with rfl | rfl | rfl | rfl | rfl | rfl | rfl | rfl <;> rfl
abbrev stz : Value := .agg #[.int .i64 0, .int .i64 0, .int .i64 0, .int .i64 0, .int .i64 0, .int .i64 0, .int .i64 0, .int .i64 0, .int .i64 0]
theorem info38 : ∃ i, Tryz.prog.info? 38 = some i ∧ i.zero = some stz ∧ i.size = 9 ∧ i.bytes = 72 := by
 obtain ⟨i, hi, h0, h1, h2⟩ := info_parts (P := Tryz.prog) (e := 38) (z := stz) (size := 9) (bytes := 72) (by kernel_rfl)
 exact ⟨i, hi, h0, h1, h2⟩
structure StR (base : Nat) (w : World) (v : Value) (xs : List Sp) : Prop where
 own : w.ownsRow base 38 9 v xs.length (stcs xs)
theorem StR.nil (base : Nat) (w : World) : StR base w (.slice none 0 0) [] := ⟨World.ownsRow_nil _ _ _ _⟩
theorem StR.block {base : Nat} {w : World} {v : Value} {xs : List Sp} (h : StR base w v xs) : ∀ b, v.ownBlock = some b → base ≤ b ∧ b < w.heap.size := h.own.lt
theorem StR.turn {base : Nat} {w w' : World} {v : Value} {xs : List Sp} (h : StR base w v xs) (hk : ∀ b, v.ownBlock = some b → b < w.heap.size → w'.heap[b]? = w.heap[b]?) : StR base w' v xs := ⟨owns_same h.own hk⟩
theorem StR.kp {base : Nat} {w w' : World} {v : Value} {xs : List Sp} (h : StR base w v xs) (k : Kp w w') : StR base w' v xs := h.turn (fun b _ hl => k.block b hl)
theorem StR.form {base : Nat} {w : World} {v : Value} {xs : List Sp} (h : StR base w v xs) : ∃ ad c, v = .slice ad xs.length c ∧ xs.length ≤ c := by
 rcases h.own.2 with ⟨rfl, h0⟩ | ⟨g, cap, cur, hv, _, _, hc, _⟩
 ·
  exact ⟨none, 0, by rw [h0], by omega⟩
 ·
  exact ⟨_, cap, hv, hc⟩
structure StL (w : World) (ok : Nat → Prop) (v : Value) (xs : List Sp) : Prop where
 ex : ∃ ad c, v = .slice ad xs.length c ∧ xs.length ≤ c ∧ (0 < xs.length → ∃ b, ad = some ⟨b, 0, none⟩ ∧ ok b ∧ b < w.heap.size ∧ ∀ (j : Nat) x, xs[j]? = some x → ∀ i u, (stc x)[i]? = some u → w.cell? ⟨b, j * 9 + i, none⟩ = some u)
theorem StL.keep {w w' : World} {ok ok' : Nat → Prop} {v : Value} {xs : List Sp} (h : StL w ok v xs) (hs : w.heap.size ≤ w'.heap.size) (hk : ∀ b, ok b → b < w.heap.size → ok' b ∧ w'.heap[b]? = w.heap[b]?) : StL w' ok' v xs := by
 obtain ⟨ad, c, h1, h2, h3⟩ := h.ex
 refine ⟨ad, c, h1, h2, fun hl => ?_⟩
 obtain ⟨b, e, hb, hlt, hc⟩ := h3 hl
 exact ⟨b, e, (hk b hb hlt).1, by omega, fun j x hj i u hi => (cell_same (hk b hb hlt).2 _).trans (hc j x hj i u hi)⟩
theorem StR.stl {base : Nat} {w : World} {v : Value} {xs : List Sp} (h : StR base w v xs) {ok : Nat → Prop} (hok : ∀ b, v.ownBlock = some b → ok b) : StL w ok v xs := by
 have hown := h.own
 rcases h.own.2 with ⟨rfl, h0⟩ | ⟨g, cap, cur, rfl, hb, hg, hc, _⟩
 ·
  exact ⟨none, 0, by rw [h0], by omega, fun hl => absurd hl (by omega)⟩
 ·
  refine ⟨_, cap, rfl, hc, fun _ => ⟨g, rfl, hok g rfl, bl_lt hg, fun j x hj i u hi => ?_⟩⟩
  have hj' : j < xs.length := (List.getElem?_eq_some_iff.1 hj).1
  have hi9 : i < 9 := (List.getElem?_eq_some_iff.1 hi).1
  rw [World.ownsRow.cellAt hown (j * 9 + i) (by omega)]
  exact stcs_get xs j x hj i u hi
structure MoreS (base : Nat) (w : World) (v : Value) (xs : List Sp) (x : Sp) (v' : Value) (w' : World) : Prop where
 row : StR base w' v' (xs ++ [x])
 grown : w.grownBy w' v.ownBlock
 block : v'.ownBlock = v.ownBlock ∨ v'.ownBlock = some w.heap.size
theorem run_append_st (w : World) (base : Nat) (v : Value) (xs : List Sp) (x : Sp) (ty : TypeId) (hG : StR base w v xs) (B : Nat) (hB : w.heap[B]? = some (sto x)) (hn : xs.length ≤ 1000000000000) (hb : base ≤ w.heap.size) :
  ∃ v' w', (Builtin.append_ #[31, 31] ty #[v, .slice (some ⟨B, 0, none⟩) 1 1]).run Tryz.prog w = .ok v' w' ∧ MoreS base w v xs x v' w' := by
 obtain ⟨i, hi, hz, hsz, hby⟩ := info38
 obtain ⟨v', w', hr, h2, h3, _, h5⟩ := run_append_own_at (P := Tryz.prog) w base 31 ty 38 i stz 9 72 Tryz.underlying31 hi hz hsz hby rfl (by omega) v xs.length (stcs xs) hG.own ⟨B, 0, none⟩ 1 1 (stc x) rfl (fun j u hj => by
  rw [Go.WideShapes.add_plain, Nat.zero_add]
  refine bl_cell hB j u ?_
  rw [← Array.getElem?_toList]
  exact hj) (stc_one x) (by unfold maxLen; omega) (by omega) hb
 refine ⟨v', w', hr, ⟨⟨?_⟩, h3, h5⟩⟩
 rw [List.length_append, stcs_append, stcs_one]
 exact h2
theorem wpList_append_st {ops : Array Oper} {rest : List Oper} {o : Oper} {a : Act} {Q : Exit → Act → World → Prop} (w : World) (hgd : o.guard = none) (s y : Operand)
  (ho : o.op = .call { callee := .builtin .append, args := #[s, y], argTypes := #[31, 31] })
  (base : Nat) (v : Value) (xs : List Sp) (x : Sp) (hs : a.eval s = v) (B : Nat) (hy : a.eval y = .slice (some ⟨B, 0, none⟩) 1 1) (hG : Hid (StR base w v xs)) (hB : w.heap[B]? = some (sto x)) (hn : xs.length ≤ 1000000000000) (hb : base ≤ w.heap.size)
  (h : ∀ v' w', MoreS base w v xs x v' w' → wpList Tryz.prog ops Q rest (a.put o.dst v') w') :
  wpList Tryz.prog ops Q (o :: rest) a w := by
 refine wpList_plain hgd fun K hK => ?_
 obtain ⟨v', w', hr, hg⟩ := run_append_st w base v xs x o.type hG.out B hB hn hb
 unfold Oper.wp execOp
 simp only [ho, resolve, invoke, builtin, Sem.run_bind, Sem.run_pure, Result.andThen_ok, List.map_toArray, List.map_cons, List.map_nil, hs, hy, hr]
 exact hK _ _ (h v' w' hg)
structure FreshR (n sz c : Nat) (w w' : World) : Prop where
 cap : n ≤ c ∧ c ≤ maxLen
 blk : ∃ cur, w'.heap[sz]? = some (.cells cur 38) ∧ cur.size = c * 9
 kp : Kp w w'
theorem wpList_grow {ops : Array Oper} {rest : List Oper} {o : Oper} {a : Act} {Q : Exit → Act → World → Prop} (w : World) (hgd : o.guard = none) (s y : Operand)
  (ho : o.op = .call { callee := .builtin .append, args := #[s, y], argTypes := #[31, 3] })
  (n : Nat) (hs : a.eval s = .slice none 0 0) (hy : a.eval y = .int .i64 (n : Int)) (h0 : 0 < n) (hn : n ≤ 1000000000000)
  (h : ∀ c w', FreshR n w.heap.size c w w' → wpList Tryz.prog ops Q rest (a.put o.dst (.slice (some ⟨w.heap.size, 0, none⟩) n c)) w') :
  wpList Tryz.prog ops Q (o :: rest) a w := by
 refine wpList_plain hgd fun K hK => ?_
 obtain ⟨i, hi, hz, hsz, hby⟩ := info38
 have hr := Go.Lib.run_append_nil_zeros (P := Tryz.prog) w 31 3 o.type 38 i stz .i64 .i64 Tryz.underlying31 Tryz.underlying3 hi hz n h0 (by omega) (by omega) (by rw [hby]; omega)
 unfold Oper.wp execOp
 simp only [ho, resolve, invoke, builtin, Sem.run_bind, Sem.run_pure, Result.andThen_ok, List.map_toArray, List.map_cons, List.map_nil, hs, hy, hr]
 have hge := grownCap_ge w n 0 38
 refine hK _ _ (h _ _ ⟨⟨hge, grownCap_le_maxLen w n 0 38 (by unfold maxLen; omega)⟩, ⟨_, last_of _ _, ?_⟩, ((Kp.refl w).drew).alloc _⟩)
 rw [Array.size_append, size_zeroCells, size_zeroCells, show stz.cells.size = 9 from rfl, ← Nat.add_mul, Nat.add_sub_cancel' hge]
theorem FreshR.row {n c sz : Nat} {w w' : World} (h : FreshR n sz c w w') (base : Nat) (hb : base ≤ sz) : StR base w' (.slice (some ⟨sz, 0, none⟩) 0 c) [] := by
 obtain ⟨cur, h1, h2⟩ := h.blk
 exact ⟨⟨rfl, .inr ⟨sz, c, cur, rfl, hb, h1, Nat.zero_le _, h.cap.2, h2, rfl⟩⟩⟩
theorem grow_any (n : Nat) (hn : n ≤ 1000000000000) (w : World) :
  Calls Tryz.prog 24 #[.slice none 0 0, .int .i64 (n : Int)] w fun e w' => ∃ v, e = .returned v ∧ StR w.heap.size w' v [] ∧ Kp w w' := by
 have gn : ¬ (n : Int) < 0 := by omega
 have gw : wrap64 (n : Int) = (n : Int) := by unfold wrap64; omega
 have HN := hid hn
 clear hn
 by_cases h0 : n = 0
 ·
  subst h0
  go_enter Tryz.func24, Tryz.ntmps24
  go_wp2_with fail
  go_ret
  exact ⟨_, rfl, StR.nil _ _, kpt⟩
 ·
  have hp : 0 < (n : Int) := by omega
  have H0 := hid (show 0 < n by omega)
  clear h0
  go_enter Tryz.func24, Tryz.ntmps24
  go_wp2_with (at_builtin; go_must (refine wpList_grow _ (by rfl) _ _ (by rfl) n (by rfl) (by show Value.int IntKind.i64 (wrap64 (n : Int)) = _; rw [gw]) H0.out ?hn ?_))
  case hn => exact HN.out
  intro c w' fr
  have FR := hid fr
  clear fr
  go_wp2_with fail
  go_ret
  exact ⟨_, rfl, FR.out.row _ (Nat.le_refl _), FR.out.kp⟩
end Go.Proofs.YtnajcnhgeggngaaGreat.Way

/-! ### Wys -/

namespace Go.Proofs.YtnajcnhgeggngaaGreat.Way
open Go.RowKit Go.Proofs.YtnajcnhgeggngaaGreat

structure WysD (W : List Sp) (w : World) (e : Ending) (w' : World) : Prop where
 ex : ∃ v, e = .returned v ∧ StL w' (fun b => w.heap.size ≤ b) v W ∧ Kp w w'
theorem stl_row {base : Nat} {w : World} {v : Value} {xs : List Sp} (h : StR base w v xs) {n : Nat} (hn : n ≤ base) : StL w (fun b => n ≤ b) v xs := h.stl (fun b e => Nat.le_trans hn (h.block b e).1)
theorem wys_any (r : Rx) (s : ByteArray) (bol : Bool) (at_ : Nat) (h60 : s.size ≤ 60) (hr : right true r = true) (ha : at_ ≤ s.size) (W : List Sp) (hW : ways s.data.toList bol (heed 7 (bldE r)) (Sp.at_ (at_ : Int)) = W) (hWn : W.length ≤ 1000000000000) (ok : Nat → Prop) (k mn mx m : Int) (t : W4) (ad : Option Addr) (l c : Nat) (w : World) (hR : RxOk r) (hI : Is w ok r (rxv k mn mx m t (.slice ad l c))) :
  Calls Tryz.prog 10 #[rxv k mn mx m t (.slice ad l c), .string s, .bool bol, .int .i64 (at_ : Int)] w fun e w' => WysD W w e w' := by
 have OA := hid (fun W hI => over_any r s bol 7 (by decide) ok k mn mx m t ad l c W hR hI)
 have HI := hid hI
 have H60 := hid h60
 have HRT := hid hr
 have HAT := hid ha
 have HW := hid hW
 have HWN := hid hWn
 clear hR hI h60 hr ha hW hWn
 go_enter Tryz.func10, Tryz.ntmps10
 go_upto_region 1 with fail
 refine opq (fun W0 => W0.heap[w.heap.size]? = some (rxo k mn mx m t (.slice ad l c)) ∧ Kp w W0) ⟨by exact last_of _ _, by exact kpt⟩ ?_
 rintro W0 ⟨xR0, xK0⟩
 have R0 := hid xR0
 have K0 := hid xK0
 clear xR0 xK0
 obtain ⟨a0, a1, a2, a3, a4, a5, a6, a7, a8⟩ := cells9 (R0.out)
 go_wp2_with fail
 clear a0 a1 a2 a3 a4 a5 a6 a7 a8
 refine (OA.out _ (HI.out.kp K0.out)).mono ?_
 rintro e w1 hd0
 obtain ⟨p, M, rfl, hE, hrd, hnew⟩ := hd0.yes H60.out HRT.out
 have K1 := hid (K0.out.trans hd0.kp)
 have HNEW := hid (fun b (hb : M b ≠ none) => Nat.le_trans K0.out.size (hnew b hb))
 have SP := hid (spots_any s bol H60.out p M at_ HAT.out w1 hrd)
 have HWE := hid (show ways s.data.toList bol p (Sp.at_ (at_ : Int)) = W from by rw [← ways_er, hE, HW.out])
 clear hd0 hE hrd hnew
 obtain ⟨P, hP⟩ : ∃ P, p.P = P := ⟨_, rfl⟩
 rw [hP] at SP ⊢
 clear hP
 go_wp2_with fail
 refine (SP.out).mono ?_
 rintro e w2 hd0
 obtain ⟨v, rfl, hv, hk⟩ := hd0.ex
 rw [HWE.out] at hv
 have K2 := hid (show Kp w w2 from Kx.kp (Kx.past2 (S := fun _ => False) (Kp.kx K1.out) hk (fun b hb e => absurd (HNEW.out b e) (by omega))))
 obtain ⟨ad2, c2, rfl, hc2, hcell⟩ := hv.ex
 have HV := hid hv
 obtain ⟨L, hL⟩ : ∃ L, W.length = L := ⟨_, rfl⟩
 rw [hL] at HV HWN ⊢
 have HL := hid hL
 clear hd0 hv hk hcell hL hc2 SP HWE
 go_wp2_with fail
 refine (grow_any L HWN.out _).mono ?_
 rintro e w3 ⟨v3, rfl, hg, hk⟩
 have G3 := hid hg
 have K3 := hid hk
 obtain ⟨ad3, c3, rfl, -⟩ := hg.form
 clear hg hk
 go_wp2_with fail
 go_loopg [10, 24] L (fun gg v i wr => ∃ q : Nat, q + gg = L ∧ i = .int .i64 (q : Int) ∧ StR w2.heap.size wr v (W.take q) ∧ Kp w2 wr)
 case atStart => exact ⟨0, by omega, rfl, G3.out, K3.out⟩
 case round =>
  obtain ⟨q, hq, rfl, hS, hK⟩ := hrel
  obtain ⟨ad6, c6, hv6, -⟩ := hS.form
  obtain ⟨N6, hN6⟩ : ∃ N, (W.take q).length = N := ⟨_, rfl⟩
  rw [hN6] at hv6
  subst hv6
  clear hN6
  have S6 := hid hS
  have K6 := hid hK
  have V6 := hid (HV.out.keep (ok' := fun b => b < w2.heap.size) hK.size (fun b hb hl => ⟨hl, hK.block b hl⟩))
  have HLW := hid (HWN.out)
  clear hS hK
  by_cases hlt : q < L
  ·
   have gkw : IntKind.i64.wrap ((q : Int) + 1) = (q : Int) + 1 := by have := HLW.out; rw [IntKind.wrap_i64]; omega
   have ga : (q : Int) < (L : Int) := by omega
   have g0 : (0 : Int) ≤ (q : Int) := by omega
   obtain ⟨y, hy⟩ : ∃ y, W[q]? = some y := ⟨_, List.getElem?_eq_getElem (by rw [HL.out]; exact hlt)⟩
   obtain ⟨adz, cz, hvz, _, hcz⟩ := V6.out.ex
   injection hvz with e1 e2 e3
   obtain ⟨b2, hbb, _, hbl, hce⟩ := hcz (by rw [HL.out]; omega)
   rw [← e1] at hbb
   subst hbb
   have hsp := hce q y hy
   have HYO := hid (V6.out.good y (List.mem_of_getElem? hy))
   have HTK := hid (show W.take (q + 1) = W.take q ++ [y] from by rw [List.take_add_one, hy]; rfl)
   have HTL := hid (show (W.take q).length ≤ 1000000000000 from by rw [List.length_take, HL.out]; have := HLW.out; omega)
   have x0 := hsp.c0
   have x1 := hsp.c1
   have x2 := hsp.c2
   have x3 := hsp.c3
   have x4 := hsp.c4
   have x5 := hsp.c5
   have x6 := hsp.c6
   clear hsp hce hy e1 e2 e3 hcz
   go_upto_region 6 with fail
   clear x0 x1 x2 x3 x4 x5 x6
   refine opq (fun W5 => W5.heap[wr.heap.size]? = some (spo y) ∧ Kp w2 W5 ∧ StR w2.heap.size W5 (.slice ad6 N6 c6) (W.take q)) ⟨by exact last_of _ _, by exact K6.out.alloc _, by exact S6.out.kp ((Kp.refl _).alloc _)⟩ ?_
   rintro W5 ⟨xY5, xK5, xS5⟩
   have Y5 := hid xY5
   have K5 := hid xK5
   have S5 := hid xS5
   clear xY5 xK5 xS5
   obtain ⟨y0, y1, y2, y3, y4, y5, y6⟩ := cells7 (Y5.out)
   go_wp2_with fail
   clear y0 y1 y2 y3 y4 y5 y6
   refine (state_any y HYO.out _).mono ?_
   rintro e w7 ⟨rfl, hk⟩
   have K7 := hid (K5.out.trans hk)
   have S7 := hid (S5.out.kp hk)
   clear hk S6 K6 V6
   go_wp2_with (at_builtin; go_must (refine wpList_append_st (w7.alloc (sto y)) (by rfl) _ _ (by rfl) w2.heap.size _ (W.take q) y (by rfl) w7.heap.size (by rfl) ?hG ?hB HTL.out ?hb ?_))
   case hG => exact S7.out.kp ((Kp.refl _).alloc _)
   case hB => exact last_of _ _
   case hb => have := K7.out.size; simp; omega
   intro v' w' md
   have MD := hid md
   clear md
   go_wp2_with fail
   go_roundg (gk - 1)
   case measure => omega
   case rel => exact ⟨q + 1, by omega, by go_num, by rw [HTK.out]; exact MD.out.row, Kx.kp (Kx.grown (S := fun _ => False) (Kp.kx (K7.out.alloc _)) MD.out.grown (fun b e hb => by have := (S7.out.block b e).1; omega))⟩
  ·
   have ga : ¬ (q : Int) < (L : Int) := by omega
   obtain rfl : q = L := by omega
   have HTK := hid (show W.take q = W from by rw [← HL.out]; exact List.take_length)
   go_wp2_with fail
   go_ret
   exact ⟨_, rfl, stl_row (by rw [← HTK.out]; exact S6.out) K2.out.size, K2.out.trans K6.out⟩
end Go.Proofs.YtnajcnhgeggngaaGreat.Way

/-! ### Ens -/

namespace Go.Proofs.YtnajcnhgeggngaaGreat.Way
open Go.RowKit Go.Proofs.YtnajcnhgeggngaaGreat

def endN (W : List Sp) : List Nat := W.map (fun y => y.a.toNat)
structure EnsD (W : List Sp) (w : World) (e : Ending) (w' : World) : Prop where
 ex : ∃ v, e = .returned v ∧ NuL w' (fun b => w.heap.size ≤ b) v ((endN W).mergeSort (fun a b => decide (a ≤ b))) ∧ Kp w w'
theorem nul_row {base : Nat} {w : World} {v : Value} {xs : List Nat} (h : NuR base w v xs) {n : Nat} (hn : n ≤ base) : NuL w (fun b => n ≤ b) v xs := h.nul (fun b e => Nat.le_trans hn (h.block b e).1)
theorem ens_done {W V : List Sp} {base : Nat} {v : Value} {w w2 w3 w4 : World} (hV : V = W) (hd : SrtD base v (endN V) w3 (.returned (.tuple #[])) w4) (h2 : Kp w w2) (h6 : Kp w2 w3) (hb : ∀ b, v.ownBlock = some b → base ≤ b) (hbs : base = w2.heap.size) : EnsD W w (.returned v) w4 := by
 subst hbs
 subst hV
 obtain ⟨-, hr, hk⟩ := hd.ex
 exact ⟨_, rfl, nul_row hr h2.size, h2.trans (Kx.kp (Kx.past2 (S := fun _ => False) (Kp.kx h6) hk (fun b hb2 e => by have := hb b e; omega)))⟩
theorem ens_any (r : Rx) (s : ByteArray) (bol : Bool) (at_ : Nat) (h60 : s.size ≤ 60) (hr : right true r = true) (ha : at_ ≤ s.size) (W : List Sp) (hW : ways s.data.toList bol (heed 0 (bldE r)) (Sp.at_ (at_ : Int)) = W) (hWn : W.length ≤ 1000000000000) (ok : Nat → Prop) (k mn mx m : Int) (t : W4) (ad : Option Addr) (l c : Nat) (w : World) (hR : RxOk r) (hI : Is w ok r (rxv k mn mx m t (.slice ad l c))) :
  Calls Tryz.prog 12 #[rxv k mn mx m t (.slice ad l c), .string s, .bool bol, .int .i64 (at_ : Int)] w fun e w' => EnsD W w e w' := by
 have OA := hid (fun W hI => over_any r s bol 0 (by decide) ok k mn mx m t ad l c W hR hI)
 have HI := hid hI
 have H60 := hid h60
 have HRT := hid hr
 have HAT := hid ha
 have HW := hid hW
 have HWN := hid hWn
 clear hR hI h60 hr ha hW hWn
 go_enter Tryz.func12, Tryz.ntmps12
 go_upto_region 1 with fail
 refine opq (fun W0 => W0.heap[w.heap.size]? = some (rxo k mn mx m t (.slice ad l c)) ∧ Kp w W0) ⟨by exact last_of _ _, by exact kpt⟩ ?_
 rintro W0 ⟨xR0, xK0⟩
 have R0 := hid xR0
 have K0 := hid xK0
 clear xR0 xK0
 obtain ⟨a0, a1, a2, a3, a4, a5, a6, a7, a8⟩ := cells9 (R0.out)
 go_wp2_with fail
 clear a0 a1 a2 a3 a4 a5 a6 a7 a8
 refine (OA.out _ (HI.out.kp K0.out)).mono ?_
 rintro e w1 hd0
 obtain ⟨p, M, rfl, hE, hrd, hnew⟩ := hd0.yes H60.out HRT.out
 have K1 := hid (K0.out.trans hd0.kp)
 have HNEW := hid (fun b (hb : M b ≠ none) => Nat.le_trans K0.out.size (hnew b hb))
 have SP := hid (spots_any s bol H60.out p M at_ HAT.out w1 hrd)
 have HWE := hid (show ways s.data.toList bol p (Sp.at_ (at_ : Int)) = W from by rw [← ways_er, hE, HW.out])
 clear hd0 hE hrd hnew
 obtain ⟨P, hP⟩ : ∃ P, p.P = P := ⟨_, rfl⟩
 rw [hP] at SP ⊢
 clear hP
 go_wp2_with fail
 refine (SP.out).mono ?_
 rintro e w2 hd0
 obtain ⟨v, rfl, hv, hk⟩ := hd0.ex
 rw [HWE.out] at hv
 have K2 := hid (show Kp w w2 from Kx.kp (Kx.past2 (S := fun _ => False) (Kp.kx K1.out) hk (fun b hb e => absurd (HNEW.out b e) (by omega))))
 obtain ⟨ad2, c2, rfl, hc2, hcell⟩ := hv.ex
 have HV := hid hv
 obtain ⟨L, hL⟩ : ∃ L, W.length = L := ⟨_, rfl⟩
 rw [hL] at HV HWN ⊢
 have HL := hid hL
 clear hd0 hv hk hcell hL hc2 SP HWE
 go_wp2_with fail
 go_loopg [9, 19] L (fun gg v i wr => ∃ q : Nat, q + gg = L ∧ i = .int .i64 (q : Int) ∧ NuR w2.heap.size wr v (endN (W.take q)) ∧ Kp w2 wr)
 case atStart => exact ⟨0, by omega, rfl, NuR.nil _ _, Kp.refl _⟩
 case round =>
  obtain ⟨q, hq, rfl, hS, hK⟩ := hrel
  obtain ⟨ad6, c6, hv6, -⟩ := hS.form
  obtain ⟨N6, hN6⟩ : ∃ N, (endN (W.take q)).length = N := ⟨_, rfl⟩
  rw [hN6] at hv6
  subst hv6
  clear hN6
  have S6 := hid hS
  have K6 := hid hK
  have V6 := hid (HV.out.keep (ok' := fun b => b < w2.heap.size) hK.size (fun b hb hl => ⟨hl, hK.block b hl⟩))
  have HLW := hid (HWN.out)
  clear hS hK
  by_cases hlt : q < L
  ·
   have gkw : IntKind.i64.wrap ((q : Int) + 1) = (q : Int) + 1 := by have := HLW.out; rw [IntKind.wrap_i64]; omega
   have ga : (q : Int) < (L : Int) := by omega
   have g0 : (0 : Int) ≤ (q : Int) := by omega
   obtain ⟨y, hy⟩ : ∃ y, W[q]? = some y := ⟨_, List.getElem?_eq_getElem (by rw [HL.out]; exact hlt)⟩
   obtain ⟨adz, cz, hvz, _, hcz⟩ := V6.out.ex
   injection hvz with e1 e2 e3
   obtain ⟨b2, hbb, _, hbl, hce⟩ := hcz (by rw [HL.out]; omega)
   rw [← e1] at hbb
   subst hbb
   have hsp := hce q y hy
   have HYO := hid (V6.out.good y (List.mem_of_getElem? hy))
   have ca : IntKind.i64.wrap y.a = y.a := by have := HYO.out.a0; have := HYO.out.a1; rw [IntKind.wrap_i64]; omega
   have HYN : Hid (Value.int .i64 y.a = nuc y.a.toNat) := by have := HYO.out.a0; show _ = _; unfold nuc; rw [Int.toNat_of_nonneg this]
   have HTK := hid (show endN (W.take (q + 1)) = endN (W.take q) ++ [y.a.toNat] from by rw [List.take_add_one, hy]; unfold endN; rw [List.map_append]; rfl)
   have HTL := hid (show (endN (W.take q)).length + [y.a.toNat].length ≤ 5000000000000 from by unfold endN; rw [List.length_map, List.length_take, HL.out]; have := HLW.out; simp; omega)
   have x0 := hsp.c0
   have x1 := hsp.c1
   have x2 := hsp.c2
   have x3 := hsp.c3
   have x4 := hsp.c4
   have x5 := hsp.c5
   have x6 := hsp.c6
   clear hsp hce hy e1 e2 e3 hcz
   go_upto_region 5 with fail
   clear x0 x1 x2 x3 x4 x5 x6
   refine opq (fun W5 => W5.heap[wr.heap.size]? = some (spo y) ∧ Kp w2 W5 ∧ NuR w2.heap.size W5 (.slice ad6 N6 c6) (endN (W.take q))) ⟨by exact last_of _ _, by exact K6.out.alloc _, by exact S6.out.kp ((Kp.refl _).alloc _)⟩ ?_
   rintro W5 ⟨xY5, xK5, xS5⟩
   have Y5 := hid xY5
   have K5 := hid xK5
   have S5 := hid xS5
   clear xY5 xK5 xS5
   obtain ⟨y0, y1, y2, y3, y4, y5, y6⟩ := cells7 (Y5.out)
   have S7 := hid (S5.out.kp ((Kp.refl W5).alloc (.cells #[.int .i64 y.a] 3)))
   have B7 : Hid (∀ (j : Nat) z, [y.a.toNat][j]? = some z → (W5.alloc (.cells #[.int .i64 y.a] 3)).cell? ⟨W5.heap.size, j, none⟩ = some (nuc z)) := fun j z hj => by
    match j, hj with
    | 0, hj =>
     obtain rfl : y.a.toNat = z := by simpa using hj
     rw [← HYN.out]
     exact bl_cell (last_of _ _) 0 _ rfl
    | j + 1, hj => simp at hj
   clear S6 K6 V6
   go_wp2_with (at_builtin; go_must (refine wpList_append_nu (W5.alloc (.cells #[.int .i64 y.a] 3)) (by rfl) _ _ (by rfl) w2.heap.size _ (endN (W.take q)) [y.a.toNat] (by rfl) W5.heap.size 1 (by rfl) S7 B7 HTL.out ?hb ?_))
   case hb => have := K5.out.size; simp; omega
   intro v' w' md
   have MD := hid md
   clear md
   go_wp2_with fail
   go_roundg (gk - 1)
   case measure => omega
   case rel => exact ⟨q + 1, by omega, by go_num, by rw [HTK.out]; exact MD.out.row, Kx.kp (Kx.grown (S := fun _ => False) (Kp.kx (K5.out.alloc _)) MD.out.grown (fun b e hb => by have := (S7.out.block b e).1; omega))⟩
  ·
   have ga : ¬ (q : Int) < (L : Int) := by omega
   obtain rfl : q = L := by omega
   have HTK := hid (show W.take q = W from by rw [← HL.out]; exact List.take_length)
   have HLE := hid (show (endN (W.take q)).length ≤ 5000000000000 from by rw [HTK.out]; unfold endN; rw [List.length_map, HL.out]; have := HLW.out; omega)
   go_wp2_with fail
   refine (sort_nu w2.heap.size _ (endN (W.take q)) wr S6.out HLE.out).mono ?_
   rintro e w4 hd0
   have HD := hid hd0
   obtain ⟨rfl, -⟩ := hd0.ex
   clear hd0
   go_wp2_with fail
   go_ret
   exact ens_done HTK.out HD.out K2.out K6.out (fun b e => (S6.out.block b e).1) rfl
end Go.Proofs.YtnajcnhgeggngaaGreat.Way

/-! ### Eqn -/

namespace Go.Proofs.YtnajcnhgeggngaaGreat.Way
open Go.RowKit Go.Proofs.YtnajcnhgeggngaaGreat

theorem bl_lt2 {w : World} {b o : Nat} {v : Value} (h : w.cell? ⟨b, o, none⟩ = some v) : b < w.heap.size := World.block_lt_of_cell? w _ h
theorem take_eq_next {xs ys : List Nat} {q : Nat} {a b : Nat} (h : xs.take q = ys.take q) (ha : xs[q]? = some a) (hb : ys[q]? = some b) (e : a = b) : xs.take (q + 1) = ys.take (q + 1) := by
 rw [List.take_add_one, List.take_add_one, h, ha, hb, e]
theorem eqn_any (xs ys : List Nat) (v u : Value) (ok1 ok2 : Nat → Prop) (hx : xs.length ≤ 5000000000000) (w : World) (hv : NuL w ok1 v xs) (hu : NuL w ok2 u ys) :
  Calls Tryz.prog 11 #[v, u] w fun e w' => e = .returned (.bool (decide (xs = ys))) ∧ Kp w w' := by
 obtain ⟨ad, c, rfl, -, hc⟩ := hv.ex
 obtain ⟨ad2, c2, rfl, -, hc2⟩ := hu.ex
 obtain ⟨N, hN⟩ : ∃ N, xs.length = N := ⟨_, rfl⟩
 obtain ⟨N2, hN2⟩ : ∃ N, ys.length = N := ⟨_, rfl⟩
 rw [hN] at hc hx ⊢
 rw [hN2] at hc2 ⊢
 have HN := hid hN
 have HN2 := hid hN2
 have HC := hid hc
 have HC2 := hid hc2
 have HX := hid hx
 clear hN hN2 hc hc2 hx hv hu
 obtain ⟨B, hB⟩ : ∃ B, decide (xs = ys) = B := ⟨_, rfl⟩
 have HB := hid hB
 rw [hB]
 clear hB
 go_enter Tryz.func11, Tryz.ntmps11
 by_cases hne : N = N2
 ·
  subst hne
  go_wp2_with fail
  go_loopg [5] N (fun gg i wr => ∃ q : Nat, q + gg = N ∧ i = .int .i64 (q : Int) ∧ xs.take q = ys.take q ∧ Kp w wr)
  case atStart => exact ⟨0, by omega, rfl, rfl, Kp.refl _⟩
  case round =>
   obtain ⟨q, hq, rfl, hT, hK⟩ := hrel
   have HT := hid hT
   have K6 := hid hK
   clear hT hK
   by_cases hlt : q < N
   ·
    have gkw : IntKind.i64.wrap ((q : Int) + 1) = (q : Int) + 1 := by have := HX.out; rw [IntKind.wrap_i64]; omega
    have ga : (q : Int) < (N : Int) := by omega
    have g0 : (0 : Int) ≤ (q : Int) := by omega
    obtain ⟨a, hya⟩ : ∃ a, xs[q]? = some a := ⟨_, List.getElem?_eq_getElem (by rw [HN.out]; exact hlt)⟩
    obtain ⟨b, hyb⟩ : ∃ b, ys[q]? = some b := ⟨_, List.getElem?_eq_getElem (by rw [HN2.out]; exact hlt)⟩
    obtain ⟨p1, e1, -, hl1, hc1⟩ := HC.out (by omega)
    obtain ⟨p2, e2, -, hl2, hc2⟩ := HC2.out (by omega)
    subst e1
    subst e2
    have d1 : wr.cell? ⟨p1, q, none⟩ = some (.int .i64 (a : Int)) := (cell_same (K6.out.block p1 hl1) _).trans (hc1 q a hya)
    have d2 : wr.cell? ⟨p2, q, none⟩ = some (.int .i64 (b : Int)) := (cell_same (K6.out.block p2 hl2) _).trans (hc2 q b hyb)
    have HYA := hid hya
    have HYB := hid hyb
    have L1 := hid (bl_lt2 d1)
    have L2 := hid (bl_lt2 d2)
    have D1 := hid d1
    have D2 := hid d2
    clear hya hyb hl1 hl2 hc1 hc2 HC HC2 d1 d2
    by_cases he : a = b
    ·
     have HT2 := hid (take_eq_next HT.out HYA.out HYB.out he)
     subst he
     go_upto_region 6 with fail
     have Q0 : Kp wr wr.drew := (Kp.refl _).drew
     have MK : Hid (∀ W, Kp wr W → W.cell? ⟨p1, q, none⟩ = some (.int .i64 (a : Int)) ∧ W.cell? ⟨p2, q, none⟩ = some (.int .i64 (a : Int)) ∧ Hid (Kp wr W)) := fun W k => ⟨(cell_same (k.block p1 L1.out) _).trans D1.out, (cell_same (k.block p2 L2.out) _).trans D2.out, k⟩
     refine wp_region_noPanic ?_
     refine hdrew MK Q0 (fun hH => ?_)
     have KQ := Q0
     refine tk 0 (some 17) (Op.move (Operand.tmp 0)) 40 (v := ?v0e1) rfl ?h0e1 hH ?_
     case h0e1 => intro _ _; go_simp; try with_reducible rfl
     try simp only [ps]
     refine tk 1 (some 18) (Op.move (Operand.tmp 5)) 3 (v := ?v1e2) rfl ?h1e2 hH ?_
     case h1e2 => intro _ _; go_simp; try with_reducible rfl
     try simp only [ps]
     refine tk 2 (some 19) (Op.indexAddr 40 (Operand.tmp 17) (Operand.tmp 18)) 0 (v := ?v2e3) rfl ?h2e3 hH ?_
     case h2e3 => intro _ _; go_simp; try with_reducible rfl
     try simp only [ps]
     refine tk 3 (some 20) (Op.load 3 (Operand.tmp 19)) 3 (v := ?v3e4) rfl ?h3e4 hH ?_
     case h3e4 => intro _ _; go_simp; try with_reducible rfl
     try simp only [ps]
     refine tk 4 (some 21) (Op.move (Operand.tmp 1)) 40 (v := ?v4e5) rfl ?h4e5 hH ?_
     case h4e5 => intro _ _; go_simp; try with_reducible rfl
     try simp only [ps]
     refine tk 5 (some 22) (Op.move (Operand.tmp 5)) 3 (v := ?v5e6) rfl ?h5e6 hH ?_
     case h5e6 => intro _ _; go_simp; try with_reducible rfl
     try simp only [ps]
     refine tk 6 (some 23) (Op.indexAddr 40 (Operand.tmp 21) (Operand.tmp 22)) 0 (v := ?v6e7) rfl ?h6e7 hH ?_
     case h6e7 => intro _ _; go_simp; try with_reducible rfl
     try simp only [ps]
     refine tk 7 (some 24) (Op.load 3 (Operand.tmp 23)) 3 (v := ?v7e8) rfl ?h7e8 hH ?_
     case h7e8 => intro _ _; go_simp; try with_reducible rfl
     try simp only [ps]
     refine tk 8 (some 25) (Op.binOp BinOp.neq 3 (Operand.tmp 20) (Operand.tmp 24) 3) 4 (v := ?v8e9) rfl ?h8e9 hH ?_
     case h8e9 => intro _ _; go_simp; try with_reducible rfl
     try simp only [ps]
     refine wpAnyH_done (by kernel_rfl) ?_ _
     refine NoPanic.normal ?_
     have KF := hid KQ
     go_wp2_with fail
     go_roundg (gk - 1)
     case measure => omega
     case rel => exact ⟨q + 1, by omega, by go_num, HT2.out, K6.out.trans KF.out⟩
    ·
     have hne : ¬ (a : Int) = (b : Int) := by omega
     have HE := hid (show B = false from by rw [← HB.out]; refine decide_eq_false (fun e => he ?_); rw [e, HYB.out] at HYA; exact (Option.some.inj HYA.out).symm)
     go_upto_region 6 with fail
     have Q0 : Kp wr wr.drew := (Kp.refl _).drew
     have MK : Hid (∀ W, Kp wr W → W.cell? ⟨p1, q, none⟩ = some (.int .i64 (a : Int)) ∧ W.cell? ⟨p2, q, none⟩ = some (.int .i64 (b : Int)) ∧ Hid (Kp wr W)) := fun W k => ⟨(cell_same (k.block p1 L1.out) _).trans D1.out, (cell_same (k.block p2 L2.out) _).trans D2.out, k⟩
     refine wp_region_noPanic ?_
     refine hdrew MK Q0 (fun hH => ?_)
     have KQ := Q0
     refine tk 0 (some 17) (Op.move (Operand.tmp 0)) 40 (v := ?v0f1) rfl ?h0f1 hH ?_
     case h0f1 => intro _ _; go_simp; try with_reducible rfl
     try simp only [ps]
     refine tk 1 (some 18) (Op.move (Operand.tmp 5)) 3 (v := ?v1f2) rfl ?h1f2 hH ?_
     case h1f2 => intro _ _; go_simp; try with_reducible rfl
     try simp only [ps]
     refine tk 2 (some 19) (Op.indexAddr 40 (Operand.tmp 17) (Operand.tmp 18)) 0 (v := ?v2f3) rfl ?h2f3 hH ?_
     case h2f3 => intro _ _; go_simp; try with_reducible rfl
     try simp only [ps]
     refine tk 3 (some 20) (Op.load 3 (Operand.tmp 19)) 3 (v := ?v3f4) rfl ?h3f4 hH ?_
     case h3f4 => intro _ _; go_simp; try with_reducible rfl
     try simp only [ps]
     refine tk 4 (some 21) (Op.move (Operand.tmp 1)) 40 (v := ?v4f5) rfl ?h4f5 hH ?_
     case h4f5 => intro _ _; go_simp; try with_reducible rfl
     try simp only [ps]
     refine tk 5 (some 22) (Op.move (Operand.tmp 5)) 3 (v := ?v5f6) rfl ?h5f6 hH ?_
     case h5f6 => intro _ _; go_simp; try with_reducible rfl
     try simp only [ps]
     refine tk 6 (some 23) (Op.indexAddr 40 (Operand.tmp 21) (Operand.tmp 22)) 0 (v := ?v6f7) rfl ?h6f7 hH ?_
     case h6f7 => intro _ _; go_simp; try with_reducible rfl
     try simp only [ps]
     refine tk 7 (some 24) (Op.load 3 (Operand.tmp 23)) 3 (v := ?v7f8) rfl ?h7f8 hH ?_
     case h7f8 => intro _ _; go_simp; try with_reducible rfl
     try simp only [ps]
     refine tk 8 (some 25) (Op.binOp BinOp.neq 3 (Operand.tmp 20) (Operand.tmp 24) 3) 4 (v := ?v8f9) rfl ?h8f9 hH ?_
     case h8f9 => intro _ _; go_simp; try with_reducible rfl
     try simp only [ps]
     refine wpAnyH_done (by kernel_rfl) ?_ _
     refine NoPanic.normal ?_
     have KF := hid KQ
     go_wp2_with fail
     go_ret
     exact ⟨by rw [HE.out]; rfl, K6.out.trans KF.out⟩
   ·
    have ga : ¬ (q : Int) < (N : Int) := by omega
    obtain rfl : q = N := by omega
    have HE := hid (show B = true from by rw [← HB.out]; refine decide_eq_true ?_; have h := HT.out; rwa [List.take_of_length_le (by rw [HN.out]; exact Nat.le_refl _), List.take_of_length_le (by rw [HN2.out]; exact Nat.le_refl _)] at h)
    go_wp2_with fail
    go_ret
    exact ⟨by rw [HE.out]; rfl, K6.out⟩
 ·
  have hne2 : ¬ (N : Int) = (N2 : Int) := by omega
  have HE := hid (show B = false from by rw [← HB.out]; exact decide_eq_false (fun e => hne (by rw [← HN.out, ← HN2.out, e])))
  go_wp2_with fail
  go_ret
  exact ⟨by rw [HE.out]; rfl, kpt⟩
end Go.Proofs.YtnajcnhgeggngaaGreat.Way
