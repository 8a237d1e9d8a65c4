/-
  Texts of this claim: HeedR0, Back9, Has, SetW.
-/
import Derived.Test.YtnajcnhgeggngaaGreatM18
import Derived.RangeFuncNested
import Derived.RangeFuncBound
import Derived.RangeFuncCalls
import Derived.RangeFuncLeaves
import Derived.RangeFuncFrom
import Derived.Shelf.Abstract
import Derived.Shelf.RegionOpen
import Derived.WalkKit
import Derived.OwnWalkIn
import Derived.TacticsInMore
import Derived.LoopNIn
import Derived.LoopIn
import Derived.Test.YtnajcnhgeggngaaGreatM17
import Derived.Test.YtnajcnhgeggngaaGreatM11
import Derived.Test.YtnajcnhgeggngaaGreatM15

/-! ### HeedR0 -/

namespace Go.Proofs.YtnajcnhgeggngaaGreat.Way
open Go.RowKit Go.Proofs.YtnajcnhgeggngaaGreat

mutual
def psize : Pt → Nat
 | .mk _ _ _ _ _ _ _ _ _ _ _ kids => 1 + psizes kids
def psizes : List Pt → Nat
 | [] => 0
 | p :: ps => psize p + psizes ps
end
theorem psize_mem : ∀ {ps : List Pt} {p : Pt}, p ∈ ps → psize p ≤ psizes ps
 | q :: qs, p, hp => by
  unfold psizes
  rcases List.mem_cons.1 hp with e | e
  ·
   rw [e]; omega
  ·
   have := psize_mem e; omega
mutual
theorem psize_heed : ∀ (g : Nat) (p : Pt), psize (heed g p) = psize p
 | g, .mk k low high n s P kn so rd st hd kids => by
  unfold heed psize
  split
  ·
   rw [psize_heedR g kids]
  ·
   split
   ·
    rw [psize_heedA g kids]
   ·
    split
    ·
     rw [psize_heedA _ kids]
    ·
     split
     ·
      rw [psize_heedA _ kids]
     ·
      rfl
theorem psize_heedR : ∀ (g : Nat) (ps : List Pt), psizes (heedR g ps).1 = psizes ps
 | g, [] => by unfold heedR; rfl
 | g, p :: ps => by
  unfold heedR psizes
  rw [psize_heed _ p, psize_heedR g ps]
theorem psize_heedA : ∀ (g : Nat) (ps : List Pt), psizes (heedA g ps) = psizes ps
 | g, [] => by unfold heedA; rfl
 | g, p :: ps => by
  unfold heedA psizes
  rw [psize_heed g p, psize_heedA g ps]
end
mutual
theorem pth_heed : ∀ (g : Nat) (p : Pt), PtH p → PtH (heed g p)
 | g, .mk k low high n s P kn so rd st hd kids, h => by
  unfold PtH at h
  obtain ⟨h1, h2, h3, h4, h5, h6⟩ := h
  unfold heed PtH
  refine ⟨h1, ?_, h3, ?_, ?_, ?_⟩
  ·
   split
   ·
    exact wd_heedR g kids h2
   ·
    split
    ·
     exact wd_heedA g kids h2
    ·
     split
     ·
      exact wd_heedA _ kids h2
     ·
      split
      ·
       exact wd_heedA _ kids h2
      ·
       exact h2
  ·
   intro e
   rw [if_neg (by omega), if_neg (by omega)]
   split
   ·
    rw [heedA_map, List.length_map]; exact h4 e
   ·
    split
    ·
     rw [heedA_map, List.length_map]; exact h4 e
    ·
     exact h4 e
  ·
   split
   ·
    rw [len_heedR]; exact h5
   ·
    split
    ·
     rw [heedA_map, List.length_map]; exact h5
    ·
     split
     ·
      rw [heedA_map, List.length_map]; exact h5
     ·
      split
      ·
       rw [heedA_map, List.length_map]; exact h5
      ·
       exact h5
  ·
   split
   ·
    exact pth_heedR g kids h6
   ·
    split
    ·
     exact pth_heedA g kids h6
    ·
     split
     ·
      exact pth_heedA _ kids h6
     ·
      split
      ·
       exact pth_heedA _ kids h6
      ·
       exact h6
theorem pth_heedR : ∀ (g : Nat) (ps : List Pt), PtsH ps → PtsH (heedR g ps).1
 | g, [], _ => by unfold heedR PtsH; trivial
 | g, p :: ps, h => by
  unfold PtsH at h
  unfold heedR PtsH
  exact ⟨pth_heed _ p h.1, pth_heedR g ps h.2⟩
theorem pth_heedA : ∀ (g : Nat) (ps : List Pt), PtsH ps → PtsH (heedA g ps)
 | g, [], _ => by unfold heedA PtsH; trivial
 | g, p :: ps, h => by
  unfold PtsH at h
  unfold heedA PtsH
  exact ⟨pth_heed g p h.1, pth_heedA g ps h.2⟩
theorem wd_heedR : ∀ (g : Nat) (ps : List Pt), WdOk ps → WdOk (heedR g ps).1
 | g, [], _ => by unfold heedR; trivial
 | g, p :: ps, h => by
  unfold heedR
  refine ⟨?_, wd_heedR g ps h.2⟩
  rw [(heed_P _ p).2.1, (heed_P _ p).2.2]
  exact h.1
theorem wd_heedA : ∀ (g : Nat) (ps : List Pt), WdOk ps → WdOk (heedA g ps)
 | g, [], _ => by unfold heedA; trivial
 | g, p :: ps, h => by
  unfold heedA
  refine ⟨?_, wd_heedA g ps h.2⟩
  rw [(heed_P _ p).2.1, (heed_P _ p).2.2]
  exact h.1
theorem len_heedR : ∀ (g : Nat) (ps : List Pt), (heedR g ps).1.length = ps.length
 | g, [] => by unfold heedR; rfl
 | g, p :: ps => by
  unfold heedR
  rw [List.length_cons, List.length_cons, len_heedR g ps]
end
def tellS {L : Nat} (s : List Pt × Nat) (j : Fin L) : List Pt × Nat :=
 match s.1[j.val]? with
 | some p => (s.1.set j.val (heed s.2 p), heedG s.2 p)
 | none => s
structure TellI (kids : List Pt) (s : List Pt × Nat) : Prop where
 len : s.1.length = kids.length
 bl : ∀ (j : Nat) p q, kids[j]? = some p → s.1[j]? = some q → blks q = blks p ∧ pblks q = pblks p ∧ q.P = p.P ∧ q.rd = p.rd ∧ q.st = p.st ∧ psize q = psize p ∧ PtH q
 g : s.2 < 8
theorem TellI.start {kids : List Pt} {g : Nat} (hh : PtsH kids) (hg : g < 8) : TellI kids (kids, g) :=
 ⟨rfl, fun j p q h1 h2 => by
  rw [h1] at h2
  injection h2 with h2
  subst h2
  exact ⟨rfl, rfl, rfl, rfl, rfl, rfl, hh.get p (List.mem_of_getElem? h1)⟩, hg⟩
theorem TellI.tell {kids : List Pt} {s : List Pt × Nat} (h : TellI kids s) (hw : WdOk kids) {L : Nat} (j : Fin L) : TellI kids (tellS s j) := by
 unfold tellS
 split
 ·
  rename_i p hp
  have hl : j.val < s.1.length := (List.getElem?_eq_some_iff.1 hp).1
  obtain ⟨p0, hp0⟩ : ∃ p0, kids[j.val]? = some p0 := ⟨_, List.getElem?_eq_getElem (by rw [← h.len]; exact hl)⟩
  obtain ⟨b1, b2, b3, b4, b5, b6, b7⟩ := h.bl _ _ _ hp0 hp
  refine ⟨by rw [List.length_set]; exact h.len, fun i a b h1 h2 => ?_, heedG_lt h.g (by rw [b4]; exact (hw.get _ _ hp0).1)⟩
  by_cases e : j.val = i
  ·
   subst e
   rw [List.getElem?_set_self hl] at h2
   injection h2 with h2
   rw [hp0] at h1
   injection h1 with h1
   subst h1 h2
   rw [(blks_heed _ p).1, (blks_heed _ p).2, (heed_P _ p).1, (heed_P _ p).2.1, (heed_P _ p).2.2, psize_heed]
   exact ⟨b1, b2, b3, b4, b5, b6, pth_heed _ p b7⟩
  ·
   rw [List.getElem?_set_ne e] at h2
   exact h.bl i a b h1 h2
 ·
  exact h
theorem blkss_same : ∀ {a b : List Pt}, a.length = b.length → (∀ (j : Nat) p q, b[j]? = some p → a[j]? = some q → blks q = blks p) → blkss a = blkss b
 | [], [], _, _ => rfl
 | [], y :: ys, h, _ => by cases h
 | x :: xs, [], h, _ => by cases h
 | x :: xs, y :: ys, h, hb => by
  unfold blkss
  rw [hb 0 y x rfl rfl, blkss_same (by simpa using h) (fun j p q h1 h2 => hb (j + 1) p q h1 h2)]
theorem TellI.nd {kids : List Pt} {s : List Pt × Nat} (h : TellI kids s) : blkss s.1 = blkss kids := blkss_same h.len (fun j p q h1 h2 => (h.bl j p q h1 h2).1)
theorem pblkss_same : ∀ {a b : List Pt}, a.length = b.length → (∀ (j : Nat) p q, b[j]? = some p → a[j]? = some q → pblks q = pblks p) → pblkss a = pblkss b
 | [], [], _, _ => rfl
 | [], y :: ys, h, _ => by cases h
 | x :: xs, [], h, _ => by cases h
 | x :: xs, y :: ys, h, hb => by
  unfold pblkss
  rw [hb 0 y x rfl rfl, pblkss_same (by simpa using h) (fun j p q h1 h2 => hb (j + 1) p q h1 h2)]
theorem TellI.ndp {kids : List Pt} {s : List Pt × Nat} (h : TellI kids s) : pblkss s.1 = pblkss kids := pblkss_same h.len (fun j p q h1 h2 => (h.bl j p q h1 h2).2.1)
def vis (L m : Nat) : List Nat := (List.range (L - m)).map (fun i => L - 1 - i)
theorem vis_start (L : Nat) : vis L L = [] := by unfold vis; rw [Nat.sub_self]; rfl
theorem vis_succ {L j : Nat} (h : j < L) : vis L j = vis L (j + 1) ++ [j] := by
 unfold vis
 rw [show L - j = (L - (j + 1)) + 1 by omega, List.range_succ, List.map_append]
 congr 1
 rw [List.map_cons, List.map_nil]
 congr 1
 omega
theorem tell_back {g : Nat} {kids : List Pt} : ∀ (d m : Nat) (pre : List (Fin kids.length)), m + d = kids.length → pre.map Fin.val = vis kids.length m → pre.foldl tellS (kids, g) = (backR g kids m, backG g kids m)
 | 0, m, pre, hm, hp => by
  have e : m = kids.length := by omega
  subst e
  rw [vis_start] at hp
  have : pre = [] := List.map_eq_nil_iff.1 hp
  rw [this]
  unfold backR backG
  rw [List.take_length, List.drop_length, heedR, List.append_nil]
  rfl
 | d + 1, m, pre, hm, hp => by
  have hlt : m < kids.length := by omega
  rw [vis_succ hlt] at hp
  obtain ⟨pre', x, rfl⟩ : ∃ pre' x, pre = pre' ++ [x] := by
   have hne : pre ≠ [] := fun e => by rw [e] at hp; simp at hp
   exact ⟨pre.dropLast, pre.getLast hne, (List.dropLast_concat_getLast hne).symm⟩
  rw [List.map_append] at hp
  obtain ⟨h1, h2⟩ := List.append_inj' hp (by simp)
  have h3 : x.val = m := by simpa using h2
  rw [List.foldl_append, tell_back d (m + 1) pre' (by omega) h1]
  obtain ⟨p, hp0⟩ : ∃ p, kids[m]? = some p := ⟨_, List.getElem?_eq_getElem hlt⟩
  show tellS (backR g kids (m + 1), backG g kids (m + 1)) x = _
  unfold tellS
  rw [h3, backR_get hp0]
  simp only
  rw [(backR_set hp0).1, (backR_set hp0).2]
theorem back_all (g : Nat) (kids : List Pt) : backR g kids 0 = (heedR g kids).1 := by
 unfold backR
 rw [List.take_zero, List.drop_zero, List.nil_append]
def KC (w w' : World) : Prop := w.heap.size ≤ w'.heap.size ∧ ∀ (b : Nat) (cs : Array Value) (t : TypeId) (fr : Nat × Nat), w.heap[b]? = some (Obj.cells cs t fr) → w'.heap[b]? = some (Obj.cells cs t fr)
theorem KC.cell {w w' : World} (h : KC w w') {a : Addr} {v : Value} (hv : w.cell? a = some v) : w'.cell? a = some v := by
 obtain ⟨o, ho, hc⟩ := cells_of_cell hv
 cases o with
 | cells cs t fr => exact (World.cell?_of_block (w := w) (a := a) ((h.2 _ _ _ _ ho).trans ho.symm)).trans hv
 | _ => cases hc
theorem KidS.kc {w w' : World} {ok : Nat → Prop} {ad : Option Addr} {c : Nat} {kids : List Pt} (h : KidS w ok ad c kids) (k : KC w w') : KidS w' ok ad c kids := by
 refine ⟨h.cap, fun hl => ?_⟩
 obtain ⟨b, e, hb, hlt, hc⟩ := h.at_ hl
 exact ⟨b, e, hb, Nat.lt_of_lt_of_le hlt k.1, fun j q hj => k.cell (hc j q hj)⟩
mutual
theorem PtAt.kc {w w' : World} {ok : Nat → Prop} (k : KC w w') : ∀ (p : Pt), PtAt w ok p → PtAt w' ok p
 | .mk kk low high n s P kn so rd st hd kids, h => by
  unfold PtAt at h ⊢
  obtain ⟨h1, ⟨ad, c, h2, h3, h4⟩, h5⟩ := h
  refine ⟨h1, ⟨ad, c, k.2 _ _ _ _ h2, h3, fun hl => ?_⟩, PtsAt.kc k kids h5⟩
  obtain ⟨b, e, hb, hlt, hc⟩ := h4 hl
  exact ⟨b, e, hb, Nat.lt_of_lt_of_le hlt k.1, fun j q hj => k.cell (hc j q hj)⟩
theorem PtsAt.kc {w w' : World} {ok : Nat → Prop} (k : KC w w') : ∀ (ps : List Pt), PtsAt w ok ps → PtsAt w' ok ps
 | [], _ => by unfold PtsAt; trivial
 | p :: ps, h => by
  unfold PtsAt at h ⊢
  exact ⟨PtAt.kc k p h.1, PtsAt.kc k ps h.2⟩
end
end Go.Proofs.YtnajcnhgeggngaaGreat.Way

/-! ### Back9 -/

namespace Go.Proofs.YtnajcnhgeggngaaGreat.Way
set_option maxHeartbeats 2000000
set_option maxRecDepth 100000
open Go.RowKit Go.Shelf Go.Proofs.YtnajcnhgeggngaaGreat
attribute [local go_sem] Oper.semAt_some

def K2b (Bs kb : Nat) (W W' : World) : Prop := W'.heap[Bs]? = W.heap[Bs]? ∧ W'.heap[kb]? = W.heap[kb]?
theorem K2b.trans {Bs kb : Nat} {A B C : World} (h : K2b Bs kb A B) (k : K2b Bs kb B C) : K2b Bs kb A C := ⟨k.1.trans h.1, k.2.trans h.2⟩
theorem make_back (ad : Option Addr) (L c : Nat) (w : World) : Calls Tryz.prog 51 #[.slice ad L c] w fun e w' => e = .returned (.func (.func 79) #[] #[.pointer (some ⟨w.heap.size, 0, none⟩)]) ∧ w' = w.alloc (.cells #[.slice ad L c] 124) := by
 go_enter Tryz.func51, Tryz.ntmps51
 go_wp2_with fail
 go_ret
 exact ⟨rfl, rfl⟩
theorem back1_in (n : Nat) (hn : 1 ≤ n) (l Bs kb L c : Nat) (f : Nat → Nat) (hL : L ≤ 1000000) (J Jx : List (Fin L) → World → Prop)
  (hY : ∀ pre x W, J pre W → pre.length < L → YieldAt Fence.wide (n - 1) Tryz.prog l #[.int .i64 (x.val : Int), ptv (f x.val)] W fun e W' =>
   (e = .returned (.bool true) ∧ J (pre ++ [x]) W' ∧ K2b Bs kb W W') ∨ (e = .returned (.bool false) ∧ Jx (pre ++ [x]) W'))
  (W : World) (hBs : W.cell? ⟨Bs, 0, none⟩ = some (.slice (some ⟨kb, 0, none⟩) L c)) (hc : ∀ j, j < L → W.cell? ⟨kb, j, none⟩ = some (ptv (f j))) (h0 : J [] W) :
  CallsIn Fence.wide n Tryz.prog 79 #[.func (.yield l) #[] #[], .pointer (some ⟨Bs, 0, none⟩)] W fun e W' => (∃ v, e = .returned v) ∧
   ((∃ ys : List (Fin L), ys.map Fin.val = vis L 0 ∧ J ys W') ∨ (∃ pre : List (Fin L), True ∧ Jx pre W')) := by
 refine callsIn_of_wp Tryz.func79 rfl trivial ?_ rfl
 simp only [Tryz.ntmps79, List.size_toArray, List.length_cons, List.length_nil, Nat.reduceAdd, Nat.reduceSub, Array.replicate_succ, Array.replicate_zero, List.push_toArray, List.append_toArray, List.nil_append, List.cons_append]
 have gw0 : IntKind.i64.wrap ((L : Int) - 1) = (L : Int) - 1 := by rw [IntKind.wrap_i64]; omega
 gi_wp2
 gi_loopw [3] (fun i wr => ∃ (m : Nat) (pre : List (Fin L)), m ≤ L ∧ i = .int .i64 ((m : Int) - 1) ∧ pre.map Fin.val = vis L m ∧ J pre wr ∧ K2b Bs kb W wr)
  (fun i _ => (intOf i + 1).toNat)
 case atStart => exact ⟨L, [], Nat.le_refl _, rfl, (vis_start L).symm, h0, rfl, rfl⟩
 case round =>
  obtain ⟨m, pre, hm, rfl, hp, hJs, hk1, hk2⟩ := hrel
  cases m with
  | zero =>
   have gneg : ¬ (0 : Int) ≤ ((0 : Nat) : Int) - 1 := by omega
   gi_wp2
   go_end0
   exact ⟨⟨_, rfl⟩, .inl ⟨pre, hp, hJs⟩⟩
  | succ j =>
   have ej : (((j + 1 : Nat) : Int) - 1) = (j : Int) := by omega
   rw [ej]
   have g0 : (0 : Int) ≤ (j : Int) := by omega
   have gj : (j : Int) < (L : Int) := by omega
   have gw : IntKind.i64.wrap ((j : Int) - 1) = (j : Int) - 1 := by rw [IntKind.wrap_i64]; omega
   have hlt : j < L := by omega
   have hpl : pre.length < L := by
    have := congrArg List.length hp
    rw [List.length_map] at this
    rw [this, vis, List.length_map, List.length_range]
    omega
   have cB : wr.cell? ⟨Bs, 0, none⟩ = some (.slice (some ⟨kb, 0, none⟩) L c) := (cell_same hk1 _).trans hBs
   have cK : wr.cell? ⟨kb, j, none⟩ = some (ptv (f j)) := (cell_same hk2 _).trans (hc j hlt)
   obtain ⟨fn, tmps, assign, body, hy, hR⟩ := hY pre ⟨j, hlt⟩ wr hJs hpl
   dsimp only at hy
   gi_wp2
   refine hR.mono ?_
   rintro e W3 (⟨rfl, hJ3, hk3⟩ | ⟨rfl, hJx3⟩)
   ·
    gi_wp2
    go_roundw
    case rel => exact ⟨j, pre ++ [⟨j, hlt⟩], by omega, by go_num, by rw [List.map_append, hp, vis_succ hlt]; rfl, hJ3, hk3.1.trans hk1, hk3.2.trans hk2⟩
    case measure => simp [intOf]
   ·
    gi_wp2
    refine bodyPost_ret (results_none rfl _ _ _) rfl ?_
    exact ⟨⟨_, rfl⟩, .inr ⟨_, trivial, hJx3⟩⟩
theorem back1_nil_in (n : Nat) (l Bs c : Nat) (ad : Option Addr) (J : List (Fin 0) → World → Prop) (W : World) (hBs : W.cell? ⟨Bs, 0, none⟩ = some (.slice ad 0 c)) (h0 : J [] W) :
  CallsIn Fence.wide n Tryz.prog 79 #[.func (.yield l) #[] #[], .pointer (some ⟨Bs, 0, none⟩)] W fun e W' => (∃ v, e = .returned v) ∧ J [] W' := by
 refine callsIn_of_wp Tryz.func79 rfl trivial ?_ rfl
 simp only [Tryz.ntmps79, List.size_toArray, List.length_cons, List.length_nil, Nat.reduceAdd, Nat.reduceSub, Array.replicate_succ, Array.replicate_zero, List.push_toArray, List.append_toArray, List.nil_append, List.cons_append]
 have gw0 : IntKind.i64.wrap (0 - 1) = -1 := by decide
 gi_wp2
 gi_loopw [3] (fun i wr => i = .int .i64 (-1) ∧ J [] wr) (fun _ _ => 0)
 case atStart => exact ⟨rfl, h0⟩
 case round =>
  obtain ⟨rfl, hJs⟩ := hrel
  gi_wp2
  go_end0
  exact ⟨⟨_, rfl⟩, hJs⟩
theorem back_stops (n : Nat) (hn : 1 ≤ n) (Bs kb L c : Nat) (ad : Option Addr) (f : Nat → Nat) (hL : L ≤ 1000000) (w : World) (hBl : Bs < w.heap.size) (hkl : kb < w.heap.size) (hBs : w.cell? ⟨Bs, 0, none⟩ = some (.slice ad L c)) (hc : 0 < L → ad = some ⟨kb, 0, none⟩ ∧ ∀ j, j < L → w.cell? ⟨kb, j, none⟩ = some (ptv (f j))) :
  SeqStopsK Fence.wide n Tryz.prog 79 #[.pointer (some ⟨Bs, 0, none⟩)] (fun x : Fin L => #[Value.int .i64 (x.val : Int), ptv (f x.val)]) (K2b Bs kb) (fun ys => ys.map Fin.val = vis L 0) (fun _ => True) L w := fun l J Jx W hW _ _ hY h0 => by
 have hB' := (hW.cell (p := ⟨Bs, 0, none⟩) hBl).trans hBs
 by_cases h : 0 < L
 ·
  obtain ⟨rfl, hcs⟩ := hc h
  exact back1_in n hn l Bs kb L c f hL J Jx hY W hB' (fun j hj => (hW.cell (p := ⟨kb, j, none⟩) hkl).trans (hcs j hj)) h0
 ·
  obtain rfl : L = 0 := by omega
  exact (back1_nil_in n l Bs c ad J W hB' h0).mono fun e W' ⟨he, hj⟩ => ⟨he, .inl ⟨[], rfl, hj⟩⟩
end Go.Proofs.YtnajcnhgeggngaaGreat.Way

/-! ### Has -/

namespace Go.Proofs.YtnajcnhgeggngaaGreat.Way
set_option maxHeartbeats 2000000
set_option maxRecDepth 100000
open Go.RowKit Go.Proofs.YtnajcnhgeggngaaGreat

theorem eq_sp (x y : Sp) (hx : x.Ok) (hy : y.Ok) (w : World) : (Op.equalIn 10000 83 (spv x) (spv y)).run Tryz.prog w = .ok (x == y) w := by
 obtain ⟨lx, kx⟩ := key_sp x hx
 obtain ⟨ly, ky⟩ := key_sp y hy
 obtain ⟨r, hr, hi⟩ := run_equal_deep (P := Tryz.prog) w (m := 8) (by decide) (k := 83) (by kernel_rfl) (by kernel_rfl) kx ky
 have hr2 : (Op.equalIn 10000 83 (spv x) (spv y)).run Tryz.prog w = .ok r w := hr
 rw [hr2]
 have : r = (x == y) := by
  rw [Bool.eq_iff_iff, hi, beq_iff_eq]
  constructor
  ·
   intro e
   subst e
   exact spv_inj (keyed83.inj kx ky)
  ·
   intro e
   subst e
   rw [kx] at ky
   injection ky
 rw [this]
theorem hasfA_any (R V K h : Nat) (hh : h < 8) (key x : Sp) (hk : key.Ok) (hx : x.Ok) (w : World) (hV : w.cell? ⟨V, 0, none⟩ = some (.pointer (some ⟨R, 0, none⟩))) (hR : w.cell? ⟨R, 0, none⟩ = some (.int .u8 (h : Int))) (hK : w.heap[K]? = some (spo key)) :
  Calls Tryz.prog 140 #[spv x, .pointer (some ⟨V, 0, none⟩), .pointer (some ⟨K, 0, none⟩)] w fun e w' => e = .returned (.bool (x.only h == key)) ∧ Kp w w' := by
 have HV := hid hV
 have HR := hid hR
 have HK := hid hK
 have OA := hid (fun W => only_any x h hh W)
 have es := eq_sp (x.only h) key (hx.only h) hk
 clear hV hR hK
 go_enter Tryz.func140, Tryz.ntmps140
 go_upto_region 1 with fail
 refine opq (fun W0 => W0.heap[w.heap.size]? = some (spo x) ∧ W0.heap[K]? = some (spo key) ∧ W0.cell? ⟨V, 0, none⟩ = some (.pointer (some ⟨R, 0, none⟩)) ∧ W0.cell? ⟨R, 0, none⟩ = some (.int .u8 (h : Int)) ∧ Kp w W0) ⟨by exact last_of _ _, by exact bl_kp HK.out kpt, by exact ((by repeat (first | exact Kp.refl _ | refine Kp.alloc ?_ _ | refine Kp.drew ?_ | refine Kp.drewN _ ?_) : Kp w _).cell (World.block_lt_of_cell? _ _ HV.out)).trans HV.out, by exact ((by repeat (first | exact Kp.refl _ | refine Kp.alloc ?_ _ | refine Kp.drew ?_ | refine Kp.drewN _ ?_) : Kp w _).cell (World.block_lt_of_cell? _ _ HR.out)).trans HR.out, by exact kpt⟩ ?_
 rintro W0 ⟨xA0, xKB, xCV, xCR, xK0⟩
 have A0 := hid xA0
 have KB := hid xKB
 have CV := hid xCV
 have CR := hid xCR
 have K0 := hid xK0
 clear xA0 xKB xCV xCR xK0
 have Q0 : Kp W0 W0.drew := (Kp.refl _).drew
 have MK : Hid (∀ W, Kp W0 W → W.cell? ⟨w.heap.size, 0, none⟩ = some (.int .i8 x.a) ∧ W.cell? ⟨w.heap.size, 1, none⟩ = some (.int .i8 x.f0) ∧ W.cell? ⟨w.heap.size, 2, none⟩ = some (.int .i8 x.t0) ∧ W.cell? ⟨w.heap.size, 3, none⟩ = some (.int .i8 x.f1) ∧ W.cell? ⟨w.heap.size, 4, none⟩ = some (.int .i8 x.t1) ∧ W.cell? ⟨w.heap.size, 5, none⟩ = some (.int .i8 x.f2) ∧ W.cell? ⟨w.heap.size, 6, none⟩ = some (.int .i8 x.t2) ∧ W.cell? ⟨V, 0, none⟩ = some (.pointer (some ⟨R, 0, none⟩)) ∧ W.cell? ⟨R, 0, none⟩ = some (.int .u8 (h : Int)) ∧ W.cell? ⟨K, 0, none⟩ = some (.int .i8 key.a) ∧ W.cell? ⟨K, 1, none⟩ = some (.int .i8 key.f0) ∧ W.cell? ⟨K, 2, none⟩ = some (.int .i8 key.t0) ∧ W.cell? ⟨K, 3, none⟩ = some (.int .i8 key.f1) ∧ W.cell? ⟨K, 4, none⟩ = some (.int .i8 key.t1) ∧ W.cell? ⟨K, 5, none⟩ = some (.int .i8 key.f2) ∧ W.cell? ⟨K, 6, none⟩ = some (.int .i8 key.t2) ∧ Hid (Kp W0 W)) := fun W k => ⟨bl_cell (bl_kp A0.out k) 0 _ rfl, bl_cell (bl_kp A0.out k) 1 _ rfl, bl_cell (bl_kp A0.out k) 2 _ rfl, bl_cell (bl_kp A0.out k) 3 _ rfl, bl_cell (bl_kp A0.out k) 4 _ rfl, bl_cell (bl_kp A0.out k) 5 _ rfl, bl_cell (bl_kp A0.out k) 6 _ rfl, (k.cell (World.block_lt_of_cell? _ _ CV.out)).trans CV.out, (k.cell (World.block_lt_of_cell? _ _ CR.out)).trans CR.out, bl_cell (bl_kp KB.out k) 0 _ rfl, bl_cell (bl_kp KB.out k) 1 _ rfl, bl_cell (bl_kp KB.out k) 2 _ rfl, bl_cell (bl_kp KB.out k) 3 _ rfl, bl_cell (bl_kp KB.out k) 4 _ rfl, bl_cell (bl_kp KB.out k) 5 _ rfl, bl_cell (bl_kp KB.out k) 6 _ rfl, k⟩
 refine wp_region_noPanic ?_
 refine hdrew MK Q0 (fun hH => ?_)
 have KQ := Q0
 refine tk 0 (some 5) (Op.load 83 (Operand.tmp 3)) 83 (v := ?v0a1) rfl ?h0a1 hH ?_
 case h0a1 => intro _ _; go_simp; try with_reducible rfl
 try simp only [ps]
 refine tk 1 (some 6) (Op.load 179 (Operand.tmp 1)) 179 (v := ?v1a2) rfl ?h1a2 hH ?_
 case h1a2 => intro _ _; go_simp; try with_reducible rfl
 try simp only [ps]
 refine tk 2 (some 7) (Op.nilCheck (Operand.tmp 6)) 0 (v := ?v2a3) rfl ?h2a3 hH ?_
 case h2a3 => intro _ _; go_simp; try with_reducible rfl
 try simp only [ps]
 refine tk 3 (some 8) (Op.fieldAddr 177 (Operand.tmp 7) 0) 0 (v := ?v3a4) rfl ?h3a4 hH ?_
 case h3a4 => intro _ _; go_simp; try with_reducible rfl
 try simp only [ps]
 refine tk 4 (some 9) (Op.load 75 (Operand.tmp 8)) 75 (v := ?v4a5) rfl ?h4a5 hH ?_
 case h4a5 => intro _ _; go_simp; try with_reducible rfl
 try simp only [ps]
 refine tk 6 (some 11) (Op.load 83 (Operand.tmp 2)) 83 (v := ?v6a6) rfl ?h6a6 hH ?_
 case h6a6 => intro _ _; go_simp; try with_reducible rfl
 try simp only [ps]
 refine wpAnyH_ready (rs := [5]) (by kernel_rfl) (by simp) ?_
 refine AllReadyH.cons (o := { dst := some 10, op := Op.call { callee := Callee.value (Operand.func 55), args := #[Operand.tmp 5, Operand.tmp 9], argTypes := #[83, 75] }, type := 83, pos := "spot.go:109", after := #[{ on := 0, ground := Ground.data }, { on := 4, ground := Ground.data }], guard := none }) rfl (fun K hKq => ?_) AllReadyH.nil
 go_simp
 refine (OA.out _).mono ?_
 rintro e y1 ⟨rfl, kq⟩
 refine hKq.out _ _ (MK.out _ (KQ.trans kq)) (fun hN => ?_)
 clear kq
 clear hKq K hH KQ
 have hH := hN
 clear hN
 have KQ := hH.2.2.2.2.2.2.2.2.2.2.2.2.2.2.2.2.out
 try simp only [ps]
 refine tk 7 (some 12) (Op.binOp BinOp.eql 83 (Operand.tmp 10) (Operand.tmp 11) 83) 4 (v := ?v7a7) rfl ?h7a7 hH ?_
 case h7a7 => intro _ _; go_simp; try with_reducible rfl
 try simp only [ps]
 refine tk 8 (some 4) (Op.assign (Operand.tmp 12)) 4 (v := ?v8a8) rfl ?h8a8 hH ?_
 case h8a8 => intro _ _; go_simp; try with_reducible rfl
 try simp only [ps]
 refine wpAnyH_done (by kernel_rfl) ?_ _
 refine NoPanic.normal ?_
 go_wp2_with fail
 go_ret
 exact ⟨rfl, K0.out.trans KQ⟩
theorem idxfA_any (R V K h : Nat) (hh : h < 8) (key : Sp) (hk : key.Ok) (ok : Nat → Prop) (v : Value) (xs : List Sp) (w : World) (hS : SpL w ok v xs) (hn : xs.length ≤ 5000000000000) (hV : w.cell? ⟨V, 0, none⟩ = some (.pointer (some ⟨R, 0, none⟩))) (hR : w.cell? ⟨R, 0, none⟩ = some (.int .u8 (h : Int))) (hK : w.heap[K]? = some (spo key)) :
  Calls Tryz.prog 145 #[v, .func (.func 140) #[] #[.pointer (some ⟨V, 0, none⟩), .pointer (some ⟨K, 0, none⟩)]] w fun e w' => (∃ i : Int, e = .returned (.int .i64 i) ∧ (decide (i ≥ 0) = xs.any (fun y => y.only h == key))) ∧ Kp w w' := by
 obtain ⟨ad, c, rfl, hlc, hcell⟩ := hS.ex
 obtain ⟨L, hL⟩ : ∃ L, xs.length = L := ⟨_, rfl⟩
 rw [hL] at hlc hcell hn ⊢
 have HC := hid hcell
 have HL := hid hL
 have HG := hid hS.good
 have HF := hid (fun (x : Sp) (hx : x.Ok) (W : World) (k : Kp w W) => hasfA_any R V K h hh key x hk hx W ((k.cell (World.block_lt_of_cell? _ _ hV)).trans hV) ((k.cell (World.block_lt_of_cell? _ _ hR)).trans hR) (bl_kp hK k))
 clear hcell hS hV hR hK hL
 go_enter Tryz.func145, Tryz.ntmps145
 go_wp2_with fail
 go_loopg [8] L (fun gg i wr => ∃ q : Nat, q + gg = L ∧ i = .int .i64 (q : Int) ∧ (xs.take q).any (fun y => y.only h == key) = false ∧ Kp w wr)
 case atStart => exact ⟨0, by omega, rfl, rfl, Kp.refl _⟩
 case round =>
  obtain ⟨q, hq, rfl, hA, hK⟩ := hrel
  have HA := hid hA
  have K := hid hK
  clear hA hK
  by_cases hlt : q < L
  ·
   have gkw : IntKind.i64.wrap ((q : Int) + 1) = (q : Int) + 1 := by rw [IntKind.wrap_i64]; omega
   have ga : (q : Int) < (L : Int) := by omega
   have g0 : (0 : Int) ≤ (q : Int) := by omega
   obtain ⟨b, rfl, _, hb, hce⟩ := HC.out (by omega)
   obtain ⟨x, hx⟩ : ∃ x, xs[q]? = some x := ⟨_, List.getElem?_eq_getElem (by rw [HL.out]; exact hlt)⟩
   have hsp := (hce q x hx).same (K.out.block b hb)
   have x0 := hsp.c0
   have x1 := hsp.c1
   have x2 := hsp.c2
   have x3 := hsp.c3
   have x4 := hsp.c4
   have x5 := hsp.c5
   have x6 := hsp.c6
   have HCL := hid (HF.out x (HG.out x (List.mem_of_getElem? hx)) wr K.out)
   have HTK : Hid ((xs.take (q + 1)).any (fun y => y.only h == key) = (x.only h == key)) := by
    show _ = _
    rw [List.take_succ_eq_append_getElem (by rw [HL.out]; exact hlt), List.any_append, HA.out, (List.getElem?_eq_some_iff.1 hx).2]
    simp
   clear hsp hx hb hce HF HC
   go_wp2_with fail
   clear x0 x1 x2 x3 x4 x5 x6
   refine (HCL.out).mono ?_
   rintro e w2 ⟨rfl, k2⟩
   have K2 := hid (K.out.trans k2)
   clear k2
   cases hv : (x.only h == key) with
   | true =>
    have E : Hid (xs.any (fun y => y.only h == key) = true) := by
     show _ = _
     have h1 := HTK.out
     rw [hv] at h1
     rw [← List.take_append_drop (q + 1) xs, List.any_append, h1]
     rfl
    go_wp2_with fail
    go_ret
    exact ⟨⟨_, rfl, by rw [E.out]; exact decide_eq_true (by omega)⟩, K2.out⟩
   | false =>
    go_wp2_with fail
    go_roundg (gk - 1)
    case measure => omega
    case rel => exact ⟨q + 1, by omega, by go_num, by rw [HTK.out, hv], K2.out⟩
  ·
   have ga : ¬ (q : Int) < (L : Int) := by omega
   have E : Hid (xs.any (fun y => y.only h == key) = false) := by
    show _ = _
    rw [← HA.out, List.take_of_length_le (by rw [HL.out]; omega)]
   go_wp2_with fail
   go_ret
   exact ⟨⟨_, rfl, by rw [E.out]; rfl⟩, K.out⟩
theorem confA_any (R V K h : Nat) (hh : h < 8) (key : Sp) (hk : key.Ok) (ok : Nat → Prop) (v : Value) (xs : List Sp) (w : World) (hS : SpL w ok v xs) (hn : xs.length ≤ 5000000000000) (hV : w.cell? ⟨V, 0, none⟩ = some (.pointer (some ⟨R, 0, none⟩))) (hR : w.cell? ⟨R, 0, none⟩ = some (.int .u8 (h : Int))) (hK : w.heap[K]? = some (spo key)) :
  Calls Tryz.prog 139 #[v, .func (.func 140) #[] #[.pointer (some ⟨V, 0, none⟩), .pointer (some ⟨K, 0, none⟩)]] w fun e w' => e = .returned (.bool (xs.any (fun y => y.only h == key))) ∧ Kp w w' := by
 have HI := hid (idxfA_any R V K h hh key hk ok v xs w hS hn hV hR hK)
 clear hS hV hR hK
 go_enter Tryz.func139, Tryz.ntmps139
 go_wp2_with fail
 refine (HI.out).mono ?_
 rintro e w2 ⟨⟨i, rfl, hi⟩, k2⟩
 have K2 := hid k2
 have HE := hid hi
 clear k2 hi
 go_wp2_with fail
 go_ret
 exact ⟨by rw [← HE.out]; rfl, K2.out⟩
theorem hasfB_any (R V K h : Nat) (hh : h < 8) (key x : Sp) (hk : key.Ok) (hx : x.Ok) (w : World) (hV : w.cell? ⟨V, 0, none⟩ = some (.pointer (some ⟨R, 4, none⟩))) (hR : w.cell? ⟨R, 4, none⟩ = some (.int .u8 (h : Int))) (hK : w.heap[K]? = some (spo key)) :
  Calls Tryz.prog 140 #[spv x, .pointer (some ⟨V, 0, none⟩), .pointer (some ⟨K, 0, none⟩)] w fun e w' => e = .returned (.bool (x.only h == key)) ∧ Kp w w' := by
 have HV := hid hV
 have HR := hid hR
 have HK := hid hK
 have OA := hid (fun W => only_any x h hh W)
 have es := eq_sp (x.only h) key (hx.only h) hk
 clear hV hR hK
 go_enter Tryz.func140, Tryz.ntmps140
 go_upto_region 1 with fail
 refine opq (fun W0 => W0.heap[w.heap.size]? = some (spo x) ∧ W0.heap[K]? = some (spo key) ∧ W0.cell? ⟨V, 0, none⟩ = some (.pointer (some ⟨R, 4, none⟩)) ∧ W0.cell? ⟨R, 4, none⟩ = some (.int .u8 (h : Int)) ∧ Kp w W0) ⟨by exact last_of _ _, by exact bl_kp HK.out kpt, by exact ((by repeat (first | exact Kp.refl _ | refine Kp.alloc ?_ _ | refine Kp.drew ?_ | refine Kp.drewN _ ?_) : Kp w _).cell (World.block_lt_of_cell? _ _ HV.out)).trans HV.out, by exact ((by repeat (first | exact Kp.refl _ | refine Kp.alloc ?_ _ | refine Kp.drew ?_ | refine Kp.drewN _ ?_) : Kp w _).cell (World.block_lt_of_cell? _ _ HR.out)).trans HR.out, by exact kpt⟩ ?_
 rintro W0 ⟨xA0, xKB, xCV, xCR, xK0⟩
 have A0 := hid xA0
 have KB := hid xKB
 have CV := hid xCV
 have CR := hid xCR
 have K0 := hid xK0
 clear xA0 xKB xCV xCR xK0
 have Q0 : Kp W0 W0.drew := (Kp.refl _).drew
 have MK : Hid (∀ W, Kp W0 W → W.cell? ⟨w.heap.size, 0, none⟩ = some (.int .i8 x.a) ∧ W.cell? ⟨w.heap.size, 1, none⟩ = some (.int .i8 x.f0) ∧ W.cell? ⟨w.heap.size, 2, none⟩ = some (.int .i8 x.t0) ∧ W.cell? ⟨w.heap.size, 3, none⟩ = some (.int .i8 x.f1) ∧ W.cell? ⟨w.heap.size, 4, none⟩ = some (.int .i8 x.t1) ∧ W.cell? ⟨w.heap.size, 5, none⟩ = some (.int .i8 x.f2) ∧ W.cell? ⟨w.heap.size, 6, none⟩ = some (.int .i8 x.t2) ∧ W.cell? ⟨V, 0, none⟩ = some (.pointer (some ⟨R, 4, none⟩)) ∧ W.cell? ⟨R, 4, none⟩ = some (.int .u8 (h : Int)) ∧ W.cell? ⟨K, 0, none⟩ = some (.int .i8 key.a) ∧ W.cell? ⟨K, 1, none⟩ = some (.int .i8 key.f0) ∧ W.cell? ⟨K, 2, none⟩ = some (.int .i8 key.t0) ∧ W.cell? ⟨K, 3, none⟩ = some (.int .i8 key.f1) ∧ W.cell? ⟨K, 4, none⟩ = some (.int .i8 key.t1) ∧ W.cell? ⟨K, 5, none⟩ = some (.int .i8 key.f2) ∧ W.cell? ⟨K, 6, none⟩ = some (.int .i8 key.t2) ∧ Hid (Kp W0 W)) := fun W k => ⟨bl_cell (bl_kp A0.out k) 0 _ rfl, bl_cell (bl_kp A0.out k) 1 _ rfl, bl_cell (bl_kp A0.out k) 2 _ rfl, bl_cell (bl_kp A0.out k) 3 _ rfl, bl_cell (bl_kp A0.out k) 4 _ rfl, bl_cell (bl_kp A0.out k) 5 _ rfl, bl_cell (bl_kp A0.out k) 6 _ rfl, (k.cell (World.block_lt_of_cell? _ _ CV.out)).trans CV.out, (k.cell (World.block_lt_of_cell? _ _ CR.out)).trans CR.out, bl_cell (bl_kp KB.out k) 0 _ rfl, bl_cell (bl_kp KB.out k) 1 _ rfl, bl_cell (bl_kp KB.out k) 2 _ rfl, bl_cell (bl_kp KB.out k) 3 _ rfl, bl_cell (bl_kp KB.out k) 4 _ rfl, bl_cell (bl_kp KB.out k) 5 _ rfl, bl_cell (bl_kp KB.out k) 6 _ rfl, k⟩
 refine wp_region_noPanic ?_
 refine hdrew MK Q0 (fun hH => ?_)
 have KQ := Q0
 refine tk 0 (some 5) (Op.load 83 (Operand.tmp 3)) 83 (v := ?v0a1) rfl ?h0a1 hH ?_
 case h0a1 => intro _ _; go_simp; try with_reducible rfl
 try simp only [ps]
 refine tk 1 (some 6) (Op.load 179 (Operand.tmp 1)) 179 (v := ?v1a2) rfl ?h1a2 hH ?_
 case h1a2 => intro _ _; go_simp; try with_reducible rfl
 try simp only [ps]
 refine tk 2 (some 7) (Op.nilCheck (Operand.tmp 6)) 0 (v := ?v2a3) rfl ?h2a3 hH ?_
 case h2a3 => intro _ _; go_simp; try with_reducible rfl
 try simp only [ps]
 refine tk 3 (some 8) (Op.fieldAddr 177 (Operand.tmp 7) 0) 0 (v := ?v3a4) rfl ?h3a4 hH ?_
 case h3a4 => intro _ _; go_simp; try with_reducible rfl
 try simp only [ps]
 refine tk 4 (some 9) (Op.load 75 (Operand.tmp 8)) 75 (v := ?v4a5) rfl ?h4a5 hH ?_
 case h4a5 => intro _ _; go_simp; try with_reducible rfl
 try simp only [ps]
 refine tk 6 (some 11) (Op.load 83 (Operand.tmp 2)) 83 (v := ?v6a6) rfl ?h6a6 hH ?_
 case h6a6 => intro _ _; go_simp; try with_reducible rfl
 try simp only [ps]
 refine wpAnyH_ready (rs := [5]) (by kernel_rfl) (by simp) ?_
 refine AllReadyH.cons (o := { dst := some 10, op := Op.call { callee := Callee.value (Operand.func 55), args := #[Operand.tmp 5, Operand.tmp 9], argTypes := #[83, 75] }, type := 83, pos := "spot.go:109", after := #[{ on := 0, ground := Ground.data }, { on := 4, ground := Ground.data }], guard := none }) rfl (fun K hKq => ?_) AllReadyH.nil
 go_simp
 refine (OA.out _).mono ?_
 rintro e y1 ⟨rfl, kq⟩
 refine hKq.out _ _ (MK.out _ (KQ.trans kq)) (fun hN => ?_)
 clear kq
 clear hKq K hH KQ
 have hH := hN
 clear hN
 have KQ := hH.2.2.2.2.2.2.2.2.2.2.2.2.2.2.2.2.out
 try simp only [ps]
 refine tk 7 (some 12) (Op.binOp BinOp.eql 83 (Operand.tmp 10) (Operand.tmp 11) 83) 4 (v := ?v7a7) rfl ?h7a7 hH ?_
 case h7a7 => intro _ _; go_simp; try with_reducible rfl
 try simp only [ps]
 refine tk 8 (some 4) (Op.assign (Operand.tmp 12)) 4 (v := ?v8a8) rfl ?h8a8 hH ?_
 case h8a8 => intro _ _; go_simp; try with_reducible rfl
 try simp only [ps]
 refine wpAnyH_done (by kernel_rfl) ?_ _
 refine NoPanic.normal ?_
 go_wp2_with fail
 go_ret
 exact ⟨rfl, K0.out.trans KQ⟩
theorem idxfB_any (R V K h : Nat) (hh : h < 8) (key : Sp) (hk : key.Ok) (ok : Nat → Prop) (v : Value) (xs : List Sp) (w : World) (hS : SpL w ok v xs) (hn : xs.length ≤ 5000000000000) (hV : w.cell? ⟨V, 0, none⟩ = some (.pointer (some ⟨R, 4, none⟩))) (hR : w.cell? ⟨R, 4, none⟩ = some (.int .u8 (h : Int))) (hK : w.heap[K]? = some (spo key)) :
  Calls Tryz.prog 145 #[v, .func (.func 140) #[] #[.pointer (some ⟨V, 0, none⟩), .pointer (some ⟨K, 0, none⟩)]] w fun e w' => (∃ i : Int, e = .returned (.int .i64 i) ∧ (decide (i ≥ 0) = xs.any (fun y => y.only h == key))) ∧ Kp w w' := by
 obtain ⟨ad, c, rfl, hlc, hcell⟩ := hS.ex
 obtain ⟨L, hL⟩ : ∃ L, xs.length = L := ⟨_, rfl⟩
 rw [hL] at hlc hcell hn ⊢
 have HC := hid hcell
 have HL := hid hL
 have HG := hid hS.good
 have HF := hid (fun (x : Sp) (hx : x.Ok) (W : World) (k : Kp w W) => hasfB_any R V K h hh key x hk hx W ((k.cell (World.block_lt_of_cell? _ _ hV)).trans hV) ((k.cell (World.block_lt_of_cell? _ _ hR)).trans hR) (bl_kp hK k))
 clear hcell hS hV hR hK hL
 go_enter Tryz.func145, Tryz.ntmps145
 go_wp2_with fail
 go_loopg [8] L (fun gg i wr => ∃ q : Nat, q + gg = L ∧ i = .int .i64 (q : Int) ∧ (xs.take q).any (fun y => y.only h == key) = false ∧ Kp w wr)
 case atStart => exact ⟨0, by omega, rfl, rfl, Kp.refl _⟩
 case round =>
  obtain ⟨q, hq, rfl, hA, hK⟩ := hrel
  have HA := hid hA
  have K := hid hK
  clear hA hK
  by_cases hlt : q < L
  ·
   have gkw : IntKind.i64.wrap ((q : Int) + 1) = (q : Int) + 1 := by rw [IntKind.wrap_i64]; omega
   have ga : (q : Int) < (L : Int) := by omega
   have g0 : (0 : Int) ≤ (q : Int) := by omega
   obtain ⟨b, rfl, _, hb, hce⟩ := HC.out (by omega)
   obtain ⟨x, hx⟩ : ∃ x, xs[q]? = some x := ⟨_, List.getElem?_eq_getElem (by rw [HL.out]; exact hlt)⟩
   have hsp := (hce q x hx).same (K.out.block b hb)
   have x0 := hsp.c0
   have x1 := hsp.c1
   have x2 := hsp.c2
   have x3 := hsp.c3
   have x4 := hsp.c4
   have x5 := hsp.c5
   have x6 := hsp.c6
   have HCL := hid (HF.out x (HG.out x (List.mem_of_getElem? hx)) wr K.out)
   have HTK : Hid ((xs.take (q + 1)).any (fun y => y.only h == key) = (x.only h == key)) := by
    show _ = _
    rw [List.take_succ_eq_append_getElem (by rw [HL.out]; exact hlt), List.any_append, HA.out, (List.getElem?_eq_some_iff.1 hx).2]
    simp
   clear hsp hx hb hce HF HC
   go_wp2_with fail
   clear x0 x1 x2 x3 x4 x5 x6
   refine (HCL.out).mono ?_
   rintro e w2 ⟨rfl, k2⟩
   have K2 := hid (K.out.trans k2)
   clear k2
   cases hv : (x.only h == key) with
   | true =>
    have E : Hid (xs.any (fun y => y.only h == key) = true) := by
     show _ = _
     have h1 := HTK.out
     rw [hv] at h1
     rw [← List.take_append_drop (q + 1) xs, List.any_append, h1]
     rfl
    go_wp2_with fail
    go_ret
    exact ⟨⟨_, rfl, by rw [E.out]; exact decide_eq_true (by omega)⟩, K2.out⟩
   | false =>
    go_wp2_with fail
    go_roundg (gk - 1)
    case measure => omega
    case rel => exact ⟨q + 1, by omega, by go_num, by rw [HTK.out, hv], K2.out⟩
  ·
   have ga : ¬ (q : Int) < (L : Int) := by omega
   have E : Hid (xs.any (fun y => y.only h == key) = false) := by
    show _ = _
    rw [← HA.out, List.take_of_length_le (by rw [HL.out]; omega)]
   go_wp2_with fail
   go_ret
   exact ⟨⟨_, rfl, by rw [E.out]; rfl⟩, K.out⟩
theorem confB_any (R V K h : Nat) (hh : h < 8) (key : Sp) (hk : key.Ok) (ok : Nat → Prop) (v : Value) (xs : List Sp) (w : World) (hS : SpL w ok v xs) (hn : xs.length ≤ 5000000000000) (hV : w.cell? ⟨V, 0, none⟩ = some (.pointer (some ⟨R, 4, none⟩))) (hR : w.cell? ⟨R, 4, none⟩ = some (.int .u8 (h : Int))) (hK : w.heap[K]? = some (spo key)) :
  Calls Tryz.prog 139 #[v, .func (.func 140) #[] #[.pointer (some ⟨V, 0, none⟩), .pointer (some ⟨K, 0, none⟩)]] w fun e w' => e = .returned (.bool (xs.any (fun y => y.only h == key))) ∧ Kp w w' := by
 have HI := hid (idxfB_any R V K h hh key hk ok v xs w hS hn hV hR hK)
 clear hS hV hR hK
 go_enter Tryz.func139, Tryz.ntmps139
 go_wp2_with fail
 refine (HI.out).mono ?_
 rintro e w2 ⟨⟨i, rfl, hi⟩, k2⟩
 have K2 := hid k2
 have HE := hid hi
 clear k2 hi
 go_wp2_with fail
 go_ret
 exact ⟨by rw [← HE.out]; rfl, K2.out⟩
end Go.Proofs.YtnajcnhgeggngaaGreat.Way

/-! ### SetW -/

namespace Go.Proofs.YtnajcnhgeggngaaGreat.Way
open Go.RowKit Go.Proofs.YtnajcnhgeggngaaGreat Go.Maps Go.WideElems Go.ChangeMaps Go.MapKept

theorem mem_sorted {H : Type} (l : List (Lit × DataW H)) (p : Lit × DataW H) : p ∈ l.foldr DataW.insert [] ↔ p ∈ l := (Go.WideShapes.sorted_perm l).mem_iff
theorem read_back {H : Type} {P : Program} {k : TypeId} {R : Value → Option (DataW H × List MemPlace)} {es : Array MapEntry} {clock : Nat} (F : Fit P k R es clock) (p : Lit × DataW H) (hp : p ∈ (es.toList.map (rg P k R)).foldr DataW.insert []) : ∃ e ∈ es.toList, keyOf P k e.key = some p.1 := by
 obtain ⟨e, he, hr⟩ := List.mem_map.1 ((mem_sorted _ p).1 hp)
 obtain ⟨q, hq⟩ := F.reads e he
 refine ⟨e, he, ?_⟩
 rw [← hr, rg_of hq]
 exact WideElems.rd_key hq
theorem read_forth {H : Type} {P : Program} {k : TypeId} {R : Value → Option (DataW H × List MemPlace)} {es : Array MapEntry} {clock : Nat} (F : Fit P k R es clock) {kl : Lit} {d : DataW H} (hkl : WideAt.IsKeyLit kl) (e : MapEntry) (he : e ∈ es.toList) (hne : keyOf P k e.key ≠ some kl) : ∃ q : Lit × DataW H, keyOf P k e.key = some q.1 ∧ q ∈ putKey kl d ((es.toList.map (rg P k R)).foldr DataW.insert []) := by
 obtain ⟨q, hq⟩ := F.reads e he
 have hqk := WideElems.rd_key hq
 refine ⟨q, hqk, ?_⟩
 unfold putKey
 refine (mem_insert_iff).2 (Or.inr (List.mem_filter.2 ⟨?_, (notKey_iff hkl).2 (fun e1 => hne (e1 ▸ hqk))⟩))
 exact (mem_sorted _ q).2 (List.mem_map.2 ⟨e, he, rg_of hq⟩)
theorem put_self {H : Type} (kl : Lit) (d : DataW H) (l : List (Lit × DataW H)) : (kl, d) ∈ putKey kl d l := by
 unfold putKey
 exact (mem_insert_iff).2 (Or.inl rfl)
structure SetAt (w : World) (b : Nat) (S : List Sp) : Prop where
 ex : ∃ es clock, w.heap[b]? = some (.map es clock) ∧ Stamped es clock ∧ (∀ e ∈ es.toList, ∃ x : Sp, x.Ok ∧ e.key = spv x ∧ x ∈ S ∧ e.val = .agg #[]) ∧ ∀ x ∈ S, ∃ e ∈ es.toList, e.key = spv x
theorem SetAt.lt {w : World} {b : Nat} {S : List Sp} (h : SetAt w b S) : b < w.heap.size := by
 obtain ⟨es, clock, hb, _⟩ := h.ex
 exact bl_lt hb
theorem SetAt.same {w w' : World} {b : Nat} {S : List Sp} (h : SetAt w b S) (hb : w'.heap[b]? = w.heap[b]?) : SetAt w' b S := by
 obtain ⟨es, clock, h1, h2, h3, h4⟩ := h.ex
 exact ⟨es, clock, hb.trans h1, h2, h3, h4⟩
theorem SetAt.made (w : World) : SetAt (w.alloc (.map #[] 0)) w.heap.size [] := ⟨#[], 0, last_of _ _, stamped_empty 0, (fun e he => by simp at he), (fun x hx => by cases hx)⟩
theorem zero206 (w : World) : (zeroValue 206).run Tryz.prog w = .ok (.agg #[]) w := by
 have := Tryz.zeroValue206
 go_simp
theorem SetAt.look {w : World} {b : Nat} {S : List Sp} (h : SetAt w b S) {t : TypeId} (ht : Tryz.prog.underlying t = some (.map 83 206)) (x : Sp) (hx : x.Ok) :
  (Instr.lookup t (.map (some b)) (spv x) true).run Tryz.prog w = .ok (.tuple #[.agg #[], .bool (S.contains x)]) w := by
 obtain ⟨es, clock, h1, h2, h3, h4⟩ := h.ex
 obtain ⟨F, _⟩ := fit_of h2 (fun e he => by obtain ⟨x, a1, a2, _⟩ := h3 e he; exact ⟨x, a1, a2⟩)
 obtain ⟨kl, hk⟩ := key_sp x hx
 rcases fit_look true keyed83 ht (zero206 w) h1 F hk with ⟨g1, g2, _⟩ | ⟨e0, y, g1, g2, g3, _⟩
 ·
  have : S.contains x = false := by
   cases hc : S.contains x with
   | false => rfl
   | true =>
    obtain ⟨e, he, hek⟩ := h4 x (List.contains_iff_mem.1 hc)
    exact absurd hek (g2 e he)
  rw [this]
  exact g1
 ·
  obtain ⟨x', _, a2, a3, a4⟩ := h3 e0 g1
  obtain rfl := spv_inj (g2.symm.trans a2)
  rw [List.contains_iff_mem.2 a3, ← a4]
  exact g3
theorem SetAt.put {w : World} {b : Nat} {S : List Sp} (h : SetAt w b S) {t : TypeId} (ht : Tryz.prog.underlying t = some (.map 83 206)) (x : Sp) (hx : x.Ok) :
  ∃ w', (Instr.mapUpdate t (.map (some b)) (spv x) (.agg #[])).run Tryz.prog w = .ok () w' ∧ SetAt w' b (S ++ [x]) ∧ w.grownBy w' (some b) := by
 obtain ⟨es, clock, h1, h2, h3, h4⟩ := h.ex
 have hkeys : ∀ e ∈ es.toList, ∃ x : Sp, x.Ok ∧ e.key = spv x := fun e he => by obtain ⟨x, a1, a2, _⟩ := h3 e he; exact ⟨x, a1, a2⟩
 obtain ⟨F, hroom⟩ := fit_of h2 hkeys
 obtain ⟨kl, hk⟩ := key_sp x hx
 obtain ⟨es', clock', hrun, F', hput, _, _, hent⟩ := fit_store (R' := RV) keyed83 ht h1 F hroom (fun _ _ _ _ hz => hz) hk (val := .agg #[]) (yv := (.held (.agg #[]), [])) rfl
 refine ⟨_, hrun, ⟨es', clock', heap_setBlock_same h1 _, F'.stamped, fun e he => ?_, fun y hy => ?_⟩, ⟨rfl, rfl, rfl, by simp [setBlock], fun i _ hi => heap_setBlock_other h1 _ (fun e => hi (by rw [e]))⟩⟩
 ·
  rcases hent e he with ⟨a1, _⟩ | ⟨a1, a2⟩
  ·
   obtain ⟨z, b1, b2, b3, b4⟩ := h3 e a1
   exact ⟨z, b1, b2, List.mem_append_left _ b3, b4⟩
  ·
   exact ⟨x, hx, a1, by simp, a2⟩
 ·
  -- who reads so stands there
  have back := fun p hp => read_back F' p hp
  rw [hput] at back
  rcases List.mem_append.1 hy with hy | hy
  ·
   by_cases hyx : y = x
   ·
    subst hyx
    obtain ⟨e, he, hek⟩ := back (kl, .held (.agg #[])) (put_self _ _ _)
    obtain ⟨z, z1, z2⟩ := (fun e he => by
     rcases hent e he with ⟨a1, _⟩ | ⟨a1, _⟩
     ·
      exact hkeys e a1
     ·
      exact ⟨y, hx, a1⟩ : ∀ e ∈ es'.toList, ∃ x : Sp, x.Ok ∧ e.key = spv x) e he
    exact ⟨e, he, keyed83.inj hek hk⟩
   ·
    obtain ⟨e, he, hek⟩ := h4 y hy
    obtain ⟨q, hqk, hq⟩ := read_forth F (keyed83.key hk) e he (fun e1 => hyx (spv_inj (hek.symm.trans (keyed83.inj e1 hk))))
    obtain ⟨e', he', hek'⟩ := back q hq
    exact ⟨e', he', (keyed83.inj hek' hqk).trans hek⟩
  ·
   obtain rfl := List.mem_singleton.1 hy
   obtain ⟨e, he, hek⟩ := back (kl, .held (.agg #[])) (put_self _ _ _)
   exact ⟨e, he, keyed83.inj hek hk⟩
end Go.Proofs.YtnajcnhgeggngaaGreat.Way
