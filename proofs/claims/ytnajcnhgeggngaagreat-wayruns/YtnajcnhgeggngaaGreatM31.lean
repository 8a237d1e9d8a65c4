/-
  Texts of this claim: WOk, Asm.
-/
import Derived.Test.YtnajcnhgeggngaaGreatM29
import Derived.Test.YtnajcnhgeggngaaGreatM30
import Derived.Test.YtnajcnhgeggngaaGreatM22
import Derived.Test.YtnajcnhgeggngaaGreatM23

/-! ### WOk -/

namespace Go.Proofs.YtnajcnhgeggngaaGreat.Way
set_option maxHeartbeats 2000000
set_option maxRecDepth 100000
open Go.RowKit Go.Proofs.YtnajcnhgeggngaaGreat Go.Maps

theorem foldl_inv {α β : Type} {G : β → Prop} {F : β → α → β} : ∀ (l : List α) (s : β), G s → (∀ s y, y ∈ l → G s → G (F s y)) → G (l.foldl F s)
 | [], _, h, _ => h
 | a :: l, s, h, hF => foldl_inv l (F s a) (hF s a (List.mem_cons_self ..) h) (fun s y hy => hF s y (List.mem_cons_of_mem _ hy))
theorem addL_nd {h : Nat} {l : List Sp} {x : Sp} (hl : (l.map (Sp.only h)).Nodup) : ((addL h l x).map (Sp.only h)).Nodup := by
 unfold addL
 split
 ·
  exact hl
 ·
  rename_i hn
  rw [List.map_append, List.nodup_append]
  refine ⟨hl, List.pairwise_singleton _ _, fun a ha b hb e => hn ?_⟩
  rw [List.map_cons, List.map_nil, List.mem_singleton] at hb
  obtain ⟨y, hy, rfl⟩ := List.mem_map.1 ha
  rw [List.any_eq_true]
  exact ⟨y, hy, by rw [e, hb]; exact beq_self_eq_true _⟩
theorem walkF_nd {W : Sp → List Sp} {rd h : Nat} {acc : List Sp} {x : Sp} (ha : (acc.map (Sp.only h)).Nodup) : ((walkF W rd h acc x).map (Sp.only h)).Nodup :=
 foldl_inv (G := fun (a : List Sp) => (a.map (Sp.only h)).Nodup) _ _ ha (fun _ _ _ hs => addL_nd hs)
def Good (N : Nat) (lo : Int) (l : List Sp) : Prop := ∀ y ∈ l, y.Ok ∧ y.In N ∧ lo ≤ y.a
theorem Good.few {N h : Nat} {lo : Int} {l : List Sp} (hg : Good N lo l) (hn : (l.map (Sp.only h)).Nodup) : l.length ≤ 4398046511104 := few_spots h l (fun y hy => (hg y hy).1) hn
def GoodW (N : Nat) (W : Sp → List Sp) : Prop := ∀ x : Sp, x.Ok → x.In N → ∀ y ∈ W x, y.Ok ∧ y.In N ∧ x.a ≤ y.a
theorem cat_good {L : List UInt8} {bol : Bool} {N : Nat} {lo : Int} : ∀ (kids : List Pt) (l : List Sp), (∀ (j : Nat) q, kids[j]? = some q → GoodW N (ways L bol q)) → Good N lo l → l.length ≤ 4398046511104 → Good N lo (catW L bol kids l) ∧ (catW L bol kids l).length ≤ 4398046511104
 | [], l, _, hl, hf => by unfold catW; exact ⟨hl, hf⟩
 | p :: ps, l, hk, hl, _ => by
  unfold catW
  have h1 : Good N lo (l.foldl (walkF (ways L bol p) p.rd p.hd) []) := walks_good (hk 0 p rfl) l hl (fun y hy => by cases hy)
  have h2 : ((l.foldl (walkF (ways L bol p) p.rd p.hd) []).map (Sp.only p.hd)).Nodup := foldl_inv (G := fun (a : List Sp) => (a.map (Sp.only p.hd)).Nodup) _ _ List.nodup_nil (fun _ _ _ hs => walkF_nd hs)
  exact cat_good ps _ (fun j q hj => hk (j + 1) q hj) h1 (h1.few h2)
theorem alt_good {L : List UInt8} {bol : Bool} {N h : Nat} {x : Sp} (hx : x.Ok) (hN : x.In N) : ∀ (kids : List Pt) (acc : List Sp), (∀ (j : Nat) q, kids[j]? = some q → GoodW N (ways L bol q)) → Good N x.a acc → (acc.map (Sp.only h)).Nodup → Good N x.a (altW L bol h kids x acc) ∧ ((altW L bol h kids x acc).map (Sp.only h)).Nodup
 | [], acc, _, ha, hn => by unfold altW; exact ⟨ha, hn⟩
 | p :: ps, acc, hk, ha, hn => by
  unfold altW
  exact alt_good hx hN ps _ (fun j q hj => hk (j + 1) q hj) (walkF_good (hk 0 p rfl) ⟨hx, hN, Int.le_refl _⟩ ha) (walkF_nd hn)
def GB (N : Nat) (lo : Int) (h : Nat) (st : List Turn × List Sp) : Prop := Good N lo st.2 ∧ (st.2.map (Sp.only h)).Nodup
theorem beh_good {N h : Nat} {lo low : Int} {NX : Int → Sp → List Turn → List Sp × List Turn} (hNX : ∀ n (x : Sp) bg, x.Ok → x.In N → ∀ y ∈ (NX n x bg).1, y.Ok ∧ y.In N ∧ x.a ≤ y.a) : ∀ (f : Nat) (n : Int) (x : Sp) (st : List Turn × List Sp), x.Ok → x.In N → lo ≤ x.a → GB N lo h st → GB N lo h (behindP NX low h f n x st)
 | 0, _, _, _, _, _, _, hs => hs
 | f + 1, n, x, st, hx, hN, hl, hs => by
  have h1 : GB N lo h ((NX n x st.1).1.foldl (fun s y => if n < low ∨ ¬ y.a = x.a then behindP NX low h f (n + 1) y s else s) ((NX n x st.1).2, st.2)) := foldl_inv (G := GB N lo h) _ _ hs (fun s y hy hs => by
   obtain ⟨a1, a2, a3⟩ := hNX n x st.1 hx hN y hy
   split
   ·
    exact beh_good hNX f (n + 1) y s a1 a2 (Int.le_trans hl a3) hs
   ·
    exact hs)
  unfold behindP
  simp only
  split
  ·
   exact h1
  ·
   exact ⟨addL_good h1.1 ⟨hx, hN, hl⟩, addL_nd h1.2⟩
theorem rep_good {N h : Nat} {W : Sp → List Sp} {lf : Bool} {krd khd rdp : Nat} {low high : Int} (hW : GoodW N W) {x : Sp} (hx : x.Ok) (hN : x.In N) : GB N x.a h (behindP (nextP lf W krd khd rdp low high) low h 90 0 x ([], [])) :=
 beh_good (fun _ _ _ hx hN => next_good hW hx hN) 90 0 x ([], []) hx hN (Int.le_refl _) ⟨(fun y hy => by cases hy), List.nodup_nil⟩
theorem put_in {N : Nat} {n : Int} {x y : Sp} (hN : y.In N) : (y.put n x.a y.a).In N := by
 unfold Sp.put
 split
 ·
  exact ⟨hN.a, hN.a, hN.t1, hN.t2⟩
 ·
  split
  ·
   exact ⟨hN.a, hN.t0, hN.a, hN.t2⟩
  ·
   exact ⟨hN.a, hN.t0, hN.t1, hN.a⟩
theorem put_a (n f t : Int) (y : Sp) : (y.put n f t).a = y.a := by
 unfold Sp.put
 split
 ·
  rfl
 ·
  split <;> rfl
theorem ways_leaf {L : List UInt8} {bol : Bool} {k low high n : Int} {t : W4} {P rd st hd : Nat} {kn so : Option Nat} {kids : List Pt} (hl : leafK k = true) (x : Sp) : ways L bol (.mk k low high n t P kn so rd st hd kids) x = leafP L bol k n t x := by
 unfold leafK at hl
 have h2 : ¬ k = 2 := fun e => by subst e; cases hl
 have h3 : ¬ k = 3 := fun e => by subst e; cases hl
 have h5 : ¬ k = 5 := fun e => by subst e; cases hl
 have h4 : ¬ k = 4 := fun e => by subst e; cases hl
 unfold ways
 rw [if_neg h2, if_neg h3, if_neg h5, if_neg h4]
theorem leaf_good {L : List UInt8} {bol : Bool} {k n : Int} {t : W4} (h60 : L.length ≤ 60) : GoodW L.length (leafP L bol k n t) := by
 intro x hx hN y hy
 unfold leafP at hy
 split at hy
 ·
  rename_i m hm
  obtain ⟨h0, h1⟩ := step_le hx hN hm
  rw [List.mem_singleton.1 hy]
  obtain ⟨a1, a2⟩ := moved_good h60 hx hN h0 h1
  exact ⟨a1, a2, by show x.a ≤ x.a + m; omega⟩
 ·
  cases hy
theorem leaf_few (L : List UInt8) (bol : Bool) (k n : Int) (t : W4) (x : Sp) : (leafP L bol k n t x).length ≤ 1 := by
 unfold leafP
 split <;> simp
theorem hc_of {f : FuncId} {args : Array Value} {zs : List Sp} {ok : Nat → Prop} {M : Nat → Option Memo} {O : Nat → Prop} {w W : World} (k0 : Kp w W) (h : Calls Tryz.prog f args W fun e w' => WaysD zs ok (fun w' => Km M W w' ∧ MemOk M O w') e w') : Calls Tryz.prog f args W fun e w' => WaysD zs ok (fun w' => Km M w w' ∧ MemOk M O w') e w' ∧ ∃ v, e = .returned v := by
 refine h.mono ?_
 rintro e w' ⟨v, rfl, hv, hk, hm⟩
 exact ⟨⟨v, rfl, hv, (Kp.kx k0).trans hk, hm⟩, v, rfl⟩
theorem memok_kp {M : Nat → Option Memo} {O : Nat → Prop} {w W : World} (hM : MemOk M O w) (k0 : Kp w W) : MemOk M O W := hM.keep (S := fun _ => False) (Kp.kx k0) (fun _ _ e => e.elim) (fun _ _ e => e) hM.own
theorem waysl_any (s : ByteArray) (bol : Bool) (h60 : s.size ≤ 60) (M : Nat → Option Memo) (k low high n : Int) (t : W4) (P : Nat) (kn so : Option Nat) (rd st h : Nat) (kids : List Pt) (hlf : leafK k = true) (hk : LeafOk k n t) (O : Nat → Prop) (x : Sp) (hx : x.Ok) (hN : x.In s.size) (w : World) (hO : ∀ b, O b → b < w.heap.size) (hM : MemOk M O w) (hP : PtAt w (okB M O) (.mk k low high n t P kn so rd st h kids)) :
  Calls Tryz.prog 34 #[wkv s bol, ptv P, spv x] w fun e w' => WaysD (leafP s.data.toList bol k n t x) (okB M O) (fun w' => Km M w w' ∧ MemOk M O w') e w' := by
 obtain ⟨kv, hblk, hok⟩ : ∃ kv, w.heap[P]? = some (pto k low high n t kv rd st h kn so) ∧ M P = none := by
  unfold PtAt at hP
  obtain ⟨h1, ⟨ad, c, h2, _⟩, _⟩ := hP
  exact ⟨_, h2, h1.2⟩
 have HLF := hid hlf
 have HB := hid hblk
 have HM := hid hM
 have HO := hid hO
 have FD := hid (fun (W : World) (k0 : Kp w W) => wleaf_any k low high n t kv rd st h kn so P s bol x W (bl_kp hblk k0) h60 hx hN hk)
 have HLE := hid (leaf_any k low high n t kv rd st h kn so P)
 clear hlf hx hN hO hM hP hblk hok hk
 go_enter Tryz.func34, Tryz.ntmps34
 go_upto_region 1 with fail
 refine opq (fun W0 => W0.heap[w.heap.size]? = some (.cells #[.string s, .bool bol] 70) ∧ W0.heap[(w.heap.size + 1)]? = some (spo x) ∧ W0.heap[P]? = some (pto k low high n t kv rd st h kn so) ∧ Kp w W0) ⟨by exact bl_alloc (last_of _ _) _, by exact last_at _ _ _ (by simp), by exact bl_kp HB.out kpt, by exact kpt⟩ ?_
 rintro W0 ⟨xT0, xX0, xP0, xK0⟩
 have T0 := hid xT0
 have X0 := hid xX0
 have P0 := hid xP0
 have K0 := hid xK0
 clear xT0 xX0 xP0 xK0
 clear HB
 go_wp2_with fail
 refine (HLE.out _ P0.out).mono ?_
 rintro e w1 ⟨rfl, hw⟩
 rw [hw, HLF.out]
 clear HLE hw w1
 have b0 := bl_cell (T0.out) 0 _ rfl
 have b1 := bl_cell (T0.out) 1 _ rfl
 obtain ⟨x0, x1, x2, x3, x4, x5, x6⟩ := cells7 (X0.out)
 go_wp2_with fail
 refine (FD.out W0 K0.out).mono ?_
 rintro e y ⟨⟨v, rfl, hv, hk⟩⟩
 have HV := hid hv
 have K1 := hid (K0.out.trans hk)
 clear hv hk b0 b1 x0 x1 x2 x3 x4 x5 x6
 go_wp2_with fail
 go_ret
 exact ⟨_, rfl, HV.out.keep (Nat.le_refl _) (fun b hb _ => ⟨⟨fun o => by have := HO.out b o; have := K0.out.size; have : W0.heap.size ≤ b := hb; omega, HM.out.lt (Nat.le_trans K0.out.size hb)⟩, rfl⟩), Kp.kx K1.out, memok_kp HM.out K1.out⟩
mutual
def PtW (M : Nat → Option Memo) (L : List UInt8) (bol : Bool) : Pt → Prop
 | .mk k low high n t P kn so rd st hd kids => (rd < 8 ∧ st < 8 ∧ hd < 8) ∧ (leafK k = true → LeafOk k n t) ∧ (leafK k = false → (∃ b, kn = some b ∧ M b = some (.kn (ways L bol (.mk k low high n t P kn so rd st hd kids)))) ∧ (∃ c, so = some c ∧ M c = some (.so (ways L bol (.mk k low high n t P kn so rd st hd kids)) hd))) ∧ (k = 5 → (n = 1 ∨ n = 2 ∨ n = 3) ∧ kids ≠ []) ∧ (k = 4 → (0 ≤ low ∧ low ≤ 20) ∧ kids ≠ []) ∧ kids.length ≤ 4398046511104 ∧ PtsW M L bol kids
def PtsW (M : Nat → Option Memo) (L : List UInt8) (bol : Bool) : List Pt → Prop
 | [] => True
 | p :: ps => PtW M L bol p ∧ PtsW M L bol ps
end
theorem PtsW.get {M : Nat → Option Memo} {L : List UInt8} {bol : Bool} : ∀ {ps : List Pt}, PtsW M L bol ps → ∀ (j : Nat) p, ps[j]? = some p → PtW M L bol p
 | [], _, j, p, hj => by simp at hj
 | q :: qs, h, 0, p, hj => by
  unfold PtsW at h
  simp at hj
  subst hj
  exact h.1
 | q :: qs, h, j + 1, p, hj => by
  unfold PtsW at h
  simp at hj
  exact h.2.get j p hj
theorem PtW.wd {M : Nat → Option Memo} {L : List UInt8} {bol : Bool} {p : Pt} (h : PtW M L bol p) : p.rd < 8 ∧ p.st < 8 ∧ p.hd < 8 := by
 cases p
 unfold PtW at h
 exact h.1
theorem PtsW.wd {M : Nat → Option Memo} {L : List UInt8} {bol : Bool} : ∀ {ps : List Pt}, PtsW M L bol ps → WdOk ps
 | [], _ => trivial
 | p :: ps, h => by
  unfold PtsW at h
  exact ⟨⟨h.1.wd.1, h.1.wd.2.1⟩, PtsW.wd h.2⟩
theorem sortS_of {s : ByteArray} {bol : Bool} {M : Nat → Option Memo} {p : Pt} (h : PtW M s.data.toList bol p) (HS : WSaid s bol M p) (hl : leafK p.k = false) : SortS s bol M p := by
 obtain ⟨k, low, high, n, t, P, kn, so, rd, st, hd, kids⟩ := p
 unfold PtW at h
 obtain ⟨-, c, rfl, hc⟩ := h.2.2.1 hl
 exact fun O x w hx hN hO hP hM => sorted_any s bol M k low high n t P c kn rd st hd kids h.1.2.2 hc HS O x hx hN w hO hM hP
theorem leafS_of {s : ByteArray} {bol : Bool} (h60 : s.size ≤ 60) {M : Nat → Option Memo} {p : Pt} (h : PtW M s.data.toList bol p) (hl : leafK p.k = true) : LeafS s bol M p := by
 obtain ⟨k, low, high, n, t, P, kn, so, rd, st, hd, kids⟩ := p
 unfold PtW at h
 intro O x w hx hN hP
 have hl' : leafK k = true := hl
 rw [ways_leaf hl']
 unfold PtAt at hP
 obtain ⟨_, ⟨ad, c, h2, _⟩, _⟩ := hP
 exact wleaf_any k low high n t _ rd st hd kn so P s bol x w h2 h60 hx hN (h.2.1 hl)
theorem ways2 {L : List UInt8} {bol : Bool} {low high n : Int} {t : W4} {P rd st hd : Nat} {kn so : Option Nat} {kids : List Pt} (x : Sp) : ways L bol (.mk 2 low high n t P kn so rd st hd kids) x = catW L bol kids [x] := by
 unfold ways
 rw [if_pos rfl]
theorem ways3 {L : List UInt8} {bol : Bool} {low high n : Int} {t : W4} {P rd st hd : Nat} {kn so : Option Nat} {kids : List Pt} (x : Sp) : ways L bol (.mk 3 low high n t P kn so rd st hd kids) x = altW L bol hd kids x [] := by
 unfold ways
 rw [if_neg (by decide), if_pos rfl]
theorem ways5 {L : List UInt8} {bol : Bool} {low high n : Int} {t : W4} {P rd st hd : Nat} {kn so : Option Nat} {kid : Pt} {ks : List Pt} (x : Sp) : ways L bol (.mk 5 low high n t P kn so rd st hd (kid :: ks)) x = (ways L bol kid x).map (fun y => y.put n x.a y.a) := by
 have h : ways L bol (.mk 5 low high n t P kn so rd st hd (kid :: ks)) x = (fstW L bol (kid :: ks) x).map (fun y => y.put n x.a y.a) := by
  unfold ways
  rw [if_neg (by decide), if_neg (by decide), if_pos rfl]
 rw [h]
 unfold fstW
 rfl
theorem ways4 {L : List UInt8} {bol : Bool} {low high n : Int} {t : W4} {P rd st hd : Nat} {kn so : Option Nat} {kid : Pt} {ks : List Pt} (x : Sp) : ways L bol (.mk 4 low high n t P kn so rd st hd (kid :: ks)) x = (behindP (nextP (leafK kid.k) (ways L bol kid) kid.rd kid.hd rd low high) low hd 90 0 x ([], [])).2 := by
 have h : ways L bol (.mk 4 low high n t P kn so rd st hd (kid :: ks)) x = repP (leafK kid.k) (fstW L bol (kid :: ks)) kid.rd kid.hd rd low high hd x := by
  unfold ways
  rw [if_neg (by decide), if_neg (by decide), if_neg (by decide), if_pos rfl]
  rfl
 rw [h]
 have h2 : fstW L bol (kid :: ks) = ways L bol kid := by
  funext y
  unfold fstW
  rfl
 rw [h2]
 rfl
theorem found_rep {s : ByteArray} {bol : Bool} (h60 : s.size ≤ 60) {M : Nat → Option Memo} {low high n : Int} {t : W4} {P rd st hd : Nat} {kn so : Option Nat} {kid : Pt} {ks : List Pt} (hrd : rd < 8) (hhd : hd < 8) (hlow : 0 ≤ low ∧ low ≤ 20) (hW : PtW M s.data.toList bol kid) (HS : WSaid s bol M kid) : FoundD s bol M P (.mk 4 low high n t P kn so rd st hd (kid :: ks)) := by
 intro O x w hx hN hO hP hM
 rw [ways4]
 have hP0 := hP
 unfold PtAt at hP
 obtain ⟨h1, ⟨ad, c, h2, _⟩, _⟩ := hP
 refine (found4_any s bol low high n t P _ rd st hd kn so x w h2 (fun e w' => WaysD _ (okB M O) (fun w' => Km M w w' ∧ MemOk M O w') e w') (fun W k0 => hc_of k0 (wrep_any s bol M O 4 low high n t P _ rd st hd kn so hhd x W (bl_kp h2 k0) (memok_kp hM k0) (fun b o => Nat.lt_of_lt_of_le (hO b o) k0.size) _ (fun R B W1 k1 hR hB hRW => ?_)))).mono (fun _ _ h => h.q)
 refine (behind_all (fun f IH => behind_step s bol P M O W1.heap.size R B hd low high n t kn so rd st kid ks hrd hW.wd.1 HS (sortS_of hW HS) (leafS_of h60 hW) hlow.1 f IH) 90 0 x [] [] (.slice none 0 0) 0 none W1 (Int.le_refl _) (by have := hx.a0; omega) (by have := hx.a0; omega) hx hN (fun b o => Nat.lt_of_lt_of_le (hO b o) (k0.trans k1).size) hRW (PtAt.keep (k0.trans k1).size (fun b hb hl => ⟨⟨fun o => ?h1, hb.2⟩, (k0.trans k1).block b hl⟩) _ hP0)).mono ?h2
 case h1 =>
  have := k0.size
  rcases o with (o | o | o | o) | o
  ·
   exact hb.1 o
  ·
   omega
  ·
   cases o
  ·
   cases o
  ·
   omega
 case h2 =>
  rintro e w' ⟨rfl, l2, p2, n2, hr, -, -, hk⟩
  exact ⟨rfl, _, l2, p2, n2, hr, hk⟩
theorem found_row {s : ByteArray} {bol : Bool} (h60 : s.size ≤ 60) {M : Nat → Option Memo} {low high n : Int} {t : W4} {P rd st hd : Nat} {kn so : Option Nat} {kids : List Pt} (hf : kids.length ≤ 4398046511104) (hW : PtsW M s.data.toList bol kids) (HS : ∀ (j : Nat) q, kids[j]? = some q → WSaid s bol M q) : FoundD s bol M P (.mk 2 low high n t P kn so rd st hd kids) := by
 intro O x w hx hN hO hP hM
 rw [ways2]
 unfold PtAt at hP
 obtain ⟨h1, ⟨ad, c, h2, h3, h4⟩, h5⟩ := hP
 exact found2_any s bol M O low high n t P _ rd st hd kn so x w h2 h1.2 hM _ (fun W k0 => wcat_any s bol h60 M kids HS hW.wd (fun j q hj => (hW.get j q hj).wd.2.2) hf O x hx hN W (fun b o => Nat.lt_of_lt_of_le (hO b o) k0.size) (memok_kp hM k0) ad c (KidS.kp ⟨h3, h4⟩ k0) (PtsAt.kp h5 k0))
theorem found_alt {s : ByteArray} {bol : Bool} (h60 : s.size ≤ 60) {M : Nat → Option Memo} {low high n : Int} {t : W4} {P rd st hd : Nat} {kn so : Option Nat} {kids : List Pt} (hhd : hd < 8) (hf : kids.length ≤ 4398046511104) (hW : PtsW M s.data.toList bol kids) (HS : ∀ (j : Nat) q, kids[j]? = some q → WSaid s bol M q) : FoundD s bol M P (.mk 3 low high n t P kn so rd st hd kids) := by
 intro O x w hx hN hO hP hM
 rw [ways3]
 have hP0 := hP
 unfold PtAt at hP
 obtain ⟨h1, ⟨ad, c, h2, h3, h4⟩, h5⟩ := hP
 exact (found3_any s bol low high n t P _ rd st hd kn so x w h2 (fun e w' => WaysD _ (okB M O) (fun w' => Km M w w' ∧ MemOk M O w') e w') (fun W k0 => hc_of k0 (walt_any s bol h60 M (.mk 3 low high n t P kn so rd st hd kids) HS hW.wd hhd hf O x hx hN W (fun b o => Nat.lt_of_lt_of_le (hO b o) k0.size) (memok_kp hM k0) (PtAt.kp hP0 k0)))).mono (fun _ _ h => h.q)
theorem found_group {s : ByteArray} {bol : Bool} (h60 : s.size ≤ 60) {M : Nat → Option Memo} {low high n : Int} {t : W4} {P rd st hd : Nat} {kn so : Option Nat} {kid : Pt} {ks : List Pt} (hn : n = 1 ∨ n = 2 ∨ n = 3) (HS : WSaid s bol M kid) : FoundD s bol M P (.mk 5 low high n t P kn so rd st hd (kid :: ks)) := by
 intro O x w hx hN hO hP hM
 rw [ways5]
 have hP0 := hP
 unfold PtAt at hP
 obtain ⟨h1, ⟨ad, c, h2, h3, h4⟩, h5⟩ := hP
 refine (found5_any s bol low high n t P _ rd st hd kn so x w h2 (fun e w' => WaysD _ (okB M O) (fun w' => Km M w w' ∧ MemOk M O w') e w') (fun W k0 => hc_of k0 ?_)).mono (fun _ _ h => h.q)
 rcases hn with rfl | rfl | rfl
 ·
  exact wgroup1_any s bol h60 M 5 low high t P kn so rd st hd kid ks HS O x hx hN W (fun b o => Nat.lt_of_lt_of_le (hO b o) k0.size) (memok_kp hM k0) (PtAt.kp hP0 k0)
 ·
  exact wgroup2_any s bol h60 M 5 low high t P kn so rd st hd kid ks HS O x hx hN W (fun b o => Nat.lt_of_lt_of_le (hO b o) k0.size) (memok_kp hM k0) (PtAt.kp hP0 k0)
 ·
  exact wgroup3_any s bol h60 M 5 low high t P kn so rd st hd kid ks HS O x hx hN W (fun b o => Nat.lt_of_lt_of_le (hO b o) k0.size) (memok_kp hM k0) (PtAt.kp hP0 k0)
theorem wsaid_of {s : ByteArray} {bol : Bool} (h60 : s.size ≤ 60) {M : Nat → Option Memo} {k low high n : Int} {t : W4} {P rd st hd : Nat} {kn so : Option Nat} {kids : List Pt} (h : PtW M s.data.toList bol (.mk k low high n t P kn so rd st hd kids)) (HS : ∀ (j : Nat) q, kids[j]? = some q → WSaid s bol M q) : WSaid s bol M (.mk k low high n t P kn so rd st hd kids) := by
 unfold PtW at h
 obtain ⟨⟨w1, w2, w3⟩, hl, hm, h5, h4, hf, hks⟩ := h
 have hsz : s.data.toList.length = s.size := by rw [Array.length_toList]; rfl
 cases hk : leafK k with
 | true =>
  refine ⟨fun x hx hN => ?_, fun x hx hN => ?_, fun O x w hx hN hO hP hM => ?_⟩
  ·
   rw [ways_leaf hk]
   rw [← hsz] at h60 hN ⊢
   exact leaf_good h60 x hx hN
  ·
   rw [ways_leaf hk]
   exact Nat.le_trans (leaf_few ..) (by omega)
  ·
   rw [ways_leaf hk]
   exact waysl_any s bol h60 M k low high n t P kn so rd st hd kids hk (hl hk) O x hx hN w hO hM hP
 | false =>
  obtain ⟨⟨b, rfl, hb⟩, -⟩ := hm hk
  have hgw : ∀ (j : Nat) q, kids[j]? = some q → GoodW s.size (ways s.data.toList bol q) := fun j q hj => (HS j q hj).good
  have all : FoundD s bol M P (.mk k low high n t P (some b) so rd st hd kids) → ∀ (O : Nat → Prop) (x : Sp) (w : World), x.Ok → x.In s.size → (∀ b, O b → b < w.heap.size) → PtAt w (okB M O) (.mk k low high n t P (some b) so rd st hd kids) → MemOk M O w → Calls Tryz.prog 34 #[wkv s bol, ptv P, spv x] w fun e w' => WaysD (ways s.data.toList bol (.mk k low high n t P (some b) so rd st hd kids) x) (okB M O) (fun w' => Km M w w' ∧ MemOk M O w') e w' := fun HF O x w hx hN hO hP hM => ways_any s bol M k low high n t P b so rd st hd kids hk hb HF O x hx hN w hO hM hP
  have hkk : k = 2 ∨ k = 3 ∨ k = 5 ∨ k = 4 := by
   unfold leafK at hk
   by_cases e2 : k = 2
   ·
    exact Or.inl e2
   by_cases e3 : k = 3
   ·
    exact Or.inr (Or.inl e3)
   by_cases e5 : k = 5
   ·
    exact Or.inr (Or.inr (Or.inl e5))
   by_cases e4 : k = 4
   ·
    exact Or.inr (Or.inr (Or.inr e4))
   simp [e2, e3, e4, e5] at hk
  rcases hkk with rfl | rfl | rfl | rfl
  ·
   have hg : ∀ x : Sp, x.Ok → x.In s.size → Good s.size x.a (catW s.data.toList bol kids [x]) ∧ (catW s.data.toList bol kids [x]).length ≤ 4398046511104 := fun x hx hN => cat_good kids [x] hgw (fun y hy => by rw [List.mem_singleton.1 hy]; exact ⟨hx, hN, Int.le_refl _⟩) (by rw [List.length_singleton]; omega)
   exact ⟨fun x hx hN => by rw [ways2]; exact (hg x hx hN).1, fun x hx hN => by rw [ways2]; exact (hg x hx hN).2, all (found_row h60 hf hks HS)⟩
  ·
   have hg : ∀ x : Sp, x.Ok → x.In s.size → Good s.size x.a (altW s.data.toList bol hd kids x []) ∧ ((altW s.data.toList bol hd kids x []).map (Sp.only hd)).Nodup := fun x hx hN => alt_good hx hN kids [] hgw (fun y hy => by cases hy) List.nodup_nil
   exact ⟨fun x hx hN => by rw [ways3]; exact (hg x hx hN).1, fun x hx hN => by rw [ways3]; exact (hg x hx hN).1.few (hg x hx hN).2, all (found_alt h60 w3 hf hks HS)⟩
  ·
   obtain ⟨hn, hne⟩ := h5 rfl
   cases kids with
   | nil => exact absurd rfl hne
   | cons kid ks =>
    have hS := HS 0 kid rfl
    refine ⟨fun x hx hN y hy => ?_, fun x hx hN => ?_, all (found_group h60 hn hS)⟩
    ·
     rw [ways5] at hy
     obtain ⟨z, hz, rfl⟩ := List.mem_map.1 hy
     obtain ⟨a1, a2, a3⟩ := hS.good x hx hN z hz
     exact ⟨hx.put hn a1 a3, put_in a2, by rw [put_a]; exact a3⟩
    ·
     rw [ways5, List.length_map]
     exact hS.few x hx hN
  ·
   obtain ⟨hlow, hne⟩ := h4 rfl
   cases kids with
   | nil => exact absurd rfl hne
   | cons kid ks =>
    have hS := HS 0 kid rfl
    have hg : ∀ x : Sp, x.Ok → x.In s.size → GB s.size x.a hd (behindP (nextP (leafK kid.k) (ways s.data.toList bol kid) kid.rd kid.hd rd low high) low hd 90 0 x ([], [])) := fun x hx hN => rep_good (hgw 0 kid rfl) hx hN
    exact ⟨fun x hx hN => by rw [ways4]; exact (hg x hx hN).1, fun x hx hN => by rw [ways4]; exact (hg x hx hN).1.few (hg x hx hN).2, all (found_rep h60 w1 w3 hlow (hks.get 0 kid rfl) hS)⟩
mutual
theorem wsaid {s : ByteArray} {bol : Bool} (h60 : s.size ≤ 60) {M : Nat → Option Memo} : ∀ (p : Pt), PtW M s.data.toList bol p → WSaid s bol M p
 | .mk k low high n t P kn so rd st hd kids, h => wsaid_of h60 h (wsaids h60 kids (by unfold PtW at h; exact h.2.2.2.2.2.2))
theorem wsaids {s : ByteArray} {bol : Bool} (h60 : s.size ≤ 60) {M : Nat → Option Memo} : ∀ (ps : List Pt), PtsW M s.data.toList bol ps → ∀ (j : Nat) q, ps[j]? = some q → WSaid s bol M q
 | [], _, j, q, hj => by simp at hj
 | p :: ps, h, 0, q, hj => by
  simp at hj
  subst hj
  unfold PtsW at h
  exact wsaid h60 p h.1
 | p :: ps, h, j + 1, q, hj => by
  simp at hj
  unfold PtsW at h
  exact wsaids h60 ps h.2 j q hj
end
end Go.Proofs.YtnajcnhgeggngaaGreat.Way

/-! ### Asm -/

namespace Go.Proofs.YtnajcnhgeggngaaGreat.Way
open Go.RowKit Go.Proofs.YtnajcnhgeggngaaGreat Go.Maps Go.MapKept

theorem build_any : ∀ r, RxW r → BuildS r
 | .mk k mn mx n s kids, h => build_step k mn mx n s kids (fun a ha => build_any a (by unfold RxW at h; exact h.2.2.2.2.2.get a ha)) h
termination_by a => SizeOf.sizeOf a
decreasing_by
 have := List.sizeOf_lt_of_mem ha
 simp
 omega
theorem heed_upto : ∀ (N : Nat) (p : Pt), psize p ≤ N → PtH p → HeedS p
 | 0, .mk k low high n s P kn so rd st hd kids, hN, _ => by unfold psize at hN; omega
 | N + 1, .mk k low high n s P kn so rd st hd kids, hN, h => by
  by_cases k2 : k = 2
  ·
   subst k2
   exact heed_row low high n s P rd st hd kn so kids (fun q hq hh => heed_upto N q (by omega) hh) h
  ·
   refine heed_plain k low high n s P rd st hd kn so kids (fun q hq => heed_upto N q ?_ ?_) h k2
   ·
    unfold psize at hN
    have := psize_mem hq
    omega
   ·
    unfold PtH at h
    exact h.2.2.2.2.2.get q hq
theorem heed_any (p : Pt) (h : PtH p) : HeedS p := heed_upto (psize p) p (Nat.le_refl _) h
mutual
def PtF : Pt → Prop
 | .mk k low _ n s _ _ _ rd st hd kids => (rd < 8 ∧ st < 8 ∧ hd < 8) ∧ (leafK k = true → LeafOk k n s) ∧ (k = 5 → n = 1 ∨ n = 2 ∨ n = 3) ∧ (k = 4 → 0 ≤ low ∧ low ≤ 20) ∧ (k = 5 ∨ k = 4 → kids.length = 1) ∧ kids.length ≤ 1000000 ∧ PtsF kids
def PtsF : List Pt → Prop
 | [] => True
 | p :: ps => PtF p ∧ PtsF ps
end
theorem PtF.w {p : Pt} (h : PtF p) : p.rd < 8 ∧ p.st < 8 := by
 cases p
 unfold PtF at h
 exact ⟨h.1.1, h.1.2.1⟩
theorem PtsF.wd : ∀ {ps : List Pt}, PtsF ps → WdOk ps
 | [], _ => trivial
 | p :: ps, h => by
  unfold PtsF at h
  exact ⟨h.1.w, h.2.wd⟩
mutual
theorem PtF.h : ∀ (p : Pt), PtF p → PtH p
 | .mk k low high n s P kn so rd st hd kids, h => by
  unfold PtF at h
  unfold PtH
  exact ⟨h.1.1, h.2.2.2.2.2.2.wd, h.2.2.1, h.2.2.2.2.1, h.2.2.2.2.2.1, PtsF.h kids h.2.2.2.2.2.2⟩
theorem PtsF.h : ∀ (ps : List Pt), PtsF ps → PtsH ps
 | [], _ => by unfold PtsH; trivial
 | p :: ps, h => by
  unfold PtsF at h
  unfold PtsH
  exact ⟨PtF.h p h.1, PtsF.h ps h.2⟩
end
mutual
theorem ptf_of : ∀ (r : Rx) (p : Pt), er p = bldE r → RxW r → PtF p
 | .mk k mn mx n s rk, .mk k' low high n' s' P kn so rd st hd kids, e, h => by
  have hlt := bldE_lt (.mk k mn mx n s rk)
  unfold RxW at h
  unfold er bldE at e
  unfold bldE at hlt
  injection e with e1 e2 e3 e4 e5 e6 e7 e8 e9 e10 e11 e12
  subst e1 e2 e3 e4 e5 e11
  have hl : kids.length = rk.length := by rw [← ers_len, e12, bldEs_len]
  unfold PtF
  refine ⟨⟨by rw [e9]; exact hlt.1, by rw [e10]; exact hlt.2, by decide⟩, h.1, h.2.1, h.2.2.1, fun q => by rw [hl]; exact h.2.2.2.1 q, by rw [hl]; exact h.2.2.2.2.1, ptsf_of rk kids e12 h.2.2.2.2.2⟩
theorem ptsf_of : ∀ (rs : List Rx) (ps : List Pt), ers ps = bldEs rs → RxsW rs → PtsF ps
 | _, [], _, _ => by unfold PtsF; trivial
 | [], p :: ps, e, _ => by rw [ers, bldEs] at e; cases e
 | r :: rs, p :: ps, e, h => by
  rw [ers, bldEs] at e
  injection e with e1 e2
  unfold RxsW at h
  unfold PtsF
  exact ⟨ptf_of r p e1 h.1, ptsf_of rs ps e2 h.2⟩
end
theorem grp7 (g n : Nat) : g &&& (7 - n) < 8 := Nat.lt_of_le_of_lt Nat.and_le_right (by omega)
mutual
theorem ptf_heed : ∀ (g : Nat) (p : Pt), g < 8 → PtF p → PtF (heed g p)
 | g, .mk k low high n s P kn so rd st hd kids, hg, h => by
  unfold PtF at h
  obtain ⟨h1, h2, h3, h4, h5, h6, h7⟩ := h
  unfold heed PtF
  refine ⟨⟨h1.1, h1.2.1, hg⟩, h2, h3, h4, ?_, ?_, ?_⟩
  ·
   intro e
   rw [if_neg (by omega), if_neg (by omega)]
   split
   ·
    rw [heedA_map, List.length_map]; exact h5 e
   ·
    split
    ·
     rw [heedA_map, List.length_map]; exact h5 e
    ·
     exact h5 e
  ·
   split
   ·
    rw [len_heedR]; exact h6
   ·
    split
    ·
     rw [heedA_map, List.length_map]; exact h6
    ·
     split
     ·
      rw [heedA_map, List.length_map]; exact h6
     ·
      split
      ·
       rw [heedA_map, List.length_map]; exact h6
      ·
       exact h6
  ·
   split
   ·
    exact (ptf_heedR g kids hg h7).1
   ·
    split
    ·
     exact ptf_heedA g kids hg h7
    ·
     split
     ·
      exact ptf_heedA _ kids (grp7 _ _) h7
     ·
      split
      ·
       exact ptf_heedA _ kids (or8 _ _ hg h1.1) h7
      ·
       exact h7
theorem ptf_heedR : ∀ (g : Nat) (ps : List Pt), g < 8 → PtsF ps → PtsF (heedR g ps).1 ∧ (heedR g ps).2 < 8
 | g, [], hg, _ => by unfold heedR PtsF; exact ⟨trivial, hg⟩
 | g, p :: ps, hg, h => by
  unfold PtsF at h
  obtain ⟨i1, i2⟩ := ptf_heedR g ps hg h.2
  unfold heedR PtsF
  exact ⟨⟨ptf_heed _ p i2 h.1, i1⟩, heedG_lt i2 h.1.w.1⟩
theorem ptf_heedA : ∀ (g : Nat) (ps : List Pt), g < 8 → PtsF ps → PtsF (heedA g ps)
 | g, [], _, _ => by unfold heedA PtsF; trivial
 | g, p :: ps, hg, h => by
  unfold PtsF at h
  unfold heedA PtsF
  exact ⟨ptf_heed g p hg h.1, ptf_heedA g ps hg h.2⟩
end
mutual
theorem maps_heed : ∀ (g : Nat) (p : Pt), mapsOf (heed g p) = mapsOf p
 | g, .mk k low high n s P kn so rd st hd kids => by
  unfold heed mapsOf
  split
  ·
   rw [maps_heedR g kids]
  ·
   split
   ·
    rw [maps_heedA g kids]
   ·
    split
    ·
     rw [maps_heedA _ kids]
    ·
     split
     ·
      rw [maps_heedA _ kids]
     ·
      rfl
theorem maps_heedR : ∀ (g : Nat) (ps : List Pt), mapss (heedR g ps).1 = mapss ps
 | g, [] => by unfold heedR; rfl
 | g, p :: ps => by
  unfold heedR mapss
  rw [maps_heed _ p, maps_heedR g ps]
theorem maps_heedA : ∀ (g : Nat) (ps : List Pt), mapss (heedA g ps) = mapss ps
 | g, [] => by unfold heedA; rfl
 | g, p :: ps => by
  unfold heedA mapss
  rw [maps_heed g p, maps_heedA g ps]
end
mutual
theorem ptn_heed : ∀ (g : Nat) (p : Pt), PtN p → PtN (heed g p)
 | g, .mk k low high n s P kn so rd st hd kids, h => by
  unfold PtN at h
  unfold heed PtN
  refine ⟨h.1, ?_⟩
  split
  ·
   exact ptn_heedR g kids h.2
  ·
   split
   ·
    exact ptn_heedA g kids h.2
   ·
    split
    ·
     exact ptn_heedA _ kids h.2
    ·
     split
     ·
      exact ptn_heedA _ kids h.2
     ·
      exact h.2
theorem ptn_heedR : ∀ (g : Nat) (ps : List Pt), PtsN ps → PtsN (heedR g ps).1
 | g, [], _ => by unfold heedR PtsN; trivial
 | g, p :: ps, h => by
  unfold PtsN at h
  unfold heedR PtsN
  exact ⟨ptn_heed _ p h.1, ptn_heedR g ps h.2⟩
theorem ptn_heedA : ∀ (g : Nat) (ps : List Pt), PtsN ps → PtsN (heedA g ps)
 | g, [], _ => by unfold heedA PtsN; trivial
 | g, p :: ps, h => by
  unfold PtsN at h
  unfold heedA PtsN
  exact ⟨ptn_heed g p h.1, ptn_heedA g ps h.2⟩
end
mutual
theorem er_heed : ∀ (g : Nat) (p : Pt), er (heed g p) = heed g (er p)
 | g, .mk k low high n s P kn so rd st hd kids => by
  rw [heed, er, er, heed]
  by_cases k2 : k = 2
  ·
   rw [if_pos k2, if_pos k2, (er_heedR g kids).1]
  rw [if_neg k2, if_neg k2]
  by_cases k3 : k = 3
  ·
   rw [if_pos k3, if_pos k3, er_heedA g kids]
  rw [if_neg k3, if_neg k3]
  by_cases k5 : k = 5
  ·
   rw [if_pos k5, if_pos k5, er_heedA _ kids]
  rw [if_neg k5, if_neg k5]
  by_cases k4 : k = 4
  ·
   rw [if_pos k4, if_pos k4, er_heedA _ kids]
  rw [if_neg k4, if_neg k4]
theorem er_heedR : ∀ (g : Nat) (ps : List Pt), ers (heedR g ps).1 = (heedR g (ers ps)).1 ∧ (heedR g ps).2 = (heedR g (ers ps)).2
 | g, [] => ⟨rfl, rfl⟩
 | g, p :: ps => by
  obtain ⟨i1, i2⟩ := er_heedR g ps
  have e1 : heedR g (p :: ps) = (heed (heedR g ps).2 p :: (heedR g ps).1, heedG (heedR g ps).2 p) := by rw [heedR]
  have e2 : heedR g (er p :: ers ps) = (heed (heedR g (ers ps)).2 (er p) :: (heedR g (ers ps)).1, heedG (heedR g (ers ps)).2 (er p)) := by rw [heedR]
  have e3 : ers (p :: ps) = er p :: ers ps := by rw [ers]
  have e4 : ers (heed (heedR g ps).2 p :: (heedR g ps).1) = er (heed (heedR g ps).2 p) :: ers (heedR g ps).1 := by rw [ers]
  rw [e3, e1, e2]
  simp only
  rw [e4, er_heed _ p, i1, i2]
  refine ⟨rfl, ?_⟩
  unfold heedG
  rw [(er_rd p).1, (er_rd p).2]
theorem er_heedA : ∀ (g : Nat) (ps : List Pt), ers (heedA g ps) = heedA g (ers ps)
 | g, [] => rfl
 | g, p :: ps => by
  rw [heedA, ers, ers, heedA, er_heed g p, er_heedA g ps]
end
mutual
theorem maps_subl : ∀ (p : Pt), (mapsOf p).Sublist (blks p)
 | .mk k low high n s P kn so rd st hd kids => by
  unfold mapsOf blks
  exact List.Sublist.cons _ ((List.Sublist.refl _).append (mapss_subl kids))
theorem mapss_subl : ∀ (ps : List Pt), (mapss ps).Sublist (blkss ps)
 | [] => List.Sublist.refl _
 | p :: ps => by
  unfold mapss blkss
  exact (maps_subl p).append (mapss_subl ps)
end
mutual
def memos (L : List UInt8) (bol : Bool) : Pt → List (Nat × Memo)
 | .mk k low high n s P kn so rd st hd kids => kn.toList.map (fun b => (b, Memo.kn (ways L bol (.mk k low high n s P kn so rd st hd kids)))) ++ so.toList.map (fun c => (c, Memo.so (ways L bol (.mk k low high n s P kn so rd st hd kids)) hd)) ++ memoss L bol kids
def memoss (L : List UInt8) (bol : Bool) : List Pt → List (Nat × Memo)
 | [] => []
 | p :: ps => memos L bol p ++ memoss L bol ps
end
mutual
theorem memos_keys (L : List UInt8) (bol : Bool) : ∀ (p : Pt), (memos L bol p).map Prod.fst = mapsOf p
 | .mk k low high n s P kn so rd st hd kids => by
  unfold memos mapsOf
  rw [List.map_append, List.map_append, List.map_map, List.map_map, memoss_keys L bol kids]
  congr 1
  congr 1
  ·
   exact List.map_id _
  ·
   exact List.map_id _
theorem memoss_keys (L : List UInt8) (bol : Bool) : ∀ (ps : List Pt), (memoss L bol ps).map Prod.fst = mapss ps
 | [] => by unfold memoss; rfl
 | p :: ps => by
  unfold memoss mapss
  rw [List.map_append, memos_keys L bol p, memoss_keys L bol ps]
end
def findM : List (Nat × Memo) → Nat → Option Memo
 | [], _ => none
 | (c, m) :: l, b => if c = b then some m else findM l b
theorem findM_mem : ∀ {l : List (Nat × Memo)} {b : Nat} {m : Memo}, findM l b = some m → (b, m) ∈ l
 | (c, m') :: l, b, m, h => by
  unfold findM at h
  split at h
  ·
   rename_i e
   injection h with h
   rw [e, h]
   exact List.mem_cons_self ..
  ·
   exact List.mem_cons_of_mem _ (findM_mem h)
theorem findM_of : ∀ {l : List (Nat × Memo)} {b : Nat} {m : Memo}, (l.map Prod.fst).Nodup → (b, m) ∈ l → findM l b = some m
 | (c, m') :: l, b, m, hn, h => by
  rw [List.map_cons] at hn
  have hn := List.nodup_cons.1 hn
  unfold findM
  rcases List.mem_cons.1 h with e | e
  ·
   injection e with e1 e2
   rw [if_pos e1.symm, e2]
  ·
   rw [if_neg (fun e2 => hn.1 (by show c ∈ _; rw [e2]; exact List.mem_map.2 ⟨(b, m), e, rfl⟩))]
   exact findM_of hn.2 e
mutual
theorem ptw_of {M : Nat → Option Memo} {L : List UInt8} {bol : Bool} : ∀ (p : Pt), (∀ e ∈ memos L bol p, M e.1 = some e.2) → PtN p → PtF p → PtW M L bol p
 | .mk k low high n s P kn so rd st hd kids, hm, hn, hf => by
  unfold PtN at hn
  unfold PtF at hf
  unfold memos at hm
  unfold PtW
  refine ⟨hf.1, hf.2.1, fun hl => ?_, fun e => ⟨hf.2.2.1 e, fun e2 => by have := hf.2.2.2.2.1 (Or.inl e); rw [e2] at this; cases this⟩, fun e => ⟨hf.2.2.2.1 e, fun e2 => by have := hf.2.2.2.2.1 (Or.inr e); rw [e2] at this; cases this⟩, by have := hf.2.2.2.2.2.1; omega, ptsw_of kids (fun e he => hm e (List.mem_append_right _ he)) hn.2 hf.2.2.2.2.2.2⟩
  obtain ⟨⟨b, rfl⟩, c, rfl⟩ := hn.1 hl
  exact ⟨⟨b, rfl, hm (b, _) (List.mem_append_left _ (List.mem_append_left _ (List.mem_cons_self ..)))⟩, c, rfl, hm (c, _) (List.mem_append_left _ (List.mem_append_right _ (List.mem_cons_self ..)))⟩
theorem ptsw_of {M : Nat → Option Memo} {L : List UInt8} {bol : Bool} : ∀ (ps : List Pt), (∀ e ∈ memoss L bol ps, M e.1 = some e.2) → PtsN ps → PtsF ps → PtsW M L bol ps
 | [], _, _, _ => by unfold PtsW; trivial
 | p :: ps, hm, hn, hf => by
  unfold PtsN at hn
  unfold PtsF at hf
  unfold memoss at hm
  unfold PtsW
  exact ⟨ptw_of p (fun e he => hm e (List.mem_append_left _ he)) hn.1 hf.1, ptsw_of ps (fun e he => hm e (List.mem_append_right _ he)) hn.2 hf.2⟩
end
mutual
theorem ptat_ok {w : World} {ok : Nat → Prop} (hok : ∀ b, (NumB w b ∨ ∃ q, w.cell? ⟨b, 0, none⟩ = some (ptv q)) → ok b) : ∀ (p : Pt), PtAt w TT p → PtAt w ok p
 | .mk k low high n s P kn so rd st hd kids, h => by
  unfold PtAt at h ⊢
  obtain ⟨_, ⟨ad, c, h2, h3, h4⟩, h5⟩ := h
  refine ⟨hok P (Or.inl ⟨_, _, bl_cell h2 0 _ rfl⟩), ⟨ad, c, h2, h3, fun hl => ?_⟩, ptsat_ok hok kids h5⟩
  obtain ⟨b, e, _, hlt, hc⟩ := h4 hl
  obtain ⟨q, hq⟩ : ∃ q, kids[0]? = some q := ⟨_, List.getElem?_eq_getElem hl⟩
  exact ⟨b, e, hok b (Or.inr ⟨_, hc 0 q hq⟩), hlt, hc⟩
theorem ptsat_ok {w : World} {ok : Nat → Prop} (hok : ∀ b, (NumB w b ∨ ∃ q, w.cell? ⟨b, 0, none⟩ = some (ptv q)) → ok b) : ∀ (ps : List Pt), PtsAt w TT ps → PtsAt w ok ps
 | [], _ => by unfold PtsAt; trivial
 | p :: ps, h => by
  unfold PtsAt at h ⊢
  exact ⟨ptat_ok hok p h.1, ptsat_ok hok ps h.2⟩
end
theorem map_cell {w : World} {b : Nat} (h : w.heap[b]? = some (.map #[] 0)) : w.cell? ⟨b, 0, none⟩ = none := by
 simp [World.cell?, h]
structure ReadyP (L : List UInt8) (bol : Bool) (p : Pt) (M : Nat → Option Memo) (w : World) : Prop where
 at_ : PtAt w (okB M (fun _ => False)) p
 mem : MemOk M (fun _ => False) w
 w_ : PtW M L bol p
theorem ReadyP.of {L : List UInt8} {bol : Bool} {p : Pt} {w : World} (hp : PtAt w TT p) (hn : (blks p).Nodup) (hm : ∀ b ∈ mapsOf p, w.heap[b]? = some (.map #[] 0)) (hN : PtN p) (hF : PtF p) : ReadyP L bol p (findM (memos L bol p)) w := by
 have hk := memos_keys L bol p
 have hnd : ((memos L bol p).map Prod.fst).Nodup := by rw [hk]; exact hn.sublist (maps_subl p)
 have hb : ∀ b m, findM (memos L bol p) b = some m → w.heap[b]? = some (.map #[] 0) := fun b m h => hm b (by rw [← hk]; exact List.mem_map.2 ⟨_, findM_mem h, rfl⟩)
 refine ⟨ptat_ok (fun b hcc => ⟨id, ?h1⟩) p hp, ⟨fun b m h => ?h2, fun b h => h.elim⟩, ptw_of p (fun e he => findM_of hnd he) hN hF⟩
 case h1 =>
  cases hq : findM (memos L bol p) b with
  | none => rfl
  | some m =>
   have hz := map_cell (hb b m hq)
   rcases hcc with ⟨K, n, e⟩ | ⟨q, e⟩ <;> (rw [hz] at e; cases e)
 case h2 =>
  have h1 := hb b m h
  have emp : ∀ G : Sp → Value → Prop, MapAt w b G := fun G => ⟨#[], 0, h1, stamped_empty 0, fun e he => by simp at he⟩
  cases m with
  | kn W => exact emp _
  | so W hd => exact emp _
mutual
theorem ways_er (L : List UInt8) (bol : Bool) : ∀ (p : Pt), ways L bol (er p) = ways L bol p
 | .mk k low high n s P kn so rd st hd kids => by
  funext x
  unfold er ways
  rw [catW_er L bol kids, altW_er L bol kids hd, fstW_er L bol kids]
  have h1 : fstK (ers kids) = fstK kids := by
   cases kids with
   | nil => rfl
   | cons p ps => cases p; unfold ers er; rfl
  have h2 : fstR (ers kids) = fstR kids := by
   cases kids with
   | nil => rfl
   | cons p ps => cases p; unfold ers er; rfl
  have h3 : fstH (ers kids) = fstH kids := by
   cases kids with
   | nil => rfl
   | cons p ps => cases p; unfold ers er; rfl
  rw [h1, h2, h3]
theorem fstW_er (L : List UInt8) (bol : Bool) : ∀ (ps : List Pt), fstW L bol (ers ps) = fstW L bol ps
 | [] => rfl
 | p :: ps => by
  funext x
  rw [ers, fstW, fstW, ways_er L bol p]
theorem catW_er (L : List UInt8) (bol : Bool) : ∀ (ps : List Pt), catW L bol (ers ps) = catW L bol ps
 | [] => rfl
 | p :: ps => by
  funext l
  rw [ers, catW, catW, catW_er L bol ps, ways_er L bol p]
  have h : (er p).rd = p.rd ∧ (er p).hd = p.hd := by cases p; unfold er; exact ⟨rfl, rfl⟩
  rw [h.1, h.2]
theorem altW_er (L : List UInt8) (bol : Bool) : ∀ (ps : List Pt), ∀ h, altW L bol h (ers ps) = altW L bol h ps
 | [], _ => rfl
 | p :: ps, h => by
  funext x acc
  have h1 : (er p).rd = p.rd := by cases p; unfold er; rfl
  rw [ers, altW, altW, ways_er L bol p, h1, altW_er L bol ps h]
end
end Go.Proofs.YtnajcnhgeggngaaGreat.Way
