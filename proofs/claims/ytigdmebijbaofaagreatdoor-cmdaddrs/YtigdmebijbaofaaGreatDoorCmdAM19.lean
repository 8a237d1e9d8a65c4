/-
  Texts of this claim: Sets1, Fit, Talk, CmA, Cm0, Cm1, Cm2.
-/
import Derived.Test.YtigdmebijbaofaaGreatDoorCmdAM4
import Derived.Test.YtigdmebijbaofaaGreatDoorCmdAM18
import Derived.Test.YtigdmebijbaofaaGreatDoorCmdAM17
import Derived.Test.YtigdmebijbaofaaGreatDoorCmdAM13
import Derived.Lib.ConvBytes
import Derived.Test.YtigdmebijbaofaaGreatDoorCmdAM2

/-! ### Sets1 -/

namespace Go.Proofs.YtigdmebijbaofaaGreatDoor.Trip
open Go Go.Proofs.YtigdmebijbaofaaGreatDoor

def setR (p : Nat → Bool) : Rx := .mk 1 0 0 0 (W4.of p) []
theorem of_lt (p : Nat → Bool) : (W4.of p).a < 18446744073709551616 ∧ (W4.of p).b < 18446744073709551616 ∧ (W4.of p).c < 18446744073709551616 ∧ (W4.of p).d < 18446744073709551616 := ⟨wd_lt p 0, wd_lt p 1, wd_lt p 2, wd_lt p 3⟩
theorem bit_of (p : Nat → Bool) (k : Nat) (hk : k < 256) : W4.bit (W4.of p) k = p k := by
 unfold W4.bit bitOf W4.of
 have h : k / 64 = 0 ∨ k / 64 = 1 ∨ k / 64 = 2 ∨ k / 64 = 3 := by omega
 rcases h with h | h | h | h
 ·
  rw [if_pos h, wd_testBit, decide_eq_true (by omega), Bool.true_and, show 64 * 0 + k % 64 = k by omega]
 ·
  rw [if_neg (by omega), if_pos h, wd_testBit, decide_eq_true (by omega), Bool.true_and, show 64 * 1 + k % 64 = k by omega]
 ·
  rw [if_neg (by omega), if_neg (by omega), if_pos h, wd_testBit, decide_eq_true (by omega), Bool.true_and, show 64 * 2 + k % 64 = k by omega]
 ·
  rw [if_neg (by omega), if_neg (by omega), if_neg (by omega), wd_testBit, decide_eq_true (by omega), Bool.true_and, show 64 * 3 + k % 64 = k by omega]
theorem setR_ok (p : Nat → Bool) : RxOk (setR p) := by
 unfold setR RxOk
 exact ⟨by simp, of_lt p, fun a ha => by cases ha⟩
theorem setT_len2 (p : Nat → Bool) (ere : Bool) : (setT p ere).length ≤ 2000 := by
 have h1 := rowT_len p
 have h2 := rowT_len (notB p)
 have h3 : (setRow p).length ≤ 1024 := by
  unfold setRow
  split
  ·
   simp
  ·
   exact h1
 unfold setT
 split
 ·
  unfold byteT
  split
  ·
   simp
  ·
   split <;> simp
 ·
  split
  ·
   simp
  ·
   split
   ·
    simp; omega
   ·
    simp; omega
end Go.Proofs.YtigdmebijbaofaaGreatDoor.Trip

/-! ### Fit -/

namespace Go.Proofs.YtigdmebijbaofaaGreatDoor.Trip
open Go Go.Proofs.YtigdmebijbaofaaGreatDoor

structure Lg (ere : Bool) (r : Rx) : Prop where
 all : ∀ (b e : Bool) (c c' : Ck), RxOk r → chk ere r b e c = some c' → c.g ≤ 3 → (txt ere r).length ≤ 2100 * nds r ∧ TxFit ere r
theorem txts_len (ere : Bool) (f : Rx → Nat) : ∀ (rs : List Rx), (∀ r ∈ rs, (txt ere r).length ≤ 2100 * nds r) → ((txts ere rs).flatten).length ≤ 2100 * ndss rs
 | [], _ => by simp [txts, ndss]
 | r :: rs, h => by
  rw [txts, List.flatten_cons, List.length_append, ndss]
  have h1 := h r (by simp)
  have h2 := txts_len ere f rs (fun x hx => h x (by simp [hx]))
  omega
theorem bars_le (ere : Bool) : ∀ (rs : List Rx), (∀ r ∈ rs, (txt ere r).length ≤ 2100 * nds r) → (bars ere rs).length ≤ 2100 * ndss rs + rs.length
 | [], _ => by simp [bars]
 | r :: rs, h => by
  have h1 := h r (by simp)
  have h2 := bars_le ere rs (fun x hx => h x (by simp [hx]))
  have e : (bars ere (r :: rs)).length = 1 + (txt ere r).length + (bars ere rs).length := by
   unfold bars
   rw [List.map_cons, List.flatten_cons, List.length_append, List.length_cons]
   omega
  rw [e, ndss, List.length_cons]
  omega
theorem nds_pos (r : Rx) : 1 ≤ nds r := by
 cases r with
 | mk k mn mx n s kids => rw [nds]; omega
theorem len_ndss : ∀ (rs : List Rx), rs.length ≤ ndss rs
 | [] => by simp
 | r :: rs => by
  have := nds_pos r
  have := len_ndss rs
  rw [ndss, List.length_cons]
  omega
theorem timesT_len (lo : Nat) (hi : Int) (ere : Bool) (h : lo ≤ 20) (h1 : -1 ≤ hi) (h2 : hi ≤ 20) : (timesT lo hi ere).length ≤ 9 := by
 have := ivT_len lo hi h h1 h2
 unfold timesT
 split
 ·
  simp
 ·
  split
  ·
   simp
  ·
   split
   ·
    simp
   ·
    unfold framedT
    split <;> simp <;> omega
theorem cat_each {ere : Bool} : ∀ (rs : List Rx) (f : Bool) (c c' : Ck), chkCat ere rs f c = some c' → c.g ≤ 3 → ∀ r ∈ rs, ∃ b e c1 c2, chk ere r b e c1 = some c2 ∧ c1.g ≤ 3
 | [], _, _, _, _, _ => by intro r h; cases h
 | r :: rs, f, c, c', h, hg => by
  rw [chkCat] at h
  split at h
  ·
   cases h
  split at h
  ·
   cases h
  rename_i c1 h1
  have cn := (cnt_any r).all _ _ _ _ _ h1
  intro x hx
  rcases List.mem_cons.1 hx with rfl | hx
  ·
   exact ⟨_, _, _, _, h1, hg⟩
  ·
   exact cat_each rs false c1 c' h (cn.2.2.2 hg) x hx
theorem alt_each {ere : Bool} : ∀ (rs : List Rx) (c c' : Ck), chkAlt ere rs c = some c' → c.g ≤ 3 → ∀ r ∈ rs, ∃ b e c1 c2, chk ere r b e c1 = some c2 ∧ c1.g ≤ 3
 | [], _, _, _, _ => by intro r h; cases h
 | r :: rs, c, c', h, hg => by
  rw [chkAlt] at h
  split at h
  ·
   cases h
  split at h
  ·
   cases h
  rename_i c1 h1
  have cn := (cnt_any r).all _ _ _ _ _ h1
  intro x hx
  rcases List.mem_cons.1 hx with rfl | hx
  ·
   exact ⟨_, _, _, _, h1, hg⟩
  ·
   exact alt_each rs c1 c' h (cn.2.2.2 hg) x hx
theorem lg_step (ere : Bool) (k mn mx n : Int) (s : W4) (kids : List Rx) (H : ∀ a, a ∈ kids → Lg ere a) : Lg ere (.mk k mn mx n s kids) := by
 refine ⟨fun b e c c' hR h hg => ?_⟩
 have h0 := h
 have cn := (cnt_any (.mk k mn mx n s kids)).all _ _ _ _ _ h0
 obtain ⟨h1, h2, h⟩ := chk_inv h
 obtain ⟨l1, l2, l3, l4⟩ := lean_inv h2
 have hR' := rxOk_kid hR
 have z : nds (.mk k mn mx n s kids) = 1 + ndss kids := by rw [nds]
 have hk40 := len_ndss kids
 have hnn : nds (.mk k mn mx n s kids) ≤ 40 := by omega
 -- what is asked of the kids
 have each : ∀ r, r ∈ kids → (txt ere r).length ≤ 2100 * nds r ∧ TxFit ere r := by
  intro r hr
  have : ∃ b e c1 c2, chk ere r b e c1 = some c2 ∧ c1.g ≤ 3 := by
   rcases h with ⟨hk, _⟩ | ⟨hk, h⟩ | ⟨hk, _, h⟩ | ⟨hk, _, h⟩ | ⟨hk, _, hg3, _, h⟩ | ⟨hk, _⟩ | ⟨hk, _⟩ | ⟨hk, _⟩
   ·
    rw [kids_none (by omega) l4] at hr; cases hr
   ·
    exact cat_each kids true _ _ h hg r hr
   ·
    exact alt_each kids _ _ h hg r hr
   ·
    obtain ⟨x, rfl⟩ := kids_one (Or.inl hk) l4
    obtain ⟨_, hx⟩ := rep_inv h
    obtain rfl : r = x := by simpa using hr
    exact ⟨_, _, _, _, hx, hg⟩
   ·
    obtain ⟨x, rfl⟩ := kids_one (Or.inr hk) l4
    obtain ⟨c1, hx, _⟩ := grp_inv h
    obtain rfl : r = x := by simpa using hr
    exact ⟨_, _, _, _, hx, hg3⟩
   ·
    rw [kids_none (by omega) l4] at hr; cases hr
   ·
    rw [kids_none (by omega) l4] at hr; cases hr
   ·
    rw [kids_none (by omega) l4] at hr; cases hr
  obtain ⟨b, e, c1, c2, hc, hg1⟩ := this
  exact (H r hr).all b e c1 c2 (hR'.2 r hr) hc hg1
 have len : (txt ere (.mk k mn mx n s kids)).length ≤ 2100 * nds (.mk k mn mx n s kids) := by
  rw [z, txt_mk]
  rcases h with ⟨rfl, _⟩ | ⟨rfl, h⟩ | ⟨rfl, _, h⟩ | ⟨rfl, ht, h⟩ | ⟨rfl, _, hg3, _, h⟩ | ⟨rfl, hn1, hn2, _⟩ | ⟨rfl, _⟩ | ⟨rfl, _⟩
  ·
   rw [if_pos rfl]
   have := setT_len2 (W4.bit s) ere
   omega
  ·
   rw [if_neg (by decide), if_pos rfl, join_nil]
   have := txts_len ere nds kids (fun r hr => (each r hr).1)
   omega
  ·
   rw [if_neg (by decide), if_neg (by decide), if_pos rfl]
   match kids, l4, each, hk40 with
   | r :: rs, _, each, hk40 =>
    rw [join_bar, List.length_append, ndss]
    have h1 := (each r (by simp)).1
    have h2 := bars_le ere rs (fun x hx => (each x (by simp [hx])).1)
    have := len_ndss rs
    have h3 : rs.length ≤ 40 := by rw [z, ndss] at hnn; omega
    omega
   | [], _, _, _ => simp [txts, Lib.join, List.intercalate]
  ·
   rw [if_neg (by decide), if_neg (by decide), if_neg (by decide), if_pos rfl]
   obtain ⟨x, rfl⟩ := kids_one (Or.inl rfl) l4
   have ht' : 0 ≤ mn ∧ mn ≤ 20 ∧ -1 ≤ mx ∧ mx ≤ 20 := by
    unfold timesFit at ht
    split at ht
    ·
     cases ht
    ·
     simp at ht
     omega
   have h1 := (each x (by simp)).1
   have h2 := timesT_len mn.toNat mx ere (by omega) (by omega) (by omega)
   rw [show (txts ere [x]).headD [] = txt ere x by rw [txts]; rfl, List.length_append]
   simp only [ndss]
   omega
  ·
   rw [if_neg (by decide), if_neg (by decide), if_neg (by decide), if_neg (by decide), if_pos rfl]
   obtain ⟨x, rfl⟩ := kids_one (Or.inr rfl) l4
   have h1 := (each x (by simp)).1
   rw [show (txts ere [x]).headD [] = txt ere x by rw [txts]; rfl]
   have fl : (framedT [40] (txt ere x) [41] ere).length ≤ (txt ere x).length + 4 := by
    unfold framedT
    split <;> simp
   simp only [ndss]
   omega
  ·
   rw [if_neg (by decide), if_neg (by decide), if_neg (by decide), if_neg (by decide), if_neg (by decide), if_pos rfl]
   have := dec_len n.toNat (by omega)
   simp
   omega
  ·
   rw [if_neg (by decide), if_neg (by decide), if_neg (by decide), if_neg (by decide), if_neg (by decide), if_neg (by decide), if_pos rfl]
   simp
   omega
  ·
   rw [if_neg (by decide), if_neg (by decide), if_neg (by decide), if_neg (by decide), if_neg (by decide), if_neg (by decide), if_neg (by decide)]
   simp
   omega
 refine ⟨len, ?_⟩
 unfold TxFit
 refine ⟨⟨fun hk => ?_, fun hk => kids_one (Or.inr hk) l4, fun hk => ?_, by omega, hR'.1, by omega, fun r hr => ?_⟩, fun a ha => (each a ha).2⟩
 ·
  rcases h with ⟨hk', _⟩ | ⟨hk', _⟩ | ⟨hk', _⟩ | ⟨hk', ht, _⟩ | ⟨hk', _⟩ | ⟨hk', _⟩ | ⟨hk', _⟩ | ⟨hk', _⟩ <;> try omega
  refine ⟨kids_one (Or.inl hk) l4, ?_⟩
  unfold timesFit at ht
  split at ht
  ·
   cases ht
  ·
   simp at ht
   omega
 ·
  rcases h with ⟨hk', _⟩ | ⟨hk', _⟩ | ⟨hk', _⟩ | ⟨hk', _⟩ | ⟨hk', _⟩ | ⟨hk', hn1, hn2, _⟩ | ⟨hk', _⟩ | ⟨hk', _⟩ <;> omega
 ·
  have h1 := (each r hr).1
  have h2 : nds r ≤ ndss kids := ndss_mem kids r hr
  omega
theorem lg_any (ere : Bool) : ∀ r, Lg ere r
 | .mk k mn mx n s kids => lg_step ere k mn mx n s kids (fun a _ => lg_any ere a)
termination_by r => SizeOf.sizeOf r
decreasing_by
 have := List.sizeOf_lt_of_mem (by assumption)
 simp
 omega
theorem right_fit (ere : Bool) (r : Rx) (hR : RxOk r) (h : right ere r = true) : TxFit ere r ∧ (txt ere r).length ≤ 84000 := by
 unfold right at h
 obtain ⟨c', hc⟩ := Option.isSome_iff_exists.1 h
 obtain ⟨h1, h2⟩ := (lg_any ere r).all _ _ _ _ hR hc (Nat.zero_le _)
 have cn := (cnt_any r).all _ _ _ _ _ hc
 have := cn.1
 have := cn.2.1
 simp at *
 exact ⟨h2, by omega⟩
theorem print_trip (ere : Bool) (r : Rx) (hR : RxOk r) (h : right ere r = true) : pParse (bs (printT ere r)) ere = (r, 0, 0) := by
 unfold printT
 rw [if_pos h]
 exact trip ere r hR h
end Go.Proofs.YtigdmebijbaofaaGreatDoor.Trip

/-! ### Talk -/

namespace Go.Proofs.YtigdmebijbaofaaGreatDoor
open Go.RowKit

theorem fit_of_ok : ∀ r, RxOk r → RxFit r
 | .mk k mn mx n s kids, h => by
  unfold RxOk at h
  unfold RxFit
  exact ⟨h.1, fun a ha => fit_of_ok a (h.2.2 a ha)⟩
termination_by r => SizeOf.sizeOf r
decreasing_by
 have := List.sizeOf_lt_of_mem ha
 simp
 omega
theorem slim_of_ok : ∀ r, RxOk r → Slim r
 | .mk k mn mx n s kids, h => by
  unfold RxOk at h
  unfold Slim
  exact ⟨h.1, fun a ha => slim_of_ok a (h.2.2 a ha)⟩
termination_by r => SizeOf.sizeOf r
decreasing_by
 have := List.sizeOf_lt_of_mem ha
 simp
 omega
theorem print_size (ere : Bool) (T : Rx) (hO : RxOk T) : (bs (printT ere T)).size ≤ 1000000 := by
 rw [bs_size]
 unfold printT
 split
 ·
  rename_i h
  have := (Trip.right_fit ere T hO h).2
  omega
 ·
  simp
theorem nds_right (ere : Bool) (T : Rx) (h : right ere T = true) : nds T ≤ 40 := by
 unfold right at h
 obtain ⟨c, hc⟩ := Option.isSome_iff_exists.1 h
 have := (Trip.cnt_any T).all ere true true ⟨0, 0, 0⟩ c hc
 simp at this
 omega
theorem talk_print (T : Rx) (ere : Bool) (hO : RxOk T) (S : ByteArray) (hS : bs (printT ere T) = S) (w : World) {k mn mx m : Int} {t : W4} {ad : Option Addr} {l c : Nat} (h : Pd w T k mn mx m t ad l c) :
  Calls Tryz.prog 37 #[rxv k mn mx m t (.slice ad l c), .bool ere] w fun e w' => e = .returned (.string S) ∧ Kp w w' := by
 subst hS
 exact print_any T ere _ k mn mx m t ad l c w hO (fun hr => (Trip.right_fit ere T hO hr).1) h.is
theorem talk_same (T U : Rx) (b : Bool) (hO : RxOk T) (hb : sameR T U = b) (w : World) {k mn mx m : Int} {t : W4} {ad : Option Addr} {l c : Nat} {k' mn' mx' m' : Int} {t' : W4} {ad' : Option Addr} {l' c' : Nat} (h : Pd w T k mn mx m t ad l c) (h' : Pd w U k' mn' mx' m' t' ad' l' c') :
  Calls Tryz.prog 58 #[rxv k mn mx m t (.slice ad l c), rxv k' mn' mx' m' t' (.slice ad' l' c')] w fun e w' => e = .returned (.bool b) ∧ Kp w w' := by
 subst hb
 exact same_any T U _ _ w _ _ (fit_of_ok T hO) h.is h'.is
end Go.Proofs.YtigdmebijbaofaaGreatDoor

/-! ### CmA -/

namespace Go.Proofs.YtigdmebijbaofaaGreatDoor
open Go.RowKit

structure Pc where
 g : Int
 s : ByteArray
structure PcAt (w : World) (P : List Pc) (ad : Option Addr) (l c : Nat) : Prop where
 ln : l = P.length
 cp : l ≤ c
 at' : P ≠ [] → ∃ b o, ad = some ⟨b, o, none⟩ ∧ b < w.heap.size ∧ ∀ (j : Nat) p, P[j]? = some p → w.cell? ⟨b, o + j * 2, none⟩ = some (.int .i64 p.g) ∧ w.cell? ⟨b, o + j * 2 + 1, none⟩ = some (.string p.s)
theorem PcAt.kp {w w' : World} {P : List Pc} {ad : Option Addr} {l c : Nat} (h : PcAt w P ad l c) (k : Kp w w') : PcAt w' P ad l c :=
 ⟨h.ln, h.cp, fun hne => by
  obtain ⟨b, o, h1, h2, h3⟩ := h.at' hne
  exact ⟨b, o, h1, Nat.lt_of_lt_of_le h2 k.size, fun j p hj => ⟨(k.cell h2).trans (h3 j p hj).1, (k.cell h2).trans (h3 j p hj).2⟩⟩⟩
theorem PcAt.nil (w : World) : PcAt w [] none 0 0 := ⟨rfl, Nat.le_refl _, fun h => absurd rfl h⟩

def lab1 (n : Nat) : Bool := (decide (97 ≤ n) && decide (n ≤ 122)) || (decide (65 ≤ n) && decide (n ≤ 90)) || (decide (48 ≤ n) && decide (n ≤ 57)) || n == 95
def labB (s : ByteArray) : Bool := decide (1 ≤ s.size) && decide (s.size ≤ 8) && s.data.toList.all (fun b => lab1 b.toNat)
def labO (s : ByteArray) : Bool := decide (s.size = 0) || labB s
def kindN (op : Nat) : Nat :=
 if op ∈ [123, 125, 61, 100, 68, 103, 71, 104, 72, 110, 78, 112, 80, 113, 120] then 1
 else if op ∈ [97, 105, 99] then 2
 else if op ∈ [98, 116] then 3
 else if op ∈ [58, 119] then 4
 else if op = 115 then 5
 else if op = 121 then 6
 else 0
def addrsN (op : Nat) : Nat := if op ∈ [125, 58] then 0 else if op ∈ [113, 97, 105, 61] then 1 else 2
def pcR (p : Pc) (G : Int) : Bool := if p.g = -1 then decide (1 ≤ p.s.size) && decide (p.s.size ≤ 400) else decide (0 ≤ p.g) && decide (p.g ≤ G) && decide (p.s.size = 0)
def tplL : Bool → List Pc → Int → Bool
 | _, [], _ => true
 | t, p :: ps, G => pcR p G && !(t && decide (p.g = -1)) && tplL (decide (p.g = -1)) ps G
def tplR (P : List Pc) (G : Int) : Bool := tplL false P G
def tabR (y z : ByteArray) : Bool := decide (y.size = z.size) && decide (y.size ≤ 400) && decide (y.data.toList.Nodup)
def quotT (s : List UInt8) : List UInt8 := s.flatMap fun b => if b = 10 then [92, 110] else if b = 38 ∨ b = 47 ∨ b = 92 then [92, b] else [b]
def linesT (s : List UInt8) : List UInt8 := s.flatMap fun b => if b = 92 ∨ b = 10 then [92, b] else [b]
def tableT (s : List UInt8) : List UInt8 := s.flatMap fun b => if b = 10 then [92, 110] else if b = 47 ∨ b = 92 then [92, b] else [b]
def pcT (p : Pc) : List UInt8 := if p.g = -1 then quotT p.s.data.toList else if p.g = 0 then [38] else if 0 < p.g ∧ p.g ≤ 9 then [92] ++ dec p.g.toNat else []
def tplT (P : List Pc) : List UInt8 := P.flatMap pcT
def nameT (s : List UInt8) : List UInt8 := if s = [] then [] else [32] ++ s
def pcEq (a b : Pc) : Bool := decide (a.g = b.g) && a.s.data.toList == b.s.data.toList
def pcsEq : List Pc → List Pc → Bool
 | [], [] => true
 | a :: x, b :: y => pcEq a b && pcsEq x y
 | _, _ => false
end Go.Proofs.YtigdmebijbaofaaGreatDoor

/-! ### Cm0 -/

namespace Go.Proofs.YtigdmebijbaofaaGreatDoor
open Go.RowKit

structure Rv where
 k : Int
 mn : Int
 mx : Int
 m : Int
 t : W4
 ad : Option Addr
 l : Nat
 c : Nat
abbrev Rv.v (r : Rv) : Value := rxv r.k r.mn r.mx r.m r.t (.slice r.ad r.l r.c)
abbrev Rv.z : Rv := ⟨0, 0, 0, 0, ⟨0, 0, 0, 0⟩, none, 0, 0⟩
abbrev Rv.is (r : Rv) (w : World) (T : Rx) : Prop := Pd w T r.k r.mn r.mx r.m r.t r.ad r.l r.c
def zR : Rx := .mk 0 0 0 0 ⟨0, 0, 0, 0⟩ []
theorem zR_is (w : World) : Rv.z.is w zR := ⟨Is.leaf w _ 0 0 0 0 ⟨0, 0, 0, 0⟩⟩
theorem zR_ok : RxOk zR := rxOk_of zR (by decide)

structure Av where
 k : Int
 ln : Int
 r : Rv
abbrev Av.v (a : Av) : Value := .agg #[.int .i64 a.k, .int .i64 a.ln, .int .i64 a.r.k, .int .i64 a.r.mn, .int .i64 a.r.mx, .int .i64 a.r.m, .int .u64 (a.r.t.a : Int), .int .u64 (a.r.t.b : Int), .int .u64 (a.r.t.c : Int), .int .u64 (a.r.t.d : Int), .slice a.r.ad a.r.l a.r.c]
abbrev Av.z : Av := ⟨0, 0, Rv.z⟩

structure Cv where
 a : Av
 b : Av
 nt : Bool
 op : Nat
 tx : ByteArray
 r : Rv
 pa : Option Addr
 pl : Nat
 pc : Nat
 g : Bool
 s : Bool
 nth : Int
 y : ByteArray
 z : ByteArray
abbrev Cv.cs (c : Cv) : Array Value := #[.int .i64 c.a.k, .int .i64 c.a.ln, .int .i64 c.a.r.k, .int .i64 c.a.r.mn, .int .i64 c.a.r.mx, .int .i64 c.a.r.m, .int .u64 (c.a.r.t.a : Int), .int .u64 (c.a.r.t.b : Int), .int .u64 (c.a.r.t.c : Int), .int .u64 (c.a.r.t.d : Int), .slice c.a.r.ad c.a.r.l c.a.r.c,
 .int .i64 c.b.k, .int .i64 c.b.ln, .int .i64 c.b.r.k, .int .i64 c.b.r.mn, .int .i64 c.b.r.mx, .int .i64 c.b.r.m, .int .u64 (c.b.r.t.a : Int), .int .u64 (c.b.r.t.b : Int), .int .u64 (c.b.r.t.c : Int), .int .u64 (c.b.r.t.d : Int), .slice c.b.r.ad c.b.r.l c.b.r.c,
 .bool c.nt, .int .u8 (c.op : Int), .string c.tx,
 .int .i64 c.r.k, .int .i64 c.r.mn, .int .i64 c.r.mx, .int .i64 c.r.m, .int .u64 (c.r.t.a : Int), .int .u64 (c.r.t.b : Int), .int .u64 (c.r.t.c : Int), .int .u64 (c.r.t.d : Int), .slice c.r.ad c.r.l c.r.c,
 .slice c.pa c.pl c.pc, .bool c.g, .bool c.s, .int .i64 c.nth, .string c.y, .string c.z]
abbrev Cv.v (c : Cv) : Value := .agg c.cs

structure CIs (w : World) (c : Cv) (A B R : Rx) (P : List Pc) : Prop where
 a : c.a.r.is w A
 b : c.b.r.is w B
 r : c.r.is w R
 p : PcAt w P c.pa c.pl c.pc
theorem CIs.kp {w w' : World} {c : Cv} {A B R : Rx} {P : List Pc} (h : CIs w c A B R P) (k : Kp w w') : CIs w' c A B R P := ⟨h.a.kp k, h.b.kp k, h.r.kp k, h.p.kp k⟩
structure COk (c : Cv) (A B R : Rx) (P : List Pc) : Prop where
 a : RxOk A
 b : RxOk B
 r : RxOk R
 p : P.length ≤ 1000000
 op : c.op < 256
 tx : c.tx.size ≤ 1000000
 y : c.y.size ≤ 1000000
 z : c.z.size ≤ 1000000

def noR (T : Rx) : Bool := sameR T zR
def wrtR (ere : Bool) (T : Rx) : Bool := decide (printT ere T ≠ [])
def adR (k ln : Int) (T : Rx) (ere : Bool) : Bool :=
 if k = 0 ∨ k = 2 then decide (ln = 0) && noR T
 else if k = 1 then decide (1 ≤ ln) && decide (ln ≤ 9999) && noR T
 else if k = 3 then decide (ln = 0) && wrtR ere T
 else false
def adT (k ln : Int) (T : Rx) (ere : Bool) : List UInt8 :=
 if adR k ln T ere then
  if k = 1 then dec ln.toNat else if k = 2 then [36] else if k = 3 then [47] ++ printT ere T ++ [47] else []
 else []
def placedR (c : Cv) (A B : Rx) (ere : Bool) : Bool :=
 adR c.a.k c.a.ln A ere && adR c.b.k c.b.ln B ere &&
  (if addrsN c.op = 0 then decide (c.a.k = 0) && decide (c.b.k = 0) && !c.nt else if addrsN c.op = 1 then decide (c.b.k = 0) else !decide (c.a.k = 0) || decide (c.b.k = 0))
def substR (c : Cv) (R : Rx) (P : List Pc) (ere : Bool) : Bool := wrtR ere R && tplR P (grp R) && decide (0 ≤ c.nth) && decide (c.nth ≤ 99) && labO c.tx
def askedR (c : Cv) (R : Rx) (P : List Pc) (ere : Bool) : Bool :=
 match kindN c.op with
 | 1 => true
 | 2 => decide (c.tx.size ≤ 400)
 | 3 => labO c.tx
 | 4 => labB c.tx
 | 5 => substR c R P ere
 | 6 => tabR c.y c.z
 | _ => false
def leanR (c : Cv) (R : Rx) (P : List Pc) : Bool :=
 match kindN c.op with
 | 2 | 3 | 4 => decide (c.y.size = 0) && decide (c.z.size = 0) && !c.g && !c.s && decide (c.nth = 0) && noR R && P.isEmpty
 | 5 => decide (c.y.size = 0) && decide (c.z.size = 0)
 | 6 => decide (c.tx.size = 0) && !c.g && !c.s && decide (c.nth = 0) && noR R && P.isEmpty
 | _ => decide (c.tx.size = 0) && decide (c.y.size = 0) && decide (c.z.size = 0) && !c.g && !c.s && decide (c.nth = 0) && noR R && P.isEmpty
def rightC (c : Cv) (A B R : Rx) (P : List Pc) (ere : Bool) : Bool := placedR c A B ere && leanR c R P && askedR c R P ere

def flagsT (c : Cv) : List UInt8 := (if c.g then [103] else []) ++ (if c.s then [112] else []) ++ (if c.nth = 0 then [] else dec c.nth.toNat) ++ (if c.tx.data.toList = [] then [] else [119] ++ nameT c.tx.data.toList)
def restT (c : Cv) (R : Rx) (P : List Pc) (ere : Bool) : List UInt8 :=
 match kindN c.op with
 | 2 => [92, 10] ++ linesT c.tx.data.toList
 | 3 | 4 => nameT c.tx.data.toList
 | 5 => [47] ++ printT ere R ++ [47] ++ tplT P ++ [47] ++ flagsT c
 | 6 => [47] ++ tableT c.y.data.toList ++ [47] ++ tableT c.z.data.toList ++ [47]
 | _ => []
def placeT (c : Cv) (A B : Rx) (ere : Bool) : List UInt8 := adT c.a.k c.a.ln A ere ++ (if c.b.k = 0 then [] else [44] ++ adT c.b.k c.b.ln B ere) ++ (if c.nt then [33] else [])
def cmdT (c : Cv) (A B R : Rx) (P : List Pc) (ere : Bool) : List UInt8 :=
 if rightC c A B R P ere then placeT c A B ere ++ [UInt8.ofNat c.op] ++ restT c R P ere else []
def adEq (a b : Av) (A B : Rx) : Bool := decide (a.k = b.k) && decide (a.ln = b.ln) && sameR A B
def sameC (c d : Cv) (A B R A' B' R' : Rx) (P P' : List Pc) : Bool :=
 decide (c.op = d.op) && (c.nt == d.nt) && (c.tx.data.toList == d.tx.data.toList) && (c.y.data.toList == d.y.data.toList) && (c.z.data.toList == d.z.data.toList) && (c.g == d.g) && (c.s == d.s) && decide (c.nth = d.nth) &&
  adEq c.a d.a A A' && adEq c.b d.b B B' && sameR R R' && pcsEq P P'
end Go.Proofs.YtigdmebijbaofaaGreatDoor

/-! ### Cm1 -/

namespace Go.Proofs.YtigdmebijbaofaaGreatDoor
set_option maxHeartbeats 2000000
set_option maxRecDepth 100000
open Go.RowKit

theorem labelByte_any (n : Nat) (w : World) : Calls Tryz.prog 74 #[.int .u8 (n : Int)] w fun e w' => e = .returned (.bool (lab1 n)) ∧ w' = w := by
 have E : Hid (lab1 n = lab1 n) := rfl
 go_enter Tryz.func74, Tryz.ntmps74
 unfold lab1
 by_cases h1 : 97 ≤ n
 ·
  have g1 : (97 : Int) ≤ (n : Int) := by omega
  by_cases h2 : n ≤ 122
  ·
   have g2 : (n : Int) ≤ 122 := by omega
   go_wp2
   go_ret
   exact ⟨by simp, rfl⟩
  ·
   have g2 : ¬ (n : Int) ≤ 122 := by omega
   have g3 : (65 : Int) ≤ (n : Int) := by omega
   have g4 : ¬ (n : Int) ≤ 90 := by omega
   have g5 : (48 : Int) ≤ (n : Int) := by omega
   have g6 : ¬ (n : Int) ≤ 57 := by omega
   have g7 : ((n : Int) == 95) = false := by simp; omega
   go_wp2
   go_ret
   exact ⟨by simp; omega, rfl⟩
 ·
  have g1 : ¬ (97 : Int) ≤ (n : Int) := by omega
  by_cases h2 : 65 ≤ n
  ·
   have g2 : (65 : Int) ≤ (n : Int) := by omega
   by_cases h3 : n ≤ 90
   ·
    have g3 : (n : Int) ≤ 90 := by omega
    go_wp2
    go_ret
    exact ⟨by simp, rfl⟩
   ·
    have g3 : ¬ (n : Int) ≤ 90 := by omega
    have g5 : (48 : Int) ≤ (n : Int) := by omega
    have g6 : ¬ (n : Int) ≤ 57 := by omega
    by_cases h4 : n = 95
    ·
     subst h4
     go_wp2
     go_ret
     exact ⟨by simp, rfl⟩
    ·
     have g7 : ((n : Int) == 95) = false := by simp; omega
     go_wp2
     go_ret
     exact ⟨by simp; omega, rfl⟩
  ·
   have g2 : ¬ (65 : Int) ≤ (n : Int) := by omega
   have g7 : ((n : Int) == 95) = false := by simp; omega
   by_cases h3 : 48 ≤ n
   ·
    have g3 : (48 : Int) ≤ (n : Int) := by omega
    by_cases h4 : n ≤ 57
    ·
     have g4 : (n : Int) ≤ 57 := by omega
     go_wp2
     go_ret
     exact ⟨by simp, rfl⟩
    ·
     have g4 : ¬ (n : Int) ≤ 57 := by omega
     go_wp2
     go_ret
     exact ⟨by simp; omega, rfl⟩
   ·
    have g3 : ¬ (48 : Int) ≤ (n : Int) := by omega
    go_wp2
    go_ret
    exact ⟨by simp; omega, rfl⟩

theorem kind_any (op : Nat) (w : World) : Calls Tryz.prog 95 #[.int .u8 (op : Int)] w fun e w' => e = .returned (.int .i64 ((kindN op : Nat) : Int)) ∧ w' = w := by
 go_enter Tryz.func95, Tryz.ntmps95
 by_cases h0 : op = 123
 ·
  subst h0
  go_wp2
  go_ret
  exact ⟨by simp [kindN], rfl⟩
 have g0 : ((op : Int) == 123) = false := by simp; omega
 by_cases h1 : op = 125
 ·
  subst h1
  go_wp2
  go_ret
  exact ⟨by simp [kindN], rfl⟩
 have g1 : ((op : Int) == 125) = false := by simp; omega
 by_cases h2 : op = 61
 ·
  subst h2
  go_wp2
  go_ret
  exact ⟨by simp [kindN], rfl⟩
 have g2 : ((op : Int) == 61) = false := by simp; omega
 by_cases h3 : op = 100
 ·
  subst h3
  go_wp2
  go_ret
  exact ⟨by simp [kindN], rfl⟩
 have g3 : ((op : Int) == 100) = false := by simp; omega
 by_cases h4 : op = 68
 ·
  subst h4
  go_wp2
  go_ret
  exact ⟨by simp [kindN], rfl⟩
 have g4 : ((op : Int) == 68) = false := by simp; omega
 by_cases h5 : op = 103
 ·
  subst h5
  go_wp2
  go_ret
  exact ⟨by simp [kindN], rfl⟩
 have g5 : ((op : Int) == 103) = false := by simp; omega
 by_cases h6 : op = 71
 ·
  subst h6
  go_wp2
  go_ret
  exact ⟨by simp [kindN], rfl⟩
 have g6 : ((op : Int) == 71) = false := by simp; omega
 by_cases h7 : op = 104
 ·
  subst h7
  go_wp2
  go_ret
  exact ⟨by simp [kindN], rfl⟩
 have g7 : ((op : Int) == 104) = false := by simp; omega
 by_cases h8 : op = 72
 ·
  subst h8
  go_wp2
  go_ret
  exact ⟨by simp [kindN], rfl⟩
 have g8 : ((op : Int) == 72) = false := by simp; omega
 by_cases h9 : op = 110
 ·
  subst h9
  go_wp2
  go_ret
  exact ⟨by simp [kindN], rfl⟩
 have g9 : ((op : Int) == 110) = false := by simp; omega
 by_cases h10 : op = 78
 ·
  subst h10
  go_wp2
  go_ret
  exact ⟨by simp [kindN], rfl⟩
 have g10 : ((op : Int) == 78) = false := by simp; omega
 by_cases h11 : op = 112
 ·
  subst h11
  go_wp2
  go_ret
  exact ⟨by simp [kindN], rfl⟩
 have g11 : ((op : Int) == 112) = false := by simp; omega
 by_cases h12 : op = 80
 ·
  subst h12
  go_wp2
  go_ret
  exact ⟨by simp [kindN], rfl⟩
 have g12 : ((op : Int) == 80) = false := by simp; omega
 by_cases h13 : op = 113
 ·
  subst h13
  go_wp2
  go_ret
  exact ⟨by simp [kindN], rfl⟩
 have g13 : ((op : Int) == 113) = false := by simp; omega
 by_cases h14 : op = 120
 ·
  subst h14
  go_wp2
  go_ret
  exact ⟨by simp [kindN], rfl⟩
 have g14 : ((op : Int) == 120) = false := by simp; omega
 by_cases h15 : op = 97
 ·
  subst h15
  go_wp2
  go_ret
  exact ⟨by simp [kindN], rfl⟩
 have g15 : ((op : Int) == 97) = false := by simp; omega
 by_cases h16 : op = 105
 ·
  subst h16
  go_wp2
  go_ret
  exact ⟨by simp [kindN], rfl⟩
 have g16 : ((op : Int) == 105) = false := by simp; omega
 by_cases h17 : op = 99
 ·
  subst h17
  go_wp2
  go_ret
  exact ⟨by simp [kindN], rfl⟩
 have g17 : ((op : Int) == 99) = false := by simp; omega
 by_cases h18 : op = 98
 ·
  subst h18
  go_wp2
  go_ret
  exact ⟨by simp [kindN], rfl⟩
 have g18 : ((op : Int) == 98) = false := by simp; omega
 by_cases h19 : op = 116
 ·
  subst h19
  go_wp2
  go_ret
  exact ⟨by simp [kindN], rfl⟩
 have g19 : ((op : Int) == 116) = false := by simp; omega
 by_cases h20 : op = 58
 ·
  subst h20
  go_wp2
  go_ret
  exact ⟨by simp [kindN], rfl⟩
 have g20 : ((op : Int) == 58) = false := by simp; omega
 by_cases h21 : op = 119
 ·
  subst h21
  go_wp2
  go_ret
  exact ⟨by simp [kindN], rfl⟩
 have g21 : ((op : Int) == 119) = false := by simp; omega
 by_cases h22 : op = 115
 ·
  subst h22
  go_wp2
  go_ret
  exact ⟨by simp [kindN], rfl⟩
 have g22 : ((op : Int) == 115) = false := by simp; omega
 by_cases h23 : op = 121
 ·
  subst h23
  go_wp2
  go_ret
  exact ⟨by simp [kindN], rfl⟩
 have g23 : ((op : Int) == 121) = false := by simp; omega
 go_wp2
 go_ret
 exact ⟨by simp [kindN, h0, h1, h2, h3, h4, h5, h6, h7, h8, h9, h10, h11, h12, h13, h14, h15, h16, h17, h18, h19, h20, h21, h22, h23], rfl⟩

theorem addrs_any (op : Nat) (w : World) : Calls Tryz.prog 101 #[.int .u8 (op : Int)] w fun e w' => e = .returned (.int .i64 ((addrsN op : Nat) : Int)) ∧ w' = w := by
 go_enter Tryz.func101, Tryz.ntmps101
 by_cases h0 : op = 125
 ·
  subst h0
  go_wp2
  go_ret
  exact ⟨by simp [addrsN], rfl⟩
 have g0 : ((op : Int) == 125) = false := by simp; omega
 by_cases h1 : op = 58
 ·
  subst h1
  go_wp2
  go_ret
  exact ⟨by simp [addrsN], rfl⟩
 have g1 : ((op : Int) == 58) = false := by simp; omega
 by_cases h2 : op = 113
 ·
  subst h2
  go_wp2
  go_ret
  exact ⟨by simp [addrsN], rfl⟩
 have g2 : ((op : Int) == 113) = false := by simp; omega
 by_cases h3 : op = 97
 ·
  subst h3
  go_wp2
  go_ret
  exact ⟨by simp [addrsN], rfl⟩
 have g3 : ((op : Int) == 97) = false := by simp; omega
 by_cases h4 : op = 105
 ·
  subst h4
  go_wp2
  go_ret
  exact ⟨by simp [addrsN], rfl⟩
 have g4 : ((op : Int) == 105) = false := by simp; omega
 by_cases h5 : op = 61
 ·
  subst h5
  go_wp2
  go_ret
  exact ⟨by simp [addrsN], rfl⟩
 have g5 : ((op : Int) == 61) = false := by simp; omega
 go_wp2
 go_ret
 exact ⟨by simp [addrsN, h0, h1, h2, h3, h4, h5], rfl⟩

end Go.Proofs.YtigdmebijbaofaaGreatDoor

/-! ### Cm2 -/

namespace Go.Proofs.YtigdmebijbaofaaGreatDoor
set_option maxHeartbeats 2000000
set_option maxRecDepth 100000
open Go.RowKit

theorem conv_str (w : World) (s : ByteArray) : ∃ C w', (convert 9 59 (.string s)).run Tryz.prog w = .ok (.slice (some ⟨w.heap.size, 0, none⟩) s.size C) w' ∧ s.size ≤ C ∧ Kp w w' ∧ w'.heap.size = w.heap.size + 1 ∧ ∀ j, j < s.size → w'.cell? ⟨w.heap.size, j, none⟩ = some (.int .u8 (ch s j : Nat)) := by
 refine ⟨_, _, Lib.run_convert_string_bytes w 9 59 5 s Tryz.underlying9 Tryz.underlying59 Tryz.underlying5, ?_, ?_, Lib.bytesWorld_size w 5 s, fun j hj => ?_⟩
 ·
  exact grownCap_ge w s.size 0 5
 ·
  exact ⟨rfl, rfl, rfl, by rw [Lib.bytesWorld_size]; omega, fun k hk => Lib.bytesWorld_at_old w 5 s k hk⟩
 ·
  rw [Lib.bytesWorld_cell w 5 s j hj]
  unfold ch
  simp [List.getD]
theorem ch_all (s : ByteArray) (f : Nat → Bool) : s.data.toList.all (fun b => f b.toNat) = true ↔ ∀ j, j < s.size → f (ch s j) = true := by
 rw [List.all_eq_true]
 constructor
 ·
  intro h j hj
  have hj' : j < s.data.size := hj
  have := h s.data[j] (by simp)
  unfold ch
  rw [Array.getElem?_eq_getElem hj']
  exact this
 ·
  intro h x hx
  obtain ⟨j, hj, rfl⟩ := List.getElem_of_mem hx
  have := h j (by simpa using hj)
  unfold ch at this
  rw [Array.getElem?_eq_getElem (by simpa using hj)] at this
  simpa using this
theorem labB_all (s : ByteArray) (h1 : 1 ≤ s.size) (h2 : s.size ≤ 8) (h : ∀ j, j < s.size → lab1 (ch s j) = true) : labB s = true := by
 unfold labB
 rw [(ch_all s lab1).2 h]
 simp [h1, h2]
theorem labB_not (s : ByteArray) (j : Nat) (hj : j < s.size) (h : lab1 (ch s j) = false) : labB s = false := by
 have : s.data.toList.all (fun b => lab1 b.toNat) = false := by
  rw [Bool.eq_false_iff]
  intro hc
  rw [(ch_all s lab1).1 hc j hj] at h
  exact absurd h (by simp)
 unfold labB
 rw [this]
 simp

theorem label_any (s : ByteArray) (w : World) (hs : s.size ≤ 1000000) : Calls Tryz.prog 29 #[.string s] w fun e w' => e = .returned (.bool (labB s)) ∧ Kp w w' := by
 obtain ⟨B, hB⟩ : ∃ B, labB s = B := ⟨_, rfl⟩
 rw [hB]
 have HB := hid hB
 clear hB
 have gs : (0 : Int) ≤ (s.size : Int) := by omega
 go_enter Tryz.func29, Tryz.ntmps29
 by_cases h1 : s.size < 1
 ·
  have g1 : (s.size : Int) < 1 := by omega
  have E : Hid (B = false) := by show _ = _; rw [← HB.out]; unfold labB; rw [show decide (1 ≤ s.size) = false from decide_eq_false (by omega)]; rfl
  go_wp2
  go_ret
  exact ⟨by rw [E.out]; rfl, Kp.refl _⟩
 have g1 : ¬ (s.size : Int) < 1 := by omega
 by_cases h2 : 8 < s.size
 ·
  have g2 : (s.size : Int) > 8 := by omega
  have E : Hid (B = false) := by show _ = _; rw [← HB.out]; unfold labB; rw [show decide (s.size ≤ 8) = false from decide_eq_false (by omega), Bool.and_false]; rfl
  go_wp2
  go_ret
  exact ⟨by rw [E.out]; rfl, Kp.refl _⟩
 have g2 : ¬ (s.size : Int) > 8 := by omega
 obtain ⟨C, W0, kc, hC, k0, -, hb⟩ := conv_str w s
 have HC := hid hb
 have K0 := hid k0
 clear hb k0
 go_wp2_with fail
 go_loopg [16] s.size (fun gg v wr => ∃ q : Nat, q + gg = s.size ∧ v = .int .i64 (q : Int) ∧ (∀ j, j < q → lab1 (ch s j) = true) ∧ wr = W0)
 case atStart => exact ⟨0, by omega, rfl, fun j hj => absurd hj (by omega), rfl⟩
 case round =>
  obtain ⟨q, hq, rfl, hl, rfl⟩ := hrel
  have HL := hid hl
  clear hl kc
  by_cases hlt : q < s.size
  ·
   have gkw : IntKind.i64.wrap ((q : Int) + 1) = (q : Int) + 1 := by rw [IntKind.wrap_i64]; omega
   have ga : (q : Int) < (s.size : Int) := by omega
   have g0 : (0 : Int) ≤ (q : Int) := by omega
   have cb := HC.out q hlt
   obtain ⟨n, hn⟩ : ∃ n : Nat, ch s q = n := ⟨_, rfl⟩
   rw [hn] at cb
   have HN := hid hn
   clear hn
   go_wp2_with fail
   refine (labelByte_any n _).mono ?_
   rintro e w' ⟨rfl, rfl⟩
   cases hl1 : lab1 n
   ·
    have E : Hid (B = false) := by show _ = _; rw [← HB.out]; exact labB_not s q hlt (by rw [HN.out]; exact hl1)
    go_wp2_with fail
    go_ret
    exact ⟨by rw [E.out]; rfl, K0.out⟩
   ·
    have HL1 := hid hl1
    clear hl1
    go_wp2_with fail
    go_roundg (gk - 1)
    case measure => omega
    case rel => exact ⟨q + 1, by omega, by go_num, fun j hj => by
      by_cases hj2 : j = q
      ·
       rw [hj2, HN.out]; exact HL1.out
      ·
       exact HL.out j (by omega), rfl⟩
  ·
   have ga : ¬ (q : Int) < (s.size : Int) := by omega
   have E : Hid (B = true) := by show _ = _; rw [← HB.out]; exact labB_all s (by omega) (by omega) (fun j hj => HL.out j (by omega))
   go_wp2_with fail
   go_ret
   exact ⟨by rw [E.out]; rfl, K0.out⟩

theorem size0 (s : ByteArray) (h : s.size = 0) : s = ⟨#[]⟩ := by
 cases s with
 | mk d => congr; exact Array.eq_empty_of_size_eq_zero h
theorem ne0 (s : ByteArray) (h : s.size ≠ 0) : s.toList.isEmpty = false := by rw [str_nil]; exact decide_eq_false h
theorem labelOrNone_any (s : ByteArray) (w : World) (hs : s.size ≤ 1000000) : Calls Tryz.prog 102 #[.string s] w fun e w' => e = .returned (.bool (labO s)) ∧ Kp w w' := by
 by_cases h : s.size = 0
 ·
  obtain rfl := size0 s h
  go_enter Tryz.func102, Tryz.ntmps102
  go_wp2
  go_ret
  exact ⟨rfl, Kp.refl _⟩
 ·
  obtain ⟨B, hB⟩ : ∃ B, labB s = B := ⟨_, rfl⟩
  have E : Hid (labO s = B) := by show _ = _; unfold labO; rw [show decide (s.size = 0) = false from by simp [h], hB]; rfl
  have LA : Hid (∀ w, Calls Tryz.prog 29 #[.string s] w fun e w' => e = .returned (.bool B) ∧ Kp w w') := fun w => by rw [← hB]; exact label_any s w hs
  have ne := ne0 s h
  rw [E.out]
  clear hB E
  go_enter Tryz.func102, Tryz.ntmps102
  go_wp2_with fail
  refine (LA.out _).mono ?_
  rintro e w1 ⟨rfl, k1⟩
  have K1 := hid k1
  clear k1
  go_wp2_with fail
  go_ret
  exact ⟨rfl, K1.out⟩

theorem tspecial_any (n : Nat) (w : World) : Calls Tryz.prog 210 #[.int .u8 (n : Int)] w fun e w' => e = .returned (.bool (decide (n = 38) || decide (n = 47) || decide (n = 92))) ∧ w' = w := by
 go_enter Tryz.func210, Tryz.ntmps210
 by_cases h1 : n = 38
 ·
  subst h1
  go_wp2
  go_ret
  exact ⟨by simp, rfl⟩
 have g1 : ((n : Int) == 38) = false := by simp; omega
 by_cases h2 : n = 47
 ·
  subst h2
  go_wp2
  go_ret
  exact ⟨by simp, rfl⟩
 have g2 : ((n : Int) == 47) = false := by simp; omega
 by_cases h3 : n = 92
 ·
  subst h3
  go_wp2
  go_ret
  exact ⟨by simp, rfl⟩
 have g3 : ((n : Int) == 92) = false := by simp; omega
 go_wp2
 go_ret
 exact ⟨by simp [h1, h2, h3], rfl⟩

theorem pieceRight_any (p : Pc) (G : Int) (w : World) : Calls Tryz.prog 177 #[.agg #[.int .i64 p.g, .string p.s], .int .i64 G] w fun e w' => e = .returned (.bool (pcR p G)) ∧ Kp w w' := by
 obtain ⟨g, s⟩ := p
 obtain ⟨B, hB⟩ : ∃ B, pcR ⟨g, s⟩ G = B := ⟨_, rfl⟩
 rw [hB]
 have HB : Hid (pcR ⟨g, s⟩ G = B) := hB
 clear hB
 show Calls Tryz.prog 177 #[.agg #[.int .i64 g, .string s], .int .i64 G] w fun e w' => e = .returned (.bool B) ∧ Kp w w'
 go_enter Tryz.func177, Tryz.ntmps177
 by_cases h : g = -1
 ·
  subst h
  by_cases h1 : 1 ≤ s.size
  ·
   have g1 : (1 : Int) ≤ (s.size : Int) := by omega
   by_cases h2 : s.size ≤ 400
   ·
    have g2 : (s.size : Int) ≤ 400 := by omega
    have E : Hid (B = true) := by show _ = _; rw [← HB.out]; unfold pcR; simp; omega
    go_wp2_with fail
    go_ret
    exact ⟨by rw [E.out]; rfl, (Kp.refl _).alloc _⟩
   ·
    have g2 : ¬ (s.size : Int) ≤ 400 := by omega
    have E : Hid (B = false) := by show _ = _; rw [← HB.out]; unfold pcR; simp; omega
    go_wp2_with fail
    go_ret
    exact ⟨by rw [E.out]; rfl, (Kp.refl _).alloc _⟩
  ·
   have g1 : ¬ (1 : Int) ≤ (s.size : Int) := by omega
   have E : Hid (B = false) := by show _ = _; rw [← HB.out]; unfold pcR; simp; omega
   go_wp2_with fail
   go_ret
   exact ⟨by rw [E.out]; rfl, (Kp.refl _).alloc _⟩
 ·
  have gn : (g == -1) = false := by simp [h]
  by_cases h1 : 0 ≤ g
  ·
   by_cases h2 : g ≤ G
   ·
    by_cases h3 : s.size = 0
    ·
     obtain rfl := size0 s h3
     have E : Hid (B = true) := by show _ = _; rw [← HB.out]; unfold pcR; rw [if_neg h]; simp [h1, h2]; rfl
     go_wp2_with fail
     go_ret
     exact ⟨by rw [E.out]; rfl, (Kp.refl _).alloc _⟩
    ·
     have ne := ne0 s h3
     have E : Hid (B = false) := by show _ = _; rw [← HB.out]; unfold pcR; rw [if_neg h]; rw [decide_eq_false (p := s.size = 0) h3, Bool.and_false]
     go_wp2_with fail
     go_ret
     exact ⟨by rw [E.out]; rfl, (Kp.refl _).alloc _⟩
   ·
    have E : Hid (B = false) := by show _ = _; rw [← HB.out]; unfold pcR; rw [if_neg h]; rw [decide_eq_false (p := g ≤ G) h2, Bool.and_false, Bool.false_and]
    go_wp2_with fail
    go_ret
    exact ⟨by rw [E.out]; rfl, (Kp.refl _).alloc _⟩
  ·
   have E : Hid (B = false) := by show _ = _; rw [← HB.out]; unfold pcR; rw [if_neg h]; rw [decide_eq_false (p := 0 ≤ g) h1, Bool.false_and, Bool.false_and]
   go_wp2_with fail
   go_ret
   exact ⟨by rw [E.out]; rfl, (Kp.refl _).alloc _⟩

end Go.Proofs.YtigdmebijbaofaaGreatDoor
