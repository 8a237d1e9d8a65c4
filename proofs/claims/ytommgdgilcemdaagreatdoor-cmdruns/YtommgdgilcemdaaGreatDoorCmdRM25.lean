/-
  Texts of this claim: Sets1, Fit, Talk, CmA, Cm0, Cm1.
-/
import Derived.Test.YtommgdgilcemdaaGreatDoorCmdRM24
import Derived.Test.YtommgdgilcemdaaGreatDoorCmdRM22
import Derived.Test.YtommgdgilcemdaaGreatDoorCmdRM23
import Derived.Test.YtommgdgilcemdaaGreatDoorCmdRM16

/-! ### Sets1 -/

namespace Go.Proofs.YtommgdgilcemdaaGreatDoor.Trip
open Go Go.Proofs.YtommgdgilcemdaaGreatDoor

def setR (p : Nat → Bool) : Rx := .mk 1 0 0 0 (W4.of p) []
theorem of_lt (p : Nat → Bool) : (W4.of p).a < 18446744073709551616 ∧ (W4.of p).b < 18446744073709551616 ∧ (W4.of p).c < 18446744073709551616 ∧ (W4.of p).d < 18446744073709551616 := ⟨wd_lt p 0, wd_lt p 1, wd_lt p 2, wd_lt p 3⟩
theorem bit_of (p : Nat → Bool) (k : Nat) (hk : k < 256) : W4.bit (W4.of p) k = p k := by
 unfold W4.bit bitOf W4.of
 have h : k / 64 = 0 ∨ k / 64 = 1 ∨ k / 64 = 2 ∨ k / 64 = 3 := by omega
 rcases h with h | h | h | h
 ·
  rw [if_pos h, wd_testBit, decide_eq_true (by omega), Bool.true_and, show 64 * 0 + k % 64 = k by omega]
 ·
  rw [if_neg (by omega), if_pos h, wd_testBit, decide_eq_true (by omega), Bool.true_and, show 64 * 1 + k % 64 = k by omega]
 ·
  rw [if_neg (by omega), if_neg (by omega), if_pos h, wd_testBit, decide_eq_true (by omega), Bool.true_and, show 64 * 2 + k % 64 = k by omega]
 ·
  rw [if_neg (by omega), if_neg (by omega), if_neg (by omega), wd_testBit, decide_eq_true (by omega), Bool.true_and, show 64 * 3 + k % 64 = k by omega]
theorem setR_ok (p : Nat → Bool) : RxOk (setR p) := by
 unfold setR RxOk
 exact ⟨by simp, of_lt p, fun a ha => by cases ha⟩
theorem setT_len2 (p : Nat → Bool) (ere : Bool) : (setT p ere).length ≤ 2000 := by
 have h1 := rowT_len p
 have h2 := rowT_len (notB p)
 have h3 : (setRow p).length ≤ 1024 := by
  unfold setRow
  split
  ·
   simp
  ·
   exact h1
 unfold setT
 split
 ·
  unfold byteT
  split
  ·
   simp
  ·
   split <;> simp
 ·
  split
  ·
   simp
  ·
   split
   ·
    simp; omega
   ·
    simp; omega
theorem setR_txt (p : Nat → Bool) (ere : Bool) : txt ere (setR p) = setT (W4.bit (W4.of p)) ere := by
 unfold setR
 rw [txt_mk, if_pos rfl]
theorem setR_fit (p : Nat → Bool) (ere : Bool) : TxFit ere (setR p) := by
 have h := setR_txt p ere
 have h2 := setT_len2 (W4.bit (W4.of p)) ere
 unfold setR at h ⊢
 unfold TxFit
 refine ⟨⟨fun hk => absurd hk (by decide), fun hk => absurd hk (by decide), fun hk => absurd hk (by decide), by simp, of_lt p, by rw [h]; omega, fun r hr => by cases hr⟩, fun a ha => by cases ha⟩
theorem setR_right (p : Nat → Bool) (ere : Bool) : right ere (setR p) = decide (0 < cnt p 256) := by
 unfold right setR
 rw [chk]
 have hl : leanB (.mk 1 0 0 0 (W4.of p) []) = true := rfl
 rw [if_neg (by rw [hl]; simp), if_pos rfl, cnt_congr _ p (fun k hk => bit_of p k hk)]
 by_cases h : 0 < cnt p 256
 ·
  rw [if_pos h, decide_eq_true h]; rfl
 ·
  rw [if_neg h, decide_eq_false h]; rfl
theorem setR_trip (p : Nat → Bool) (ere : Bool) (h : 0 < cnt p 256) : pParse (bs (printT ere (setR p))) ere = (setR p, 0, 0) := by
 have hr : right ere (setR p) = true := by rw [setR_right, decide_eq_true h]
 unfold printT
 rw [if_pos hr]
 exact trip ere (setR p) (setR_ok p) hr
theorem setR_none (p : Nat → Bool) (ere : Bool) (h : cnt p 256 = 0) : printT ere (setR p) = [] ∧ right ere (setR p) = false := by
 have hr : right ere (setR p) = false := by rw [setR_right, decide_eq_false (by omega)]
 refine ⟨?_, hr⟩
 unfold printT
 rw [if_neg (by rw [hr]; simp)]
/-- No byte: no bit. -/
theorem of_zero (p : Nat → Bool) : (W4.of p == W4.z) = decide (cnt p 256 = 0) := by
 rw [Bool.eq_iff_iff, beq_iff_eq, decide_eq_true_eq]
 constructor
 ·
  intro h
  refine cnt_zero p (fun k hk => ?_)
  rw [← bit_of p k hk, h]
  unfold W4.bit bitOf W4.z
  simp
 ·
  intro h
  have hz : ∀ k, k < 256 → p k = false := by
   intro k hk
   cases hp : p k with
   | false => rfl
   | true =>
    have : k ∈ lst p 256 := (mem_lst p k).2 ⟨hk, hp⟩
    rw [← lst_length, List.length_eq_zero_iff] at h
    rw [h] at this
    cases this
  exact w4_back W4.z p (by unfold W4.z; simp) (fun k hk => by rw [hz k hk]; unfold W4.bit bitOf W4.z; simp)
theorem rng_cnt (f t : Nat) (h : f ≤ t) (ht : t < 256) : cnt (rng f t) 256 ≠ 0 := by
 intro h0
 have : f ∈ lst (rng f t) 256 := (mem_lst _ f).2 ⟨by omega, by unfold rng; simp; omega⟩
 rw [← lst_length, List.length_eq_zero_iff] at h0
 rw [h0] at this
 cases this
/-- From one to another, in brackets. -/
theorem range_parse (f t : Nat) (hf : f < 256) (ht : t < 256) (ere : Bool) (_f1 : f ≠ 93) (f2 : f ≠ 94) (f3 : f ≠ 45) (f4 : f ≠ 91) (t1 : t ≠ 93) (t2 : t ≠ 91) (t3 : t ≠ 45) :
  if f ≤ t then pParse (bs [91, UInt8.ofNat f, 45, UInt8.ofNat t, 93]) ere = (rset (rng f t), 0, 0) else ∃ n, pParse (bs [91, UInt8.ofNat f, 45, UInt8.ofNat t, 93]) ere = (rx0, n, 1) := by
 have F8 := of8 f hf
 have T8 := of8 t ht
 obtain ⟨s, hs⟩ : ∃ s, bs [91, UInt8.ofNat f, 45, UInt8.ofNat t, 93] = s := ⟨_, rfl⟩
 have h0 : Rest s 0 [91, UInt8.ofNat f, 45, UInt8.ofNat t, 93] := by rw [← hs]; exact Rest.of _
 rw [hs]
 have hsz : s.size = 5 := by have := h0.len; simp at this; omega
 obtain ⟨F, hF⟩ : ∃ F, UInt8.ofNat f = F := ⟨_, rfl⟩
 obtain ⟨T, hT⟩ : ∃ T, UInt8.ofNat t = T := ⟨_, rfl⟩
 rw [hF, hT] at h0
 rw [hF] at F8
 rw [hT] at T8
 have r1 := h0.tail
 have r2 := r1.tail
 have r3 := r2.tail
 have r4 := r3.tail
 have r5 := r4.tail
 have sg0 : sgn s ere 0 = (4, 91, 1) := by
  rw [h0.sign ere, sgL_cons, if_neg (by decide)]
  show (bare 91 ere, 91, 1) = _
  rw [bare91]
 have sg5 : sgn s ere 5 = (1, 0, 0) := by rw [r5.sign ere]; rfl
 have si : sgnIn s ere 0 0 = (4, 91, 1) := by
  have e : sgL ere [91, F, 45, T, 93] = (4, 91, 1) := by rw [← h0.sign ere]; exact sg0
  rw [sgnIn_ok h0 (by rw [e]; simp), e]
 have turn : bTurn s 0 = false := by
  unfold bTurn
  rw [r1.has]
  show ((94 : UInt8) == F && true) = false
  rw [beq_nat, Bool.and_true, F8]
  simp
  omega
 have p1 : pfx s 1 [91, 58] = false := by
  rw [r1.has]
  show ((91 : UInt8) == F && ((58 : UInt8) == 45 && true)) = false
  simp
 have p3 : pfx s 3 [91, 58] = false := by
  rw [r3.has]
  show ((91 : UInt8) == T && ((58 : UInt8) == 93 && true)) = false
  simp
 have dsh : dash s 2 = true := by
  unfold dash
  rw [r2.byte, r3.byte, hsz, T8]
  simp
  exact t1
 have hin : pIn s 1 = if f ≤ t then (some (rng f t), 4) else (none, 3) := by
  unfold pIn
  rw [if_neg (by omega), p1, dsh, p3, r1.byte, r3.byte, F8, T8]
  by_cases h : f ≤ t
  ·
   rw [if_pos h]
   show (if (false || decide (t < f)) = true then _ else _) = _
   rw [decide_eq_false (by omega)]
   rfl
  ·
   rw [if_neg h]
   show (if (false || decide (t < f)) = true then _ else _) = _
   rw [decide_eq_true (by omega)]
   rfl
 by_cases h : f ≤ t
 ·
  rw [if_pos h] at hin ⊢
  have hbr : pBr s 1 = (some (rng f t), 5) := by
   unfold pBr
   rw [hin]
   show pBrL s (s.size + 1) (rng f t) 4 = _
   rw [pBrL, r4.has]
   rfl
  have hone : ∀ c n g d, pOne c s ere 4 91 1 ⟨0, n, g, d⟩ = ⟨rset (rng f t), 0, ⟨5, n + 1, g, d⟩⟩ := by
   intro c n g d
   show pBracket s ⟨0, n, g, d⟩ = _
   unfold pBracket
   show (match pBr s (bFrom s 0) with | (none, j) => _ | (some p, j) => _) = _
   rw [show bFrom s 0 = 1 by unfold bFrom; rw [turn]; rfl, hbr]
   show (if cnt (if bTurn s 0 then notB (rng f t) else rng f t) 256 = 0 then _ else _) = _
   rw [turn]
   show (if cnt (rng f t) 256 = 0 then _ else _) = _
   rw [if_neg (rng_cnt f t h ht)]
   rfl
  have hpart : ∀ c, pPart c s ere 0 ⟨0, 0, 0, 0⟩ = ⟨rset (rng f t), 0, ⟨5, 1, 0, 0⟩⟩ := by
   intro c
   unfold pPart
   show (if (pOne c s ere (sgnIn s ere 0 0).1 (sgnIn s ere 0 0).2.1 (sgnIn s ere 0 0).2.2 ⟨0, 0, 0, 0⟩).e ≠ 0 ∨ _ then _ else _) = _
   rw [si, hone]
   rw [if_neg (by show ¬((0 : Nat) ≠ 0 ∨ mayRep 1 = false); simp [mayRep])]
   rw [pRep_none (by show noRep (sgn s ere 5).1; rw [sg5]; unfold noRep; simp)]
  have hrow : ∀ c, pRow c s ere ⟨0, 0, 0, 0⟩ = ⟨rset (rng f t), 0, ⟨5, 1, 0, 0⟩⟩ := by
   intro c
   unfold pRow
   show pRowL c s ere 0 (s.size + 1) [] ⟨0, 0, 0, 0⟩ = _
   rw [hsz, pRowL]
   show (if ends (sgn s ere 0).1 = true then _ else _) = _
   rw [sg0, if_neg (by decide)]
   show (if (pPart c s ere 0 ⟨0, 0, 0, 0⟩).e ≠ 0 then _ else pRowL c s ere 0 5 (keepL (pPart c s ere 0 ⟨0, 0, 0, 0⟩).st.n [] (pPart c s ere 0 ⟨0, 0, 0, 0⟩).r) (pPart c s ere 0 ⟨0, 0, 0, 0⟩).st) = _
   rw [hpart, if_neg (by simp)]
   show pRowL c s ere 0 5 [rset (rng f t)] ⟨5, 1, 0, 0⟩ = _
   rw [pRowL]
   show (if ends (sgn s ere 5).1 = true then _ else _) = _
   rw [sg5, if_pos (by decide)]
   rfl
  have hch : pCh s ere 7 ⟨0, 0, 0, 0⟩ = ⟨rset (rng f t), 0, ⟨5, 1, 0, 0⟩⟩ := by
   show pCh1 (pCh s ere 6) s ere ⟨0, 0, 0, 0⟩ = _
   unfold pCh1
   show (if (pRow (pCh s ere 6) s ere ⟨0, 0, 0, 0⟩).e ≠ 0 ∨ (sgn s ere (pRow (pCh s ere 6) s ere ⟨0, 0, 0, 0⟩).st.i).1 ≠ 9 then _ else _) = _
   rw [hrow]
   rw [if_pos (by right; show (sgn s ere 5).1 ≠ 9; rw [sg5]; decide)]
  have hw : pWhole s ere = ⟨rset (rng f t), 0, ⟨5, 1, 0, 0⟩⟩ := by
   unfold pWhole
   show (if (pCh s ere 7 ⟨0, 0, 0, 0⟩).e ≠ 0 then _ else _) = _
   rw [hch]
   rw [if_neg (by simp)]
   show (if 5 < s.size then _ else if 1 > 40 ∨ 0 > 3 then _ else _) = _
   rw [hsz, if_neg (by omega), if_neg (by omega)]
  unfold pParse
  show (if (pWhole s ere).e ≠ 0 then _ else _) = _
  rw [hw]
  rfl
 ·
  rw [if_neg h] at hin ⊢
  have hbr : pBr s 1 = (none, 3) := by
   unfold pBr
   rw [hin]
  have hone : ∀ c n g d, pOne c s ere 4 91 1 ⟨0, n, g, d⟩ = ⟨rx0, 1, ⟨3, n, g, d⟩⟩ := by
   intro c n g d
   show pBracket s ⟨0, n, g, d⟩ = _
   unfold pBracket
   show (match pBr s (bFrom s 0) with | (none, j) => _ | (some p, j) => _) = _
   rw [show bFrom s 0 = 1 by unfold bFrom; rw [turn]; rfl, hbr]
  have hpart : ∀ c, pPart c s ere 0 ⟨0, 0, 0, 0⟩ = ⟨rx0, 1, ⟨3, 0, 0, 0⟩⟩ := by
   intro c
   unfold pPart
   show (if (pOne c s ere (sgnIn s ere 0 0).1 (sgnIn s ere 0 0).2.1 (sgnIn s ere 0 0).2.2 ⟨0, 0, 0, 0⟩).e ≠ 0 ∨ _ then _ else _) = _
   rw [si, hone]
   rw [if_pos (by left; simp)]
  have hrow : ∀ c, pRow c s ere ⟨0, 0, 0, 0⟩ = ⟨rx0, 1, ⟨3, 0, 0, 0⟩⟩ := by
   intro c
   unfold pRow
   show pRowL c s ere 0 (s.size + 1) [] ⟨0, 0, 0, 0⟩ = _
   rw [hsz, pRowL]
   show (if ends (sgn s ere 0).1 = true then _ else _) = _
   rw [sg0, if_neg (by decide)]
   show (if (pPart c s ere 0 ⟨0, 0, 0, 0⟩).e ≠ 0 then Out.mk rx0 (pPart c s ere 0 ⟨0, 0, 0, 0⟩).e (pPart c s ere 0 ⟨0, 0, 0, 0⟩).st else _) = _
   rw [hpart, if_pos (by simp)]
  have hch : pCh s ere 7 ⟨0, 0, 0, 0⟩ = ⟨rx0, 1, ⟨3, 0, 0, 0⟩⟩ := by
   show pCh1 (pCh s ere 6) s ere ⟨0, 0, 0, 0⟩ = _
   unfold pCh1
   show (if (pRow (pCh s ere 6) s ere ⟨0, 0, 0, 0⟩).e ≠ 0 ∨ (sgn s ere (pRow (pCh s ere 6) s ere ⟨0, 0, 0, 0⟩).st.i).1 ≠ 9 then _ else _) = _
   rw [hrow]
   rw [if_pos (by left; simp)]
  have hw : pWhole s ere = ⟨rx0, 1, ⟨3, 0, 0, 0⟩⟩ := by
   unfold pWhole
   show (if (pCh s ere 7 ⟨0, 0, 0, 0⟩).e ≠ 0 then Out.mk rx0 (pCh s ere 7 ⟨0, 0, 0, 0⟩).e (pCh s ere 7 ⟨0, 0, 0, 0⟩).st else _) = _
   rw [hch]
   rw [if_pos (by simp)]
  refine ⟨3, ?_⟩
  unfold pParse
  show (if (pWhole s ere).e ≠ 0 then _ else _) = _
  rw [hw]
  rfl
def dg : ByteArray := ⟨#[91, 91, 58, 100, 105, 103, 105, 116, 58, 93, 97, 45, 99, 93]⟩
theorem dg_parse (ere : Bool) : ∃ T n, pParse dg ere = (T, n, 0) ∧ T.set = W4.of (orB (rng 48 57) (rng 97 99)) := by
 have h : ((pParse dg true).2.2 = 0 ∧ (pParse dg true).1.set = W4.of (orB (rng 48 57) (rng 97 99))) ∧ (pParse dg false).2.2 = 0 ∧ (pParse dg false).1.set = W4.of (orB (rng 48 57) (rng 97 99)) := by decide +kernel
 cases ere
 ·
  exact ⟨_, (pParse dg false).2.1, by rw [← h.2.1], h.2.2⟩
 ·
  exact ⟨_, (pParse dg true).2.1, by rw [← h.1.1], h.1.2⟩
end Go.Proofs.YtommgdgilcemdaaGreatDoor.Trip

/-! ### Fit -/

namespace Go.Proofs.YtommgdgilcemdaaGreatDoor.Trip
open Go Go.Proofs.YtommgdgilcemdaaGreatDoor

/-- How long a text may be: two thousand for each node. -/
structure Lg (ere : Bool) (r : Rx) : Prop where
 all : ∀ (b e : Bool) (c c' : Ck), RxOk r → chk ere r b e c = some c' → c.g ≤ 3 → (txt ere r).length ≤ 2100 * nds r ∧ TxFit ere r
theorem txts_len (ere : Bool) (f : Rx → Nat) : ∀ (rs : List Rx), (∀ r ∈ rs, (txt ere r).length ≤ 2100 * nds r) → ((txts ere rs).flatten).length ≤ 2100 * ndss rs
 | [], _ => by simp [txts, ndss]
 | r :: rs, h => by
  rw [txts, List.flatten_cons, List.length_append, ndss]
  have h1 := h r (by simp)
  have h2 := txts_len ere f rs (fun x hx => h x (by simp [hx]))
  omega
theorem bars_le (ere : Bool) : ∀ (rs : List Rx), (∀ r ∈ rs, (txt ere r).length ≤ 2100 * nds r) → (bars ere rs).length ≤ 2100 * ndss rs + rs.length
 | [], _ => by simp [bars]
 | r :: rs, h => by
  have h1 := h r (by simp)
  have h2 := bars_le ere rs (fun x hx => h x (by simp [hx]))
  have e : (bars ere (r :: rs)).length = 1 + (txt ere r).length + (bars ere rs).length := by
   unfold bars
   rw [List.map_cons, List.flatten_cons, List.length_append, List.length_cons]
   omega
  rw [e, ndss, List.length_cons]
  omega
theorem nds_pos (r : Rx) : 1 ≤ nds r := by
 cases r with
 | mk k mn mx n s kids => rw [nds]; omega
theorem len_ndss : ∀ (rs : List Rx), rs.length ≤ ndss rs
 | [] => by simp
 | r :: rs => by
  have := nds_pos r
  have := len_ndss rs
  rw [ndss, List.length_cons]
  omega
theorem timesT_len (lo : Nat) (hi : Int) (ere : Bool) (h : lo ≤ 20) (h1 : -1 ≤ hi) (h2 : hi ≤ 20) : (timesT lo hi ere).length ≤ 9 := by
 have := ivT_len lo hi h h1 h2
 unfold timesT
 split
 ·
  simp
 ·
  split
  ·
   simp
  ·
   split
   ·
    simp
   ·
    unfold framedT
    split <;> simp <;> omega
theorem cat_each {ere : Bool} : ∀ (rs : List Rx) (f : Bool) (c c' : Ck), chkCat ere rs f c = some c' → c.g ≤ 3 → ∀ r ∈ rs, ∃ b e c1 c2, chk ere r b e c1 = some c2 ∧ c1.g ≤ 3
 | [], _, _, _, _, _ => by intro r h; cases h
 | r :: rs, f, c, c', h, hg => by
  rw [chkCat] at h
  split at h
  ·
   cases h
  split at h
  ·
   cases h
  rename_i c1 h1
  have cn := (cnt_any r).all _ _ _ _ _ h1
  intro x hx
  rcases List.mem_cons.1 hx with rfl | hx
  ·
   exact ⟨_, _, _, _, h1, hg⟩
  ·
   exact cat_each rs false c1 c' h (cn.2.2.2 hg) x hx
theorem alt_each {ere : Bool} : ∀ (rs : List Rx) (c c' : Ck), chkAlt ere rs c = some c' → c.g ≤ 3 → ∀ r ∈ rs, ∃ b e c1 c2, chk ere r b e c1 = some c2 ∧ c1.g ≤ 3
 | [], _, _, _, _ => by intro r h; cases h
 | r :: rs, c, c', h, hg => by
  rw [chkAlt] at h
  split at h
  ·
   cases h
  split at h
  ·
   cases h
  rename_i c1 h1
  have cn := (cnt_any r).all _ _ _ _ _ h1
  intro x hx
  rcases List.mem_cons.1 hx with rfl | hx
  ·
   exact ⟨_, _, _, _, h1, hg⟩
  ·
   exact alt_each rs c1 c' h (cn.2.2.2 hg) x hx
theorem lg_step (ere : Bool) (k mn mx n : Int) (s : W4) (kids : List Rx) (H : ∀ a, a ∈ kids → Lg ere a) : Lg ere (.mk k mn mx n s kids) := by
 refine ⟨fun b e c c' hR h hg => ?_⟩
 have h0 := h
 have cn := (cnt_any (.mk k mn mx n s kids)).all _ _ _ _ _ h0
 obtain ⟨h1, h2, h⟩ := chk_inv h
 obtain ⟨l1, l2, l3, l4⟩ := lean_inv h2
 have hR' := rxOk_kid hR
 have z : nds (.mk k mn mx n s kids) = 1 + ndss kids := by rw [nds]
 have hk40 := len_ndss kids
 have hnn : nds (.mk k mn mx n s kids) ≤ 40 := by omega
 -- what is asked of the kids
 have each : ∀ r, r ∈ kids → (txt ere r).length ≤ 2100 * nds r ∧ TxFit ere r := by
  intro r hr
  have : ∃ b e c1 c2, chk ere r b e c1 = some c2 ∧ c1.g ≤ 3 := by
   rcases h with ⟨hk, _⟩ | ⟨hk, h⟩ | ⟨hk, _, h⟩ | ⟨hk, _, h⟩ | ⟨hk, _, hg3, _, h⟩ | ⟨hk, _⟩ | ⟨hk, _⟩ | ⟨hk, _⟩
   ·
    rw [kids_none (by omega) l4] at hr; cases hr
   ·
    exact cat_each kids true _ _ h hg r hr
   ·
    exact alt_each kids _ _ h hg r hr
   ·
    obtain ⟨x, rfl⟩ := kids_one (Or.inl hk) l4
    obtain ⟨_, hx⟩ := rep_inv h
    obtain rfl : r = x := by simpa using hr
    exact ⟨_, _, _, _, hx, hg⟩
   ·
    obtain ⟨x, rfl⟩ := kids_one (Or.inr hk) l4
    obtain ⟨c1, hx, _⟩ := grp_inv h
    obtain rfl : r = x := by simpa using hr
    exact ⟨_, _, _, _, hx, hg3⟩
   ·
    rw [kids_none (by omega) l4] at hr; cases hr
   ·
    rw [kids_none (by omega) l4] at hr; cases hr
   ·
    rw [kids_none (by omega) l4] at hr; cases hr
  obtain ⟨b, e, c1, c2, hc, hg1⟩ := this
  exact (H r hr).all b e c1 c2 (hR'.2 r hr) hc hg1
 have len : (txt ere (.mk k mn mx n s kids)).length ≤ 2100 * nds (.mk k mn mx n s kids) := by
  rw [z, txt_mk]
  rcases h with ⟨rfl, _⟩ | ⟨rfl, h⟩ | ⟨rfl, _, h⟩ | ⟨rfl, ht, h⟩ | ⟨rfl, _, hg3, _, h⟩ | ⟨rfl, hn1, hn2, _⟩ | ⟨rfl, _⟩ | ⟨rfl, _⟩
  ·
   rw [if_pos rfl]
   have := setT_len2 (W4.bit s) ere
   omega
  ·
   rw [if_neg (by decide), if_pos rfl, join_nil]
   have := txts_len ere nds kids (fun r hr => (each r hr).1)
   omega
  ·
   rw [if_neg (by decide), if_neg (by decide), if_pos rfl]
   match kids, l4, each, hk40 with
   | r :: rs, _, each, hk40 =>
    rw [join_bar, List.length_append, ndss]
    have h1 := (each r (by simp)).1
    have h2 := bars_le ere rs (fun x hx => (each x (by simp [hx])).1)
    have := len_ndss rs
    have h3 : rs.length ≤ 40 := by rw [z, ndss] at hnn; omega
    omega
   | [], _, _, _ => simp [txts, Lib.join, List.intercalate]
  ·
   rw [if_neg (by decide), if_neg (by decide), if_neg (by decide), if_pos rfl]
   obtain ⟨x, rfl⟩ := kids_one (Or.inl rfl) l4
   have ht' : 0 ≤ mn ∧ mn ≤ 20 ∧ -1 ≤ mx ∧ mx ≤ 20 := by
    unfold timesFit at ht
    split at ht
    ·
     cases ht
    ·
     simp at ht
     omega
   have h1 := (each x (by simp)).1
   have h2 := timesT_len mn.toNat mx ere (by omega) (by omega) (by omega)
   rw [show (txts ere [x]).headD [] = txt ere x by rw [txts]; rfl, List.length_append]
   simp only [ndss]
   omega
  ·
   rw [if_neg (by decide), if_neg (by decide), if_neg (by decide), if_neg (by decide), if_pos rfl]
   obtain ⟨x, rfl⟩ := kids_one (Or.inr rfl) l4
   have h1 := (each x (by simp)).1
   rw [show (txts ere [x]).headD [] = txt ere x by rw [txts]; rfl]
   have fl : (framedT [40] (txt ere x) [41] ere).length ≤ (txt ere x).length + 4 := by
    unfold framedT
    split <;> simp
   simp only [ndss]
   omega
  ·
   rw [if_neg (by decide), if_neg (by decide), if_neg (by decide), if_neg (by decide), if_neg (by decide), if_pos rfl]
   have := dec_len n.toNat (by omega)
   simp
   omega
  ·
   rw [if_neg (by decide), if_neg (by decide), if_neg (by decide), if_neg (by decide), if_neg (by decide), if_neg (by decide), if_pos rfl]
   simp
   omega
  ·
   rw [if_neg (by decide), if_neg (by decide), if_neg (by decide), if_neg (by decide), if_neg (by decide), if_neg (by decide), if_neg (by decide)]
   simp
   omega
 refine ⟨len, ?_⟩
 unfold TxFit
 refine ⟨⟨fun hk => ?_, fun hk => kids_one (Or.inr hk) l4, fun hk => ?_, by omega, hR'.1, by omega, fun r hr => ?_⟩, fun a ha => (each a ha).2⟩
 ·
  rcases h with ⟨hk', _⟩ | ⟨hk', _⟩ | ⟨hk', _⟩ | ⟨hk', ht, _⟩ | ⟨hk', _⟩ | ⟨hk', _⟩ | ⟨hk', _⟩ | ⟨hk', _⟩ <;> try omega
  refine ⟨kids_one (Or.inl hk) l4, ?_⟩
  unfold timesFit at ht
  split at ht
  ·
   cases ht
  ·
   simp at ht
   omega
 ·
  rcases h with ⟨hk', _⟩ | ⟨hk', _⟩ | ⟨hk', _⟩ | ⟨hk', _⟩ | ⟨hk', _⟩ | ⟨hk', hn1, hn2, _⟩ | ⟨hk', _⟩ | ⟨hk', _⟩ <;> omega
 ·
  have h1 := (each r hr).1
  have h2 : nds r ≤ ndss kids := ndss_mem kids r hr
  omega
theorem lg_any (ere : Bool) : ∀ r, Lg ere r
 | .mk k mn mx n s kids => lg_step ere k mn mx n s kids (fun a _ => lg_any ere a)
termination_by r => SizeOf.sizeOf r
decreasing_by
 have := List.sizeOf_lt_of_mem (by assumption)
 simp
 omega
/-- What the printer asks of a right expression holds. -/
theorem right_fit (ere : Bool) (r : Rx) (hR : RxOk r) (h : right ere r = true) : TxFit ere r ∧ (txt ere r).length ≤ 84000 := by
 unfold right at h
 obtain ⟨c', hc⟩ := Option.isSome_iff_exists.1 h
 obtain ⟨h1, h2⟩ := (lg_any ere r).all _ _ _ _ hR hc (Nat.zero_le _)
 have cn := (cnt_any r).all _ _ _ _ _ hc
 have := cn.1
 have := cn.2.1
 simp at *
 exact ⟨h2, by omega⟩
/-- A right expression is read out of what is printed of it. -/
theorem print_trip (ere : Bool) (r : Rx) (hR : RxOk r) (h : right ere r = true) : pParse (bs (printT ere r)) ere = (r, 0, 0) := by
 unfold printT
 rw [if_pos h]
 exact trip ere r hR h
/-- Two have one text just if they are the same. -/
theorem print_inj (ere : Bool) (x y : Rx) (hx : RxOk x) (hy : RxOk y) (rx : right ere x = true) (ry : right ere y = true) : (bs (printT ere x) = bs (printT ere y)) ↔ x = y := by
 constructor
 ·
  intro h
  have h1 := print_trip ere x hx rx
  have h2 := print_trip ere y hy ry
  rw [h, h2] at h1
  exact (Prod.mk.inj h1).1.symm
 ·
  rintro rfl
  rfl
end Go.Proofs.YtommgdgilcemdaaGreatDoor.Trip

/-! ### Talk -/

namespace Go.Proofs.YtommgdgilcemdaaGreatDoor
open Go.RowKit

theorem fit_of_ok : ∀ r, RxOk r → RxFit r
 | .mk k mn mx n s kids, h => by
  unfold RxOk at h
  unfold RxFit
  exact ⟨h.1, fun a ha => fit_of_ok a (h.2.2 a ha)⟩
termination_by r => SizeOf.sizeOf r
decreasing_by
 have := List.sizeOf_lt_of_mem ha
 simp
 omega
theorem slim_of_ok : ∀ r, RxOk r → Slim r
 | .mk k mn mx n s kids, h => by
  unfold RxOk at h
  unfold Slim
  exact ⟨h.1, fun a ha => slim_of_ok a (h.2.2 a ha)⟩
termination_by r => SizeOf.sizeOf r
decreasing_by
 have := List.sizeOf_lt_of_mem ha
 simp
 omega
theorem print_size (ere : Bool) (T : Rx) (hO : RxOk T) : (bs (printT ere T)).size ≤ 1000000 := by
 rw [bs_size]
 unfold printT
 split
 ·
  rename_i h
  have := (Trip.right_fit ere T hO h).2
  omega
 ·
  simp
theorem nds_right (ere : Bool) (T : Rx) (h : right ere T = true) : nds T ≤ 40 := by
 unfold right at h
 obtain ⟨c, hc⟩ := Option.isSome_iff_exists.1 h
 have := (Trip.cnt_any T).all ere true true ⟨0, 0, 0⟩ c hc
 simp at this
 omega
/-- A tree's text. -/
theorem talk_print (T : Rx) (ere : Bool) (hO : RxOk T) (S : ByteArray) (hS : bs (printT ere T) = S) (w : World) {k mn mx m : Int} {t : W4} {ad : Option Addr} {l c : Nat} (h : Pd w T k mn mx m t ad l c) :
  Calls Tryz.prog 25 #[rxv k mn mx m t (.slice ad l c), .bool ere] w fun e w' => e = .returned (.string S) ∧ Kp w w' := by
 subst hS
 exact print_any T ere _ k mn mx m t ad l c w hO (fun hr => (Trip.right_fit ere T hO hr).1) h.is
theorem talk_right (T : Rx) (ere b : Bool) (hO : RxOk T) (hb : right ere T = b) (w : World) {k mn mx m : Int} {t : W4} {ad : Option Addr} {l c : Nat} (h : Pd w T k mn mx m t ad l c) :
  Calls Tryz.prog 56 #[rxv k mn mx m t (.slice ad l c), .bool ere] w fun e w' => e = .returned (.bool b) ∧ Kp w w' := by
 subst hb
 exact Right_any T ere _ k mn mx m t ad l c w hO h.is
theorem talk_same (T U : Rx) (b : Bool) (hO : RxOk T) (hb : sameR T U = b) (w : World) {k mn mx m : Int} {t : W4} {ad : Option Addr} {l c : Nat} {k' mn' mx' m' : Int} {t' : W4} {ad' : Option Addr} {l' c' : Nat} (h : Pd w T k mn mx m t ad l c) (h' : Pd w U k' mn' mx' m' t' ad' l' c') :
  Calls Tryz.prog 33 #[rxv k mn mx m t (.slice ad l c), rxv k' mn' mx' m' t' (.slice ad' l' c')] w fun e w' => e = .returned (.bool b) ∧ Kp w w' := by
 subst hb
 exact same_any T U _ _ w _ _ (fit_of_ok T hO) h.is h'.is
theorem talk_ksame (T U : Rx) (b : Bool) (hO : RxOk T) (hb : sameR T U = b) (w : World) {k mn mx m : Int} {t : W4} {ad : Option Addr} {l c : Nat} {k' mn' mx' m' : Int} {t' : W4} {ad' : Option Addr} {l' c' : Nat} (h : Pd w T k mn mx m t ad l c) (h' : Pd w U k' mn' mx' m' t' ad' l' c') :
  Calls Tryz.prog 53 #[rxv k mn mx m t (.slice ad l c), rxv k' mn' mx' m' t' (.slice ad' l' c')] w fun e w' => e = .returned (.bool b) ∧ Kp w w' := by
 subst hb
 exact (ksame_any T (fit_of_ok T hO)).all U _ _ w _ _ h.is h'.is
end Go.Proofs.YtommgdgilcemdaaGreatDoor

/-! ### CmA -/

namespace Go.Proofs.YtommgdgilcemdaaGreatDoor
open Go.RowKit

/-- A piece of a replacement. -/
structure Pc where
 g : Int
 s : ByteArray
/-- A row of pieces, as it lies in memory. -/
structure PcAt (w : World) (P : List Pc) (ad : Option Addr) (l c : Nat) : Prop where
 ln : l = P.length
 cp : l ≤ c
 at' : P ≠ [] → ∃ b o, ad = some ⟨b, o, none⟩ ∧ b < w.heap.size ∧ ∀ (j : Nat) p, P[j]? = some p → w.cell? ⟨b, o + j * 2, none⟩ = some (.int .i64 p.g) ∧ w.cell? ⟨b, o + j * 2 + 1, none⟩ = some (.string p.s)
theorem PcAt.kp {w w' : World} {P : List Pc} {ad : Option Addr} {l c : Nat} (h : PcAt w P ad l c) (k : Kp w w') : PcAt w' P ad l c :=
 ⟨h.ln, h.cp, fun hne => by
  obtain ⟨b, o, h1, h2, h3⟩ := h.at' hne
  exact ⟨b, o, h1, Nat.lt_of_lt_of_le h2 k.size, fun j p hj => ⟨(k.cell h2).trans (h3 j p hj).1, (k.cell h2).trans (h3 j p hj).2⟩⟩⟩
theorem PcAt.nil (w : World) : PcAt w [] none 0 0 := ⟨rfl, Nat.le_refl _, fun h => absurd rfl h⟩

def lab1 (n : Nat) : Bool := (decide (97 ≤ n) && decide (n ≤ 122)) || (decide (65 ≤ n) && decide (n ≤ 90)) || (decide (48 ≤ n) && decide (n ≤ 57)) || n == 95
def labB (s : ByteArray) : Bool := decide (1 ≤ s.size) && decide (s.size ≤ 8) && s.data.toList.all (fun b => lab1 b.toNat)
def labO (s : ByteArray) : Bool := decide (s.size = 0) || labB s
def kindN (op : Nat) : Nat :=
 if op ∈ [123, 125, 61, 100, 68, 103, 71, 104, 72, 110, 78, 112, 80, 113, 120] then 1
 else if op ∈ [97, 105, 99] then 2
 else if op ∈ [98, 116] then 3
 else if op ∈ [58, 119] then 4
 else if op = 115 then 5
 else if op = 121 then 6
 else 0
def addrsN (op : Nat) : Nat := if op ∈ [125, 58] then 0 else if op ∈ [113, 97, 105, 61] then 1 else 2
def pcR (p : Pc) (G : Int) : Bool := if p.g = -1 then decide (1 ≤ p.s.size) && decide (p.s.size ≤ 400) else decide (0 ≤ p.g) && decide (p.g ≤ G) && decide (p.s.size = 0)
def tplL : Bool → List Pc → Int → Bool
 | _, [], _ => true
 | t, p :: ps, G => pcR p G && !(t && decide (p.g = -1)) && tplL (decide (p.g = -1)) ps G
def tplR (P : List Pc) (G : Int) : Bool := tplL false P G
def tabR (y z : ByteArray) : Bool := decide (y.size = z.size) && decide (y.size ≤ 400) && decide (y.data.toList.Nodup)
def quotT (s : List UInt8) : List UInt8 := s.flatMap fun b => if b = 10 then [92, 110] else if b = 38 ∨ b = 47 ∨ b = 92 then [92, b] else [b]
def linesT (s : List UInt8) : List UInt8 := s.flatMap fun b => if b = 92 ∨ b = 10 then [92, b] else [b]
def tableT (s : List UInt8) : List UInt8 := s.flatMap fun b => if b = 10 then [92, 110] else if b = 47 ∨ b = 92 then [92, b] else [b]
def pcT (p : Pc) : List UInt8 := if p.g = -1 then quotT p.s.data.toList else if p.g = 0 then [38] else if 0 < p.g ∧ p.g ≤ 9 then [92] ++ dec p.g.toNat else []
def tplT (P : List Pc) : List UInt8 := P.flatMap pcT
def nameT (s : List UInt8) : List UInt8 := if s = [] then [] else [32] ++ s
def pcEq (a b : Pc) : Bool := decide (a.g = b.g) && a.s.data.toList == b.s.data.toList
def pcsEq : List Pc → List Pc → Bool
 | [], [] => true
 | a :: x, b :: y => pcEq a b && pcsEq x y
 | _, _ => false
end Go.Proofs.YtommgdgilcemdaaGreatDoor

/-! ### Cm0 -/

namespace Go.Proofs.YtommgdgilcemdaaGreatDoor
open Go.RowKit

/-- An expression's nine cells. -/
structure Rv where
 k : Int
 mn : Int
 mx : Int
 m : Int
 t : W4
 ad : Option Addr
 l : Nat
 c : Nat
abbrev Rv.v (r : Rv) : Value := rxv r.k r.mn r.mx r.m r.t (.slice r.ad r.l r.c)
abbrev Rv.z : Rv := ⟨0, 0, 0, 0, ⟨0, 0, 0, 0⟩, none, 0, 0⟩
abbrev Rv.is (r : Rv) (w : World) (T : Rx) : Prop := Pd w T r.k r.mn r.mx r.m r.t r.ad r.l r.c
def zR : Rx := .mk 0 0 0 0 ⟨0, 0, 0, 0⟩ []
theorem zR_is (w : World) : Rv.z.is w zR := ⟨Is.leaf w _ 0 0 0 0 ⟨0, 0, 0, 0⟩⟩
theorem zR_ok : RxOk zR := rxOk_of zR (by decide)

/-- An address: its cells. -/
structure Av where
 k : Int
 ln : Int
 r : Rv
abbrev Av.v (a : Av) : Value := .agg #[.int .i64 a.k, .int .i64 a.ln, .int .i64 a.r.k, .int .i64 a.r.mn, .int .i64 a.r.mx, .int .i64 a.r.m, .int .u64 (a.r.t.a : Int), .int .u64 (a.r.t.b : Int), .int .u64 (a.r.t.c : Int), .int .u64 (a.r.t.d : Int), .slice a.r.ad a.r.l a.r.c]
abbrev Av.z : Av := ⟨0, 0, Rv.z⟩

/-- A command: its forty cells. -/
structure Cv where
 a : Av
 b : Av
 nt : Bool
 op : Nat
 tx : ByteArray
 r : Rv
 pa : Option Addr
 pl : Nat
 pc : Nat
 g : Bool
 s : Bool
 nth : Int
 y : ByteArray
 z : ByteArray
abbrev Cv.cs (c : Cv) : Array Value := #[.int .i64 c.a.k, .int .i64 c.a.ln, .int .i64 c.a.r.k, .int .i64 c.a.r.mn, .int .i64 c.a.r.mx, .int .i64 c.a.r.m, .int .u64 (c.a.r.t.a : Int), .int .u64 (c.a.r.t.b : Int), .int .u64 (c.a.r.t.c : Int), .int .u64 (c.a.r.t.d : Int), .slice c.a.r.ad c.a.r.l c.a.r.c,
 .int .i64 c.b.k, .int .i64 c.b.ln, .int .i64 c.b.r.k, .int .i64 c.b.r.mn, .int .i64 c.b.r.mx, .int .i64 c.b.r.m, .int .u64 (c.b.r.t.a : Int), .int .u64 (c.b.r.t.b : Int), .int .u64 (c.b.r.t.c : Int), .int .u64 (c.b.r.t.d : Int), .slice c.b.r.ad c.b.r.l c.b.r.c,
 .bool c.nt, .int .u8 (c.op : Int), .string c.tx,
 .int .i64 c.r.k, .int .i64 c.r.mn, .int .i64 c.r.mx, .int .i64 c.r.m, .int .u64 (c.r.t.a : Int), .int .u64 (c.r.t.b : Int), .int .u64 (c.r.t.c : Int), .int .u64 (c.r.t.d : Int), .slice c.r.ad c.r.l c.r.c,
 .slice c.pa c.pl c.pc, .bool c.g, .bool c.s, .int .i64 c.nth, .string c.y, .string c.z]
abbrev Cv.v (c : Cv) : Value := .agg c.cs

/-- A command as it lies in memory: its trees, its pieces. -/
structure CIs (w : World) (c : Cv) (A B R : Rx) (P : List Pc) : Prop where
 a : c.a.r.is w A
 b : c.b.r.is w B
 r : c.r.is w R
 p : PcAt w P c.pa c.pl c.pc
theorem CIs.kp {w w' : World} {c : Cv} {A B R : Rx} {P : List Pc} (h : CIs w c A B R P) (k : Kp w w') : CIs w' c A B R P := ⟨h.a.kp k, h.b.kp k, h.r.kp k, h.p.kp k⟩
/-- What is asked of them. -/
structure COk (c : Cv) (A B R : Rx) (P : List Pc) : Prop where
 a : RxOk A
 b : RxOk B
 r : RxOk R
 p : P.length ≤ 1000000
 op : c.op < 256
 tx : c.tx.size ≤ 1000000
 y : c.y.size ≤ 1000000
 z : c.z.size ≤ 1000000

def noR (T : Rx) : Bool := sameR T zR
def wrtR (ere : Bool) (T : Rx) : Bool := decide (printT ere T ≠ [])
def adR (k ln : Int) (T : Rx) (ere : Bool) : Bool :=
 if k = 0 ∨ k = 2 then decide (ln = 0) && noR T
 else if k = 1 then decide (1 ≤ ln) && decide (ln ≤ 9999) && noR T
 else if k = 3 then decide (ln = 0) && wrtR ere T
 else false
def adT (k ln : Int) (T : Rx) (ere : Bool) : List UInt8 :=
 if adR k ln T ere then
  if k = 1 then dec ln.toNat else if k = 2 then [36] else if k = 3 then [47] ++ printT ere T ++ [47] else []
 else []
def placedR (c : Cv) (A B : Rx) (ere : Bool) : Bool :=
 adR c.a.k c.a.ln A ere && adR c.b.k c.b.ln B ere &&
  (if addrsN c.op = 0 then decide (c.a.k = 0) && decide (c.b.k = 0) && !c.nt else if addrsN c.op = 1 then decide (c.b.k = 0) else !decide (c.a.k = 0) || decide (c.b.k = 0))
def substR (c : Cv) (R : Rx) (P : List Pc) (ere : Bool) : Bool := wrtR ere R && tplR P (grp R) && decide (0 ≤ c.nth) && decide (c.nth ≤ 99) && labO c.tx
def askedR (c : Cv) (R : Rx) (P : List Pc) (ere : Bool) : Bool :=
 match kindN c.op with
 | 1 => true
 | 2 => decide (c.tx.size ≤ 400)
 | 3 => labO c.tx
 | 4 => labB c.tx
 | 5 => substR c R P ere
 | 6 => tabR c.y c.z
 | _ => false
def leanR (c : Cv) (R : Rx) (P : List Pc) : Bool :=
 match kindN c.op with
 | 2 | 3 | 4 => decide (c.y.size = 0) && decide (c.z.size = 0) && !c.g && !c.s && decide (c.nth = 0) && noR R && P.isEmpty
 | 5 => decide (c.y.size = 0) && decide (c.z.size = 0)
 | 6 => decide (c.tx.size = 0) && !c.g && !c.s && decide (c.nth = 0) && noR R && P.isEmpty
 | _ => decide (c.tx.size = 0) && decide (c.y.size = 0) && decide (c.z.size = 0) && !c.g && !c.s && decide (c.nth = 0) && noR R && P.isEmpty
/-- Right. -/
def rightC (c : Cv) (A B R : Rx) (P : List Pc) (ere : Bool) : Bool := placedR c A B ere && leanR c R P && askedR c R P ere

def flagsT (c : Cv) : List UInt8 := (if c.g then [103] else []) ++ (if c.s then [112] else []) ++ (if c.nth = 0 then [] else dec c.nth.toNat) ++ (if c.tx.data.toList = [] then [] else [119] ++ nameT c.tx.data.toList)
def restT (c : Cv) (R : Rx) (P : List Pc) (ere : Bool) : List UInt8 :=
 match kindN c.op with
 | 2 => [92, 10] ++ linesT c.tx.data.toList
 | 3 | 4 => nameT c.tx.data.toList
 | 5 => [47] ++ printT ere R ++ [47] ++ tplT P ++ [47] ++ flagsT c
 | 6 => [47] ++ tableT c.y.data.toList ++ [47] ++ tableT c.z.data.toList ++ [47]
 | _ => []
def placeT (c : Cv) (A B : Rx) (ere : Bool) : List UInt8 := adT c.a.k c.a.ln A ere ++ (if c.b.k = 0 then [] else [44] ++ adT c.b.k c.b.ln B ere) ++ (if c.nt then [33] else [])
/-- Its text. -/
def cmdT (c : Cv) (A B R : Rx) (P : List Pc) (ere : Bool) : List UInt8 :=
 if rightC c A B R P ere then placeT c A B ere ++ [UInt8.ofNat c.op] ++ restT c R P ere else []
def adEq (a b : Av) (A B : Rx) : Bool := decide (a.k = b.k) && decide (a.ln = b.ln) && sameR A B
def sameC (c d : Cv) (A B R A' B' R' : Rx) (P P' : List Pc) : Bool :=
 decide (c.op = d.op) && (c.nt == d.nt) && (c.tx.data.toList == d.tx.data.toList) && (c.y.data.toList == d.y.data.toList) && (c.z.data.toList == d.z.data.toList) && (c.g == d.g) && (c.s == d.s) && decide (c.nth = d.nth) &&
  adEq c.a d.a A A' && adEq c.b d.b B B' && sameR R R' && pcsEq P P'
end Go.Proofs.YtommgdgilcemdaaGreatDoor

/-! ### Cm1 -/

namespace Go.Proofs.YtommgdgilcemdaaGreatDoor
open Go.RowKit

set_option maxHeartbeats 2000000 in
set_option maxRecDepth 100000 in
theorem labelByte_any (n : Nat) (w : World) : Calls Tryz.prog 49 #[.int .u8 (n : Int)] w fun e w' => e = .returned (.bool (lab1 n)) ∧ w' = w := by
 have E : Hid (lab1 n = lab1 n) := rfl
 go_enter Tryz.func49, Tryz.ntmps49
 unfold lab1
 by_cases h1 : 97 ≤ n
 ·
  have g1 : (97 : Int) ≤ (n : Int) := by omega
  by_cases h2 : n ≤ 122
  ·
   have g2 : (n : Int) ≤ 122 := by omega
   go_wp2
   go_ret
   exact ⟨by simp, rfl⟩
  ·
   have g2 : ¬ (n : Int) ≤ 122 := by omega
   have g3 : (65 : Int) ≤ (n : Int) := by omega
   have g4 : ¬ (n : Int) ≤ 90 := by omega
   have g5 : (48 : Int) ≤ (n : Int) := by omega
   have g6 : ¬ (n : Int) ≤ 57 := by omega
   have g7 : ((n : Int) == 95) = false := by simp; omega
   go_wp2
   go_ret
   exact ⟨by simp; omega, rfl⟩
 ·
  have g1 : ¬ (97 : Int) ≤ (n : Int) := by omega
  by_cases h2 : 65 ≤ n
  ·
   have g2 : (65 : Int) ≤ (n : Int) := by omega
   by_cases h3 : n ≤ 90
   ·
    have g3 : (n : Int) ≤ 90 := by omega
    go_wp2
    go_ret
    exact ⟨by simp, rfl⟩
   ·
    have g3 : ¬ (n : Int) ≤ 90 := by omega
    have g5 : (48 : Int) ≤ (n : Int) := by omega
    have g6 : ¬ (n : Int) ≤ 57 := by omega
    by_cases h4 : n = 95
    ·
     subst h4
     go_wp2
     go_ret
     exact ⟨by simp, rfl⟩
    ·
     have g7 : ((n : Int) == 95) = false := by simp; omega
     go_wp2
     go_ret
     exact ⟨by simp; omega, rfl⟩
  ·
   have g2 : ¬ (65 : Int) ≤ (n : Int) := by omega
   have g7 : ((n : Int) == 95) = false := by simp; omega
   by_cases h3 : 48 ≤ n
   ·
    have g3 : (48 : Int) ≤ (n : Int) := by omega
    by_cases h4 : n ≤ 57
    ·
     have g4 : (n : Int) ≤ 57 := by omega
     go_wp2
     go_ret
     exact ⟨by simp, rfl⟩
    ·
     have g4 : ¬ (n : Int) ≤ 57 := by omega
     go_wp2
     go_ret
     exact ⟨by simp; omega, rfl⟩
   ·
    have g3 : ¬ (48 : Int) ≤ (n : Int) := by omega
    go_wp2
    go_ret
    exact ⟨by simp; omega, rfl⟩

set_option maxHeartbeats 2000000 in
set_option maxRecDepth 100000 in
theorem kind_any (op : Nat) (w : World) : Calls Tryz.prog 59 #[.int .u8 (op : Int)] w fun e w' => e = .returned (.int .i64 ((kindN op : Nat) : Int)) ∧ w' = w := by
 go_enter Tryz.func59, Tryz.ntmps59
 by_cases h0 : op = 123
 ·
  subst h0
  go_wp2
  go_ret
  exact ⟨by simp [kindN], rfl⟩
 have g0 : ((op : Int) == 123) = false := by simp; omega
 by_cases h1 : op = 125
 ·
  subst h1
  go_wp2
  go_ret
  exact ⟨by simp [kindN], rfl⟩
 have g1 : ((op : Int) == 125) = false := by simp; omega
 by_cases h2 : op = 61
 ·
  subst h2
  go_wp2
  go_ret
  exact ⟨by simp [kindN], rfl⟩
 have g2 : ((op : Int) == 61) = false := by simp; omega
 by_cases h3 : op = 100
 ·
  subst h3
  go_wp2
  go_ret
  exact ⟨by simp [kindN], rfl⟩
 have g3 : ((op : Int) == 100) = false := by simp; omega
 by_cases h4 : op = 68
 ·
  subst h4
  go_wp2
  go_ret
  exact ⟨by simp [kindN], rfl⟩
 have g4 : ((op : Int) == 68) = false := by simp; omega
 by_cases h5 : op = 103
 ·
  subst h5
  go_wp2
  go_ret
  exact ⟨by simp [kindN], rfl⟩
 have g5 : ((op : Int) == 103) = false := by simp; omega
 by_cases h6 : op = 71
 ·
  subst h6
  go_wp2
  go_ret
  exact ⟨by simp [kindN], rfl⟩
 have g6 : ((op : Int) == 71) = false := by simp; omega
 by_cases h7 : op = 104
 ·
  subst h7
  go_wp2
  go_ret
  exact ⟨by simp [kindN], rfl⟩
 have g7 : ((op : Int) == 104) = false := by simp; omega
 by_cases h8 : op = 72
 ·
  subst h8
  go_wp2
  go_ret
  exact ⟨by simp [kindN], rfl⟩
 have g8 : ((op : Int) == 72) = false := by simp; omega
 by_cases h9 : op = 110
 ·
  subst h9
  go_wp2
  go_ret
  exact ⟨by simp [kindN], rfl⟩
 have g9 : ((op : Int) == 110) = false := by simp; omega
 by_cases h10 : op = 78
 ·
  subst h10
  go_wp2
  go_ret
  exact ⟨by simp [kindN], rfl⟩
 have g10 : ((op : Int) == 78) = false := by simp; omega
 by_cases h11 : op = 112
 ·
  subst h11
  go_wp2
  go_ret
  exact ⟨by simp [kindN], rfl⟩
 have g11 : ((op : Int) == 112) = false := by simp; omega
 by_cases h12 : op = 80
 ·
  subst h12
  go_wp2
  go_ret
  exact ⟨by simp [kindN], rfl⟩
 have g12 : ((op : Int) == 80) = false := by simp; omega
 by_cases h13 : op = 113
 ·
  subst h13
  go_wp2
  go_ret
  exact ⟨by simp [kindN], rfl⟩
 have g13 : ((op : Int) == 113) = false := by simp; omega
 by_cases h14 : op = 120
 ·
  subst h14
  go_wp2
  go_ret
  exact ⟨by simp [kindN], rfl⟩
 have g14 : ((op : Int) == 120) = false := by simp; omega
 by_cases h15 : op = 97
 ·
  subst h15
  go_wp2
  go_ret
  exact ⟨by simp [kindN], rfl⟩
 have g15 : ((op : Int) == 97) = false := by simp; omega
 by_cases h16 : op = 105
 ·
  subst h16
  go_wp2
  go_ret
  exact ⟨by simp [kindN], rfl⟩
 have g16 : ((op : Int) == 105) = false := by simp; omega
 by_cases h17 : op = 99
 ·
  subst h17
  go_wp2
  go_ret
  exact ⟨by simp [kindN], rfl⟩
 have g17 : ((op : Int) == 99) = false := by simp; omega
 by_cases h18 : op = 98
 ·
  subst h18
  go_wp2
  go_ret
  exact ⟨by simp [kindN], rfl⟩
 have g18 : ((op : Int) == 98) = false := by simp; omega
 by_cases h19 : op = 116
 ·
  subst h19
  go_wp2
  go_ret
  exact ⟨by simp [kindN], rfl⟩
 have g19 : ((op : Int) == 116) = false := by simp; omega
 by_cases h20 : op = 58
 ·
  subst h20
  go_wp2
  go_ret
  exact ⟨by simp [kindN], rfl⟩
 have g20 : ((op : Int) == 58) = false := by simp; omega
 by_cases h21 : op = 119
 ·
  subst h21
  go_wp2
  go_ret
  exact ⟨by simp [kindN], rfl⟩
 have g21 : ((op : Int) == 119) = false := by simp; omega
 by_cases h22 : op = 115
 ·
  subst h22
  go_wp2
  go_ret
  exact ⟨by simp [kindN], rfl⟩
 have g22 : ((op : Int) == 115) = false := by simp; omega
 by_cases h23 : op = 121
 ·
  subst h23
  go_wp2
  go_ret
  exact ⟨by simp [kindN], rfl⟩
 have g23 : ((op : Int) == 121) = false := by simp; omega
 go_wp2
 go_ret
 exact ⟨by simp [kindN, h0, h1, h2, h3, h4, h5, h6, h7, h8, h9, h10, h11, h12, h13, h14, h15, h16, h17, h18, h19, h20, h21, h22, h23], rfl⟩

set_option maxHeartbeats 2000000 in
set_option maxRecDepth 100000 in
theorem addrs_any (op : Nat) (w : World) : Calls Tryz.prog 65 #[.int .u8 (op : Int)] w fun e w' => e = .returned (.int .i64 ((addrsN op : Nat) : Int)) ∧ w' = w := by
 go_enter Tryz.func65, Tryz.ntmps65
 by_cases h0 : op = 125
 ·
  subst h0
  go_wp2
  go_ret
  exact ⟨by simp [addrsN], rfl⟩
 have g0 : ((op : Int) == 125) = false := by simp; omega
 by_cases h1 : op = 58
 ·
  subst h1
  go_wp2
  go_ret
  exact ⟨by simp [addrsN], rfl⟩
 have g1 : ((op : Int) == 58) = false := by simp; omega
 by_cases h2 : op = 113
 ·
  subst h2
  go_wp2
  go_ret
  exact ⟨by simp [addrsN], rfl⟩
 have g2 : ((op : Int) == 113) = false := by simp; omega
 by_cases h3 : op = 97
 ·
  subst h3
  go_wp2
  go_ret
  exact ⟨by simp [addrsN], rfl⟩
 have g3 : ((op : Int) == 97) = false := by simp; omega
 by_cases h4 : op = 105
 ·
  subst h4
  go_wp2
  go_ret
  exact ⟨by simp [addrsN], rfl⟩
 have g4 : ((op : Int) == 105) = false := by simp; omega
 by_cases h5 : op = 61
 ·
  subst h5
  go_wp2
  go_ret
  exact ⟨by simp [addrsN], rfl⟩
 have g5 : ((op : Int) == 61) = false := by simp; omega
 go_wp2
 go_ret
 exact ⟨by simp [addrsN, h0, h1, h2, h3, h4, h5], rfl⟩

end Go.Proofs.YtommgdgilcemdaaGreatDoor
