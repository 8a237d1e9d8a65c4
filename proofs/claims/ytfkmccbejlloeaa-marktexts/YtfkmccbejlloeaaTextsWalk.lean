/-
  The law MarkTexts, walked: a text is its lines: each has its own mark; a text behind one that ends with a line end is both's.
-/
import Derived.Test.YtfkmccbejlloeaaRuns
import Derived.Test.YtfkmccbejlloeaaTexts
import Derived.Deep.DeepCutAuto
namespace Go.Proofs.Ytfkmccbejlloeaa
open Go.RowKit

/-- What the walk is told of a slice of strings that came in: it is nil, or a row of cells. -/
def IsStrs (w : World) (a : Option Addr) (len cap : Nat) (ss : List ByteArray) : Prop :=
  (a = none ∧ len = 0 ∧ cap = 0 ∧ ss = []) ∨
  ∃ x, a = some x ∧ len ≤ cap ∧ cap ≤ maxLen ∧ ss.length = cap ∧ (∀ i, i < ss.length → w.cell? (x.add i) = some (.string (ss.getD i ByteArray.empty))) ∧ ∀ s ∈ ss, s.size ≤ maxLen

/-- The tail of the law, behind the loop: what it reads is a text of k whole lines, its mark, k, and the last text. -/
def Ready (k : Nat) (st : ByteArray) : Prop := k ≤ 12 ∧ st.size ≤ 21 * k ∧ nl st = k ∧ (st.size = 0 ∨ ends st = true)

theorem put_size (lb u : ByteArray) (m : Nat) (h : m < u.size) (h3 : lb.size ≤ m) : (lb ++ u.extract m (m + 1)).size ≤ m + 1 := by
  rw [ByteArray.size_append, size_one u m h]; omega

theorem put_nl (lb u : ByteArray) (m : Nat) (h : m < u.size) (ht : ((u[m].toNat : Int) != 10) = true) (h4 : Hid (nl lb = 0)) : Hid (nl (lb ++ u.extract m (m + 1)) = 0) := by
  show nl _ = 0
  have hne : u[m].toNat ≠ 10 := by
    intro hc; rw [hc] at ht; exact absurd ht (by decide)
  rw [nl_add, nl_one u m h hne, h4.out]

theorem ready_put (k : Nat) (st lb : ByteArray) (h : Ready k st) (h2 : k < 12) (hb : lb.size ≤ 20) (hn : nl lb = 0) : Ready (k + 1) (st ++ lb ++ ⟨#[10]⟩) := by
  obtain ⟨a1, a2, a3, a4⟩ := h
  obtain ⟨p1, p2, p3⟩ := line_put st lb k a3 hn
  exact ⟨by omega, by rw [p3]; omega, p2, Or.inr p1⟩

theorem mark_put (k : Nat) (st lb : ByteArray) : Value.complex .f64 (F (k + 1)) (F (st.size + (lb.size + 1))) = .complex .f64 (F (k + 1 : Nat)) (F ((st ++ lb ++ ⟨#[10]⟩ : ByteArray).size : Nat)) := by
  have p3 : (st ++ lb ++ ⟨#[10]⟩ : ByteArray).size = st.size + lb.size + 1 := by rw [ByteArray.size_append, ByteArray.size_append, size_end]
  rw [p3, show ((k + 1 : Nat) : Int) = k + 1 by omega, show ((st.size + lb.size + 1 : Nat) : Int) = st.size + (lb.size + 1) by omega]

theorem text_is (s : ByteArray) (n : Nat) (w : World) (hs : s.size ≤ 2000) (hn : textLines s = n) :
    Calls Try.prog 10 #[.string s] w fun e w' => e = .returned (.complex .f64 (F n) (F s.size)) ∧ w' = w := by
  subst hn; exact text_any s w hs

theorem text_both (st t : ByteArray) (k n : Nat) (w : World) (hs : st.size ≤ 252) (ht : t.size ≤ 30) (hn : textLines (st ++ t) = k + n) :
    Calls Try.prog 10 #[.string (st ++ t)] w fun e w' => e = .returned (.complex .f64 (F (k + n)) (F (st.size + t.size))) ∧ w' = w := by
  have hz : (st ++ t).size = st.size + t.size := ByteArray.size_append
  have h := text_any (st ++ t) w (by rw [hz]; omega)
  rw [hn, hz, show ((k + n : Nat) : Int) = k + n by omega, show ((st.size + t.size : Nat) : Int) = st.size + t.size by omega] at h
  exact h

theorem ceql_is (a b : Int) (h1 : 0 ≤ a) (h2 : a ≤ 2000) (h3 : 0 ≤ b) (h4 : b ≤ 2000) (w : World) :
    (binOp .eql 22 (.complex .f64 (F a) (F b)) (.complex .f64 (F a) (F b))).run Try.prog w = .ok (.bool true) w := by
  rw [run_ceql 22 a b a b (small (by omega) (by omega)) (small (by omega) (by omega)) (small (by omega) (by omega)) (small (by omega) (by omega))]; simp

set_option maxRecDepth 100000 in
set_option maxHeartbeats 2000000 in
theorem texts_walk (a : Option Addr) (b off len cap : Nat) (ss : List ByteArray) (last : ByteArray) (w : World) (ha : 0 < len → a = some ⟨b, off, none⟩) (hb : 0 < len → b < w.heap.size) (hlen : len ≤ ss.length)
    (hcell : ∀ i, i < ss.length → w.cell? ⟨b, off + i, none⟩ = some (.string (ss.getD i ByteArray.empty))) (hss : ∀ s ∈ ss, s.size ≤ maxLen) (hl : last.size ≤ maxLen) :
    Calls Try.prog 6 #[.slice a len cap, .string last] w fun e w' => e = .returned (.bool true) ∧ Below w.heap.size w w' := by
  unfold maxLen at hl
  have HA : Hid (0 < len → a = some ⟨b, off, none⟩) := ha
  have HBL : Hid (0 < len → b < w.heap.size) := hb
  clear ha hb
  have HC : Hid (∀ i, i < ss.length → w.cell? ⟨b, off + i, none⟩ = some (.string (ss.getD i ByteArray.empty))) := hcell
  have HS : Hid (∀ s ∈ ss, s.size ≤ maxLen) := hss
  clear hcell hss
  go_enter Try.func6, Try.ntmps6
  go_wp2_with fail
  refine (of_any _ _ _).mono ?_
  rintro e w' ⟨rfl, rfl⟩
  go_wp2_with fail
  go_loopw [5, 6, 7, 8] (fun s m n i wr => ∃ (k : Nat) (st : ByteArray), k ≤ len ∧ Ready k st ∧ s = .string st ∧ m = .complex .f64 (F k) (F st.size) ∧ n = .int .i64 k ∧ i = .int .i64 k ∧ Below w'.heap.size w' wr) (fun _ _ _ i _ => 12 - (intOf i).toNat)
  case atStart => exact ⟨0, ByteArray.empty, Nat.zero_le _, ⟨by omega, by decide, by decide, by decide⟩, rfl, rfl, rfl, rfl, Below.refl _ _⟩
  case round =>
    obtain ⟨k, st, hk, hr, rfl, rfl, rfl, rfl, hbel⟩ := hrel
    by_cases hlt : k < len ∧ k < 12
    · obtain ⟨h1, h2⟩ := hlt
      have hb := HBL.out (by omega)
      obtain rfl := HA.out (by omega)
      clear HA HBL
      obtain ⟨u, hu⟩ : ∃ u, ss.getD k ByteArray.empty = u := ⟨_, rfl⟩
      have hus : u.size ≤ maxLen := by
        have hk' : k < ss.length := by omega
        have : u = ss[k] := by rw [← hu, List.getD_eq_getElem?_getD, List.getElem?_eq_getElem hk']; rfl
        rw [this]; exact HS.out _ (List.getElem_mem hk')
      have hc : wr.cell? ⟨b, off + k, none⟩ = some (.string u) := by
        rw [hbel.cell (p := ⟨b, off + k, none⟩) hb, HC.out k (by omega), hu]
      have HR : Hid (Ready k st) := hr
      have HB : Hid (Below w'.heap.size w' wr) := hbel
      have hsz : w'.heap.size ≤ wr.heap.size := hbel.size
      clear hu hr hbel
      unfold maxLen at hus
      go_wp2_with fail
      go_loop [9, 10] (fun l j => ∃ (lb : ByteArray) (m : Nat), l = .string lb ∧ j = .int .i64 m ∧ m ≤ 20 ∧ m ≤ u.size ∧ lb.size ≤ m ∧ Hid (nl lb = 0)) (fun _ j => 20 - (intOf j).toNat)
      case atStart => exact ⟨ByteArray.empty, 0, rfl, rfl, by omega, by omega, by decide, rfl⟩
      case round =>
        obtain ⟨lb, m, rfl, rfl, m1, m2, m3, m4⟩ := hrel
        by_cases hm : m < u.size ∧ m < 20
        · obtain ⟨hm1, hm2⟩ := hm
          cases ht : ((u[m].toNat : Int) != 10)
          · go_wp2_with fail
            exact ⟨⟨lb, m + 1, rfl, by go_num, by omega, by omega, by omega, m4⟩, by simp [intOf]; omega⟩
          · go_wp2_with fail
            exact ⟨⟨lb ++ u.extract m (m + 1), m + 1, rfl, by go_num, by omega, by omega, put_size lb u m hm1 m3, put_nl lb u m hm1 ht m4⟩, by simp [intOf]; omega⟩
        · have hbs : lb.size ≤ 20 := by omega
          have st0 := HR.out.2.1
          have st1 : Hid (k ≤ 12) := HR.out.1
          by_cases hm3 : m < u.size
          all_goals
            go_wp2_with fail
            refine (line_any lb _ (by omega)).mono ?_
            rintro e w1 ⟨rfl, rfl⟩
            go_wp2_with fail
            refine (sum_two k st.size 1 (lb.size + 1) _ _ rfl (by omega) (by omega) (by omega) (by omega) (by omega) (by omega)).mono ?_
            rintro e w1 ⟨rfl, rfl⟩
            go_wp2_with fail
            exact ⟨⟨k + 1, st ++ lb ++ ⟨#[10]⟩, h1, ready_put k st lb HR.out h2 hbs m4.out, rfl, mark_put k st lb, by go_num, by go_num, HB.out.alloc hsz _⟩, by simp [intOf]; omega⟩
    · have HR : Hid (Ready k st) := hr
      have HB : Hid (Below w'.heap.size w' wr) := hbel
      have hsz : w'.heap.size ≤ wr.heap.size := hbel.size
      have hk12 : k ≤ 12 := hr.1
      have hst : st.size ≤ 252 := by have := hr.2.1; omega
      have TL : Hid (textLines st = k) := (textLines_whole st hr.2.2.2).trans hr.2.2.1
      clear hr hbel HC HS HA HBL
      by_cases hk1 : k < len
      all_goals
        go_upto_region 16 with fail
        go_cut [11] (fun t wc => ∃ r : ByteArray, r.size ≤ 30 ∧ t = .string r ∧ wc = wr)
        case first =>
          by_cases hl3 : last.size ≤ 30
          · go_wp2_with fail
            go_meet
            case rel => exact ⟨last, hl3, rfl, rfl⟩
          · go_wp2_with fail
            go_meet
            case rel => exact ⟨last.extract 0 30, by simp; omega, rfl, rfl⟩
        case rest =>
          obtain ⟨t, ht, rfl, rfl⟩ := hcut
          obtain ⟨tl, htl⟩ : ∃ n, textLines t = n := ⟨_, rfl⟩
          have tl1 : tl ≤ 30 := by have := textLines_le t; omega
          have HT : Hid (textLines t = tl) := htl
          have HST : Hid (textLines (st ++ t) = k + tl) := by
            show _ = _
            rw [textLines_add st t HR.out.2.2.2, TL.out, htl]
          clear htl
          have q1 := ceql_is k st.size (by omega) (by omega) (by omega) (by omega)
          have q2 := ceql_is (k + tl) (st.size + t.size) (by omega) (by omega) (by omega) (by omega)
          have q3 := ceql_is 0 0 (by omega) (by omega) (by omega) (by omega)
          rw [F_zero] at q3
          go_wp2_with fail
          refine (text_is st k _ (by omega) TL.out).mono ?_
          rintro e w1 ⟨rfl, rfl⟩
          go_wp2_with fail
          refine (lines_any k st.size _ (small (by omega) (by omega))).mono ?_
          rintro e w1 ⟨rfl, rfl⟩
          go_wp2_with fail
          refine (bytes_any k st.size _ (small (by omega) (by omega))).mono ?_
          rintro e w1 ⟨rfl, rfl⟩
          go_wp2_with fail
          refine (text_both st t k tl _ hst ht HST.out).mono ?_
          rintro e w1 ⟨rfl, rfl⟩
          go_wp2_with fail
          refine (text_is st k _ (by omega) TL.out).mono ?_
          rintro e w1 ⟨rfl, rfl⟩
          go_wp2_with fail
          refine (text_is t tl _ (by omega) HT.out).mono ?_
          rintro e w1 ⟨rfl, rfl⟩
          go_wp2_with fail
          refine (sum_two k st.size tl t.size _ _ rfl (by omega) (by omega) (by omega) (by omega) (by omega) (by omega)).mono ?_
          rintro e w1 ⟨rfl, rfl⟩
          go_wp2_with fail
          refine (text_is ⟨#[]⟩ 0 _ (by decide) (by decide)).mono ?_
          rintro e w2 ⟨rfl, rfl⟩
          rw [show F ((0 : Nat) : Int) = 0 from F_zero, show F (((⟨#[]⟩ : ByteArray).size : Nat) : Int) = 0 from F_zero]
          go_wp2_with fail
          refine (runs_below _).mono ?_
          rintro e w2 ⟨rfl, hg⟩
          have HG : Hid (Below _ _ w2) := hg
          clear hg
          go_wp2
          go_ret
          exact ⟨rfl, (HB.out.alloc hsz _).trans (HG.out.mono (by simp; omega))⟩

theorem cell_lt {w : World} {x : Addr} {v : Value} (h : w.cell? x = some v) : x.block < w.heap.size := by
  by_cases hb : x.block < w.heap.size
  · exact hb
  · have : w.heap[x.block]? = none := Array.getElem?_eq_none (by omega)
    simp [World.cell?, this] at h

theorem texts_any (a : Option Addr) (len cap : Nat) (ss : List ByteArray) (last : ByteArray) (w : World) (h : IsStrs w a len cap ss) (hl : last.size ≤ maxLen) :
    Calls Try.prog 6 #[.slice a len cap, .string last] w fun e w' => e = .returned (.bool true) ∧ Below w.heap.size w w' := by
  rcases h with ⟨rfl, rfl, rfl, rfl⟩ | ⟨x, rfl, h1, _, h3, h5, h6⟩
  · exact texts_walk none 0 0 0 0 [] last w (by omega) (by omega) (by simp) (by simp) (by simp) hl
  · by_cases h0 : ss.length = 0
    · have : len = 0 := by omega
      subst this
      exact texts_walk (some x) 0 0 0 cap [] last w (by omega) (by omega) (by simp) (by simp) (by simp) hl
    · obtain ⟨b, off, spot⟩ := x
      have hspot : spot = none := by
        have := World.cell?_spot (h5 0 (by omega))
        simpa [Addr.add] using this
      subst hspot
      exact texts_walk (some ⟨b, off, none⟩) b off len cap ss last w (fun _ => rfl) (fun _ => cell_lt (h5 0 (by omega))) (by omega) (fun i hi => by rw [← Go.WideShapes.add_plain]; exact h5 i hi) h6 hl
end Go.Proofs.Ytfkmccbejlloeaa
