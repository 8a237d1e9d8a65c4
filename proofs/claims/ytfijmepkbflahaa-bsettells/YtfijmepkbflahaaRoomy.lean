/-
  What the book's Roomy, Same and Intact do on slices of bytes.
-/
import Derived.Test.YtfijmepkbflahaaOwned
import Derived.OwnWalk
import Derived.Laws.CopyOwn
import Derived.Maps.AppendAt
import Derived.Deep.QuietTactic
import Derived.BigQuiet
namespace Go.Proofs.Ytfijmepkbflahaa
open Go.RowKit

/-- The bytes xs, then 80 places of which the first k are m. -/
def room (xs : List Nat) (m k : Nat) : List Value := (List.range (xs.length + 80)).map fun i => u8v (if i < xs.length then xs.getD i 0 else if i < xs.length + k then m else 0)

theorem room_length (xs : List Nat) (m k : Nat) : (room xs m k).length = xs.length + 80 := by simp [room]

theorem room_at (xs : List Nat) (m k i : Nat) (h : i < xs.length + 80) : (room xs m k)[i]? = some (u8v (if i < xs.length then xs.getD i 0 else if i < xs.length + k then m else 0)) := by
  simp [room, h]

theorem room_set (xs : List Nat) (m k : Nat) (hk : k < 80) : (room xs m k).set (xs.length + k) (u8v m) = room xs m (k + 1) := by
  apply List.ext_getElem?
  intro i
  rw [List.getElem?_set, room_length]
  by_cases hi : i < xs.length + 80
  · rw [room_at _ _ _ _ hi, room_at _ _ _ _ hi]
    by_cases he : xs.length + k = i
    · subst he
      rw [if_pos rfl, if_pos (by omega), if_neg (by omega), if_pos (by omega)]
    · rw [if_neg he]
      by_cases h1 : i < xs.length
      · rw [if_pos h1, if_pos h1]
      · rw [if_neg h1, if_neg h1]
        by_cases h2 : i < xs.length + k
        · rw [if_pos h2, if_pos (by omega)]
        · rw [if_neg h2, if_neg (by omega)]
  · rw [if_neg (by omega), List.getElem?_eq_none (by rw [room_length]; omega), List.getElem?_eq_none (by rw [room_length]; omega)]

/-- A row of bytes that lies in block g. -/
def Row5 (w : World) (g : Nat) (L : List Value) : Prop := w.heap[g]? = some (.cells L.toArray 5 (0, 0))

theorem Row5.lt {w : World} {g : Nat} {L : List Value} (h : Row5 w g L) : g < w.heap.size := (Array.getElem?_eq_some_iff.1 h).1
theorem Row5.kp {w w' : World} {g : Nat} {L : List Value} (h : Row5 w g L) (k : Kp w w') : Row5 w' g L := (k.block g h.lt).trans h
theorem Row5.cell {w : World} {g : Nat} {L : List Value} (h : Row5 w g L) (j : Nat) : w.cell? ⟨g, j, none⟩ = L[j]? := by
  have := cell_of_row w g j _ 5 (0, 0) h
  simpa using this
theorem Row5.frozen {w : World} {g : Nat} {L : List Value} (h : Row5 w g L) (j : Nat) : w.frozen? ⟨g, j, none⟩ = false := by
  unfold Row5 at h
  simp [World.frozen?, h]
theorem Row5.set {w : World} {g : Nat} {L : List Value} (h : Row5 w g L) (j : Nat) (v : Value) : Row5 (w.setCell ⟨g, j, none⟩ v) g (L.set j v) := by
  unfold Row5 at *
  simp only [World.setCell, Array.getElem?_modify, if_true, h, Option.map_some]
  simp

theorem row_made {w : World} {B N F : Nat} (h : w.ownsRow B 5 1 (.slice (some ⟨F, 0, none⟩) N N) N (madeCells #[.int .u8 0] N).toList) : Row5 w F (List.replicate N (u8v 0)) := by
  rcases h.2 with ⟨h', _⟩ | ⟨g', cap', cur, h', _, hg, _, _, hcs, htake⟩
  · simp at h'
  · simp only [Value.slice.injEq, Option.some.injEq, Addr.mk.injEq, and_true, true_and] at h'
    obtain ⟨rfl, rfl⟩ := h'
    unfold Row5
    rw [hg]
    have e : cur.toList = List.replicate N (u8v 0) := by
      rw [toList_madeCells_one, Nat.mul_one, List.take_of_length_le (by simp [hcs])] at htake
      exact htake
    rw [← e]

theorem splice_room (xs : List Nat) (m : Nat) : splice (List.replicate (xs.length + 80) (u8v 0)) 0 (xs.map u8v) = room xs m 0 := by
  unfold splice
  apply List.ext_getElem?
  intro i
  rw [List.take_zero, List.nil_append, Nat.zero_add, List.length_map]
  by_cases h1 : i < xs.length
  · rw [List.getElem?_append_left (by simpa using h1), List.getElem?_map, room_at _ _ _ _ (by omega), if_pos h1, List.getElem?_eq_getElem h1, List.getD_eq_getElem?_getD, List.getElem?_eq_getElem h1]
    rfl
  · rw [List.getElem?_append_right (by simp; omega), List.getElem?_drop, List.length_map]
    by_cases h2 : i < xs.length + 80
    · rw [room_at _ _ _ _ h2, if_neg h1, if_neg (by omega), List.getElem?_replicate, if_pos (by omega)]
    · rw [List.getElem?_eq_none (by simp; omega), List.getElem?_eq_none (by rw [room_length]; omega)]

set_option maxRecDepth 100000 in
set_option maxHeartbeats 2000000 in
theorem roomy_any (xs : List Nat) (hx : xs.length ≤ 20) (g cap m : Nat) (w : World) (hg : g < w.heap.size)
    (hc : ∀ j, j < xs.length → w.cell? ⟨g, j, none⟩ = some (u8v (xs.getD j 0))) :
    Calls Try.prog 14 #[.slice (some ⟨g, 0, none⟩) xs.length cap, .int .u8 (m : Nat)] w fun e w' => e = .returned (.slice (some ⟨w.heap.size, 0, none⟩) (xs.length + 80) (xs.length + 80)) ∧ Row5 w' w.heap.size (room xs m 80) ∧ Kp w w' := by
  have HC : Hid (∀ j, j < xs.length → w.cell? ⟨g, j, none⟩ = some (u8v (xs.getD j 0))) := hc
  clear hc
  obtain ⟨n, hn⟩ : ∃ n, xs.length = n := ⟨_, rfl⟩
  have HN : Hid (xs.length = n) := hn
  rw [hn] at hx ⊢
  clear hn
  obtain ⟨i5, h5, z5, s5, b5⟩ := info5
  go_enter Try.func14, Try.ntmps14
  go_wp2_with (at_make; go_must (refine wpList_make_full _ (by rfl) _ _ 33 (by rfl) w.heap.size 5 i5 (.int .u8 0) 1 Try.underlying33 h5 z5 s5 .i64 .i64 _ _ (n + 80) (by rfl) (by rfl) ?e1 ?e2 ?e3 ?e4 (Nat.le_refl _) ?_))
  case e1 => omega
  case e2 => omega
  case e3 => rw [b5]; omega
  case e4 => unfold maxLen; omega
  intro w1 hO hG
  have R1 : Row5 w1 w.heap.size (List.replicate (n + 80) (u8v 0)) := row_made hO
  have K1 : Below w.heap.size w w1 := (Below.refl _ _).grown hG (Nat.le_refl _) (fun k hk => by cases hk)
  have HC1 : Hid (∀ j, j < xs.length → w1.cell? ⟨g, j, none⟩ = some (u8v (xs.getD j 0))) := fun j hj => (K1.cell (p := ⟨g, j, none⟩) hg).trans (HC.out j hj)
  clear hO hG HC
  obtain ⟨cs, hcs⟩ : ∃ cs, xs.map u8v = cs := ⟨_, rfl⟩
  have HCS : Hid (xs.map u8v = cs) := hcs
  have hcl : Hid (cs.length = n) := by show _ = _; rw [← hcs, List.length_map]; exact HN.out
  clear hcs
  go_wp2_with (refine wpList_copy_splice (by rfl) _ _ 33 33 (by rfl) 5 Try.underlying33 (by kernel_rfl) _ _ _ _ _ _ (by rfl) (by rfl) w.heap.size 0 (List.replicate (n + 80) (u8v 0)) 5 R1 cs ?e1 ?e2 ?e3 ?e4 w.heap.size w K1 (Nat.le_refl _) ?_)
  case e1 => rw [hcl.out]; exact (Nat.min_eq_left (by omega)).symm
  case e2 =>
    intro _ j v hj
    rw [← HCS.out, List.getElem?_map] at hj
    have hjl : j < xs.length := by
      rcases Nat.lt_or_ge j xs.length with h | h
      · exact h
      · rw [List.getElem?_eq_none h] at hj; cases hj
    rw [List.getElem?_eq_getElem hjl] at hj
    have := HC1.out j hjl
    rw [List.getD_eq_getElem?_getD, List.getElem?_eq_getElem hjl] at this
    simp at hj
    subst hj
    exact this
  case e3 => rw [hcl.out]; simp
  case e4 =>
    intro v hv
    rw [← HCS.out] at hv
    obtain ⟨x, _, rfl⟩ := List.mem_map.1 hv
    rfl
  intro w2 hR2 hB2
  have R2 : Hid (Row5 w2 w.heap.size (room xs m 0)) := by
    have h := hR2.out
    rw [← HCS.out, ← HN.out, splice_room xs m] at h
    exact h
  have K2 : Hid (Kp w w2) := hB2
  clear hR2 hB2 R1 K1 HC1 HCS hcl
  go_wp2_with fail
  go_loopw [6] (fun i wr => ∃ k : Nat, k ≤ 80 ∧ i = .int .i64 ((n + k : Nat) : Int) ∧ Row5 wr w.heap.size (room xs m k) ∧ Kp w wr) (fun i _ => n + 80 - (intOf i).toNat)
  case atStart => exact ⟨0, by omega, by simp, R2.out, K2.out⟩
  case round =>
    obtain ⟨k, hk, rfl, hR, hK⟩ := hrel
    by_cases hlt : k < 80
    · obtain ⟨j, hj⟩ : ∃ j, n + k = j := ⟨_, rfl⟩
      rw [hj]
      have hc : wr.cell? ⟨w.heap.size, j, none⟩ = (room xs m k)[j]? := hR.cell j
      have hl := HN.out
      rw [room_at xs m k j (by omega)] at hc
      clear hl
      have hf := hR.frozen j
      have HJ : Hid (n + k = j) := hj
      have hj1 : j < n + 80 := by omega
      have hj2 : (j : Int) < (n : Int) + 80 := by omega
      have HR : Hid (Row5 wr w.heap.size (room xs m k)) := hR
      have HK : Hid (Kp w wr) := hK
      clear hR hK hj R2 K2
      go_wp2_with fail
      have hjk := HJ.out
      have hnl := HN.out
      refine ⟨⟨k + 1, by omega, ?_, ?_, HK.out.setCell (Nat.le_refl _) _⟩, by simp [intOf]; omega⟩
      · rw [show ((n + (k + 1) : Nat) : Int) = (j : Int) + 1 by omega]
      · rw [← room_set xs m k hlt, show xs.length + k = j by omega]
        exact HR.out.set j (u8v m)
    · obtain rfl : k = 80 := by omega
      have HR : Hid (Row5 wr w.heap.size (room xs m 80)) := hR
      have HK : Hid (Kp w wr) := hK
      clear hR hK R2 K2
      go_wp2
      go_ret
      exact ⟨rfl, HR.out, HK.out⟩

set_option maxRecDepth 100000 in
set_option maxHeartbeats 2000000 in
theorem same_any (n F g ca cb : Nat) (f : Nat → Nat) (w : World) (hn : n ≤ 20) (hF : F < w.heap.size) (hg : g < w.heap.size)
    (ha : ∀ j, j < n → w.cell? ⟨F, j, none⟩ = some (u8v (f j))) (hb : ∀ j, j < n → w.cell? ⟨g, j, none⟩ = some (u8v (f j))) :
    Calls Try.prog 30 #[.slice (some ⟨F, 0, none⟩) n ca, .slice (some ⟨g, 0, none⟩) n cb] w fun e w' => e = .returned (.bool true) ∧ Kp w w' := by
  have HA : Hid (∀ j, j < n → w.cell? ⟨F, j, none⟩ = some (u8v (f j))) := ha
  have HB : Hid (∀ j, j < n → w.cell? ⟨g, j, none⟩ = some (u8v (f j))) := hb
  clear ha hb
  go_enter Try.func30, Try.ntmps30
  go_wp2_with fail
  go_loopw [5] (fun i wr => ∃ k : Nat, k ≤ n ∧ i = .int .i64 k ∧ Kp w wr) (fun i _ => n - (intOf i).toNat)
  case atStart => exact ⟨0, by omega, rfl, Kp.refl _⟩
  case round =>
    obtain ⟨k, hk, rfl, hK⟩ := hrel
    by_cases hlt : k < n
    · have c1 : wr.cell? ⟨F, k, none⟩ = some (u8v (f k)) := (hK.cell (p := ⟨F, k, none⟩) hF).trans (HA.out k hlt)
      have c2 : wr.cell? ⟨g, k, none⟩ = some (u8v (f k)) := (hK.cell (p := ⟨g, k, none⟩) hg).trans (HB.out k hlt)
      have HK : Hid (Kp w wr) := hK
      have i1 : (0 : Int) ≤ (k : Int) := by omega
      have i2 : (k : Int) < (n : Int) := by omega
      clear HA HB hK
      go_wp2_with fail
      go_quiet (fail)
      go_wp2_with fail
      exact ⟨⟨k + 1, by omega, by go_num, HK.out.drewN _⟩, by simp [intOf]; omega⟩
    · obtain rfl : k = n := by omega
      have HK : Hid (Kp w wr) := hK
      clear HA HB hK
      go_wp2
      go_ret
      exact ⟨rfl, HK.out⟩

set_option maxRecDepth 100000 in
set_option maxHeartbeats 2000000 in
theorem intact_any (xs : List Nat) (hx : xs.length ≤ 20) (F g cap : Nat) (w : World) (hF : Row5 w F (room xs 7 80)) (hg : g < w.heap.size)
    (hc : ∀ j, j < xs.length → w.cell? ⟨g, j, none⟩ = some (u8v (xs.getD j 0))) :
    Calls Try.prog 20 #[.slice (some ⟨F, 0, none⟩) (xs.length + 80) (xs.length + 80), .slice (some ⟨g, 0, none⟩) xs.length cap, .int .u8 7] w fun e w' => e = .returned (.bool true) ∧ Kp w w' := by
  have HF : Hid (Row5 w F (room xs 7 80)) := hF
  have HC : Hid (∀ j, j < xs.length → w.cell? ⟨g, j, none⟩ = some (u8v (xs.getD j 0))) := hc
  have HL : Hid (∀ j, j < xs.length + 80 → w.cell? ⟨F, j, none⟩ = some (u8v (if j < xs.length then xs.getD j 0 else if j < xs.length + 80 then 7 else 0))) := fun j hj => (hF.cell j).trans (room_at xs 7 80 j hj)
  clear hF hc
  obtain ⟨n, hn⟩ : ∃ n, xs.length = n := ⟨_, rfl⟩
  have HN : Hid (xs.length = n) := hn
  rw [hn] at hx ⊢
  clear hn
  go_enter Try.func20, Try.ntmps20
  go_wp2_with fail
  refine (same_any n F g _ _ (fun j => xs.getD j 0) _ hx HF.out.lt hg ?_ ?_).mono ?_
  · intro j hj
    have hnl := HN.out
    have := HL.out j (by omega)
    rw [if_pos (by omega)] at this
    exact this
  · intro j hj
    have hnl := HN.out
    exact HC.out j (by omega)
  rintro e w1 ⟨rfl, k1⟩
  have HR1 : Hid (∀ j, n ≤ j → j < n + 80 → w1.cell? ⟨F, j, none⟩ = some (.int .u8 7)) := by
    intro j h1 h2
    have hnl := HN.out
    rw [k1.cell (p := ⟨F, j, none⟩) HF.out.lt, HL.out j (by omega), if_neg (by omega), if_pos (by omega)]
    rfl
  have K1 : Hid (Kp w w1) := k1
  clear k1 HL HC HF
  go_wp2_with fail
  go_loop [7] (fun i => ∃ k : Nat, n ≤ k ∧ k ≤ n + 80 ∧ i = .int .i64 k) (fun i => n + 80 - (intOf i).toNat)
  case atStart => exact ⟨n, by omega, by omega, rfl⟩
  case round =>
    obtain ⟨k, h1, h2, rfl⟩ := hrel
    by_cases hlt : k < n + 80
    · have c1 := HR1.out k h1 hlt
      have i2 : (k : Int) < (n : Int) + 80 := by omega
      clear HR1
      go_wp2_with fail
      go_round
      case rel => exact ⟨k + 1, by omega, by omega, by go_num⟩
      case measure => simp [intOf]; omega
    · obtain rfl : k = n + 80 := by omega
      clear HR1
      go_wp2
      go_ret
      exact ⟨rfl, K1.out⟩
end Go.Proofs.Ytfijmepkbflahaa
