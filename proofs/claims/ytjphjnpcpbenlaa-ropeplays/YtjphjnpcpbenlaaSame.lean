/-
  Items held against each other; what the book's Same does on two slices of the same items.
-/
import Derived.Test.YtjphjnpcpbenlaaItems
namespace Go.Proofs.Ytjphjnpcpbenlaa
open Go.RowKit
attribute [local go_sem] run_store_complex

/-- An item as a value. -/
abbrev iv (x : It) : Value := .agg #[.int .i64 x.key, cx (x.l : Nat) (x.y : Nat)]

theorem eq_self (k : Int) (a b : Nat) (ha : a ≤ 1000000000) (hb : b ≤ 1000000000) (w : World) :
    (Op.equalIn 10000 29 (.agg #[.int .i64 k, cx (a : Nat) (b : Nat)]) (.agg #[.int .i64 k, cx (a : Nat) (b : Nat)])).run Try.prog w = .ok true w := by
  have u3 := Try.underlying3
  have a3 := Try.isAgg3
  have z3 := Try.sizeOf3
  have u4 := Try.underlying26
  have a4 := Try.isAgg26
  have z4 := Try.sizeOf26
  have ec : ∀ w, (Op.equalIn 9999 26 (cx (a : Nat) (b : Nat)) (cx (a : Nat) (b : Nat))).run Try.prog w = .ok true w := by
    intro w
    have e1 : Op.floatEq .f64 (F (a : Nat)) (F (a : Nat)) = true := by
      show (FloatKind.f64.format.order (F (a : Nat)) (F (a : Nat)) == some Ordering.eq) = true
      rw [show FloatKind.f64.format.order (F (a : Nat)) (F (a : Nat)) = some (compare (a : Int) (a : Int)) from F_order _ _ (small (by omega) (by omega)) (small (by omega) (by omega))]
      simp
    have e2 : Op.floatEq .f64 (F (b : Nat)) (F (b : Nat)) = true := by
      show (FloatKind.f64.format.order (F (b : Nat)) (F (b : Nat)) == some Ordering.eq) = true
      rw [show FloatKind.f64.format.order (F (b : Nat)) (F (b : Nat)) = some (compare (b : Int) (b : Int)) from F_order _ _ (small (by omega) (by omega)) (small (by omega) (by omega))]
      simp
    rw [show (9999 : Nat) = 9998 + 1 from rfl, Op.equalIn]
    simp only [Sem.run_bind, run_underlying Try.underlying26, Result.andThen_ok, if_true, e1, e2, Bool.and_self, Sem.run_pure]
  rw [show (10000 : Nat) = 9999 + 1 from rfl, Op.equalIn]
  simp only [Sem.run_bind, run_underlying Try.underlying29, Result.andThen_ok]
  go_simp

set_option maxHeartbeats 1000000 in
theorem same_rows (xs : List It) (B o c B' o' c' n : Nat) (w : World) (hn : xs.length = n) (h1 : Row w B o xs) (h2 : Row w B' o' xs) (hs : Sm xs) (hm : n ≤ 1000000) :
    Calls Try.prog 18 #[.slice (some ⟨B, o, none⟩) n c, .slice (some ⟨B', o', none⟩) n c'] w fun e w' => e = .returned (.bool true) ∧ Kp w w' := by
  have H : Hid (xs.length = n ∧ Row w B o xs ∧ Row w B' o' xs ∧ Sm xs) := ⟨hn, h1, h2, hs⟩
  clear hn h1 h2 hs
  go_enter Try.func18, Try.ntmps18
  go_wp2_with fail
  go_loopw [5] (fun i wr => ∃ (k d : Nat), k ≤ n ∧ i = .int .i64 k ∧ wr = w.drewN d) (fun i _ => n - (intOf i).toNat)
  case atStart => exact ⟨0, 0, Nat.zero_le _, rfl, rfl⟩
  case round =>
    obtain ⟨k, d, hk, rfl, rfl⟩ := hrel
    by_cases hlt : k < n
    · obtain ⟨x, hx⟩ : ∃ x, xs[k]? = some x := ⟨xs[k]'(by rw [H.out.1]; exact hlt), List.getElem?_eq_getElem _⟩
      obtain ⟨a0, a1⟩ := H.out.2.1 k x hx
      obtain ⟨b0, b1⟩ := H.out.2.2.1 k x hx
      have sx := H.out.2.2.2 x (List.mem_of_getElem? hx)
      have EQ := eq_self x.key x.l x.y (by omega) (by omega)
      have i0 : (0 : Int) ≤ (k : Int) := by omega
      have i1 : (k : Int) < (n : Int) := by omega
      clear hx sx
      go_wp2_with fail
      go_quiet (fail)
      go_wp2_with fail
      go_roundw
      case rel => exact ⟨k + 1, _, hlt, by go_num, rfl⟩
      case measure => simp [intOf]; omega
    · go_wp2_with fail
      go_ret
      exact ⟨rfl, (Kp.refl _).drewN _⟩

theorem same_nil (a b : Option Addr) (c c' : Nat) (w : World) :
    Calls Try.prog 18 #[.slice a 0 c, .slice b 0 c'] w fun e w' => e = .returned (.bool true) ∧ Kp w w' := by
  go_enter Try.func18, Try.ntmps18
  go_wp2
  refine wp_loop_rounds 1 ?_
  rw [rounds_succ]
  go_wp2
  go_ret
  exact ⟨rfl, Kp.refl _⟩

theorem same_any (v v' : Value) (xs : List It) (w : World) (h : Sl w v xs) (h' : Sl w v' xs) (hs : Sm xs) (hm : xs.length ≤ 1000000) :
    Calls Try.prog 18 #[v, v'] w fun e w' => e = .returned (.bool true) ∧ Kp w w' := by
  rcases h with ⟨B, o, cap, rfl, hr, h1, h2⟩ | ⟨rfl, rfl⟩
  · rcases h' with ⟨B', o', cap', rfl, hr', h1', h2'⟩ | ⟨rfl, rfl⟩
    · exact same_rows xs B o cap B' o' cap' xs.length w rfl hr hr' hs hm
    · exact same_nil _ _ _ _ w
  · rcases h' with ⟨B', o', cap', rfl, hr', h1', h2'⟩ | ⟨rfl, _⟩
    · exact same_nil _ _ _ _ w
    · exact same_nil _ _ _ _ w
end Go.Proofs.Ytjphjnpcpbenlaa
