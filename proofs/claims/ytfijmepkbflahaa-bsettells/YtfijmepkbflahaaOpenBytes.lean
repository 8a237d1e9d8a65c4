/-
  An argument of type []byte.
-/
import Derived.Test.YtfijmepkbflahaaBytes
import Derived.ProofKit
import Derived.OpenShut
namespace Go.Proofs.Ytfijmepkbflahaa
open Go.ChangeShapes Go.WideShapes Go.ChangeAt Go.RowKit

theorem open_bytes {H : Type} {enc : TypeId × Value → H} {W : World} {base : Nat} {v : Value} {d : DataW H} {ps : List MemPlace}
    (hv : Value.okWide Try.prog W .any base 33 v) (h : DataW.Trod enc Try.prog W 0 (fun _ => true) true 33 v d ps) :
    ∃ (a : Option Addr) (len cap b o : Nat) (z : Nat → Nat), v = .slice a len cap ∧ len ≤ cap ∧ (0 < len → a = some ⟨b, o, none⟩ ∧ b < W.heap.size) ∧ (∀ j, z j < 256) ∧ ∀ j, j < len → W.cell? ⟨b, o + j, none⟩ = some (u8v (z j)) := by
  obtain ⟨a0, len0, cap0, rfl⟩ := okWide_slice Try.underlying33 hv
  obtain ⟨fuel, hf⟩ := h
  rcases open_ints Try.underlying33 Try.underlying5 (by kernel_rfl) hf with ⟨hcs, _⟩ | ⟨x, l, c, zs, hcs, _, hl, hm, hz, _, hcell, hwz⟩
  · simp [Value.cells] at hcs
    obtain ⟨rfl, rfl, rfl⟩ := hcs
    exact ⟨none, 0, 0, 0, 0, fun _ => 0, rfl, Nat.le_refl _, fun h => by omega, fun _ => (by decide : (0 : Nat) < 256), fun j hj => by omega⟩
  · simp [Value.cells] at hcs
    obtain ⟨rfl, rfl, rfl⟩ := hcs
    have hlen : len0 ≤ zs.length := by
      have : zs.length = cap0 := by simpa using hz
      omega
    have hb : ∀ j, 0 ≤ zs.getD j 0 ∧ zs.getD j 0 ≤ 255 := by
      intro j
      have := range_u8 hwz j
      rw [List.getD_eq_getElem?_getD]
      exact this
    have hz8 : ∀ j, (zs.getD j 0).toNat < 256 := fun j => by have := hb j; omega
    by_cases h0 : 0 < zs.length
    · obtain ⟨b, off, rfl, hc⟩ := ints_at hcell h0
      refine ⟨_, len0, cap0, b, off, fun j => (zs.getD j 0).toNat, rfl, hl, fun _ => ⟨rfl, World.block_lt_of_cell? W _ (hc 0 h0)⟩, hz8, fun j hj => ?_⟩
      rw [hc j (by omega)]
      have := (hb j).1
      show some (Value.int .u8 _) = some (Value.int .u8 _)
      rw [Int.toNat_of_nonneg this]
    · exact ⟨_, len0, cap0, 0, 0, fun j => (zs.getD j 0).toNat, rfl, hl, fun h => by omega, hz8, fun j hj => by omega⟩
end Go.Proofs.Ytfijmepkbflahaa
