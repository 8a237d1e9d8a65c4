/-
  An argument of type []Ask: a slice of structs of three numbers.
-/
import Derived.Test.YtjphjnpcpbenlaaWalks
import Derived.ProofKit
import Derived.OpenShut
import Derived.Deep.Slices
import Derived.Deep.Strs
namespace Go.Proofs.Ytjphjnpcpbenlaa
open Go.ChangeShapes Go.WideShapes Go.ChangeAt Go.RowKit Go.Deep

theorem three (l : List Value) (h : l.length = 3) : ∃ a b c, l = [a, b, c] := by
  match l, h with
  | [a, b, c], _ => exact ⟨a, b, c, rfl⟩

theorem open_asks {H : Type} {enc : TypeId × Value → H} {W : World} {base : Nat} {v : Value} {d : DataW H} {ps : List MemPlace}
    (hv : Value.okWide Try.prog W .any base 39 v) (h : DataW.Trod enc Try.prog W 0 (fun _ => true) true 39 v d ps) :
    ∃ (a : Option Addr) (len cap : Nat), v = .slice a len cap ∧ ∀ j, j < len → ∃ (b o : Nat) (x y z : Int), a = some ⟨b, o, none⟩ ∧ W.cell? ⟨b, o + j * 3, none⟩ = some (.int .i64 x) ∧ W.cell? ⟨b, o + j * 3 + 1, none⟩ = some (.int .i64 y) ∧ W.cell? ⟨b, o + j * 3 + 2, none⟩ = some (.int .i64 z) ∧ (Lit.int .i64 x).wf = true ∧ (Lit.int .i64 y).wf = true ∧ (Lit.int .i64 z).wf = true := by
  obtain ⟨a0, len0, cap0, rfl⟩ := okWide_slice Try.underlying39 hv
  obtain ⟨fuel, hf⟩ := h
  rcases open_slice Try.underlying39 hf with ⟨hcs, _⟩ | ⟨a, len, cap, m, n, D, Pl, hcs, hb, hl, hm, hmm, _, hx⟩
  · simp [Value.cells] at hcs
    obtain ⟨rfl, rfl, rfl⟩ := hcs
    exact ⟨none, 0, 0, rfl, fun j hj => by omega⟩
  · simp [Value.cells] at hcs
    obtain ⟨rfl, rfl, rfl⟩ := hcs
    have hlm : len0 ≤ m := by rw [hmm]; split <;> omega
    refine ⟨_, len0, cap0, rfl, fun j hj => ?_⟩
    obtain ⟨cs', h1, h2⟩ := hx j (by omega)
    rw [show Try.prog.cellsOf 41 = 3 from by kernel_rfl] at h1
    obtain ⟨hnone, hlen, hcell⟩ := World.cells?_some h1
    obtain ⟨v0, v1, v2, rfl⟩ := three cs' hlen
    obtain ⟨y0, y1, y2, k, _, _, g0, g1, g2⟩ := trod_struct3 Try.underlying41 h2
    have c3 : Try.prog.cellsOf 3 = 1 := by kernel_rfl
    simp [c3] at g0 g1 g2
    obtain ⟨x, e0, _, w0⟩ := DataW.trod_int Try.underlying3 g0
    obtain ⟨y, e1, _, w1⟩ := DataW.trod_int Try.underlying3 g1
    obtain ⟨z, e2, _, w2⟩ := DataW.trod_int Try.underlying3 g2
    simp only [List.cons.injEq, and_true] at e0 e1 e2
    subst e0 e1 e2
    have h0 := hcell 0 (by omega)
    have h1' := hcell 1 (by omega)
    have h2' := hcell 2 (by omega)
    obtain ⟨b, o, inner⟩ := a
    have hs : inner = none := by
      obtain ⟨cs0, k1, _⟩ := hx 0 (by omega)
      rw [show Try.prog.cellsOf 41 = 3 from by kernel_rfl] at k1
      obtain ⟨_, kl, kc⟩ := World.cells?_some k1
      obtain ⟨u0, u1, u2, rfl⟩ := three cs0 kl
      simpa [Addr.add] using World.cell?_spot (show W.cell? _ = some u0 from kc 0 (by omega))
    subst hs
    simp only [add_plain] at h0 h1' h2'
    exact ⟨b, o, x, y, z, rfl, h0, h1', h2', w0, w1, w2⟩
end Go.Proofs.Ytjphjnpcpbenlaa
