/-
  No cell of these rows narrows 'for every input' (looked for: loops, veiled, ifaces, maps, wideKeys, modest, calm, conditions, laid).
  DERIVED. THE GIVEN ROWS OF THIS SEAT. 5 by the template 'for every input the law returns true; each argument reads behind the call as it read before'; 0 by the template 'total and deterministic' (their statements: YtjphjnpcpbenlaaTotals.lean).
  GIVEN WITH THE SEED: the statements are not yours to turn. If you find one false, say at which input.
  Laid BY PROGRAM, IN A SANDBOX (cutbox-rows.mjs): the forced cells as the released guide's own fill.sh prints them over the translation 213c82d307f14ace… (all of the seat's roots in one cut). By AI agents, Wed Nov 11 2026. No macro, syntax, notation, axiom, sorry.
-/
import Derived.Test.YtjphjnpcpbenlaaChecked
import GoSem.Claim
import GoSem.ClaimJoined
import GoSem.ClaimMapViews
import Derived.JoinedTies
import Derived.KernelRfl
namespace Go.Proofs.Ytjphjnpcpbenlaa
/- THE CELL 'sum', in the pinned program and in every row, IS THE sha256 OF THE DUMP (.gsa) THAT YtjphjnpcpbenlaaProg.lean LOADS. Nothing in Lean hashes anything: it is a label: what it is worth is what the hold of that sum in a sandbox is worth. -/
noncomputable def Try.pinned : Pinned := { name := "ytjphjnpcpbenlaa", sum := "213c82d307f14ace1f3dd7d0d3de1cd1f73802bdd48b08e162cf0b02c2f7fd9f", checked := Try.checked }
namespace Rows
def none {H : Type} : Left H := { results := [], args := [] }

/-- 'glosslaw3.RopeRuns': WHATEVER THE INPUT: true; the input reads as it did. -/
def ropeRunsSpec : ChangeSpec := { name := "ropeRuns", fn := fun _ => fun
  | [] => { results := [.lit (.bool true)], args := [] }
  | _ => none }
def ropeRunsRow : OpenClaim := { program := "ytjphjnpcpbenlaa", sum := "213c82d307f14ace1f3dd7d0d3de1cd1f73802bdd48b08e162cf0b02c2f7fd9f", func := "gloss/glosslaw3.RopeRuns", spec := "ropeRuns", recurses := true, apart := false }
def RopeRunsSaid : Prop := ropeRunsRow.holds Try.pinned (OpenSpec.ofChange ropeRunsSpec)

/-- ITS FALSE NEIGHBOUR: 'it returns false'. Refute it at one input. -/
def ropeRunsWrong : ChangeSpec := { name := "ropeRuns", fn := fun _ => fun
  | [] => { results := [.lit (.bool false)], args := [] }
  | _ => none }
def RopeRunsWrongFalsely : Prop := ropeRunsRow.holds Try.pinned (OpenSpec.ofChange ropeRunsWrong)

/-- 'glosslaw3.RopePlays': WHATEVER THE INPUT: true; the input reads as it did. -/
def ropePlaysSpec : ChangeSpec := { name := "ropePlays", fn := fun _ => fun
  | [d] => { results := [.lit (.bool true)], args := [d] }
  | _ => none }
def ropePlaysRow : OpenClaim := { program := "ytjphjnpcpbenlaa", sum := "213c82d307f14ace1f3dd7d0d3de1cd1f73802bdd48b08e162cf0b02c2f7fd9f", func := "gloss/glosslaw3.RopePlays", spec := "ropePlays", recurses := true, apart := false }
def RopePlaysSaid : Prop := ropePlaysRow.holds Try.pinned (OpenSpec.ofChange ropePlaysSpec)

/-- ITS FALSE NEIGHBOUR: 'it returns false'. Refute it at one input. -/
def ropePlaysWrong : ChangeSpec := { name := "ropePlays", fn := fun _ => fun
  | [d] => { results := [.lit (.bool false)], args := [d] }
  | _ => none }
def RopePlaysWrongFalsely : Prop := ropePlaysRow.holds Try.pinned (OpenSpec.ofChange ropePlaysWrong)

/-- 'glosslaw3.RopeParts': WHATEVER THE INPUT: true; the input reads as it did. -/
def ropePartsSpec : ChangeSpec := { name := "ropeParts", fn := fun _ => fun
  | [d1, d2, d3] => { results := [.lit (.bool true)], args := [d1, d2, d3] }
  | _ => none }
def ropePartsRow : OpenClaim := { program := "ytjphjnpcpbenlaa", sum := "213c82d307f14ace1f3dd7d0d3de1cd1f73802bdd48b08e162cf0b02c2f7fd9f", func := "gloss/glosslaw3.RopeParts", spec := "ropeParts", recurses := true, apart := false }
def RopePartsSaid : Prop := ropePartsRow.holds Try.pinned (OpenSpec.ofChange ropePartsSpec)

/-- ITS FALSE NEIGHBOUR: 'it returns false'. Refute it at one input. -/
def ropePartsWrong : ChangeSpec := { name := "ropeParts", fn := fun _ => fun
  | [d1, d2, d3] => { results := [.lit (.bool false)], args := [d1, d2, d3] }
  | _ => none }
def RopePartsWrongFalsely : Prop := ropePartsRow.holds Try.pinned (OpenSpec.ofChange ropePartsWrong)

/-- 'glosslaw3.RopeBig': WHATEVER THE INPUT: true; the input reads as it did. -/
def ropeBigSpec : ChangeSpec := { name := "ropeBig", fn := fun _ => fun
  | [d1, d2] => { results := [.lit (.bool true)], args := [d1, d2] }
  | _ => none }
def ropeBigRow : OpenClaim := { program := "ytjphjnpcpbenlaa", sum := "213c82d307f14ace1f3dd7d0d3de1cd1f73802bdd48b08e162cf0b02c2f7fd9f", func := "gloss/glosslaw3.RopeBig", spec := "ropeBig", recurses := true, apart := false }
def RopeBigSaid : Prop := ropeBigRow.holds Try.pinned (OpenSpec.ofChange ropeBigSpec)

/-- ITS FALSE NEIGHBOUR: 'it returns false'. Refute it at one input. -/
def ropeBigWrong : ChangeSpec := { name := "ropeBig", fn := fun _ => fun
  | [d1, d2] => { results := [.lit (.bool false)], args := [d1, d2] }
  | _ => none }
def RopeBigWrongFalsely : Prop := ropeBigRow.holds Try.pinned (OpenSpec.ofChange ropeBigWrong)

/-- 'glosslaw3.RopeShares': WHATEVER THE INPUT: true; the input reads as it did. -/
def ropeSharesSpec : ChangeSpec := { name := "ropeShares", fn := fun _ => fun
  | [d1, d2, d3] => { results := [.lit (.bool true)], args := [d1, d2, d3] }
  | _ => none }
def ropeSharesRow : OpenClaim := { program := "ytjphjnpcpbenlaa", sum := "213c82d307f14ace1f3dd7d0d3de1cd1f73802bdd48b08e162cf0b02c2f7fd9f", func := "gloss/glosslaw3.RopeShares", spec := "ropeShares", recurses := true, apart := false }
def RopeSharesSaid : Prop := ropeSharesRow.holds Try.pinned (OpenSpec.ofChange ropeSharesSpec)

/-- ITS FALSE NEIGHBOUR: 'it returns false'. Refute it at one input. -/
def ropeSharesWrong : ChangeSpec := { name := "ropeShares", fn := fun _ => fun
  | [d1, d2, d3] => { results := [.lit (.bool false)], args := [d1, d2, d3] }
  | _ => none }
def RopeSharesWrongFalsely : Prop := ropeSharesRow.holds Try.pinned (OpenSpec.ofChange ropeSharesWrong)

/- THE SECOND FORM. 'bulk': how many values and letters a reading holds, each counted each time it is reached (what is shared counts as often as it is met; a slice's spare places count too). A statement '..UptoSaid' is the law's where the arguments, and the package variables that the reading takes, are together of bulk at most 1048576: NARROWER than '..Said'. Prove '..Said' where nothing that the law and all that it calls make is longer than what came in: it says more and counts as full. Else prove '..UptoSaid'. A law counts once. -/
mutual
def uptoBulk {H : Type} : DataW H → Nat
  | .lit (.string bytes) => bytes.length + 1
  | .lit _ => 1
  | .nil => 1
  | .ptr d => uptoBulk d + 1
  | .slice elems spare => uptoBulkAll elems + uptoBulkAll spare + 1
  | .agg parts => uptoBulkAll parts + 1
  | .iface _ d => uptoBulk d + 1
  | .map entries => uptoBulkEntries entries + 1
  | .held _ => 1
def uptoBulkAll {H : Type} : List (DataW H) → Nat
  | [] => 0
  | d :: r => uptoBulk d + uptoBulkAll r
def uptoBulkEntries {H : Type} : List (Lit × DataW H) → Nat
  | [] => 0
  | x :: r => uptoBulkEntry x + uptoBulkEntries r
def uptoBulkEntry {H : Type} : Lit × DataW H → Nat
  | (.string bytes, d) => bytes.length + uptoBulk d + 1
  | (_, d) => uptoBulk d + 1
 end
def uptoSmall : (H : Type) → List (DataW H) → Bool := fun _ ds => decide (uptoBulkAll ds ≤ 1048576)
def OpenSpec.upto (s : _root_.Go.ChangeSpec) : _root_.Go.OpenSpec := { _root_.Go.OpenSpec.ofChange s with cond := some uptoSmall }

/-- 'glosslaw3.RopeRuns', WHERE WHAT IT READS IS OF BULK AT MOST 1048576: true; the input reads as it did. -/
def ropeRunsUptoRow : OpenClaim := { program := "ytjphjnpcpbenlaa", sum := "213c82d307f14ace1f3dd7d0d3de1cd1f73802bdd48b08e162cf0b02c2f7fd9f", func := "gloss/glosslaw3.RopeRuns", spec := "ropeRuns", recurses := true, apart := false, narrowed := true }
def RopeRunsUptoSaid : Prop := ropeRunsUptoRow.holds Try.pinned (OpenSpec.upto ropeRunsSpec)

/-- 'glosslaw3.RopePlays', WHERE WHAT IT READS IS OF BULK AT MOST 1048576: true; the input reads as it did. -/
def ropePlaysUptoRow : OpenClaim := { program := "ytjphjnpcpbenlaa", sum := "213c82d307f14ace1f3dd7d0d3de1cd1f73802bdd48b08e162cf0b02c2f7fd9f", func := "gloss/glosslaw3.RopePlays", spec := "ropePlays", recurses := true, apart := false, narrowed := true }
def RopePlaysUptoSaid : Prop := ropePlaysUptoRow.holds Try.pinned (OpenSpec.upto ropePlaysSpec)

/-- 'glosslaw3.RopeParts', WHERE WHAT IT READS IS OF BULK AT MOST 1048576: true; the input reads as it did. -/
def ropePartsUptoRow : OpenClaim := { program := "ytjphjnpcpbenlaa", sum := "213c82d307f14ace1f3dd7d0d3de1cd1f73802bdd48b08e162cf0b02c2f7fd9f", func := "gloss/glosslaw3.RopeParts", spec := "ropeParts", recurses := true, apart := false, narrowed := true }
def RopePartsUptoSaid : Prop := ropePartsUptoRow.holds Try.pinned (OpenSpec.upto ropePartsSpec)

/-- 'glosslaw3.RopeBig', WHERE WHAT IT READS IS OF BULK AT MOST 1048576: true; the input reads as it did. -/
def ropeBigUptoRow : OpenClaim := { program := "ytjphjnpcpbenlaa", sum := "213c82d307f14ace1f3dd7d0d3de1cd1f73802bdd48b08e162cf0b02c2f7fd9f", func := "gloss/glosslaw3.RopeBig", spec := "ropeBig", recurses := true, apart := false, narrowed := true }
def RopeBigUptoSaid : Prop := ropeBigUptoRow.holds Try.pinned (OpenSpec.upto ropeBigSpec)

/-- 'glosslaw3.RopeShares', WHERE WHAT IT READS IS OF BULK AT MOST 1048576: true; the input reads as it did. -/
def ropeSharesUptoRow : OpenClaim := { program := "ytjphjnpcpbenlaa", sum := "213c82d307f14ace1f3dd7d0d3de1cd1f73802bdd48b08e162cf0b02c2f7fd9f", func := "gloss/glosslaw3.RopeShares", spec := "ropeShares", recurses := true, apart := false, narrowed := true }
def RopeSharesUptoSaid : Prop := ropeSharesUptoRow.holds Try.pinned (OpenSpec.upto ropeSharesSpec)

end Rows
end Go.Proofs.Ytjphjnpcpbenlaa
