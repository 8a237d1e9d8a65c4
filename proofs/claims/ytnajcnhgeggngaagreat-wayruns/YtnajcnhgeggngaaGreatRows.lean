/-
  No cell of these rows narrows 'for every input' (looked for: loops, veiled, ifaces, maps, wideKeys, modest, calm, conditions, laid).
  DERIVED. THE GIVEN ROWS OF THIS SEAT. 6 by the template 'for every input the law returns true; each argument reads behind the call as it read before'; 0 by the template 'total and deterministic' (their statements: YtnajcnhgeggngaaGreatTotals.lean).
  GIVEN WITH THE SEED: the statements are not yours to turn. If you find one false, say at which input.
  Laid BY PROGRAM, IN A SANDBOX (cutbox-rows.mjs): the forced cells as the released guide's own fill.sh prints them over the translation 9178e47276f8b975… (all of the seat's roots in one cut). By AI agents, Wed Nov 11 2026. No macro, syntax, notation, axiom, sorry.
-/
import Derived.Test.YtnajcnhgeggngaaGreatChecked
import GoSem.Claim
import GoSem.ClaimJoined
import GoSem.ClaimMapViews
import Derived.JoinedTies
import Derived.KernelRfl
namespace Go.Proofs.YtnajcnhgeggngaaGreat
/- THE CELL 'sum', in the pinned program and in every row, IS THE sha256 OF THE DUMP (.gsa) THAT YtnajcnhgeggngaaGreatProg.lean LOADS. Nothing in Lean hashes anything: it is a label: what it is worth is what the hold of that sum in a sandbox is worth. -/
noncomputable def Tryz.pinned : Pinned := { name := "ytnajcnhgeggngaagreat", sum := "9178e47276f8b9757f950febebc88c2430793d5e251e491afbb041f9766c9463", checked := Tryz.checked }
namespace Rows
def none {H : Type} : Left H := { results := [], args := [] }

/-- 'glosslaw5.WayRuns': WHATEVER THE INPUT: true; the input reads as it did. -/
def wayRunsSpec : ChangeSpec := { name := "wayRuns", fn := fun _ => fun
  | [] => { results := [.lit (.bool true)], args := [] }
  | _ => none }
def wayRunsRow : OpenClaim := { program := "ytnajcnhgeggngaagreat", sum := "9178e47276f8b9757f950febebc88c2430793d5e251e491afbb041f9766c9463", func := "gloss/glosslaw5.WayRuns", spec := "wayRuns", inPlace := ["internal/bytealg.IndexByteString", "internal/bytealg.IndexString"], unfollowed := true, recurses := true, named := ["internal/bytealg.MaxLen"], plainKeys := false, apart := false }
def WayRunsSaid : Prop := wayRunsRow.holds Tryz.pinned (OpenSpec.ofChange wayRunsSpec)

/-- ITS FALSE NEIGHBOUR: 'it returns false'. Refute it at one input. -/
def wayRunsWrong : ChangeSpec := { name := "wayRuns", fn := fun _ => fun
  | [] => { results := [.lit (.bool false)], args := [] }
  | _ => none }
def WayRunsWrongFalsely : Prop := wayRunsRow.holds Tryz.pinned (OpenSpec.ofChange wayRunsWrong)

/-- 'glosslaw5.WayTells': WHATEVER THE INPUT: true; the input reads as it did. -/
def wayTellsSpec : ChangeSpec := { name := "wayTells", fn := fun _ => fun
  | [d1, d2, d3, d4, d5, d6, d7] => { results := [.lit (.bool true)], args := [d1, d2, d3, d4, d5, d6, d7] }
  | _ => none }
def wayTellsRow : OpenClaim := { program := "ytnajcnhgeggngaagreat", sum := "9178e47276f8b9757f950febebc88c2430793d5e251e491afbb041f9766c9463", func := "gloss/glosslaw5.WayTells", spec := "wayTells", inPlace := ["internal/bytealg.IndexByteString", "internal/bytealg.IndexString"], unfollowed := true, recurses := true, named := ["internal/bytealg.MaxLen"], plainKeys := false, apart := false }
def WayTellsSaid : Prop := wayTellsRow.holds Tryz.pinned (OpenSpec.ofChange wayTellsSpec)

/-- ITS FALSE NEIGHBOUR: 'it returns false'. Refute it at one input. -/
def wayTellsWrong : ChangeSpec := { name := "wayTells", fn := fun _ => fun
  | [d1, d2, d3, d4, d5, d6, d7] => { results := [.lit (.bool false)], args := [d1, d2, d3, d4, d5, d6, d7] }
  | _ => none }
def WayTellsWrongFalsely : Prop := wayTellsRow.holds Tryz.pinned (OpenSpec.ofChange wayTellsWrong)

/-- 'glosslaw5.WayLaws': WHATEVER THE INPUT: true; the input reads as it did. -/
def wayLawsSpec : ChangeSpec := { name := "wayLaws", fn := fun _ => fun
  | [d1, d2, d3, d4] => { results := [.lit (.bool true)], args := [d1, d2, d3, d4] }
  | _ => none }
def wayLawsRow : OpenClaim := { program := "ytnajcnhgeggngaagreat", sum := "9178e47276f8b9757f950febebc88c2430793d5e251e491afbb041f9766c9463", func := "gloss/glosslaw5.WayLaws", spec := "wayLaws", inPlace := ["internal/bytealg.IndexByteString", "internal/bytealg.IndexString"], unfollowed := true, recurses := true, named := ["internal/bytealg.MaxLen"], plainKeys := false, apart := false }
def WayLawsSaid : Prop := wayLawsRow.holds Tryz.pinned (OpenSpec.ofChange wayLawsSpec)

/-- ITS FALSE NEIGHBOUR: 'it returns false'. Refute it at one input. -/
def wayLawsWrong : ChangeSpec := { name := "wayLaws", fn := fun _ => fun
  | [d1, d2, d3, d4] => { results := [.lit (.bool false)], args := [d1, d2, d3, d4] }
  | _ => none }
def WayLawsWrongFalsely : Prop := wayLawsRow.holds Tryz.pinned (OpenSpec.ofChange wayLawsWrong)

/-- 'glosslaw5.WayOnce': WHATEVER THE INPUT: true; the input reads as it did. -/
def wayOnceSpec : ChangeSpec := { name := "wayOnce", fn := fun _ => fun
  | [d1, d2, d3, d4] => { results := [.lit (.bool true)], args := [d1, d2, d3, d4] }
  | _ => none }
def wayOnceRow : OpenClaim := { program := "ytnajcnhgeggngaagreat", sum := "9178e47276f8b9757f950febebc88c2430793d5e251e491afbb041f9766c9463", func := "gloss/glosslaw5.WayOnce", spec := "wayOnce", inPlace := ["internal/bytealg.IndexByteString", "internal/bytealg.IndexString"], unfollowed := true, recurses := true, named := ["internal/bytealg.MaxLen"], plainKeys := false, apart := false }
def WayOnceSaid : Prop := wayOnceRow.holds Tryz.pinned (OpenSpec.ofChange wayOnceSpec)

/-- ITS FALSE NEIGHBOUR: 'it returns false'. Refute it at one input. -/
def wayOnceWrong : ChangeSpec := { name := "wayOnce", fn := fun _ => fun
  | [d1, d2, d3, d4] => { results := [.lit (.bool false)], args := [d1, d2, d3, d4] }
  | _ => none }
def WayOnceWrongFalsely : Prop := wayOnceRow.holds Tryz.pinned (OpenSpec.ofChange wayOnceWrong)

/-- 'glosslaw5.WayTimes': WHATEVER THE INPUT: true; the input reads as it did. -/
def wayTimesSpec : ChangeSpec := { name := "wayTimes", fn := fun _ => fun
  | [d1, d2, d3, d4] => { results := [.lit (.bool true)], args := [d1, d2, d3, d4] }
  | _ => none }
def wayTimesRow : OpenClaim := { program := "ytnajcnhgeggngaagreat", sum := "9178e47276f8b9757f950febebc88c2430793d5e251e491afbb041f9766c9463", func := "gloss/glosslaw5.WayTimes", spec := "wayTimes", inPlace := ["internal/bytealg.IndexByteString", "internal/bytealg.IndexString"], unfollowed := true, recurses := true, named := ["internal/bytealg.MaxLen"], plainKeys := false, apart := false }
def WayTimesSaid : Prop := wayTimesRow.holds Tryz.pinned (OpenSpec.ofChange wayTimesSpec)

/-- ITS FALSE NEIGHBOUR: 'it returns false'. Refute it at one input. -/
def wayTimesWrong : ChangeSpec := { name := "wayTimes", fn := fun _ => fun
  | [d1, d2, d3, d4] => { results := [.lit (.bool false)], args := [d1, d2, d3, d4] }
  | _ => none }
def WayTimesWrongFalsely : Prop := wayTimesRow.holds Tryz.pinned (OpenSpec.ofChange wayTimesWrong)

/-- 'glosslaw5.WayBack': WHATEVER THE INPUT: true; the input reads as it did. -/
def wayBackSpec : ChangeSpec := { name := "wayBack", fn := fun _ => fun
  | [d1, d2] => { results := [.lit (.bool true)], args := [d1, d2] }
  | _ => none }
def wayBackRow : OpenClaim := { program := "ytnajcnhgeggngaagreat", sum := "9178e47276f8b9757f950febebc88c2430793d5e251e491afbb041f9766c9463", func := "gloss/glosslaw5.WayBack", spec := "wayBack", inPlace := ["internal/bytealg.IndexByteString", "internal/bytealg.IndexString"], unfollowed := true, recurses := true, named := ["internal/bytealg.MaxLen"], plainKeys := false, apart := false }
def WayBackSaid : Prop := wayBackRow.holds Tryz.pinned (OpenSpec.ofChange wayBackSpec)

/-- ITS FALSE NEIGHBOUR: 'it returns false'. Refute it at one input. -/
def wayBackWrong : ChangeSpec := { name := "wayBack", fn := fun _ => fun
  | [d1, d2] => { results := [.lit (.bool false)], args := [d1, d2] }
  | _ => none }
def WayBackWrongFalsely : Prop := wayBackRow.holds Tryz.pinned (OpenSpec.ofChange wayBackWrong)

/- THE SECOND FORM. 'bulk': how many values and letters a reading holds, each counted each time it is reached (what is shared counts as often as it is met; a slice's spare places count too). A statement '..UptoSaid' is the law's where the arguments, and the package variables that the reading takes, are together of bulk at most 1048576: NARROWER than '..Said'. Prove '..Said' where nothing that the law and all that it calls make is longer than what came in: it says more and counts as full. Else prove '..UptoSaid'. A law counts once. -/
mutual
def uptoBulk {H : Type} : DataW H → Nat
  | .lit (.string bytes) => bytes.length + 1
  | .lit _ => 1
  | .nil => 1
  | .ptr d => uptoBulk d + 1
  | .slice elems spare => uptoBulkAll elems + uptoBulkAll spare + 1
  | .agg parts => uptoBulkAll parts + 1
  | .iface _ d => uptoBulk d + 1
  | .map entries => uptoBulkEntries entries + 1
  | .held _ => 1
def uptoBulkAll {H : Type} : List (DataW H) → Nat
  | [] => 0
  | d :: r => uptoBulk d + uptoBulkAll r
def uptoBulkEntries {H : Type} : List (Lit × DataW H) → Nat
  | [] => 0
  | x :: r => uptoBulkEntry x + uptoBulkEntries r
def uptoBulkEntry {H : Type} : Lit × DataW H → Nat
  | (.string bytes, d) => bytes.length + uptoBulk d + 1
  | (_, d) => uptoBulk d + 1
 end
def uptoSmall : (H : Type) → List (DataW H) → Bool := fun _ ds => decide (uptoBulkAll ds ≤ 1048576)
def OpenSpec.upto (s : _root_.Go.ChangeSpec) : _root_.Go.OpenSpec := { _root_.Go.OpenSpec.ofChange s with cond := some uptoSmall }

/-- 'glosslaw5.WayRuns', WHERE WHAT IT READS IS OF BULK AT MOST 1048576: true; the input reads as it did. -/
def wayRunsUptoRow : OpenClaim := { program := "ytnajcnhgeggngaagreat", sum := "9178e47276f8b9757f950febebc88c2430793d5e251e491afbb041f9766c9463", func := "gloss/glosslaw5.WayRuns", spec := "wayRuns", inPlace := ["internal/bytealg.IndexByteString", "internal/bytealg.IndexString"], unfollowed := true, recurses := true, named := ["internal/bytealg.MaxLen"], plainKeys := false, apart := false, narrowed := true }
def WayRunsUptoSaid : Prop := wayRunsUptoRow.holds Tryz.pinned (OpenSpec.upto wayRunsSpec)

/-- 'glosslaw5.WayTells', WHERE WHAT IT READS IS OF BULK AT MOST 1048576: true; the input reads as it did. -/
def wayTellsUptoRow : OpenClaim := { program := "ytnajcnhgeggngaagreat", sum := "9178e47276f8b9757f950febebc88c2430793d5e251e491afbb041f9766c9463", func := "gloss/glosslaw5.WayTells", spec := "wayTells", inPlace := ["internal/bytealg.IndexByteString", "internal/bytealg.IndexString"], unfollowed := true, recurses := true, named := ["internal/bytealg.MaxLen"], plainKeys := false, apart := false, narrowed := true }
def WayTellsUptoSaid : Prop := wayTellsUptoRow.holds Tryz.pinned (OpenSpec.upto wayTellsSpec)

/-- 'glosslaw5.WayLaws', WHERE WHAT IT READS IS OF BULK AT MOST 1048576: true; the input reads as it did. -/
def wayLawsUptoRow : OpenClaim := { program := "ytnajcnhgeggngaagreat", sum := "9178e47276f8b9757f950febebc88c2430793d5e251e491afbb041f9766c9463", func := "gloss/glosslaw5.WayLaws", spec := "wayLaws", inPlace := ["internal/bytealg.IndexByteString", "internal/bytealg.IndexString"], unfollowed := true, recurses := true, named := ["internal/bytealg.MaxLen"], plainKeys := false, apart := false, narrowed := true }
def WayLawsUptoSaid : Prop := wayLawsUptoRow.holds Tryz.pinned (OpenSpec.upto wayLawsSpec)

/-- 'glosslaw5.WayOnce', WHERE WHAT IT READS IS OF BULK AT MOST 1048576: true; the input reads as it did. -/
def wayOnceUptoRow : OpenClaim := { program := "ytnajcnhgeggngaagreat", sum := "9178e47276f8b9757f950febebc88c2430793d5e251e491afbb041f9766c9463", func := "gloss/glosslaw5.WayOnce", spec := "wayOnce", inPlace := ["internal/bytealg.IndexByteString", "internal/bytealg.IndexString"], unfollowed := true, recurses := true, named := ["internal/bytealg.MaxLen"], plainKeys := false, apart := false, narrowed := true }
def WayOnceUptoSaid : Prop := wayOnceUptoRow.holds Tryz.pinned (OpenSpec.upto wayOnceSpec)

/-- 'glosslaw5.WayTimes', WHERE WHAT IT READS IS OF BULK AT MOST 1048576: true; the input reads as it did. -/
def wayTimesUptoRow : OpenClaim := { program := "ytnajcnhgeggngaagreat", sum := "9178e47276f8b9757f950febebc88c2430793d5e251e491afbb041f9766c9463", func := "gloss/glosslaw5.WayTimes", spec := "wayTimes", inPlace := ["internal/bytealg.IndexByteString", "internal/bytealg.IndexString"], unfollowed := true, recurses := true, named := ["internal/bytealg.MaxLen"], plainKeys := false, apart := false, narrowed := true }
def WayTimesUptoSaid : Prop := wayTimesUptoRow.holds Tryz.pinned (OpenSpec.upto wayTimesSpec)

/-- 'glosslaw5.WayBack', WHERE WHAT IT READS IS OF BULK AT MOST 1048576: true; the input reads as it did. -/
def wayBackUptoRow : OpenClaim := { program := "ytnajcnhgeggngaagreat", sum := "9178e47276f8b9757f950febebc88c2430793d5e251e491afbb041f9766c9463", func := "gloss/glosslaw5.WayBack", spec := "wayBack", inPlace := ["internal/bytealg.IndexByteString", "internal/bytealg.IndexString"], unfollowed := true, recurses := true, named := ["internal/bytealg.MaxLen"], plainKeys := false, apart := false, narrowed := true }
def WayBackUptoSaid : Prop := wayBackUptoRow.holds Tryz.pinned (OpenSpec.upto wayBackSpec)

end Rows
end Go.Proofs.YtnajcnhgeggngaaGreat
