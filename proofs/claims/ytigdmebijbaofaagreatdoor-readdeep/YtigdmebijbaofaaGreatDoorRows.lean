/-
  NARROWER THAN 'FOR EVERY INPUT', by the rows' own cells (each row's printed sentence says how): CmdRuns: laid · CmdTells: loops, laid · CmdTurned: laid · CmdOne: laid · CmdLabels: laid · CmdAddrs: laid · ReadRuns: laid · ReadBack: laid · ReadLoose: laid · ReadOnly: laid · ReadDeep: laid · ReadTexts: laid · ReadNumbers: laid · ProgRuns: laid · ProgTells: laid · ProgRefuses: laid · ProgJumps: laid · ProgCopies: laid.
  DERIVED. THE GIVEN ROWS OF THIS SEAT. 18 by the template 'for every input the law returns true; each argument reads behind the call as it read before'; 0 by the template 'total and deterministic' (their statements: YtigdmebijbaofaaGreatDoorTotals.lean).
  GIVEN WITH THE SEED: the statements are not yours to turn. If you find one false, say at which input.
  Laid BY PROGRAM, IN A SANDBOX (cutbox-rows.mjs): the forced cells as the released guide's own fill.sh prints them over the translation 6bb37b07c7e626ae… (all of the seat's roots in one cut). By AI agents, Wed Nov 11 2026. No macro, syntax, notation, axiom, sorry.
-/
import Derived.Test.YtigdmebijbaofaaGreatDoorChecked
import GoSem.Claim
import GoSem.ClaimJoined
import GoSem.ClaimMapViews
import Derived.JoinedTies
import Derived.KernelRfl
namespace Go.Proofs.YtigdmebijbaofaaGreatDoor
/- THE CELL 'sum', in the pinned program and in every row, IS THE sha256 OF THE DUMP (.gsa) THAT YtigdmebijbaofaaGreatDoorProg.lean LOADS. Nothing in Lean hashes anything: it is a label: what it is worth is what the hold of that sum in a sandbox is worth. -/
noncomputable def Tryz.pinned : Pinned := { name := "ytigdmebijbaofaagreatdoor", sum := "6bb37b07c7e626aeb2399cee6a520d259c8a62903953264288d1f65e43793d35", checked := Tryz.checked }
namespace Rows
def none {H : Type} : Left H := { results := [], args := [] }

/- WHAT THE LISTED PACKAGE-LEVEL VARIABLES READ AS WHEN THE CALL BEGINS. Each datum BY PROGRAM (the guide's laid-datum.mjs) off the statement by which the dump's own 'gosem.cut.vars' lays the variable. In a bare row this is a premise. The card (YtigdmebijbaofaaGreatDoorCards.lean) ties it to the program's text. -/
def laid_math_bits_deBruijn32tab {H : Type} : DataW H := .agg [.lit (.int .u8 0), .lit (.int .u8 1), .lit (.int .u8 28), .lit (.int .u8 2), .lit (.int .u8 29), .lit (.int .u8 14), .lit (.int .u8 24), .lit (.int .u8 3), .lit (.int .u8 30), .lit (.int .u8 22), .lit (.int .u8 20), .lit (.int .u8 15), .lit (.int .u8 25), .lit (.int .u8 17), .lit (.int .u8 4), .lit (.int .u8 8), .lit (.int .u8 31), .lit (.int .u8 27), .lit (.int .u8 13), .lit (.int .u8 23), .lit (.int .u8 21), .lit (.int .u8 19), .lit (.int .u8 16), .lit (.int .u8 7), .lit (.int .u8 26), .lit (.int .u8 12), .lit (.int .u8 18), .lit (.int .u8 6), .lit (.int .u8 11), .lit (.int .u8 5), .lit (.int .u8 10), .lit (.int .u8 9)]
def laid_math_bits_deBruijn64tab {H : Type} : DataW H := .agg [.lit (.int .u8 0), .lit (.int .u8 1), .lit (.int .u8 56), .lit (.int .u8 2), .lit (.int .u8 57), .lit (.int .u8 49), .lit (.int .u8 28), .lit (.int .u8 3), .lit (.int .u8 61), .lit (.int .u8 58), .lit (.int .u8 42), .lit (.int .u8 50), .lit (.int .u8 38), .lit (.int .u8 29), .lit (.int .u8 17), .lit (.int .u8 4), .lit (.int .u8 62), .lit (.int .u8 47), .lit (.int .u8 59), .lit (.int .u8 36), .lit (.int .u8 45), .lit (.int .u8 43), .lit (.int .u8 51), .lit (.int .u8 22), .lit (.int .u8 53), .lit (.int .u8 39), .lit (.int .u8 33), .lit (.int .u8 30), .lit (.int .u8 24), .lit (.int .u8 18), .lit (.int .u8 12), .lit (.int .u8 5), .lit (.int .u8 63), .lit (.int .u8 55), .lit (.int .u8 48), .lit (.int .u8 27), .lit (.int .u8 60), .lit (.int .u8 41), .lit (.int .u8 37), .lit (.int .u8 16), .lit (.int .u8 46), .lit (.int .u8 35), .lit (.int .u8 44), .lit (.int .u8 21), .lit (.int .u8 52), .lit (.int .u8 32), .lit (.int .u8 23), .lit (.int .u8 11), .lit (.int .u8 54), .lit (.int .u8 26), .lit (.int .u8 40), .lit (.int .u8 15), .lit (.int .u8 34), .lit (.int .u8 20), .lit (.int .u8 31), .lit (.int .u8 10), .lit (.int .u8 25), .lit (.int .u8 14), .lit (.int .u8 19), .lit (.int .u8 9), .lit (.int .u8 13), .lit (.int .u8 8), .lit (.int .u8 7), .lit (.int .u8 6)]
def laid_internal_strconv_uint64pow10 {H : Type} : DataW H := .agg [.lit (.int .u64 1), .lit (.int .u64 10), .lit (.int .u64 100), .lit (.int .u64 1000), .lit (.int .u64 10000), .lit (.int .u64 100000), .lit (.int .u64 1000000), .lit (.int .u64 10000000), .lit (.int .u64 100000000), .lit (.int .u64 1000000000), .lit (.int .u64 10000000000), .lit (.int .u64 100000000000), .lit (.int .u64 1000000000000), .lit (.int .u64 10000000000000), .lit (.int .u64 100000000000000), .lit (.int .u64 1000000000000000), .lit (.int .u64 10000000000000000), .lit (.int .u64 100000000000000000), .lit (.int .u64 1000000000000000000), .lit (.int .u64 10000000000000000000)]

/-- 'glosslaw8.CmdRuns': WHATEVER THE INPUT: true; the input reads as it did. -/
def cmdRunsSpec : ChangeSpec := { name := "cmdRuns", fn := fun _ => fun
  | [] => { results := [.lit (.bool true)], args := [] }
  | _ => none }
def cmdRunsRow : OpenClaim := { program := "ytigdmebijbaofaagreatdoor", sum := "6bb37b07c7e626aeb2399cee6a520d259c8a62903953264288d1f65e43793d35", func := "gloss/glosslaw8.CmdRuns", spec := "cmdRuns", inPlace := ["internal/bytealg.IndexByteString", "internal/bytealg.IndexString", "internal/abi.NoEscape", "internal/bytealg.MakeNoZero"], unfollowed := true, recurses := true, named := ["internal/bytealg.MaxLen", "internal/strconv.uint64pow10", "math/bits.deBruijn32tab", "math/bits.deBruijn64tab"], apart := false, laid := [("math/bits.deBruijn32tab", laid_math_bits_deBruijn32tab), ("math/bits.deBruijn64tab", laid_math_bits_deBruijn64tab), ("internal/strconv.uint64pow10", laid_internal_strconv_uint64pow10)] }
def CmdRunsSaid : Prop := cmdRunsRow.holds Tryz.pinned (OpenSpec.ofChange cmdRunsSpec)

/-- ITS FALSE NEIGHBOUR: 'it returns false'. Refute it at one input. -/
def cmdRunsWrong : ChangeSpec := { name := "cmdRuns", fn := fun _ => fun
  | [] => { results := [.lit (.bool false)], args := [] }
  | _ => none }
def CmdRunsWrongFalsely : Prop := cmdRunsRow.holds Tryz.pinned (OpenSpec.ofChange cmdRunsWrong)

/-- 'glosslaw8.CmdTells': WHATEVER THE INPUT: true; the input reads as it did. -/
def cmdTellsSpec : ChangeSpec := { name := "cmdTells", fn := fun _ => fun
  | [d1, d2, d3, d4, d5] => { results := [.lit (.bool true)], args := [d1, d2, d3, d4, d5] }
  | _ => none }
def cmdTellsRow : OpenClaim := { program := "ytigdmebijbaofaagreatdoor", sum := "6bb37b07c7e626aeb2399cee6a520d259c8a62903953264288d1f65e43793d35", func := "gloss/glosslaw8.CmdTells", spec := "cmdTells", inPlace := ["internal/abi.NoEscape", "internal/bytealg.MakeNoZero", "internal/bytealg.IndexByteString", "internal/bytealg.IndexString"], unfollowed := true, recurses := true, named := ["internal/strconv.uint64pow10", "math/bits.deBruijn32tab", "math/bits.deBruijn64tab", "internal/bytealg.MaxLen"], loops := true, apart := false, laid := [("math/bits.deBruijn32tab", laid_math_bits_deBruijn32tab), ("math/bits.deBruijn64tab", laid_math_bits_deBruijn64tab), ("internal/strconv.uint64pow10", laid_internal_strconv_uint64pow10)] }
def CmdTellsSaid : Prop := cmdTellsRow.holds Tryz.pinned (OpenSpec.ofChange cmdTellsSpec)

/-- ITS FALSE NEIGHBOUR: 'it returns false'. Refute it at one input. -/
def cmdTellsWrong : ChangeSpec := { name := "cmdTells", fn := fun _ => fun
  | [d1, d2, d3, d4, d5] => { results := [.lit (.bool false)], args := [d1, d2, d3, d4, d5] }
  | _ => none }
def CmdTellsWrongFalsely : Prop := cmdTellsRow.holds Tryz.pinned (OpenSpec.ofChange cmdTellsWrong)

/-- 'glosslaw8.CmdTurned': WHATEVER THE INPUT: true; the input reads as it did. -/
def cmdTurnedSpec : ChangeSpec := { name := "cmdTurned", fn := fun _ => fun
  | [d1, d2, d3] => { results := [.lit (.bool true)], args := [d1, d2, d3] }
  | _ => none }
def cmdTurnedRow : OpenClaim := { program := "ytigdmebijbaofaagreatdoor", sum := "6bb37b07c7e626aeb2399cee6a520d259c8a62903953264288d1f65e43793d35", func := "gloss/glosslaw8.CmdTurned", spec := "cmdTurned", inPlace := ["internal/abi.NoEscape", "internal/bytealg.MakeNoZero", "internal/bytealg.IndexByteString", "internal/bytealg.IndexString"], unfollowed := true, recurses := true, named := ["internal/strconv.uint64pow10", "math/bits.deBruijn32tab", "math/bits.deBruijn64tab", "internal/bytealg.MaxLen"], apart := false, laid := [("math/bits.deBruijn32tab", laid_math_bits_deBruijn32tab), ("math/bits.deBruijn64tab", laid_math_bits_deBruijn64tab), ("internal/strconv.uint64pow10", laid_internal_strconv_uint64pow10)] }
def CmdTurnedSaid : Prop := cmdTurnedRow.holds Tryz.pinned (OpenSpec.ofChange cmdTurnedSpec)

/-- ITS FALSE NEIGHBOUR: 'it returns false'. Refute it at one input. -/
def cmdTurnedWrong : ChangeSpec := { name := "cmdTurned", fn := fun _ => fun
  | [d1, d2, d3] => { results := [.lit (.bool false)], args := [d1, d2, d3] }
  | _ => none }
def CmdTurnedWrongFalsely : Prop := cmdTurnedRow.holds Tryz.pinned (OpenSpec.ofChange cmdTurnedWrong)

/-- 'glosslaw8.CmdOne': WHATEVER THE INPUT: true; the input reads as it did. -/
def cmdOneSpec : ChangeSpec := { name := "cmdOne", fn := fun _ => fun
  | [d1, d2, d3] => { results := [.lit (.bool true)], args := [d1, d2, d3] }
  | _ => none }
def cmdOneRow : OpenClaim := { program := "ytigdmebijbaofaagreatdoor", sum := "6bb37b07c7e626aeb2399cee6a520d259c8a62903953264288d1f65e43793d35", func := "gloss/glosslaw8.CmdOne", spec := "cmdOne", inPlace := ["internal/abi.NoEscape", "internal/bytealg.MakeNoZero", "internal/bytealg.IndexByteString", "internal/bytealg.IndexString"], unfollowed := true, recurses := true, named := ["internal/strconv.uint64pow10", "math/bits.deBruijn32tab", "math/bits.deBruijn64tab", "internal/bytealg.MaxLen"], apart := false, laid := [("math/bits.deBruijn32tab", laid_math_bits_deBruijn32tab), ("math/bits.deBruijn64tab", laid_math_bits_deBruijn64tab), ("internal/strconv.uint64pow10", laid_internal_strconv_uint64pow10)] }
def CmdOneSaid : Prop := cmdOneRow.holds Tryz.pinned (OpenSpec.ofChange cmdOneSpec)

/-- ITS FALSE NEIGHBOUR: 'it returns false'. Refute it at one input. -/
def cmdOneWrong : ChangeSpec := { name := "cmdOne", fn := fun _ => fun
  | [d1, d2, d3] => { results := [.lit (.bool false)], args := [d1, d2, d3] }
  | _ => none }
def CmdOneWrongFalsely : Prop := cmdOneRow.holds Tryz.pinned (OpenSpec.ofChange cmdOneWrong)

/-- 'glosslaw8.CmdLabels': WHATEVER THE INPUT: true; the input reads as it did. -/
def cmdLabelsSpec : ChangeSpec := { name := "cmdLabels", fn := fun _ => fun
  | [d1, d2, d3] => { results := [.lit (.bool true)], args := [d1, d2, d3] }
  | _ => none }
def cmdLabelsRow : OpenClaim := { program := "ytigdmebijbaofaagreatdoor", sum := "6bb37b07c7e626aeb2399cee6a520d259c8a62903953264288d1f65e43793d35", func := "gloss/glosslaw8.CmdLabels", spec := "cmdLabels", inPlace := ["internal/abi.NoEscape", "internal/bytealg.MakeNoZero", "internal/bytealg.IndexByteString", "internal/bytealg.IndexString"], unfollowed := true, recurses := true, named := ["internal/strconv.uint64pow10", "math/bits.deBruijn32tab", "math/bits.deBruijn64tab", "internal/bytealg.MaxLen"], apart := false, laid := [("math/bits.deBruijn32tab", laid_math_bits_deBruijn32tab), ("math/bits.deBruijn64tab", laid_math_bits_deBruijn64tab), ("internal/strconv.uint64pow10", laid_internal_strconv_uint64pow10)] }
def CmdLabelsSaid : Prop := cmdLabelsRow.holds Tryz.pinned (OpenSpec.ofChange cmdLabelsSpec)

/-- ITS FALSE NEIGHBOUR: 'it returns false'. Refute it at one input. -/
def cmdLabelsWrong : ChangeSpec := { name := "cmdLabels", fn := fun _ => fun
  | [d1, d2, d3] => { results := [.lit (.bool false)], args := [d1, d2, d3] }
  | _ => none }
def CmdLabelsWrongFalsely : Prop := cmdLabelsRow.holds Tryz.pinned (OpenSpec.ofChange cmdLabelsWrong)

/-- 'glosslaw8.CmdAddrs': WHATEVER THE INPUT: true; the input reads as it did. -/
def cmdAddrsSpec : ChangeSpec := { name := "cmdAddrs", fn := fun _ => fun
  | [d1, d2, d3, d4] => { results := [.lit (.bool true)], args := [d1, d2, d3, d4] }
  | _ => none }
def cmdAddrsRow : OpenClaim := { program := "ytigdmebijbaofaagreatdoor", sum := "6bb37b07c7e626aeb2399cee6a520d259c8a62903953264288d1f65e43793d35", func := "gloss/glosslaw8.CmdAddrs", spec := "cmdAddrs", inPlace := ["internal/abi.NoEscape", "internal/bytealg.MakeNoZero", "internal/bytealg.IndexByteString", "internal/bytealg.IndexString"], unfollowed := true, recurses := true, named := ["internal/strconv.uint64pow10", "math/bits.deBruijn32tab", "math/bits.deBruijn64tab", "internal/bytealg.MaxLen"], apart := false, laid := [("math/bits.deBruijn32tab", laid_math_bits_deBruijn32tab), ("math/bits.deBruijn64tab", laid_math_bits_deBruijn64tab), ("internal/strconv.uint64pow10", laid_internal_strconv_uint64pow10)] }
def CmdAddrsSaid : Prop := cmdAddrsRow.holds Tryz.pinned (OpenSpec.ofChange cmdAddrsSpec)

/-- ITS FALSE NEIGHBOUR: 'it returns false'. Refute it at one input. -/
def cmdAddrsWrong : ChangeSpec := { name := "cmdAddrs", fn := fun _ => fun
  | [d1, d2, d3, d4] => { results := [.lit (.bool false)], args := [d1, d2, d3, d4] }
  | _ => none }
def CmdAddrsWrongFalsely : Prop := cmdAddrsRow.holds Tryz.pinned (OpenSpec.ofChange cmdAddrsWrong)

/-- 'glosslaw9.ReadRuns': WHATEVER THE INPUT: true; the input reads as it did. -/
def readRunsSpec : ChangeSpec := { name := "readRuns", fn := fun _ => fun
  | [] => { results := [.lit (.bool true)], args := [] }
  | _ => none }
def readRunsRow : OpenClaim := { program := "ytigdmebijbaofaagreatdoor", sum := "6bb37b07c7e626aeb2399cee6a520d259c8a62903953264288d1f65e43793d35", func := "gloss/glosslaw9.ReadRuns", spec := "readRuns", inPlace := ["internal/bytealg.IndexByteString", "internal/abi.NoEscape", "internal/bytealg.MakeNoZero", "internal/bytealg.IndexString"], unfollowed := true, recurses := true, named := ["internal/strconv.uint64pow10", "math/bits.deBruijn32tab", "math/bits.deBruijn64tab", "internal/bytealg.MaxLen"], apart := false, laid := [("math/bits.deBruijn32tab", laid_math_bits_deBruijn32tab), ("math/bits.deBruijn64tab", laid_math_bits_deBruijn64tab), ("internal/strconv.uint64pow10", laid_internal_strconv_uint64pow10)] }
def ReadRunsSaid : Prop := readRunsRow.holds Tryz.pinned (OpenSpec.ofChange readRunsSpec)

/-- ITS FALSE NEIGHBOUR: 'it returns false'. Refute it at one input. -/
def readRunsWrong : ChangeSpec := { name := "readRuns", fn := fun _ => fun
  | [] => { results := [.lit (.bool false)], args := [] }
  | _ => none }
def ReadRunsWrongFalsely : Prop := readRunsRow.holds Tryz.pinned (OpenSpec.ofChange readRunsWrong)

/-- 'glosslaw9.ReadBack': WHATEVER THE INPUT: true; the input reads as it did. -/
def readBackSpec : ChangeSpec := { name := "readBack", fn := fun _ => fun
  | [d1, d2, d3, d4] => { results := [.lit (.bool true)], args := [d1, d2, d3, d4] }
  | _ => none }
def readBackRow : OpenClaim := { program := "ytigdmebijbaofaagreatdoor", sum := "6bb37b07c7e626aeb2399cee6a520d259c8a62903953264288d1f65e43793d35", func := "gloss/glosslaw9.ReadBack", spec := "readBack", inPlace := ["internal/abi.NoEscape", "internal/bytealg.MakeNoZero", "internal/bytealg.IndexByteString", "internal/bytealg.IndexString"], unfollowed := true, recurses := true, named := ["internal/strconv.uint64pow10", "math/bits.deBruijn32tab", "math/bits.deBruijn64tab", "internal/bytealg.MaxLen"], apart := false, laid := [("math/bits.deBruijn32tab", laid_math_bits_deBruijn32tab), ("math/bits.deBruijn64tab", laid_math_bits_deBruijn64tab), ("internal/strconv.uint64pow10", laid_internal_strconv_uint64pow10)] }
def ReadBackSaid : Prop := readBackRow.holds Tryz.pinned (OpenSpec.ofChange readBackSpec)

/-- ITS FALSE NEIGHBOUR: 'it returns false'. Refute it at one input. -/
def readBackWrong : ChangeSpec := { name := "readBack", fn := fun _ => fun
  | [d1, d2, d3, d4] => { results := [.lit (.bool false)], args := [d1, d2, d3, d4] }
  | _ => none }
def ReadBackWrongFalsely : Prop := readBackRow.holds Tryz.pinned (OpenSpec.ofChange readBackWrong)

/-- 'glosslaw9.ReadLoose': WHATEVER THE INPUT: true; the input reads as it did. -/
def readLooseSpec : ChangeSpec := { name := "readLoose", fn := fun _ => fun
  | [d1, d2, d3] => { results := [.lit (.bool true)], args := [d1, d2, d3] }
  | _ => none }
def readLooseRow : OpenClaim := { program := "ytigdmebijbaofaagreatdoor", sum := "6bb37b07c7e626aeb2399cee6a520d259c8a62903953264288d1f65e43793d35", func := "gloss/glosslaw9.ReadLoose", spec := "readLoose", inPlace := ["internal/bytealg.IndexByteString", "internal/abi.NoEscape", "internal/bytealg.MakeNoZero", "internal/bytealg.IndexString"], unfollowed := true, recurses := true, named := ["internal/strconv.uint64pow10", "math/bits.deBruijn32tab", "math/bits.deBruijn64tab", "internal/bytealg.MaxLen"], apart := false, laid := [("math/bits.deBruijn32tab", laid_math_bits_deBruijn32tab), ("math/bits.deBruijn64tab", laid_math_bits_deBruijn64tab), ("internal/strconv.uint64pow10", laid_internal_strconv_uint64pow10)] }
def ReadLooseSaid : Prop := readLooseRow.holds Tryz.pinned (OpenSpec.ofChange readLooseSpec)

/-- ITS FALSE NEIGHBOUR: 'it returns false'. Refute it at one input. -/
def readLooseWrong : ChangeSpec := { name := "readLoose", fn := fun _ => fun
  | [d1, d2, d3] => { results := [.lit (.bool false)], args := [d1, d2, d3] }
  | _ => none }
def ReadLooseWrongFalsely : Prop := readLooseRow.holds Tryz.pinned (OpenSpec.ofChange readLooseWrong)

/-- 'glosslaw9.ReadOnly': WHATEVER THE INPUT: true; the input reads as it did. -/
def readOnlySpec : ChangeSpec := { name := "readOnly", fn := fun _ => fun
  | [d1, d2, d3, d4, d5, d6] => { results := [.lit (.bool true)], args := [d1, d2, d3, d4, d5, d6] }
  | _ => none }
def readOnlyRow : OpenClaim := { program := "ytigdmebijbaofaagreatdoor", sum := "6bb37b07c7e626aeb2399cee6a520d259c8a62903953264288d1f65e43793d35", func := "gloss/glosslaw9.ReadOnly", spec := "readOnly", inPlace := ["internal/abi.NoEscape", "internal/bytealg.MakeNoZero", "internal/bytealg.IndexByteString", "internal/bytealg.IndexString"], unfollowed := true, recurses := true, named := ["internal/strconv.uint64pow10", "math/bits.deBruijn32tab", "math/bits.deBruijn64tab", "internal/bytealg.MaxLen"], apart := false, laid := [("math/bits.deBruijn32tab", laid_math_bits_deBruijn32tab), ("math/bits.deBruijn64tab", laid_math_bits_deBruijn64tab), ("internal/strconv.uint64pow10", laid_internal_strconv_uint64pow10)] }
def ReadOnlySaid : Prop := readOnlyRow.holds Tryz.pinned (OpenSpec.ofChange readOnlySpec)

/-- ITS FALSE NEIGHBOUR: 'it returns false'. Refute it at one input. -/
def readOnlyWrong : ChangeSpec := { name := "readOnly", fn := fun _ => fun
  | [d1, d2, d3, d4, d5, d6] => { results := [.lit (.bool false)], args := [d1, d2, d3, d4, d5, d6] }
  | _ => none }
def ReadOnlyWrongFalsely : Prop := readOnlyRow.holds Tryz.pinned (OpenSpec.ofChange readOnlyWrong)

/-- 'glosslaw9.ReadDeep': WHATEVER THE INPUT: true; the input reads as it did. -/
def readDeepSpec : ChangeSpec := { name := "readDeep", fn := fun _ => fun
  | [d1, d2] => { results := [.lit (.bool true)], args := [d1, d2] }
  | _ => none }
def readDeepRow : OpenClaim := { program := "ytigdmebijbaofaagreatdoor", sum := "6bb37b07c7e626aeb2399cee6a520d259c8a62903953264288d1f65e43793d35", func := "gloss/glosslaw9.ReadDeep", spec := "readDeep", inPlace := ["internal/bytealg.IndexByteString", "internal/abi.NoEscape", "internal/bytealg.MakeNoZero", "internal/bytealg.IndexString"], unfollowed := true, recurses := true, named := ["internal/strconv.uint64pow10", "math/bits.deBruijn32tab", "math/bits.deBruijn64tab", "internal/bytealg.MaxLen"], apart := false, laid := [("math/bits.deBruijn32tab", laid_math_bits_deBruijn32tab), ("math/bits.deBruijn64tab", laid_math_bits_deBruijn64tab), ("internal/strconv.uint64pow10", laid_internal_strconv_uint64pow10)] }
def ReadDeepSaid : Prop := readDeepRow.holds Tryz.pinned (OpenSpec.ofChange readDeepSpec)

/-- ITS FALSE NEIGHBOUR: 'it returns false'. Refute it at one input. -/
def readDeepWrong : ChangeSpec := { name := "readDeep", fn := fun _ => fun
  | [d1, d2] => { results := [.lit (.bool false)], args := [d1, d2] }
  | _ => none }
def ReadDeepWrongFalsely : Prop := readDeepRow.holds Tryz.pinned (OpenSpec.ofChange readDeepWrong)

/-- 'glosslaw9.ReadTexts': WHATEVER THE INPUT: true; the input reads as it did. -/
def readTextsSpec : ChangeSpec := { name := "readTexts", fn := fun _ => fun
  | [d1, d2, d3] => { results := [.lit (.bool true)], args := [d1, d2, d3] }
  | _ => none }
def readTextsRow : OpenClaim := { program := "ytigdmebijbaofaagreatdoor", sum := "6bb37b07c7e626aeb2399cee6a520d259c8a62903953264288d1f65e43793d35", func := "gloss/glosslaw9.ReadTexts", spec := "readTexts", inPlace := ["internal/abi.NoEscape", "internal/bytealg.MakeNoZero", "internal/bytealg.IndexByteString", "internal/bytealg.IndexString"], unfollowed := true, recurses := true, named := ["internal/strconv.uint64pow10", "math/bits.deBruijn32tab", "math/bits.deBruijn64tab", "internal/bytealg.MaxLen"], apart := false, laid := [("math/bits.deBruijn32tab", laid_math_bits_deBruijn32tab), ("math/bits.deBruijn64tab", laid_math_bits_deBruijn64tab), ("internal/strconv.uint64pow10", laid_internal_strconv_uint64pow10)] }
def ReadTextsSaid : Prop := readTextsRow.holds Tryz.pinned (OpenSpec.ofChange readTextsSpec)

/-- ITS FALSE NEIGHBOUR: 'it returns false'. Refute it at one input. -/
def readTextsWrong : ChangeSpec := { name := "readTexts", fn := fun _ => fun
  | [d1, d2, d3] => { results := [.lit (.bool false)], args := [d1, d2, d3] }
  | _ => none }
def ReadTextsWrongFalsely : Prop := readTextsRow.holds Tryz.pinned (OpenSpec.ofChange readTextsWrong)

/-- 'glosslaw9.ReadNumbers': WHATEVER THE INPUT: true; the input reads as it did. -/
def readNumbersSpec : ChangeSpec := { name := "readNumbers", fn := fun _ => fun
  | [d1, d2, d3] => { results := [.lit (.bool true)], args := [d1, d2, d3] }
  | _ => none }
def readNumbersRow : OpenClaim := { program := "ytigdmebijbaofaagreatdoor", sum := "6bb37b07c7e626aeb2399cee6a520d259c8a62903953264288d1f65e43793d35", func := "gloss/glosslaw9.ReadNumbers", spec := "readNumbers", inPlace := ["internal/bytealg.IndexByteString", "internal/abi.NoEscape", "internal/bytealg.MakeNoZero", "internal/bytealg.IndexString"], unfollowed := true, recurses := true, named := ["internal/strconv.uint64pow10", "math/bits.deBruijn32tab", "math/bits.deBruijn64tab", "internal/bytealg.MaxLen"], apart := false, laid := [("math/bits.deBruijn32tab", laid_math_bits_deBruijn32tab), ("math/bits.deBruijn64tab", laid_math_bits_deBruijn64tab), ("internal/strconv.uint64pow10", laid_internal_strconv_uint64pow10)] }
def ReadNumbersSaid : Prop := readNumbersRow.holds Tryz.pinned (OpenSpec.ofChange readNumbersSpec)

/-- ITS FALSE NEIGHBOUR: 'it returns false'. Refute it at one input. -/
def readNumbersWrong : ChangeSpec := { name := "readNumbers", fn := fun _ => fun
  | [d1, d2, d3] => { results := [.lit (.bool false)], args := [d1, d2, d3] }
  | _ => none }
def ReadNumbersWrongFalsely : Prop := readNumbersRow.holds Tryz.pinned (OpenSpec.ofChange readNumbersWrong)

/-- 'glosslaw10.ProgRuns': WHATEVER THE INPUT: true; the input reads as it did. -/
def progRunsSpec : ChangeSpec := { name := "progRuns", fn := fun _ => fun
  | [] => { results := [.lit (.bool true)], args := [] }
  | _ => none }
def progRunsRow : OpenClaim := { program := "ytigdmebijbaofaagreatdoor", sum := "6bb37b07c7e626aeb2399cee6a520d259c8a62903953264288d1f65e43793d35", func := "gloss/glosslaw10.ProgRuns", spec := "progRuns", inPlace := ["internal/bytealg.IndexByteString", "internal/abi.NoEscape", "internal/bytealg.MakeNoZero", "internal/bytealg.IndexString"], unfollowed := true, recurses := true, named := ["internal/strconv.uint64pow10", "math/bits.deBruijn32tab", "math/bits.deBruijn64tab", "internal/bytealg.MaxLen"], apart := false, laid := [("math/bits.deBruijn32tab", laid_math_bits_deBruijn32tab), ("math/bits.deBruijn64tab", laid_math_bits_deBruijn64tab), ("internal/strconv.uint64pow10", laid_internal_strconv_uint64pow10)] }
def ProgRunsSaid : Prop := progRunsRow.holds Tryz.pinned (OpenSpec.ofChange progRunsSpec)

/-- ITS FALSE NEIGHBOUR: 'it returns false'. Refute it at one input. -/
def progRunsWrong : ChangeSpec := { name := "progRuns", fn := fun _ => fun
  | [] => { results := [.lit (.bool false)], args := [] }
  | _ => none }
def ProgRunsWrongFalsely : Prop := progRunsRow.holds Tryz.pinned (OpenSpec.ofChange progRunsWrong)

/-- 'glosslaw10.ProgTells': WHATEVER THE INPUT: true; the input reads as it did. -/
def progTellsSpec : ChangeSpec := { name := "progTells", fn := fun _ => fun
  | [d1, d2, d3] => { results := [.lit (.bool true)], args := [d1, d2, d3] }
  | _ => none }
def progTellsRow : OpenClaim := { program := "ytigdmebijbaofaagreatdoor", sum := "6bb37b07c7e626aeb2399cee6a520d259c8a62903953264288d1f65e43793d35", func := "gloss/glosslaw10.ProgTells", spec := "progTells", inPlace := ["internal/abi.NoEscape", "internal/bytealg.MakeNoZero", "internal/bytealg.IndexByteString", "internal/bytealg.IndexString"], unfollowed := true, recurses := true, named := ["internal/strconv.uint64pow10", "math/bits.deBruijn32tab", "math/bits.deBruijn64tab", "internal/bytealg.MaxLen"], apart := false, laid := [("math/bits.deBruijn32tab", laid_math_bits_deBruijn32tab), ("math/bits.deBruijn64tab", laid_math_bits_deBruijn64tab), ("internal/strconv.uint64pow10", laid_internal_strconv_uint64pow10)] }
def ProgTellsSaid : Prop := progTellsRow.holds Tryz.pinned (OpenSpec.ofChange progTellsSpec)

/-- ITS FALSE NEIGHBOUR: 'it returns false'. Refute it at one input. -/
def progTellsWrong : ChangeSpec := { name := "progTells", fn := fun _ => fun
  | [d1, d2, d3] => { results := [.lit (.bool false)], args := [d1, d2, d3] }
  | _ => none }
def ProgTellsWrongFalsely : Prop := progTellsRow.holds Tryz.pinned (OpenSpec.ofChange progTellsWrong)

/-- 'glosslaw10.ProgRefuses': WHATEVER THE INPUT: true; the input reads as it did. -/
def progRefusesSpec : ChangeSpec := { name := "progRefuses", fn := fun _ => fun
  | [d1, d2, d3, d4] => { results := [.lit (.bool true)], args := [d1, d2, d3, d4] }
  | _ => none }
def progRefusesRow : OpenClaim := { program := "ytigdmebijbaofaagreatdoor", sum := "6bb37b07c7e626aeb2399cee6a520d259c8a62903953264288d1f65e43793d35", func := "gloss/glosslaw10.ProgRefuses", spec := "progRefuses", inPlace := ["internal/abi.NoEscape", "internal/bytealg.MakeNoZero", "internal/bytealg.IndexByteString", "internal/bytealg.IndexString"], unfollowed := true, recurses := true, named := ["internal/strconv.uint64pow10", "math/bits.deBruijn32tab", "math/bits.deBruijn64tab", "internal/bytealg.MaxLen"], apart := false, laid := [("math/bits.deBruijn32tab", laid_math_bits_deBruijn32tab), ("math/bits.deBruijn64tab", laid_math_bits_deBruijn64tab), ("internal/strconv.uint64pow10", laid_internal_strconv_uint64pow10)] }
def ProgRefusesSaid : Prop := progRefusesRow.holds Tryz.pinned (OpenSpec.ofChange progRefusesSpec)

/-- ITS FALSE NEIGHBOUR: 'it returns false'. Refute it at one input. -/
def progRefusesWrong : ChangeSpec := { name := "progRefuses", fn := fun _ => fun
  | [d1, d2, d3, d4] => { results := [.lit (.bool false)], args := [d1, d2, d3, d4] }
  | _ => none }
def ProgRefusesWrongFalsely : Prop := progRefusesRow.holds Tryz.pinned (OpenSpec.ofChange progRefusesWrong)

/-- 'glosslaw10.ProgJumps': WHATEVER THE INPUT: true; the input reads as it did. -/
def progJumpsSpec : ChangeSpec := { name := "progJumps", fn := fun _ => fun
  | [d1, d2] => { results := [.lit (.bool true)], args := [d1, d2] }
  | _ => none }
def progJumpsRow : OpenClaim := { program := "ytigdmebijbaofaagreatdoor", sum := "6bb37b07c7e626aeb2399cee6a520d259c8a62903953264288d1f65e43793d35", func := "gloss/glosslaw10.ProgJumps", spec := "progJumps", inPlace := ["internal/abi.NoEscape", "internal/bytealg.MakeNoZero", "internal/bytealg.IndexByteString", "internal/bytealg.IndexString"], unfollowed := true, recurses := true, named := ["internal/strconv.uint64pow10", "math/bits.deBruijn32tab", "math/bits.deBruijn64tab", "internal/bytealg.MaxLen"], apart := false, laid := [("math/bits.deBruijn32tab", laid_math_bits_deBruijn32tab), ("math/bits.deBruijn64tab", laid_math_bits_deBruijn64tab), ("internal/strconv.uint64pow10", laid_internal_strconv_uint64pow10)] }
def ProgJumpsSaid : Prop := progJumpsRow.holds Tryz.pinned (OpenSpec.ofChange progJumpsSpec)

/-- ITS FALSE NEIGHBOUR: 'it returns false'. Refute it at one input. -/
def progJumpsWrong : ChangeSpec := { name := "progJumps", fn := fun _ => fun
  | [d1, d2] => { results := [.lit (.bool false)], args := [d1, d2] }
  | _ => none }
def ProgJumpsWrongFalsely : Prop := progJumpsRow.holds Tryz.pinned (OpenSpec.ofChange progJumpsWrong)

/-- 'glosslaw10.ProgCopies': WHATEVER THE INPUT: true; the input reads as it did. -/
def progCopiesSpec : ChangeSpec := { name := "progCopies", fn := fun _ => fun
  | [d1, d2] => { results := [.lit (.bool true)], args := [d1, d2] }
  | _ => none }
def progCopiesRow : OpenClaim := { program := "ytigdmebijbaofaagreatdoor", sum := "6bb37b07c7e626aeb2399cee6a520d259c8a62903953264288d1f65e43793d35", func := "gloss/glosslaw10.ProgCopies", spec := "progCopies", inPlace := ["internal/abi.NoEscape", "internal/bytealg.MakeNoZero", "internal/bytealg.IndexByteString", "internal/bytealg.IndexString"], unfollowed := true, recurses := true, named := ["internal/strconv.uint64pow10", "math/bits.deBruijn32tab", "math/bits.deBruijn64tab", "internal/bytealg.MaxLen"], apart := false, laid := [("math/bits.deBruijn32tab", laid_math_bits_deBruijn32tab), ("math/bits.deBruijn64tab", laid_math_bits_deBruijn64tab), ("internal/strconv.uint64pow10", laid_internal_strconv_uint64pow10)] }
def ProgCopiesSaid : Prop := progCopiesRow.holds Tryz.pinned (OpenSpec.ofChange progCopiesSpec)

/-- ITS FALSE NEIGHBOUR: 'it returns false'. Refute it at one input. -/
def progCopiesWrong : ChangeSpec := { name := "progCopies", fn := fun _ => fun
  | [d1, d2] => { results := [.lit (.bool false)], args := [d1, d2] }
  | _ => none }
def ProgCopiesWrongFalsely : Prop := progCopiesRow.holds Tryz.pinned (OpenSpec.ofChange progCopiesWrong)

/- THE SECOND FORM. 'bulk': how many values and letters a reading holds, each counted each time it is reached (what is shared counts as often as it is met; a slice's spare places count too). A statement '..UptoSaid' is the law's where the arguments, and the package variables that the reading takes, are together of bulk at most 1048576: NARROWER than '..Said'. Prove '..Said' where nothing that the law and all that it calls make is longer than what came in: it says more and counts as full. Else prove '..UptoSaid'. A law counts once. -/
mutual
def uptoBulk {H : Type} : DataW H → Nat
  | .lit (.string bytes) => bytes.length + 1
  | .lit _ => 1
  | .nil => 1
  | .ptr d => uptoBulk d + 1
  | .slice elems spare => uptoBulkAll elems + uptoBulkAll spare + 1
  | .agg parts => uptoBulkAll parts + 1
  | .iface _ d => uptoBulk d + 1
  | .map entries => uptoBulkEntries entries + 1
  | .held _ => 1
def uptoBulkAll {H : Type} : List (DataW H) → Nat
  | [] => 0
  | d :: r => uptoBulk d + uptoBulkAll r
def uptoBulkEntries {H : Type} : List (Lit × DataW H) → Nat
  | [] => 0
  | x :: r => uptoBulkEntry x + uptoBulkEntries r
def uptoBulkEntry {H : Type} : Lit × DataW H → Nat
  | (.string bytes, d) => bytes.length + uptoBulk d + 1
  | (_, d) => uptoBulk d + 1
 end
def uptoSmall : (H : Type) → List (DataW H) → Bool := fun _ ds => decide (uptoBulkAll ds ≤ 1048576)
def OpenSpec.upto (s : _root_.Go.ChangeSpec) : _root_.Go.OpenSpec := { _root_.Go.OpenSpec.ofChange s with cond := some uptoSmall }

/-- 'glosslaw8.CmdRuns', WHERE WHAT IT READS IS OF BULK AT MOST 1048576: true; the input reads as it did. -/
def cmdRunsUptoRow : OpenClaim := { program := "ytigdmebijbaofaagreatdoor", sum := "6bb37b07c7e626aeb2399cee6a520d259c8a62903953264288d1f65e43793d35", func := "gloss/glosslaw8.CmdRuns", spec := "cmdRuns", inPlace := ["internal/bytealg.IndexByteString", "internal/bytealg.IndexString", "internal/abi.NoEscape", "internal/bytealg.MakeNoZero"], unfollowed := true, recurses := true, named := ["internal/bytealg.MaxLen", "internal/strconv.uint64pow10", "math/bits.deBruijn32tab", "math/bits.deBruijn64tab"], apart := false, laid := [("math/bits.deBruijn32tab", laid_math_bits_deBruijn32tab), ("math/bits.deBruijn64tab", laid_math_bits_deBruijn64tab), ("internal/strconv.uint64pow10", laid_internal_strconv_uint64pow10)], narrowed := true }
def CmdRunsUptoSaid : Prop := cmdRunsUptoRow.holds Tryz.pinned (OpenSpec.upto cmdRunsSpec)

/-- 'glosslaw8.CmdTells', WHERE WHAT IT READS IS OF BULK AT MOST 1048576: true; the input reads as it did. -/
def cmdTellsUptoRow : OpenClaim := { program := "ytigdmebijbaofaagreatdoor", sum := "6bb37b07c7e626aeb2399cee6a520d259c8a62903953264288d1f65e43793d35", func := "gloss/glosslaw8.CmdTells", spec := "cmdTells", inPlace := ["internal/abi.NoEscape", "internal/bytealg.MakeNoZero", "internal/bytealg.IndexByteString", "internal/bytealg.IndexString"], unfollowed := true, recurses := true, named := ["internal/strconv.uint64pow10", "math/bits.deBruijn32tab", "math/bits.deBruijn64tab", "internal/bytealg.MaxLen"], loops := true, apart := false, laid := [("math/bits.deBruijn32tab", laid_math_bits_deBruijn32tab), ("math/bits.deBruijn64tab", laid_math_bits_deBruijn64tab), ("internal/strconv.uint64pow10", laid_internal_strconv_uint64pow10)], narrowed := true }
def CmdTellsUptoSaid : Prop := cmdTellsUptoRow.holds Tryz.pinned (OpenSpec.upto cmdTellsSpec)

/-- 'glosslaw8.CmdTurned', WHERE WHAT IT READS IS OF BULK AT MOST 1048576: true; the input reads as it did. -/
def cmdTurnedUptoRow : OpenClaim := { program := "ytigdmebijbaofaagreatdoor", sum := "6bb37b07c7e626aeb2399cee6a520d259c8a62903953264288d1f65e43793d35", func := "gloss/glosslaw8.CmdTurned", spec := "cmdTurned", inPlace := ["internal/abi.NoEscape", "internal/bytealg.MakeNoZero", "internal/bytealg.IndexByteString", "internal/bytealg.IndexString"], unfollowed := true, recurses := true, named := ["internal/strconv.uint64pow10", "math/bits.deBruijn32tab", "math/bits.deBruijn64tab", "internal/bytealg.MaxLen"], apart := false, laid := [("math/bits.deBruijn32tab", laid_math_bits_deBruijn32tab), ("math/bits.deBruijn64tab", laid_math_bits_deBruijn64tab), ("internal/strconv.uint64pow10", laid_internal_strconv_uint64pow10)], narrowed := true }
def CmdTurnedUptoSaid : Prop := cmdTurnedUptoRow.holds Tryz.pinned (OpenSpec.upto cmdTurnedSpec)

/-- 'glosslaw8.CmdOne', WHERE WHAT IT READS IS OF BULK AT MOST 1048576: true; the input reads as it did. -/
def cmdOneUptoRow : OpenClaim := { program := "ytigdmebijbaofaagreatdoor", sum := "6bb37b07c7e626aeb2399cee6a520d259c8a62903953264288d1f65e43793d35", func := "gloss/glosslaw8.CmdOne", spec := "cmdOne", inPlace := ["internal/abi.NoEscape", "internal/bytealg.MakeNoZero", "internal/bytealg.IndexByteString", "internal/bytealg.IndexString"], unfollowed := true, recurses := true, named := ["internal/strconv.uint64pow10", "math/bits.deBruijn32tab", "math/bits.deBruijn64tab", "internal/bytealg.MaxLen"], apart := false, laid := [("math/bits.deBruijn32tab", laid_math_bits_deBruijn32tab), ("math/bits.deBruijn64tab", laid_math_bits_deBruijn64tab), ("internal/strconv.uint64pow10", laid_internal_strconv_uint64pow10)], narrowed := true }
def CmdOneUptoSaid : Prop := cmdOneUptoRow.holds Tryz.pinned (OpenSpec.upto cmdOneSpec)

/-- 'glosslaw8.CmdLabels', WHERE WHAT IT READS IS OF BULK AT MOST 1048576: true; the input reads as it did. -/
def cmdLabelsUptoRow : OpenClaim := { program := "ytigdmebijbaofaagreatdoor", sum := "6bb37b07c7e626aeb2399cee6a520d259c8a62903953264288d1f65e43793d35", func := "gloss/glosslaw8.CmdLabels", spec := "cmdLabels", inPlace := ["internal/abi.NoEscape", "internal/bytealg.MakeNoZero", "internal/bytealg.IndexByteString", "internal/bytealg.IndexString"], unfollowed := true, recurses := true, named := ["internal/strconv.uint64pow10", "math/bits.deBruijn32tab", "math/bits.deBruijn64tab", "internal/bytealg.MaxLen"], apart := false, laid := [("math/bits.deBruijn32tab", laid_math_bits_deBruijn32tab), ("math/bits.deBruijn64tab", laid_math_bits_deBruijn64tab), ("internal/strconv.uint64pow10", laid_internal_strconv_uint64pow10)], narrowed := true }
def CmdLabelsUptoSaid : Prop := cmdLabelsUptoRow.holds Tryz.pinned (OpenSpec.upto cmdLabelsSpec)

/-- 'glosslaw8.CmdAddrs', WHERE WHAT IT READS IS OF BULK AT MOST 1048576: true; the input reads as it did. -/
def cmdAddrsUptoRow : OpenClaim := { program := "ytigdmebijbaofaagreatdoor", sum := "6bb37b07c7e626aeb2399cee6a520d259c8a62903953264288d1f65e43793d35", func := "gloss/glosslaw8.CmdAddrs", spec := "cmdAddrs", inPlace := ["internal/abi.NoEscape", "internal/bytealg.MakeNoZero", "internal/bytealg.IndexByteString", "internal/bytealg.IndexString"], unfollowed := true, recurses := true, named := ["internal/strconv.uint64pow10", "math/bits.deBruijn32tab", "math/bits.deBruijn64tab", "internal/bytealg.MaxLen"], apart := false, laid := [("math/bits.deBruijn32tab", laid_math_bits_deBruijn32tab), ("math/bits.deBruijn64tab", laid_math_bits_deBruijn64tab), ("internal/strconv.uint64pow10", laid_internal_strconv_uint64pow10)], narrowed := true }
def CmdAddrsUptoSaid : Prop := cmdAddrsUptoRow.holds Tryz.pinned (OpenSpec.upto cmdAddrsSpec)

/-- 'glosslaw9.ReadRuns', WHERE WHAT IT READS IS OF BULK AT MOST 1048576: true; the input reads as it did. -/
def readRunsUptoRow : OpenClaim := { program := "ytigdmebijbaofaagreatdoor", sum := "6bb37b07c7e626aeb2399cee6a520d259c8a62903953264288d1f65e43793d35", func := "gloss/glosslaw9.ReadRuns", spec := "readRuns", inPlace := ["internal/bytealg.IndexByteString", "internal/abi.NoEscape", "internal/bytealg.MakeNoZero", "internal/bytealg.IndexString"], unfollowed := true, recurses := true, named := ["internal/strconv.uint64pow10", "math/bits.deBruijn32tab", "math/bits.deBruijn64tab", "internal/bytealg.MaxLen"], apart := false, laid := [("math/bits.deBruijn32tab", laid_math_bits_deBruijn32tab), ("math/bits.deBruijn64tab", laid_math_bits_deBruijn64tab), ("internal/strconv.uint64pow10", laid_internal_strconv_uint64pow10)], narrowed := true }
def ReadRunsUptoSaid : Prop := readRunsUptoRow.holds Tryz.pinned (OpenSpec.upto readRunsSpec)

/-- 'glosslaw9.ReadBack', WHERE WHAT IT READS IS OF BULK AT MOST 1048576: true; the input reads as it did. -/
def readBackUptoRow : OpenClaim := { program := "ytigdmebijbaofaagreatdoor", sum := "6bb37b07c7e626aeb2399cee6a520d259c8a62903953264288d1f65e43793d35", func := "gloss/glosslaw9.ReadBack", spec := "readBack", inPlace := ["internal/abi.NoEscape", "internal/bytealg.MakeNoZero", "internal/bytealg.IndexByteString", "internal/bytealg.IndexString"], unfollowed := true, recurses := true, named := ["internal/strconv.uint64pow10", "math/bits.deBruijn32tab", "math/bits.deBruijn64tab", "internal/bytealg.MaxLen"], apart := false, laid := [("math/bits.deBruijn32tab", laid_math_bits_deBruijn32tab), ("math/bits.deBruijn64tab", laid_math_bits_deBruijn64tab), ("internal/strconv.uint64pow10", laid_internal_strconv_uint64pow10)], narrowed := true }
def ReadBackUptoSaid : Prop := readBackUptoRow.holds Tryz.pinned (OpenSpec.upto readBackSpec)

/-- 'glosslaw9.ReadLoose', WHERE WHAT IT READS IS OF BULK AT MOST 1048576: true; the input reads as it did. -/
def readLooseUptoRow : OpenClaim := { program := "ytigdmebijbaofaagreatdoor", sum := "6bb37b07c7e626aeb2399cee6a520d259c8a62903953264288d1f65e43793d35", func := "gloss/glosslaw9.ReadLoose", spec := "readLoose", inPlace := ["internal/bytealg.IndexByteString", "internal/abi.NoEscape", "internal/bytealg.MakeNoZero", "internal/bytealg.IndexString"], unfollowed := true, recurses := true, named := ["internal/strconv.uint64pow10", "math/bits.deBruijn32tab", "math/bits.deBruijn64tab", "internal/bytealg.MaxLen"], apart := false, laid := [("math/bits.deBruijn32tab", laid_math_bits_deBruijn32tab), ("math/bits.deBruijn64tab", laid_math_bits_deBruijn64tab), ("internal/strconv.uint64pow10", laid_internal_strconv_uint64pow10)], narrowed := true }
def ReadLooseUptoSaid : Prop := readLooseUptoRow.holds Tryz.pinned (OpenSpec.upto readLooseSpec)

/-- 'glosslaw9.ReadOnly', WHERE WHAT IT READS IS OF BULK AT MOST 1048576: true; the input reads as it did. -/
def readOnlyUptoRow : OpenClaim := { program := "ytigdmebijbaofaagreatdoor", sum := "6bb37b07c7e626aeb2399cee6a520d259c8a62903953264288d1f65e43793d35", func := "gloss/glosslaw9.ReadOnly", spec := "readOnly", inPlace := ["internal/abi.NoEscape", "internal/bytealg.MakeNoZero", "internal/bytealg.IndexByteString", "internal/bytealg.IndexString"], unfollowed := true, recurses := true, named := ["internal/strconv.uint64pow10", "math/bits.deBruijn32tab", "math/bits.deBruijn64tab", "internal/bytealg.MaxLen"], apart := false, laid := [("math/bits.deBruijn32tab", laid_math_bits_deBruijn32tab), ("math/bits.deBruijn64tab", laid_math_bits_deBruijn64tab), ("internal/strconv.uint64pow10", laid_internal_strconv_uint64pow10)], narrowed := true }
def ReadOnlyUptoSaid : Prop := readOnlyUptoRow.holds Tryz.pinned (OpenSpec.upto readOnlySpec)

/-- 'glosslaw9.ReadDeep', WHERE WHAT IT READS IS OF BULK AT MOST 1048576: true; the input reads as it did. -/
def readDeepUptoRow : OpenClaim := { program := "ytigdmebijbaofaagreatdoor", sum := "6bb37b07c7e626aeb2399cee6a520d259c8a62903953264288d1f65e43793d35", func := "gloss/glosslaw9.ReadDeep", spec := "readDeep", inPlace := ["internal/bytealg.IndexByteString", "internal/abi.NoEscape", "internal/bytealg.MakeNoZero", "internal/bytealg.IndexString"], unfollowed := true, recurses := true, named := ["internal/strconv.uint64pow10", "math/bits.deBruijn32tab", "math/bits.deBruijn64tab", "internal/bytealg.MaxLen"], apart := false, laid := [("math/bits.deBruijn32tab", laid_math_bits_deBruijn32tab), ("math/bits.deBruijn64tab", laid_math_bits_deBruijn64tab), ("internal/strconv.uint64pow10", laid_internal_strconv_uint64pow10)], narrowed := true }
def ReadDeepUptoSaid : Prop := readDeepUptoRow.holds Tryz.pinned (OpenSpec.upto readDeepSpec)

/-- 'glosslaw9.ReadTexts', WHERE WHAT IT READS IS OF BULK AT MOST 1048576: true; the input reads as it did. -/
def readTextsUptoRow : OpenClaim := { program := "ytigdmebijbaofaagreatdoor", sum := "6bb37b07c7e626aeb2399cee6a520d259c8a62903953264288d1f65e43793d35", func := "gloss/glosslaw9.ReadTexts", spec := "readTexts", inPlace := ["internal/abi.NoEscape", "internal/bytealg.MakeNoZero", "internal/bytealg.IndexByteString", "internal/bytealg.IndexString"], unfollowed := true, recurses := true, named := ["internal/strconv.uint64pow10", "math/bits.deBruijn32tab", "math/bits.deBruijn64tab", "internal/bytealg.MaxLen"], apart := false, laid := [("math/bits.deBruijn32tab", laid_math_bits_deBruijn32tab), ("math/bits.deBruijn64tab", laid_math_bits_deBruijn64tab), ("internal/strconv.uint64pow10", laid_internal_strconv_uint64pow10)], narrowed := true }
def ReadTextsUptoSaid : Prop := readTextsUptoRow.holds Tryz.pinned (OpenSpec.upto readTextsSpec)

/-- 'glosslaw9.ReadNumbers', WHERE WHAT IT READS IS OF BULK AT MOST 1048576: true; the input reads as it did. -/
def readNumbersUptoRow : OpenClaim := { program := "ytigdmebijbaofaagreatdoor", sum := "6bb37b07c7e626aeb2399cee6a520d259c8a62903953264288d1f65e43793d35", func := "gloss/glosslaw9.ReadNumbers", spec := "readNumbers", inPlace := ["internal/bytealg.IndexByteString", "internal/abi.NoEscape", "internal/bytealg.MakeNoZero", "internal/bytealg.IndexString"], unfollowed := true, recurses := true, named := ["internal/strconv.uint64pow10", "math/bits.deBruijn32tab", "math/bits.deBruijn64tab", "internal/bytealg.MaxLen"], apart := false, laid := [("math/bits.deBruijn32tab", laid_math_bits_deBruijn32tab), ("math/bits.deBruijn64tab", laid_math_bits_deBruijn64tab), ("internal/strconv.uint64pow10", laid_internal_strconv_uint64pow10)], narrowed := true }
def ReadNumbersUptoSaid : Prop := readNumbersUptoRow.holds Tryz.pinned (OpenSpec.upto readNumbersSpec)

/-- 'glosslaw10.ProgRuns', WHERE WHAT IT READS IS OF BULK AT MOST 1048576: true; the input reads as it did. -/
def progRunsUptoRow : OpenClaim := { program := "ytigdmebijbaofaagreatdoor", sum := "6bb37b07c7e626aeb2399cee6a520d259c8a62903953264288d1f65e43793d35", func := "gloss/glosslaw10.ProgRuns", spec := "progRuns", inPlace := ["internal/bytealg.IndexByteString", "internal/abi.NoEscape", "internal/bytealg.MakeNoZero", "internal/bytealg.IndexString"], unfollowed := true, recurses := true, named := ["internal/strconv.uint64pow10", "math/bits.deBruijn32tab", "math/bits.deBruijn64tab", "internal/bytealg.MaxLen"], apart := false, laid := [("math/bits.deBruijn32tab", laid_math_bits_deBruijn32tab), ("math/bits.deBruijn64tab", laid_math_bits_deBruijn64tab), ("internal/strconv.uint64pow10", laid_internal_strconv_uint64pow10)], narrowed := true }
def ProgRunsUptoSaid : Prop := progRunsUptoRow.holds Tryz.pinned (OpenSpec.upto progRunsSpec)

/-- 'glosslaw10.ProgTells', WHERE WHAT IT READS IS OF BULK AT MOST 1048576: true; the input reads as it did. -/
def progTellsUptoRow : OpenClaim := { program := "ytigdmebijbaofaagreatdoor", sum := "6bb37b07c7e626aeb2399cee6a520d259c8a62903953264288d1f65e43793d35", func := "gloss/glosslaw10.ProgTells", spec := "progTells", inPlace := ["internal/abi.NoEscape", "internal/bytealg.MakeNoZero", "internal/bytealg.IndexByteString", "internal/bytealg.IndexString"], unfollowed := true, recurses := true, named := ["internal/strconv.uint64pow10", "math/bits.deBruijn32tab", "math/bits.deBruijn64tab", "internal/bytealg.MaxLen"], apart := false, laid := [("math/bits.deBruijn32tab", laid_math_bits_deBruijn32tab), ("math/bits.deBruijn64tab", laid_math_bits_deBruijn64tab), ("internal/strconv.uint64pow10", laid_internal_strconv_uint64pow10)], narrowed := true }
def ProgTellsUptoSaid : Prop := progTellsUptoRow.holds Tryz.pinned (OpenSpec.upto progTellsSpec)

/-- 'glosslaw10.ProgRefuses', WHERE WHAT IT READS IS OF BULK AT MOST 1048576: true; the input reads as it did. -/
def progRefusesUptoRow : OpenClaim := { program := "ytigdmebijbaofaagreatdoor", sum := "6bb37b07c7e626aeb2399cee6a520d259c8a62903953264288d1f65e43793d35", func := "gloss/glosslaw10.ProgRefuses", spec := "progRefuses", inPlace := ["internal/abi.NoEscape", "internal/bytealg.MakeNoZero", "internal/bytealg.IndexByteString", "internal/bytealg.IndexString"], unfollowed := true, recurses := true, named := ["internal/strconv.uint64pow10", "math/bits.deBruijn32tab", "math/bits.deBruijn64tab", "internal/bytealg.MaxLen"], apart := false, laid := [("math/bits.deBruijn32tab", laid_math_bits_deBruijn32tab), ("math/bits.deBruijn64tab", laid_math_bits_deBruijn64tab), ("internal/strconv.uint64pow10", laid_internal_strconv_uint64pow10)], narrowed := true }
def ProgRefusesUptoSaid : Prop := progRefusesUptoRow.holds Tryz.pinned (OpenSpec.upto progRefusesSpec)

/-- 'glosslaw10.ProgJumps', WHERE WHAT IT READS IS OF BULK AT MOST 1048576: true; the input reads as it did. -/
def progJumpsUptoRow : OpenClaim := { program := "ytigdmebijbaofaagreatdoor", sum := "6bb37b07c7e626aeb2399cee6a520d259c8a62903953264288d1f65e43793d35", func := "gloss/glosslaw10.ProgJumps", spec := "progJumps", inPlace := ["internal/abi.NoEscape", "internal/bytealg.MakeNoZero", "internal/bytealg.IndexByteString", "internal/bytealg.IndexString"], unfollowed := true, recurses := true, named := ["internal/strconv.uint64pow10", "math/bits.deBruijn32tab", "math/bits.deBruijn64tab", "internal/bytealg.MaxLen"], apart := false, laid := [("math/bits.deBruijn32tab", laid_math_bits_deBruijn32tab), ("math/bits.deBruijn64tab", laid_math_bits_deBruijn64tab), ("internal/strconv.uint64pow10", laid_internal_strconv_uint64pow10)], narrowed := true }
def ProgJumpsUptoSaid : Prop := progJumpsUptoRow.holds Tryz.pinned (OpenSpec.upto progJumpsSpec)

/-- 'glosslaw10.ProgCopies', WHERE WHAT IT READS IS OF BULK AT MOST 1048576: true; the input reads as it did. -/
def progCopiesUptoRow : OpenClaim := { program := "ytigdmebijbaofaagreatdoor", sum := "6bb37b07c7e626aeb2399cee6a520d259c8a62903953264288d1f65e43793d35", func := "gloss/glosslaw10.ProgCopies", spec := "progCopies", inPlace := ["internal/abi.NoEscape", "internal/bytealg.MakeNoZero", "internal/bytealg.IndexByteString", "internal/bytealg.IndexString"], unfollowed := true, recurses := true, named := ["internal/strconv.uint64pow10", "math/bits.deBruijn32tab", "math/bits.deBruijn64tab", "internal/bytealg.MaxLen"], apart := false, laid := [("math/bits.deBruijn32tab", laid_math_bits_deBruijn32tab), ("math/bits.deBruijn64tab", laid_math_bits_deBruijn64tab), ("internal/strconv.uint64pow10", laid_internal_strconv_uint64pow10)], narrowed := true }
def ProgCopiesUptoSaid : Prop := progCopiesUptoRow.holds Tryz.pinned (OpenSpec.upto progCopiesSpec)

end Rows
end Go.Proofs.YtigdmebijbaofaaGreatDoor
