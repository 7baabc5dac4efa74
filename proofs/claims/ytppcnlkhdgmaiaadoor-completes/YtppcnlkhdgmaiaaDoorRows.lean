/-
  NARROWER THAN 'FOR EVERY INPUT', by the rows' own cells (each row's printed sentence says how): Kept: laid · First: laid · Best: laid · Patient: laid · Completes: laid · Safe: laid · Onward: laid · Agree: laid.
  DERIVED. THE GIVEN ROWS OF THIS SEAT. 8 by the template 'for every input the law returns true; each argument reads behind the call as it read before'; 0 by the template 'total and deterministic' (their statements: YtppcnlkhdgmaiaaDoorTotals.lean).
  GIVEN WITH THE SEED: the statements are not yours to turn. If you find one false, say at which input.
  Laid BY PROGRAM, IN A SANDBOX (cutbox-rows.mjs): the forced cells as the released guide's own fill.sh prints them over the translation 890db4ad15ef29e8… (all of the seat's roots in one cut). By AI agents, Wed Nov 11 2026. No macro, syntax, notation, axiom, sorry.
-/
import Derived.Test.YtppcnlkhdgmaiaaDoorChecked
import GoSem.Claim
import GoSem.ClaimJoined
import GoSem.ClaimMapViews
import Derived.JoinedTies
import Derived.KernelRfl
namespace Go.Proofs.YtppcnlkhdgmaiaaDoor
/- THE CELL 'sum', in the pinned program and in every row, IS THE sha256 OF THE DUMP (.gsa) THAT YtppcnlkhdgmaiaaDoorProg.lean LOADS. Nothing in Lean hashes anything: it is a label: what it is worth is what the hold of that sum in a sandbox is worth. -/
noncomputable def Tryd.pinned : Pinned := { name := "ytppcnlkhdgmaiaadoor", sum := "890db4ad15ef29e8ece20eaedfdaefe17eb14c0a508c6ae4893f48113c396fe5", checked := Tryd.checked }
namespace Rows
def none {H : Type} : Left H := { results := [], args := [] }

/- WHAT THE LISTED PACKAGE-LEVEL VARIABLES READ AS WHEN THE CALL BEGINS. Each datum BY PROGRAM (the guide's laid-datum.mjs) off the statement by which the dump's own 'gosem.cut.vars' lays the variable. In a bare row this is a premise. The card (YtppcnlkhdgmaiaaDoorCards.lean) ties it to the program's text. -/
def laid_math_bits_deBruijn32tab {H : Type} : DataW H := .agg [.lit (.int .u8 0), .lit (.int .u8 1), .lit (.int .u8 28), .lit (.int .u8 2), .lit (.int .u8 29), .lit (.int .u8 14), .lit (.int .u8 24), .lit (.int .u8 3), .lit (.int .u8 30), .lit (.int .u8 22), .lit (.int .u8 20), .lit (.int .u8 15), .lit (.int .u8 25), .lit (.int .u8 17), .lit (.int .u8 4), .lit (.int .u8 8), .lit (.int .u8 31), .lit (.int .u8 27), .lit (.int .u8 13), .lit (.int .u8 23), .lit (.int .u8 21), .lit (.int .u8 19), .lit (.int .u8 16), .lit (.int .u8 7), .lit (.int .u8 26), .lit (.int .u8 12), .lit (.int .u8 18), .lit (.int .u8 6), .lit (.int .u8 11), .lit (.int .u8 5), .lit (.int .u8 10), .lit (.int .u8 9)]
def laid_math_bits_deBruijn64tab {H : Type} : DataW H := .agg [.lit (.int .u8 0), .lit (.int .u8 1), .lit (.int .u8 56), .lit (.int .u8 2), .lit (.int .u8 57), .lit (.int .u8 49), .lit (.int .u8 28), .lit (.int .u8 3), .lit (.int .u8 61), .lit (.int .u8 58), .lit (.int .u8 42), .lit (.int .u8 50), .lit (.int .u8 38), .lit (.int .u8 29), .lit (.int .u8 17), .lit (.int .u8 4), .lit (.int .u8 62), .lit (.int .u8 47), .lit (.int .u8 59), .lit (.int .u8 36), .lit (.int .u8 45), .lit (.int .u8 43), .lit (.int .u8 51), .lit (.int .u8 22), .lit (.int .u8 53), .lit (.int .u8 39), .lit (.int .u8 33), .lit (.int .u8 30), .lit (.int .u8 24), .lit (.int .u8 18), .lit (.int .u8 12), .lit (.int .u8 5), .lit (.int .u8 63), .lit (.int .u8 55), .lit (.int .u8 48), .lit (.int .u8 27), .lit (.int .u8 60), .lit (.int .u8 41), .lit (.int .u8 37), .lit (.int .u8 16), .lit (.int .u8 46), .lit (.int .u8 35), .lit (.int .u8 44), .lit (.int .u8 21), .lit (.int .u8 52), .lit (.int .u8 32), .lit (.int .u8 23), .lit (.int .u8 11), .lit (.int .u8 54), .lit (.int .u8 26), .lit (.int .u8 40), .lit (.int .u8 15), .lit (.int .u8 34), .lit (.int .u8 20), .lit (.int .u8 31), .lit (.int .u8 10), .lit (.int .u8 25), .lit (.int .u8 14), .lit (.int .u8 19), .lit (.int .u8 9), .lit (.int .u8 13), .lit (.int .u8 8), .lit (.int .u8 7), .lit (.int .u8 6)]
def laid_internal_strconv_uint64pow10 {H : Type} : DataW H := .agg [.lit (.int .u64 1), .lit (.int .u64 10), .lit (.int .u64 100), .lit (.int .u64 1000), .lit (.int .u64 10000), .lit (.int .u64 100000), .lit (.int .u64 1000000), .lit (.int .u64 10000000), .lit (.int .u64 100000000), .lit (.int .u64 1000000000), .lit (.int .u64 10000000000), .lit (.int .u64 100000000000), .lit (.int .u64 1000000000000), .lit (.int .u64 10000000000000), .lit (.int .u64 100000000000000), .lit (.int .u64 1000000000000000), .lit (.int .u64 10000000000000000), .lit (.int .u64 100000000000000000), .lit (.int .u64 1000000000000000000), .lit (.int .u64 10000000000000000000)]
def laid_hatch_hatch_byteKinds {H : Type} : DataW H := .agg [.lit (.int .u8 0), .lit (.int .u8 0), .lit (.int .u8 0), .lit (.int .u8 0), .lit (.int .u8 0), .lit (.int .u8 0), .lit (.int .u8 0), .lit (.int .u8 0), .lit (.int .u8 0), .lit (.int .u8 0), .lit (.int .u8 0), .lit (.int .u8 0), .lit (.int .u8 0), .lit (.int .u8 0), .lit (.int .u8 0), .lit (.int .u8 0), .lit (.int .u8 0), .lit (.int .u8 0), .lit (.int .u8 0), .lit (.int .u8 0), .lit (.int .u8 0), .lit (.int .u8 0), .lit (.int .u8 0), .lit (.int .u8 0), .lit (.int .u8 0), .lit (.int .u8 0), .lit (.int .u8 0), .lit (.int .u8 0), .lit (.int .u8 0), .lit (.int .u8 0), .lit (.int .u8 0), .lit (.int .u8 0), .lit (.int .u8 0), .lit (.int .u8 0), .lit (.int .u8 0), .lit (.int .u8 0), .lit (.int .u8 0), .lit (.int .u8 0), .lit (.int .u8 0), .lit (.int .u8 0), .lit (.int .u8 0), .lit (.int .u8 0), .lit (.int .u8 0), .lit (.int .u8 9), .lit (.int .u8 5), .lit (.int .u8 9), .lit (.int .u8 0), .lit (.int .u8 9), .lit (.int .u8 1), .lit (.int .u8 2), .lit (.int .u8 2), .lit (.int .u8 2), .lit (.int .u8 2), .lit (.int .u8 2), .lit (.int .u8 2), .lit (.int .u8 2), .lit (.int .u8 2), .lit (.int .u8 2), .lit (.int .u8 9), .lit (.int .u8 9), .lit (.int .u8 7), .lit (.int .u8 9), .lit (.int .u8 8), .lit (.int .u8 0), .lit (.int .u8 9), .lit (.int .u8 0), .lit (.int .u8 0), .lit (.int .u8 0), .lit (.int .u8 0), .lit (.int .u8 0), .lit (.int .u8 0), .lit (.int .u8 0), .lit (.int .u8 0), .lit (.int .u8 0), .lit (.int .u8 0), .lit (.int .u8 0), .lit (.int .u8 0), .lit (.int .u8 0), .lit (.int .u8 0), .lit (.int .u8 0), .lit (.int .u8 0), .lit (.int .u8 0), .lit (.int .u8 0), .lit (.int .u8 0), .lit (.int .u8 0), .lit (.int .u8 0), .lit (.int .u8 0), .lit (.int .u8 0), .lit (.int .u8 0), .lit (.int .u8 0), .lit (.int .u8 0), .lit (.int .u8 0), .lit (.int .u8 0), .lit (.int .u8 0), .lit (.int .u8 0), .lit (.int .u8 0), .lit (.int .u8 0), .lit (.int .u8 3), .lit (.int .u8 3), .lit (.int .u8 3), .lit (.int .u8 3), .lit (.int .u8 4), .lit (.int .u8 4), .lit (.int .u8 4), .lit (.int .u8 4), .lit (.int .u8 4), .lit (.int .u8 4), .lit (.int .u8 4), .lit (.int .u8 4), .lit (.int .u8 4), .lit (.int .u8 4), .lit (.int .u8 4), .lit (.int .u8 4), .lit (.int .u8 4), .lit (.int .u8 4), .lit (.int .u8 4), .lit (.int .u8 4), .lit (.int .u8 4), .lit (.int .u8 4), .lit (.int .u8 4), .lit (.int .u8 4), .lit (.int .u8 4), .lit (.int .u8 4), .lit (.int .u8 0), .lit (.int .u8 0), .lit (.int .u8 0), .lit (.int .u8 6), .lit (.int .u8 0)]
def laid_hatch_hatch_outcomeNames {H : Type} : DataW H := .agg [.agg [.lit (.string [111, 112, 101, 110]), .lit (.bool false)], .agg [.lit (.string [100, 111, 110, 101]), .lit (.bool false)], .agg [.lit (.string [115, 104, 111, 114, 116]), .lit (.bool true)], .agg [.lit (.string [108, 111, 110, 103]), .lit (.bool true)], .agg [.lit (.string [108, 97, 116, 101]), .lit (.bool true)], .agg [.lit (.string [119, 105, 110, 100, 111, 119]), .lit (.bool true)]]

/-- 'hatchkeep.Kept': WHATEVER THE INPUT: true; the input reads as it did. -/
def keptSpec : ChangeSpec := { name := "kept", fn := fun _ => fun
  | [d1, d2] => { results := [.lit (.bool true)], args := [d1, d2] }
  | _ => none }
def keptRow : OpenClaim := { program := "ytppcnlkhdgmaiaadoor", sum := "890db4ad15ef29e8ece20eaedfdaefe17eb14c0a508c6ae4893f48113c396fe5", func := "hatch/hatchkeep.Kept", spec := "kept", inPlace := ["internal/abi.NoEscape"], unfollowed := true, recurses := true, named := ["hatch/hatch.byteKinds", "internal/strconv.uint64pow10", "math/bits.deBruijn32tab", "math/bits.deBruijn64tab"], apart := false, laid := [("math/bits.deBruijn32tab", laid_math_bits_deBruijn32tab), ("math/bits.deBruijn64tab", laid_math_bits_deBruijn64tab), ("internal/strconv.uint64pow10", laid_internal_strconv_uint64pow10), ("hatch/hatch.byteKinds", laid_hatch_hatch_byteKinds)] }
def KeptSaid : Prop := keptRow.holds Tryd.pinned (OpenSpec.ofChange keptSpec)

/-- ITS FALSE NEIGHBOUR: 'it returns false'. Refute it at one input. -/
def keptWrong : ChangeSpec := { name := "kept", fn := fun _ => fun
  | [d1, d2] => { results := [.lit (.bool false)], args := [d1, d2] }
  | _ => none }
def KeptWrongFalsely : Prop := keptRow.holds Tryd.pinned (OpenSpec.ofChange keptWrong)

/-- 'hatchkeep.First': WHATEVER THE INPUT: true; the input reads as it did. -/
def firstSpec : ChangeSpec := { name := "first", fn := fun _ => fun
  | [d] => { results := [.lit (.bool true)], args := [d] }
  | _ => none }
def firstRow : OpenClaim := { program := "ytppcnlkhdgmaiaadoor", sum := "890db4ad15ef29e8ece20eaedfdaefe17eb14c0a508c6ae4893f48113c396fe5", func := "hatch/hatchkeep.First", spec := "first", inPlace := ["internal/abi.NoEscape"], unfollowed := true, recurses := true, named := ["hatch/hatch.byteKinds", "internal/strconv.uint64pow10", "math/bits.deBruijn32tab", "math/bits.deBruijn64tab"], apart := false, laid := [("math/bits.deBruijn32tab", laid_math_bits_deBruijn32tab), ("math/bits.deBruijn64tab", laid_math_bits_deBruijn64tab), ("internal/strconv.uint64pow10", laid_internal_strconv_uint64pow10), ("hatch/hatch.byteKinds", laid_hatch_hatch_byteKinds)] }
def FirstSaid : Prop := firstRow.holds Tryd.pinned (OpenSpec.ofChange firstSpec)

/-- ITS FALSE NEIGHBOUR: 'it returns false'. Refute it at one input. -/
def firstWrong : ChangeSpec := { name := "first", fn := fun _ => fun
  | [d] => { results := [.lit (.bool false)], args := [d] }
  | _ => none }
def FirstWrongFalsely : Prop := firstRow.holds Tryd.pinned (OpenSpec.ofChange firstWrong)

/-- 'hatchkeep.Best': WHATEVER THE INPUT: true; the input reads as it did. -/
def bestSpec : ChangeSpec := { name := "best", fn := fun _ => fun
  | [d1, d2] => { results := [.lit (.bool true)], args := [d1, d2] }
  | _ => none }
def bestRow : OpenClaim := { program := "ytppcnlkhdgmaiaadoor", sum := "890db4ad15ef29e8ece20eaedfdaefe17eb14c0a508c6ae4893f48113c396fe5", func := "hatch/hatchkeep.Best", spec := "best", inPlace := ["internal/abi.NoEscape"], unfollowed := true, recurses := true, named := ["hatch/hatch.byteKinds", "internal/strconv.uint64pow10", "math/bits.deBruijn32tab", "math/bits.deBruijn64tab"], apart := false, laid := [("math/bits.deBruijn32tab", laid_math_bits_deBruijn32tab), ("math/bits.deBruijn64tab", laid_math_bits_deBruijn64tab), ("internal/strconv.uint64pow10", laid_internal_strconv_uint64pow10), ("hatch/hatch.byteKinds", laid_hatch_hatch_byteKinds)] }
def BestSaid : Prop := bestRow.holds Tryd.pinned (OpenSpec.ofChange bestSpec)

/-- ITS FALSE NEIGHBOUR: 'it returns false'. Refute it at one input. -/
def bestWrong : ChangeSpec := { name := "best", fn := fun _ => fun
  | [d1, d2] => { results := [.lit (.bool false)], args := [d1, d2] }
  | _ => none }
def BestWrongFalsely : Prop := bestRow.holds Tryd.pinned (OpenSpec.ofChange bestWrong)

/-- 'hatchkeep.Patient': WHATEVER THE INPUT: true; the input reads as it did. -/
def patientSpec : ChangeSpec := { name := "patient", fn := fun _ => fun
  | [d1, d2, d3] => { results := [.lit (.bool true)], args := [d1, d2, d3] }
  | _ => none }
def patientRow : OpenClaim := { program := "ytppcnlkhdgmaiaadoor", sum := "890db4ad15ef29e8ece20eaedfdaefe17eb14c0a508c6ae4893f48113c396fe5", func := "hatch/hatchkeep.Patient", spec := "patient", inPlace := ["internal/abi.NoEscape"], unfollowed := true, recurses := true, named := ["hatch/hatch.byteKinds", "internal/strconv.uint64pow10", "math/bits.deBruijn32tab", "math/bits.deBruijn64tab"], apart := false, laid := [("math/bits.deBruijn32tab", laid_math_bits_deBruijn32tab), ("math/bits.deBruijn64tab", laid_math_bits_deBruijn64tab), ("internal/strconv.uint64pow10", laid_internal_strconv_uint64pow10), ("hatch/hatch.byteKinds", laid_hatch_hatch_byteKinds)] }
def PatientSaid : Prop := patientRow.holds Tryd.pinned (OpenSpec.ofChange patientSpec)

/-- ITS FALSE NEIGHBOUR: 'it returns false'. Refute it at one input. -/
def patientWrong : ChangeSpec := { name := "patient", fn := fun _ => fun
  | [d1, d2, d3] => { results := [.lit (.bool false)], args := [d1, d2, d3] }
  | _ => none }
def PatientWrongFalsely : Prop := patientRow.holds Tryd.pinned (OpenSpec.ofChange patientWrong)

/-- 'hatchkeep.Completes': WHATEVER THE INPUT: true; the input reads as it did. -/
def completesSpec : ChangeSpec := { name := "completes", fn := fun _ => fun
  | [d1, d2, d3, d4] => { results := [.lit (.bool true)], args := [d1, d2, d3, d4] }
  | _ => none }
def completesRow : OpenClaim := { program := "ytppcnlkhdgmaiaadoor", sum := "890db4ad15ef29e8ece20eaedfdaefe17eb14c0a508c6ae4893f48113c396fe5", func := "hatch/hatchkeep.Completes", spec := "completes", inPlace := ["internal/abi.NoEscape"], unfollowed := true, recurses := true, named := ["hatch/hatch.byteKinds", "internal/strconv.uint64pow10", "math/bits.deBruijn32tab", "math/bits.deBruijn64tab", "hatch/hatch.outcomeNames"], apart := false, laid := [("math/bits.deBruijn32tab", laid_math_bits_deBruijn32tab), ("math/bits.deBruijn64tab", laid_math_bits_deBruijn64tab), ("internal/strconv.uint64pow10", laid_internal_strconv_uint64pow10), ("hatch/hatch.outcomeNames", laid_hatch_hatch_outcomeNames), ("hatch/hatch.byteKinds", laid_hatch_hatch_byteKinds)] }
def CompletesSaid : Prop := completesRow.holds Tryd.pinned (OpenSpec.ofChange completesSpec)

/-- ITS FALSE NEIGHBOUR: 'it returns false'. Refute it at one input. -/
def completesWrong : ChangeSpec := { name := "completes", fn := fun _ => fun
  | [d1, d2, d3, d4] => { results := [.lit (.bool false)], args := [d1, d2, d3, d4] }
  | _ => none }
def CompletesWrongFalsely : Prop := completesRow.holds Tryd.pinned (OpenSpec.ofChange completesWrong)

/-- 'hatchkeep.Safe': WHATEVER THE INPUT: true; the input reads as it did. -/
def safeSpec : ChangeSpec := { name := "safe", fn := fun _ => fun
  | [d1, d2] => { results := [.lit (.bool true)], args := [d1, d2] }
  | _ => none }
def safeRow : OpenClaim := { program := "ytppcnlkhdgmaiaadoor", sum := "890db4ad15ef29e8ece20eaedfdaefe17eb14c0a508c6ae4893f48113c396fe5", func := "hatch/hatchkeep.Safe", spec := "safe", inPlace := ["internal/abi.NoEscape"], named := ["hatch/hatch.byteKinds", "hatch/hatch.outcomeNames", "internal/strconv.uint64pow10", "math/bits.deBruijn32tab", "math/bits.deBruijn64tab"], apart := false, laid := [("math/bits.deBruijn32tab", laid_math_bits_deBruijn32tab), ("math/bits.deBruijn64tab", laid_math_bits_deBruijn64tab), ("internal/strconv.uint64pow10", laid_internal_strconv_uint64pow10), ("hatch/hatch.outcomeNames", laid_hatch_hatch_outcomeNames), ("hatch/hatch.byteKinds", laid_hatch_hatch_byteKinds)] }
def SafeSaid : Prop := safeRow.holds Tryd.pinned (OpenSpec.ofChange safeSpec)

/-- ITS FALSE NEIGHBOUR: 'it returns false'. Refute it at one input. -/
def safeWrong : ChangeSpec := { name := "safe", fn := fun _ => fun
  | [d1, d2] => { results := [.lit (.bool false)], args := [d1, d2] }
  | _ => none }
def SafeWrongFalsely : Prop := safeRow.holds Tryd.pinned (OpenSpec.ofChange safeWrong)

/-- 'hatchkeep.Onward': WHATEVER THE INPUT: true; the input reads as it did. -/
def onwardSpec : ChangeSpec := { name := "onward", fn := fun _ => fun
  | [d1, d2, d3, d4] => { results := [.lit (.bool true)], args := [d1, d2, d3, d4] }
  | _ => none }
def onwardRow : OpenClaim := { program := "ytppcnlkhdgmaiaadoor", sum := "890db4ad15ef29e8ece20eaedfdaefe17eb14c0a508c6ae4893f48113c396fe5", func := "hatch/hatchkeep.Onward", spec := "onward", inPlace := ["internal/abi.NoEscape"], named := ["hatch/hatch.byteKinds", "hatch/hatch.outcomeNames", "internal/strconv.uint64pow10", "math/bits.deBruijn32tab", "math/bits.deBruijn64tab"], apart := false, laid := [("math/bits.deBruijn32tab", laid_math_bits_deBruijn32tab), ("math/bits.deBruijn64tab", laid_math_bits_deBruijn64tab), ("internal/strconv.uint64pow10", laid_internal_strconv_uint64pow10), ("hatch/hatch.outcomeNames", laid_hatch_hatch_outcomeNames), ("hatch/hatch.byteKinds", laid_hatch_hatch_byteKinds)] }
def OnwardSaid : Prop := onwardRow.holds Tryd.pinned (OpenSpec.ofChange onwardSpec)

/-- ITS FALSE NEIGHBOUR: 'it returns false'. Refute it at one input. -/
def onwardWrong : ChangeSpec := { name := "onward", fn := fun _ => fun
  | [d1, d2, d3, d4] => { results := [.lit (.bool false)], args := [d1, d2, d3, d4] }
  | _ => none }
def OnwardWrongFalsely : Prop := onwardRow.holds Tryd.pinned (OpenSpec.ofChange onwardWrong)

/-- 'hatchkeep.Agree': WHATEVER THE INPUT: true; the input reads as it did. -/
def agreeSpec : ChangeSpec := { name := "agree", fn := fun _ => fun
  | [d1, d2, d3, d4] => { results := [.lit (.bool true)], args := [d1, d2, d3, d4] }
  | _ => none }
def agreeRow : OpenClaim := { program := "ytppcnlkhdgmaiaadoor", sum := "890db4ad15ef29e8ece20eaedfdaefe17eb14c0a508c6ae4893f48113c396fe5", func := "hatch/hatchkeep.Agree", spec := "agree", inPlace := ["internal/abi.NoEscape"], unfollowed := true, recurses := true, named := ["hatch/hatch.byteKinds", "internal/strconv.uint64pow10", "math/bits.deBruijn32tab", "math/bits.deBruijn64tab", "hatch/hatch.outcomeNames"], apart := false, laid := [("math/bits.deBruijn32tab", laid_math_bits_deBruijn32tab), ("math/bits.deBruijn64tab", laid_math_bits_deBruijn64tab), ("internal/strconv.uint64pow10", laid_internal_strconv_uint64pow10), ("hatch/hatch.outcomeNames", laid_hatch_hatch_outcomeNames), ("hatch/hatch.byteKinds", laid_hatch_hatch_byteKinds)] }
def AgreeSaid : Prop := agreeRow.holds Tryd.pinned (OpenSpec.ofChange agreeSpec)

/-- ITS FALSE NEIGHBOUR: 'it returns false'. Refute it at one input. -/
def agreeWrong : ChangeSpec := { name := "agree", fn := fun _ => fun
  | [d1, d2, d3, d4] => { results := [.lit (.bool false)], args := [d1, d2, d3, d4] }
  | _ => none }
def AgreeWrongFalsely : Prop := agreeRow.holds Tryd.pinned (OpenSpec.ofChange agreeWrong)

/- THE SECOND FORM. 'bulk': how many values and letters a reading holds, each counted each time it is reached (what is shared counts as often as it is met; a slice's spare places count too). A statement '..UptoSaid' is the law's where the arguments, and the package variables that the reading takes, are together of bulk at most 1048576: NARROWER than '..Said'. Prove '..Said' where nothing that the law and all that it calls make is longer than what came in: it says more and counts as full. Else prove '..UptoSaid'. A law counts once. -/
mutual
def uptoBulk {H : Type} : DataW H → Nat
  | .lit (.string bytes) => bytes.length + 1
  | .lit _ => 1
  | .nil => 1
  | .ptr d => uptoBulk d + 1
  | .slice elems spare => uptoBulkAll elems + uptoBulkAll spare + 1
  | .agg parts => uptoBulkAll parts + 1
  | .iface _ d => uptoBulk d + 1
  | .map entries => uptoBulkEntries entries + 1
  | .held _ => 1
def uptoBulkAll {H : Type} : List (DataW H) → Nat
  | [] => 0
  | d :: r => uptoBulk d + uptoBulkAll r
def uptoBulkEntries {H : Type} : List (Lit × DataW H) → Nat
  | [] => 0
  | x :: r => uptoBulkEntry x + uptoBulkEntries r
def uptoBulkEntry {H : Type} : Lit × DataW H → Nat
  | (.string bytes, d) => bytes.length + uptoBulk d + 1
  | (_, d) => uptoBulk d + 1
 end
def uptoSmall : (H : Type) → List (DataW H) → Bool := fun _ ds => decide (uptoBulkAll ds ≤ 1048576)
def OpenSpec.upto (s : _root_.Go.ChangeSpec) : _root_.Go.OpenSpec := { _root_.Go.OpenSpec.ofChange s with cond := some uptoSmall }

/-- 'hatchkeep.Kept', WHERE WHAT IT READS IS OF BULK AT MOST 1048576: true; the input reads as it did. -/
def keptUptoRow : OpenClaim := { program := "ytppcnlkhdgmaiaadoor", sum := "890db4ad15ef29e8ece20eaedfdaefe17eb14c0a508c6ae4893f48113c396fe5", func := "hatch/hatchkeep.Kept", spec := "kept", inPlace := ["internal/abi.NoEscape"], unfollowed := true, recurses := true, named := ["hatch/hatch.byteKinds", "internal/strconv.uint64pow10", "math/bits.deBruijn32tab", "math/bits.deBruijn64tab"], apart := false, laid := [("math/bits.deBruijn32tab", laid_math_bits_deBruijn32tab), ("math/bits.deBruijn64tab", laid_math_bits_deBruijn64tab), ("internal/strconv.uint64pow10", laid_internal_strconv_uint64pow10), ("hatch/hatch.byteKinds", laid_hatch_hatch_byteKinds)], narrowed := true }
def KeptUptoSaid : Prop := keptUptoRow.holds Tryd.pinned (OpenSpec.upto keptSpec)

/-- 'hatchkeep.First', WHERE WHAT IT READS IS OF BULK AT MOST 1048576: true; the input reads as it did. -/
def firstUptoRow : OpenClaim := { program := "ytppcnlkhdgmaiaadoor", sum := "890db4ad15ef29e8ece20eaedfdaefe17eb14c0a508c6ae4893f48113c396fe5", func := "hatch/hatchkeep.First", spec := "first", inPlace := ["internal/abi.NoEscape"], unfollowed := true, recurses := true, named := ["hatch/hatch.byteKinds", "internal/strconv.uint64pow10", "math/bits.deBruijn32tab", "math/bits.deBruijn64tab"], apart := false, laid := [("math/bits.deBruijn32tab", laid_math_bits_deBruijn32tab), ("math/bits.deBruijn64tab", laid_math_bits_deBruijn64tab), ("internal/strconv.uint64pow10", laid_internal_strconv_uint64pow10), ("hatch/hatch.byteKinds", laid_hatch_hatch_byteKinds)], narrowed := true }
def FirstUptoSaid : Prop := firstUptoRow.holds Tryd.pinned (OpenSpec.upto firstSpec)

/-- 'hatchkeep.Best', WHERE WHAT IT READS IS OF BULK AT MOST 1048576: true; the input reads as it did. -/
def bestUptoRow : OpenClaim := { program := "ytppcnlkhdgmaiaadoor", sum := "890db4ad15ef29e8ece20eaedfdaefe17eb14c0a508c6ae4893f48113c396fe5", func := "hatch/hatchkeep.Best", spec := "best", inPlace := ["internal/abi.NoEscape"], unfollowed := true, recurses := true, named := ["hatch/hatch.byteKinds", "internal/strconv.uint64pow10", "math/bits.deBruijn32tab", "math/bits.deBruijn64tab"], apart := false, laid := [("math/bits.deBruijn32tab", laid_math_bits_deBruijn32tab), ("math/bits.deBruijn64tab", laid_math_bits_deBruijn64tab), ("internal/strconv.uint64pow10", laid_internal_strconv_uint64pow10), ("hatch/hatch.byteKinds", laid_hatch_hatch_byteKinds)], narrowed := true }
def BestUptoSaid : Prop := bestUptoRow.holds Tryd.pinned (OpenSpec.upto bestSpec)

/-- 'hatchkeep.Patient', WHERE WHAT IT READS IS OF BULK AT MOST 1048576: true; the input reads as it did. -/
def patientUptoRow : OpenClaim := { program := "ytppcnlkhdgmaiaadoor", sum := "890db4ad15ef29e8ece20eaedfdaefe17eb14c0a508c6ae4893f48113c396fe5", func := "hatch/hatchkeep.Patient", spec := "patient", inPlace := ["internal/abi.NoEscape"], unfollowed := true, recurses := true, named := ["hatch/hatch.byteKinds", "internal/strconv.uint64pow10", "math/bits.deBruijn32tab", "math/bits.deBruijn64tab"], apart := false, laid := [("math/bits.deBruijn32tab", laid_math_bits_deBruijn32tab), ("math/bits.deBruijn64tab", laid_math_bits_deBruijn64tab), ("internal/strconv.uint64pow10", laid_internal_strconv_uint64pow10), ("hatch/hatch.byteKinds", laid_hatch_hatch_byteKinds)], narrowed := true }
def PatientUptoSaid : Prop := patientUptoRow.holds Tryd.pinned (OpenSpec.upto patientSpec)

/-- 'hatchkeep.Completes', WHERE WHAT IT READS IS OF BULK AT MOST 1048576: true; the input reads as it did. -/
def completesUptoRow : OpenClaim := { program := "ytppcnlkhdgmaiaadoor", sum := "890db4ad15ef29e8ece20eaedfdaefe17eb14c0a508c6ae4893f48113c396fe5", func := "hatch/hatchkeep.Completes", spec := "completes", inPlace := ["internal/abi.NoEscape"], unfollowed := true, recurses := true, named := ["hatch/hatch.byteKinds", "internal/strconv.uint64pow10", "math/bits.deBruijn32tab", "math/bits.deBruijn64tab", "hatch/hatch.outcomeNames"], apart := false, laid := [("math/bits.deBruijn32tab", laid_math_bits_deBruijn32tab), ("math/bits.deBruijn64tab", laid_math_bits_deBruijn64tab), ("internal/strconv.uint64pow10", laid_internal_strconv_uint64pow10), ("hatch/hatch.outcomeNames", laid_hatch_hatch_outcomeNames), ("hatch/hatch.byteKinds", laid_hatch_hatch_byteKinds)], narrowed := true }
def CompletesUptoSaid : Prop := completesUptoRow.holds Tryd.pinned (OpenSpec.upto completesSpec)

/-- 'hatchkeep.Safe', WHERE WHAT IT READS IS OF BULK AT MOST 1048576: true; the input reads as it did. -/
def safeUptoRow : OpenClaim := { program := "ytppcnlkhdgmaiaadoor", sum := "890db4ad15ef29e8ece20eaedfdaefe17eb14c0a508c6ae4893f48113c396fe5", func := "hatch/hatchkeep.Safe", spec := "safe", inPlace := ["internal/abi.NoEscape"], named := ["hatch/hatch.byteKinds", "hatch/hatch.outcomeNames", "internal/strconv.uint64pow10", "math/bits.deBruijn32tab", "math/bits.deBruijn64tab"], apart := false, laid := [("math/bits.deBruijn32tab", laid_math_bits_deBruijn32tab), ("math/bits.deBruijn64tab", laid_math_bits_deBruijn64tab), ("internal/strconv.uint64pow10", laid_internal_strconv_uint64pow10), ("hatch/hatch.outcomeNames", laid_hatch_hatch_outcomeNames), ("hatch/hatch.byteKinds", laid_hatch_hatch_byteKinds)], narrowed := true }
def SafeUptoSaid : Prop := safeUptoRow.holds Tryd.pinned (OpenSpec.upto safeSpec)

/-- 'hatchkeep.Onward', WHERE WHAT IT READS IS OF BULK AT MOST 1048576: true; the input reads as it did. -/
def onwardUptoRow : OpenClaim := { program := "ytppcnlkhdgmaiaadoor", sum := "890db4ad15ef29e8ece20eaedfdaefe17eb14c0a508c6ae4893f48113c396fe5", func := "hatch/hatchkeep.Onward", spec := "onward", inPlace := ["internal/abi.NoEscape"], named := ["hatch/hatch.byteKinds", "hatch/hatch.outcomeNames", "internal/strconv.uint64pow10", "math/bits.deBruijn32tab", "math/bits.deBruijn64tab"], apart := false, laid := [("math/bits.deBruijn32tab", laid_math_bits_deBruijn32tab), ("math/bits.deBruijn64tab", laid_math_bits_deBruijn64tab), ("internal/strconv.uint64pow10", laid_internal_strconv_uint64pow10), ("hatch/hatch.outcomeNames", laid_hatch_hatch_outcomeNames), ("hatch/hatch.byteKinds", laid_hatch_hatch_byteKinds)], narrowed := true }
def OnwardUptoSaid : Prop := onwardUptoRow.holds Tryd.pinned (OpenSpec.upto onwardSpec)

/-- 'hatchkeep.Agree', WHERE WHAT IT READS IS OF BULK AT MOST 1048576: true; the input reads as it did. -/
def agreeUptoRow : OpenClaim := { program := "ytppcnlkhdgmaiaadoor", sum := "890db4ad15ef29e8ece20eaedfdaefe17eb14c0a508c6ae4893f48113c396fe5", func := "hatch/hatchkeep.Agree", spec := "agree", inPlace := ["internal/abi.NoEscape"], unfollowed := true, recurses := true, named := ["hatch/hatch.byteKinds", "internal/strconv.uint64pow10", "math/bits.deBruijn32tab", "math/bits.deBruijn64tab", "hatch/hatch.outcomeNames"], apart := false, laid := [("math/bits.deBruijn32tab", laid_math_bits_deBruijn32tab), ("math/bits.deBruijn64tab", laid_math_bits_deBruijn64tab), ("internal/strconv.uint64pow10", laid_internal_strconv_uint64pow10), ("hatch/hatch.outcomeNames", laid_hatch_hatch_outcomeNames), ("hatch/hatch.byteKinds", laid_hatch_hatch_byteKinds)], narrowed := true }
def AgreeUptoSaid : Prop := agreeUptoRow.holds Tryd.pinned (OpenSpec.upto agreeSpec)

end Rows
end Go.Proofs.YtppcnlkhdgmaiaaDoor
