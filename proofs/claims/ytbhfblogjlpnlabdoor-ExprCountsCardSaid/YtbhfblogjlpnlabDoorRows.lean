/-
  NARROWER THAN 'FOR EVERY INPUT', by the rows' own cells (each row's printed sentence says how): ExprCounts: laid · MacroHeads: laid · MacroBinds: laid · MacroPlain: laid · MacroParts: laid · PlaceLies: laid · PlaceLabels: laid · PlaceGrows: laid · PlaceSteps: laid.
  DERIVED. THE GIVEN ROWS OF THIS SEAT. 9 by the template 'for every input the law returns true; each argument reads behind the call as it read before'; 0 by the template 'total and deterministic' (their statements: YtbhfblogjlpnlabDoorTotals.lean).
  GIVEN WITH THE SEED: the statements are not yours to turn. If you find one false, say at which input.
  Laid BY PROGRAM, IN A SANDBOX (cutbox-rows.mjs): the forced cells as the released guide's own fill.sh prints them over the translation 1252df9bb8bd375b… (all of the seat's roots in one cut). By AI agents, Wed Nov 11 2026. No macro, syntax, notation, axiom, sorry.
-/
import Derived.Test.YtbhfblogjlpnlabDoorChecked
import GoSem.Claim
import GoSem.ClaimJoined
import GoSem.ClaimMapViews
import Derived.JoinedTies
import Derived.KernelRfl
namespace Go.Proofs.YtbhfblogjlpnlabDoor
/- THE CELL 'sum', in the pinned program and in every row, IS THE sha256 OF THE DUMP (.gsa) THAT YtbhfblogjlpnlabDoorProg.lean LOADS. Nothing in Lean hashes anything: it is a label: what it is worth is what the hold of that sum in a sandbox is worth. -/
noncomputable def Tryd.pinned : Pinned := { name := "ytbhfblogjlpnlabdoor", sum := "1252df9bb8bd375b3b68fb2502a32b7a692a11bd9975aafc1d9c5fe8fa8e7c81", checked := Tryd.checked }
namespace Rows
def none {H : Type} : Left H := { results := [], args := [] }

/- WHAT THE LISTED PACKAGE-LEVEL VARIABLES READ AS WHEN THE CALL BEGINS. Each datum BY PROGRAM (the guide's laid-datum.mjs) off the statement by which the dump's own 'gosem.cut.vars' lays the variable. In a bare row this is a premise. The card (YtbhfblogjlpnlabDoorCards.lean) ties it to the program's text. -/
def laid_math_bits_deBruijn32tab {H : Type} : DataW H := .agg [.lit (.int .u8 0), .lit (.int .u8 1), .lit (.int .u8 28), .lit (.int .u8 2), .lit (.int .u8 29), .lit (.int .u8 14), .lit (.int .u8 24), .lit (.int .u8 3), .lit (.int .u8 30), .lit (.int .u8 22), .lit (.int .u8 20), .lit (.int .u8 15), .lit (.int .u8 25), .lit (.int .u8 17), .lit (.int .u8 4), .lit (.int .u8 8), .lit (.int .u8 31), .lit (.int .u8 27), .lit (.int .u8 13), .lit (.int .u8 23), .lit (.int .u8 21), .lit (.int .u8 19), .lit (.int .u8 16), .lit (.int .u8 7), .lit (.int .u8 26), .lit (.int .u8 12), .lit (.int .u8 18), .lit (.int .u8 6), .lit (.int .u8 11), .lit (.int .u8 5), .lit (.int .u8 10), .lit (.int .u8 9)]
def laid_math_bits_deBruijn64tab {H : Type} : DataW H := .agg [.lit (.int .u8 0), .lit (.int .u8 1), .lit (.int .u8 56), .lit (.int .u8 2), .lit (.int .u8 57), .lit (.int .u8 49), .lit (.int .u8 28), .lit (.int .u8 3), .lit (.int .u8 61), .lit (.int .u8 58), .lit (.int .u8 42), .lit (.int .u8 50), .lit (.int .u8 38), .lit (.int .u8 29), .lit (.int .u8 17), .lit (.int .u8 4), .lit (.int .u8 62), .lit (.int .u8 47), .lit (.int .u8 59), .lit (.int .u8 36), .lit (.int .u8 45), .lit (.int .u8 43), .lit (.int .u8 51), .lit (.int .u8 22), .lit (.int .u8 53), .lit (.int .u8 39), .lit (.int .u8 33), .lit (.int .u8 30), .lit (.int .u8 24), .lit (.int .u8 18), .lit (.int .u8 12), .lit (.int .u8 5), .lit (.int .u8 63), .lit (.int .u8 55), .lit (.int .u8 48), .lit (.int .u8 27), .lit (.int .u8 60), .lit (.int .u8 41), .lit (.int .u8 37), .lit (.int .u8 16), .lit (.int .u8 46), .lit (.int .u8 35), .lit (.int .u8 44), .lit (.int .u8 21), .lit (.int .u8 52), .lit (.int .u8 32), .lit (.int .u8 23), .lit (.int .u8 11), .lit (.int .u8 54), .lit (.int .u8 26), .lit (.int .u8 40), .lit (.int .u8 15), .lit (.int .u8 34), .lit (.int .u8 20), .lit (.int .u8 31), .lit (.int .u8 10), .lit (.int .u8 25), .lit (.int .u8 14), .lit (.int .u8 19), .lit (.int .u8 9), .lit (.int .u8 13), .lit (.int .u8 8), .lit (.int .u8 7), .lit (.int .u8 6)]
def laid_internal_strconv_uint64pow10 {H : Type} : DataW H := .agg [.lit (.int .u64 1), .lit (.int .u64 10), .lit (.int .u64 100), .lit (.int .u64 1000), .lit (.int .u64 10000), .lit (.int .u64 100000), .lit (.int .u64 1000000), .lit (.int .u64 10000000), .lit (.int .u64 100000000), .lit (.int .u64 1000000000), .lit (.int .u64 10000000000), .lit (.int .u64 100000000000), .lit (.int .u64 1000000000000), .lit (.int .u64 10000000000000), .lit (.int .u64 100000000000000), .lit (.int .u64 1000000000000000), .lit (.int .u64 10000000000000000), .lit (.int .u64 100000000000000000), .lit (.int .u64 1000000000000000000), .lit (.int .u64 10000000000000000000)]
def laid_errors_errorType {H : Type} : DataW H := .iface "internal/reflectlite.rtype" (.agg [.ptr (.lit (.string [101, 114, 114, 111, 114]))])

/-- 'typecaselaw11.ExprCounts': WHATEVER THE INPUT: true; the input reads as it did. -/
def exprCountsSpec : ChangeSpec := { name := "exprCounts", fn := fun _ => fun
  | [d] => { results := [.lit (.bool true)], args := [d] }
  | _ => none }
def exprCountsRow : OpenClaim := { program := "ytbhfblogjlpnlabdoor", sum := "1252df9bb8bd375b3b68fb2502a32b7a692a11bd9975aafc1d9c5fe8fa8e7c81", func := "typecase/typecaselaw11.ExprCounts", spec := "exprCounts", inPlace := ["internal/reflectlite.ValueOf", "(internal/reflectlite.Value).Type", "(internal/reflectlite.Value).IsNil", "internal/reflectlite.TypeOf", "(internal/reflectlite.Value).Elem", "(internal/reflectlite.Value).Set"], unfollowed := true, recurses := true, named := ["errors.errorType", "internal/strconv.uint64pow10", "math/bits.deBruijn32tab", "math/bits.deBruijn64tab"], apart := false, laid := [("math/bits.deBruijn32tab", laid_math_bits_deBruijn32tab), ("math/bits.deBruijn64tab", laid_math_bits_deBruijn64tab), ("internal/strconv.uint64pow10", laid_internal_strconv_uint64pow10), ("errors.errorType", laid_errors_errorType)] }
def ExprCountsSaid : Prop := exprCountsRow.holds Tryd.pinned (OpenSpec.ofChange exprCountsSpec)

/-- ITS FALSE NEIGHBOUR: 'it returns false'. Refute it at one input. -/
def exprCountsWrong : ChangeSpec := { name := "exprCounts", fn := fun _ => fun
  | [d] => { results := [.lit (.bool false)], args := [d] }
  | _ => none }
def ExprCountsWrongFalsely : Prop := exprCountsRow.holds Tryd.pinned (OpenSpec.ofChange exprCountsWrong)

/-- 'typecaselaw14.MacroHeads': WHATEVER THE INPUT: true; the input reads as it did. -/
def macroHeadsSpec : ChangeSpec := { name := "macroHeads", fn := fun _ => fun
  | [d] => { results := [.lit (.bool true)], args := [d] }
  | _ => none }
def macroHeadsRow : OpenClaim := { program := "ytbhfblogjlpnlabdoor", sum := "1252df9bb8bd375b3b68fb2502a32b7a692a11bd9975aafc1d9c5fe8fa8e7c81", func := "typecase/typecaselaw14.MacroHeads", spec := "macroHeads", inPlace := ["internal/reflectlite.ValueOf", "(internal/reflectlite.Value).Type", "(internal/reflectlite.Value).IsNil", "internal/reflectlite.TypeOf", "(internal/reflectlite.Value).Elem", "(internal/reflectlite.Value).Set"], unfollowed := true, recurses := true, named := ["errors.errorType"], apart := false, laid := [("errors.errorType", laid_errors_errorType)] }
def MacroHeadsSaid : Prop := macroHeadsRow.holds Tryd.pinned (OpenSpec.ofChange macroHeadsSpec)

/-- ITS FALSE NEIGHBOUR: 'it returns false'. Refute it at one input. -/
def macroHeadsWrong : ChangeSpec := { name := "macroHeads", fn := fun _ => fun
  | [d] => { results := [.lit (.bool false)], args := [d] }
  | _ => none }
def MacroHeadsWrongFalsely : Prop := macroHeadsRow.holds Tryd.pinned (OpenSpec.ofChange macroHeadsWrong)

/-- 'typecaselaw14.MacroBinds': WHATEVER THE INPUT: true; the input reads as it did. -/
def macroBindsSpec : ChangeSpec := { name := "macroBinds", fn := fun _ => fun
  | [d1, d2, d3] => { results := [.lit (.bool true)], args := [d1, d2, d3] }
  | _ => none }
def macroBindsRow : OpenClaim := { program := "ytbhfblogjlpnlabdoor", sum := "1252df9bb8bd375b3b68fb2502a32b7a692a11bd9975aafc1d9c5fe8fa8e7c81", func := "typecase/typecaselaw14.MacroBinds", spec := "macroBinds", inPlace := ["internal/reflectlite.ValueOf", "(internal/reflectlite.Value).Type", "(internal/reflectlite.Value).IsNil", "internal/reflectlite.TypeOf", "(internal/reflectlite.Value).Elem", "(internal/reflectlite.Value).Set"], unfollowed := true, recurses := true, named := ["errors.errorType"], apart := false, laid := [("errors.errorType", laid_errors_errorType)] }
def MacroBindsSaid : Prop := macroBindsRow.holds Tryd.pinned (OpenSpec.ofChange macroBindsSpec)

/-- ITS FALSE NEIGHBOUR: 'it returns false'. Refute it at one input. -/
def macroBindsWrong : ChangeSpec := { name := "macroBinds", fn := fun _ => fun
  | [d1, d2, d3] => { results := [.lit (.bool false)], args := [d1, d2, d3] }
  | _ => none }
def MacroBindsWrongFalsely : Prop := macroBindsRow.holds Tryd.pinned (OpenSpec.ofChange macroBindsWrong)

/-- 'typecaselaw14.MacroPlain': WHATEVER THE INPUT: true; the input reads as it did. -/
def macroPlainSpec : ChangeSpec := { name := "macroPlain", fn := fun _ => fun
  | [d1, d2, d3] => { results := [.lit (.bool true)], args := [d1, d2, d3] }
  | _ => none }
def macroPlainRow : OpenClaim := { program := "ytbhfblogjlpnlabdoor", sum := "1252df9bb8bd375b3b68fb2502a32b7a692a11bd9975aafc1d9c5fe8fa8e7c81", func := "typecase/typecaselaw14.MacroPlain", spec := "macroPlain", inPlace := ["internal/reflectlite.ValueOf", "(internal/reflectlite.Value).Type", "(internal/reflectlite.Value).IsNil", "internal/reflectlite.TypeOf", "(internal/reflectlite.Value).Elem", "(internal/reflectlite.Value).Set"], unfollowed := true, recurses := true, named := ["errors.errorType"], apart := false, laid := [("errors.errorType", laid_errors_errorType)] }
def MacroPlainSaid : Prop := macroPlainRow.holds Tryd.pinned (OpenSpec.ofChange macroPlainSpec)

/-- ITS FALSE NEIGHBOUR: 'it returns false'. Refute it at one input. -/
def macroPlainWrong : ChangeSpec := { name := "macroPlain", fn := fun _ => fun
  | [d1, d2, d3] => { results := [.lit (.bool false)], args := [d1, d2, d3] }
  | _ => none }
def MacroPlainWrongFalsely : Prop := macroPlainRow.holds Tryd.pinned (OpenSpec.ofChange macroPlainWrong)

/-- 'typecaselaw14.MacroParts': WHATEVER THE INPUT: true; the input reads as it did. -/
def macroPartsSpec : ChangeSpec := { name := "macroParts", fn := fun _ => fun
  | [d] => { results := [.lit (.bool true)], args := [d] }
  | _ => none }
def macroPartsRow : OpenClaim := { program := "ytbhfblogjlpnlabdoor", sum := "1252df9bb8bd375b3b68fb2502a32b7a692a11bd9975aafc1d9c5fe8fa8e7c81", func := "typecase/typecaselaw14.MacroParts", spec := "macroParts", inPlace := ["internal/reflectlite.ValueOf", "(internal/reflectlite.Value).Type", "(internal/reflectlite.Value).IsNil", "internal/reflectlite.TypeOf", "(internal/reflectlite.Value).Elem", "(internal/reflectlite.Value).Set"], unfollowed := true, recurses := true, named := ["errors.errorType"], apart := false, laid := [("errors.errorType", laid_errors_errorType)] }
def MacroPartsSaid : Prop := macroPartsRow.holds Tryd.pinned (OpenSpec.ofChange macroPartsSpec)

/-- ITS FALSE NEIGHBOUR: 'it returns false'. Refute it at one input. -/
def macroPartsWrong : ChangeSpec := { name := "macroParts", fn := fun _ => fun
  | [d] => { results := [.lit (.bool false)], args := [d] }
  | _ => none }
def MacroPartsWrongFalsely : Prop := macroPartsRow.holds Tryd.pinned (OpenSpec.ofChange macroPartsWrong)

/-- 'typecaselaw19.PlaceLies': WHATEVER THE INPUT: true; the input reads as it did. -/
def placeLiesSpec : ChangeSpec := { name := "placeLies", fn := fun _ => fun
  | [d1, d2, d3] => { results := [.lit (.bool true)], args := [d1, d2, d3] }
  | _ => none }
def placeLiesRow : OpenClaim := { program := "ytbhfblogjlpnlabdoor", sum := "1252df9bb8bd375b3b68fb2502a32b7a692a11bd9975aafc1d9c5fe8fa8e7c81", func := "typecase/typecaselaw19.PlaceLies", spec := "placeLies", inPlace := ["internal/reflectlite.ValueOf", "(internal/reflectlite.Value).Type", "(internal/reflectlite.Value).IsNil", "internal/reflectlite.TypeOf", "(internal/reflectlite.Value).Elem", "(internal/reflectlite.Value).Set"], unfollowed := true, recurses := true, named := ["errors.errorType"], apart := false, laid := [("errors.errorType", laid_errors_errorType)] }
def PlaceLiesSaid : Prop := placeLiesRow.holds Tryd.pinned (OpenSpec.ofChange placeLiesSpec)

/-- ITS FALSE NEIGHBOUR: 'it returns false'. Refute it at one input. -/
def placeLiesWrong : ChangeSpec := { name := "placeLies", fn := fun _ => fun
  | [d1, d2, d3] => { results := [.lit (.bool false)], args := [d1, d2, d3] }
  | _ => none }
def PlaceLiesWrongFalsely : Prop := placeLiesRow.holds Tryd.pinned (OpenSpec.ofChange placeLiesWrong)

/-- 'typecaselaw19.PlaceLabels': WHATEVER THE INPUT: true; the input reads as it did. -/
def placeLabelsSpec : ChangeSpec := { name := "placeLabels", fn := fun _ => fun
  | [d1, d2, d3] => { results := [.lit (.bool true)], args := [d1, d2, d3] }
  | _ => none }
def placeLabelsRow : OpenClaim := { program := "ytbhfblogjlpnlabdoor", sum := "1252df9bb8bd375b3b68fb2502a32b7a692a11bd9975aafc1d9c5fe8fa8e7c81", func := "typecase/typecaselaw19.PlaceLabels", spec := "placeLabels", inPlace := ["internal/reflectlite.ValueOf", "(internal/reflectlite.Value).Type", "(internal/reflectlite.Value).IsNil", "internal/reflectlite.TypeOf", "(internal/reflectlite.Value).Elem", "(internal/reflectlite.Value).Set"], unfollowed := true, recurses := true, named := ["errors.errorType"], apart := false, laid := [("errors.errorType", laid_errors_errorType)] }
def PlaceLabelsSaid : Prop := placeLabelsRow.holds Tryd.pinned (OpenSpec.ofChange placeLabelsSpec)

/-- ITS FALSE NEIGHBOUR: 'it returns false'. Refute it at one input. -/
def placeLabelsWrong : ChangeSpec := { name := "placeLabels", fn := fun _ => fun
  | [d1, d2, d3] => { results := [.lit (.bool false)], args := [d1, d2, d3] }
  | _ => none }
def PlaceLabelsWrongFalsely : Prop := placeLabelsRow.holds Tryd.pinned (OpenSpec.ofChange placeLabelsWrong)

/-- 'typecaselaw19.PlaceGrows': WHATEVER THE INPUT: true; the input reads as it did. -/
def placeGrowsSpec : ChangeSpec := { name := "placeGrows", fn := fun _ => fun
  | [d1, d2, d3, d4] => { results := [.lit (.bool true)], args := [d1, d2, d3, d4] }
  | _ => none }
def placeGrowsRow : OpenClaim := { program := "ytbhfblogjlpnlabdoor", sum := "1252df9bb8bd375b3b68fb2502a32b7a692a11bd9975aafc1d9c5fe8fa8e7c81", func := "typecase/typecaselaw19.PlaceGrows", spec := "placeGrows", inPlace := ["internal/reflectlite.ValueOf", "(internal/reflectlite.Value).Type", "(internal/reflectlite.Value).IsNil", "internal/reflectlite.TypeOf", "(internal/reflectlite.Value).Elem", "(internal/reflectlite.Value).Set"], unfollowed := true, recurses := true, named := ["errors.errorType"], apart := false, laid := [("errors.errorType", laid_errors_errorType)] }
def PlaceGrowsSaid : Prop := placeGrowsRow.holds Tryd.pinned (OpenSpec.ofChange placeGrowsSpec)

/-- ITS FALSE NEIGHBOUR: 'it returns false'. Refute it at one input. -/
def placeGrowsWrong : ChangeSpec := { name := "placeGrows", fn := fun _ => fun
  | [d1, d2, d3, d4] => { results := [.lit (.bool false)], args := [d1, d2, d3, d4] }
  | _ => none }
def PlaceGrowsWrongFalsely : Prop := placeGrowsRow.holds Tryd.pinned (OpenSpec.ofChange placeGrowsWrong)

/-- 'typecaselaw19.PlaceSteps': WHATEVER THE INPUT: true; the input reads as it did. -/
def placeStepsSpec : ChangeSpec := { name := "placeSteps", fn := fun _ => fun
  | [d1, d2, d3] => { results := [.lit (.bool true)], args := [d1, d2, d3] }
  | _ => none }
def placeStepsRow : OpenClaim := { program := "ytbhfblogjlpnlabdoor", sum := "1252df9bb8bd375b3b68fb2502a32b7a692a11bd9975aafc1d9c5fe8fa8e7c81", func := "typecase/typecaselaw19.PlaceSteps", spec := "placeSteps", inPlace := ["internal/reflectlite.ValueOf", "(internal/reflectlite.Value).Type", "(internal/reflectlite.Value).IsNil", "internal/reflectlite.TypeOf", "(internal/reflectlite.Value).Elem", "(internal/reflectlite.Value).Set"], unfollowed := true, recurses := true, named := ["errors.errorType"], apart := false, laid := [("errors.errorType", laid_errors_errorType)] }
def PlaceStepsSaid : Prop := placeStepsRow.holds Tryd.pinned (OpenSpec.ofChange placeStepsSpec)

/-- ITS FALSE NEIGHBOUR: 'it returns false'. Refute it at one input. -/
def placeStepsWrong : ChangeSpec := { name := "placeSteps", fn := fun _ => fun
  | [d1, d2, d3] => { results := [.lit (.bool false)], args := [d1, d2, d3] }
  | _ => none }
def PlaceStepsWrongFalsely : Prop := placeStepsRow.holds Tryd.pinned (OpenSpec.ofChange placeStepsWrong)

/- THE SECOND FORM. 'bulk': how many values and letters a reading holds, each counted each time it is reached (what is shared counts as often as it is met; a slice's spare places count too). A statement '..UptoSaid' is the law's where the arguments, and the package variables that the reading takes, are together of bulk at most 1048576: NARROWER than '..Said'. Prove '..Said' where nothing that the law and all that it calls make is longer than what came in: it says more and counts as full. Else prove '..UptoSaid'. A law counts once. -/
mutual
def uptoBulk {H : Type} : DataW H → Nat
  | .lit (.string bytes) => bytes.length + 1
  | .lit _ => 1
  | .nil => 1
  | .ptr d => uptoBulk d + 1
  | .slice elems spare => uptoBulkAll elems + uptoBulkAll spare + 1
  | .agg parts => uptoBulkAll parts + 1
  | .iface _ d => uptoBulk d + 1
  | .map entries => uptoBulkEntries entries + 1
  | .held _ => 1
def uptoBulkAll {H : Type} : List (DataW H) → Nat
  | [] => 0
  | d :: r => uptoBulk d + uptoBulkAll r
def uptoBulkEntries {H : Type} : List (Lit × DataW H) → Nat
  | [] => 0
  | x :: r => uptoBulkEntry x + uptoBulkEntries r
def uptoBulkEntry {H : Type} : Lit × DataW H → Nat
  | (.string bytes, d) => bytes.length + uptoBulk d + 1
  | (_, d) => uptoBulk d + 1
 end
def uptoSmall : (H : Type) → List (DataW H) → Bool := fun _ ds => decide (uptoBulkAll ds ≤ 1048576)
def OpenSpec.upto (s : _root_.Go.ChangeSpec) : _root_.Go.OpenSpec := { _root_.Go.OpenSpec.ofChange s with cond := some uptoSmall }

/-- 'typecaselaw11.ExprCounts', WHERE WHAT IT READS IS OF BULK AT MOST 1048576: true; the input reads as it did. -/
def exprCountsUptoRow : OpenClaim := { program := "ytbhfblogjlpnlabdoor", sum := "1252df9bb8bd375b3b68fb2502a32b7a692a11bd9975aafc1d9c5fe8fa8e7c81", func := "typecase/typecaselaw11.ExprCounts", spec := "exprCounts", inPlace := ["internal/reflectlite.ValueOf", "(internal/reflectlite.Value).Type", "(internal/reflectlite.Value).IsNil", "internal/reflectlite.TypeOf", "(internal/reflectlite.Value).Elem", "(internal/reflectlite.Value).Set"], unfollowed := true, recurses := true, named := ["errors.errorType", "internal/strconv.uint64pow10", "math/bits.deBruijn32tab", "math/bits.deBruijn64tab"], apart := false, laid := [("math/bits.deBruijn32tab", laid_math_bits_deBruijn32tab), ("math/bits.deBruijn64tab", laid_math_bits_deBruijn64tab), ("internal/strconv.uint64pow10", laid_internal_strconv_uint64pow10), ("errors.errorType", laid_errors_errorType)], narrowed := true }
def ExprCountsUptoSaid : Prop := exprCountsUptoRow.holds Tryd.pinned (OpenSpec.upto exprCountsSpec)

/-- 'typecaselaw14.MacroHeads', WHERE WHAT IT READS IS OF BULK AT MOST 1048576: true; the input reads as it did. -/
def macroHeadsUptoRow : OpenClaim := { program := "ytbhfblogjlpnlabdoor", sum := "1252df9bb8bd375b3b68fb2502a32b7a692a11bd9975aafc1d9c5fe8fa8e7c81", func := "typecase/typecaselaw14.MacroHeads", spec := "macroHeads", inPlace := ["internal/reflectlite.ValueOf", "(internal/reflectlite.Value).Type", "(internal/reflectlite.Value).IsNil", "internal/reflectlite.TypeOf", "(internal/reflectlite.Value).Elem", "(internal/reflectlite.Value).Set"], unfollowed := true, recurses := true, named := ["errors.errorType"], apart := false, laid := [("errors.errorType", laid_errors_errorType)], narrowed := true }
def MacroHeadsUptoSaid : Prop := macroHeadsUptoRow.holds Tryd.pinned (OpenSpec.upto macroHeadsSpec)

/-- 'typecaselaw14.MacroBinds', WHERE WHAT IT READS IS OF BULK AT MOST 1048576: true; the input reads as it did. -/
def macroBindsUptoRow : OpenClaim := { program := "ytbhfblogjlpnlabdoor", sum := "1252df9bb8bd375b3b68fb2502a32b7a692a11bd9975aafc1d9c5fe8fa8e7c81", func := "typecase/typecaselaw14.MacroBinds", spec := "macroBinds", inPlace := ["internal/reflectlite.ValueOf", "(internal/reflectlite.Value).Type", "(internal/reflectlite.Value).IsNil", "internal/reflectlite.TypeOf", "(internal/reflectlite.Value).Elem", "(internal/reflectlite.Value).Set"], unfollowed := true, recurses := true, named := ["errors.errorType"], apart := false, laid := [("errors.errorType", laid_errors_errorType)], narrowed := true }
def MacroBindsUptoSaid : Prop := macroBindsUptoRow.holds Tryd.pinned (OpenSpec.upto macroBindsSpec)

/-- 'typecaselaw14.MacroPlain', WHERE WHAT IT READS IS OF BULK AT MOST 1048576: true; the input reads as it did. -/
def macroPlainUptoRow : OpenClaim := { program := "ytbhfblogjlpnlabdoor", sum := "1252df9bb8bd375b3b68fb2502a32b7a692a11bd9975aafc1d9c5fe8fa8e7c81", func := "typecase/typecaselaw14.MacroPlain", spec := "macroPlain", inPlace := ["internal/reflectlite.ValueOf", "(internal/reflectlite.Value).Type", "(internal/reflectlite.Value).IsNil", "internal/reflectlite.TypeOf", "(internal/reflectlite.Value).Elem", "(internal/reflectlite.Value).Set"], unfollowed := true, recurses := true, named := ["errors.errorType"], apart := false, laid := [("errors.errorType", laid_errors_errorType)], narrowed := true }
def MacroPlainUptoSaid : Prop := macroPlainUptoRow.holds Tryd.pinned (OpenSpec.upto macroPlainSpec)

/-- 'typecaselaw14.MacroParts', WHERE WHAT IT READS IS OF BULK AT MOST 1048576: true; the input reads as it did. -/
def macroPartsUptoRow : OpenClaim := { program := "ytbhfblogjlpnlabdoor", sum := "1252df9bb8bd375b3b68fb2502a32b7a692a11bd9975aafc1d9c5fe8fa8e7c81", func := "typecase/typecaselaw14.MacroParts", spec := "macroParts", inPlace := ["internal/reflectlite.ValueOf", "(internal/reflectlite.Value).Type", "(internal/reflectlite.Value).IsNil", "internal/reflectlite.TypeOf", "(internal/reflectlite.Value).Elem", "(internal/reflectlite.Value).Set"], unfollowed := true, recurses := true, named := ["errors.errorType"], apart := false, laid := [("errors.errorType", laid_errors_errorType)], narrowed := true }
def MacroPartsUptoSaid : Prop := macroPartsUptoRow.holds Tryd.pinned (OpenSpec.upto macroPartsSpec)

/-- 'typecaselaw19.PlaceLies', WHERE WHAT IT READS IS OF BULK AT MOST 1048576: true; the input reads as it did. -/
def placeLiesUptoRow : OpenClaim := { program := "ytbhfblogjlpnlabdoor", sum := "1252df9bb8bd375b3b68fb2502a32b7a692a11bd9975aafc1d9c5fe8fa8e7c81", func := "typecase/typecaselaw19.PlaceLies", spec := "placeLies", inPlace := ["internal/reflectlite.ValueOf", "(internal/reflectlite.Value).Type", "(internal/reflectlite.Value).IsNil", "internal/reflectlite.TypeOf", "(internal/reflectlite.Value).Elem", "(internal/reflectlite.Value).Set"], unfollowed := true, recurses := true, named := ["errors.errorType"], apart := false, laid := [("errors.errorType", laid_errors_errorType)], narrowed := true }
def PlaceLiesUptoSaid : Prop := placeLiesUptoRow.holds Tryd.pinned (OpenSpec.upto placeLiesSpec)

/-- 'typecaselaw19.PlaceLabels', WHERE WHAT IT READS IS OF BULK AT MOST 1048576: true; the input reads as it did. -/
def placeLabelsUptoRow : OpenClaim := { program := "ytbhfblogjlpnlabdoor", sum := "1252df9bb8bd375b3b68fb2502a32b7a692a11bd9975aafc1d9c5fe8fa8e7c81", func := "typecase/typecaselaw19.PlaceLabels", spec := "placeLabels", inPlace := ["internal/reflectlite.ValueOf", "(internal/reflectlite.Value).Type", "(internal/reflectlite.Value).IsNil", "internal/reflectlite.TypeOf", "(internal/reflectlite.Value).Elem", "(internal/reflectlite.Value).Set"], unfollowed := true, recurses := true, named := ["errors.errorType"], apart := false, laid := [("errors.errorType", laid_errors_errorType)], narrowed := true }
def PlaceLabelsUptoSaid : Prop := placeLabelsUptoRow.holds Tryd.pinned (OpenSpec.upto placeLabelsSpec)

/-- 'typecaselaw19.PlaceGrows', WHERE WHAT IT READS IS OF BULK AT MOST 1048576: true; the input reads as it did. -/
def placeGrowsUptoRow : OpenClaim := { program := "ytbhfblogjlpnlabdoor", sum := "1252df9bb8bd375b3b68fb2502a32b7a692a11bd9975aafc1d9c5fe8fa8e7c81", func := "typecase/typecaselaw19.PlaceGrows", spec := "placeGrows", inPlace := ["internal/reflectlite.ValueOf", "(internal/reflectlite.Value).Type", "(internal/reflectlite.Value).IsNil", "internal/reflectlite.TypeOf", "(internal/reflectlite.Value).Elem", "(internal/reflectlite.Value).Set"], unfollowed := true, recurses := true, named := ["errors.errorType"], apart := false, laid := [("errors.errorType", laid_errors_errorType)], narrowed := true }
def PlaceGrowsUptoSaid : Prop := placeGrowsUptoRow.holds Tryd.pinned (OpenSpec.upto placeGrowsSpec)

/-- 'typecaselaw19.PlaceSteps', WHERE WHAT IT READS IS OF BULK AT MOST 1048576: true; the input reads as it did. -/
def placeStepsUptoRow : OpenClaim := { program := "ytbhfblogjlpnlabdoor", sum := "1252df9bb8bd375b3b68fb2502a32b7a692a11bd9975aafc1d9c5fe8fa8e7c81", func := "typecase/typecaselaw19.PlaceSteps", spec := "placeSteps", inPlace := ["internal/reflectlite.ValueOf", "(internal/reflectlite.Value).Type", "(internal/reflectlite.Value).IsNil", "internal/reflectlite.TypeOf", "(internal/reflectlite.Value).Elem", "(internal/reflectlite.Value).Set"], unfollowed := true, recurses := true, named := ["errors.errorType"], apart := false, laid := [("errors.errorType", laid_errors_errorType)], narrowed := true }
def PlaceStepsUptoSaid : Prop := placeStepsUptoRow.holds Tryd.pinned (OpenSpec.upto placeStepsSpec)

end Rows
end Go.Proofs.YtbhfblogjlpnlabDoor
