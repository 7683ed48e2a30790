/-
  NARROWER THAN 'FOR EVERY INPUT', by the rows' own cells (each row's printed sentence says how): Blocks: laid · Pictures: laid · Opens: laid · Any: laid · Again: laid · Cuts: laid · Torn: laid.
  DERIVED. THE GIVEN ROWS OF THIS SEAT. 7 by the template 'for every input the law returns true; each argument reads behind the call as it read before'; 0 by the template 'total and deterministic' (their statements: YtknjjjenklfeoaaGreatDoorTotals.lean).
  GIVEN WITH THE SEED: the statements are not yours to turn. If you find one false, say at which input.
  Laid BY PROGRAM, IN A SANDBOX (cutbox-rows.mjs): the forced cells as the released guide's own fill.sh prints them over the translation cbf3f95efab105e2… (all of the seat's roots in one cut). By AI agents, Wed Nov 11 2026. No macro, syntax, notation, axiom, sorry.
-/
import Derived.Test.YtknjjjenklfeoaaGreatDoorChecked
import GoSem.Claim
import GoSem.ClaimJoined
import GoSem.ClaimMapViews
import Derived.JoinedTies
import Derived.KernelRfl
namespace Go.Proofs.YtknjjjenklfeoaaGreatDoor
/- THE CELL 'sum', in the pinned program and in every row, IS THE sha256 OF THE DUMP (.gsa) THAT YtknjjjenklfeoaaGreatDoorProg.lean LOADS. Nothing in Lean hashes anything: it is a label: what it is worth is what the hold of that sum in a sandbox is worth. -/
noncomputable def Tryz.pinned : Pinned := { name := "ytknjjjenklfeoaagreatdoor", sum := "cbf3f95efab105e263548a00a77d545adfb37d8d7f4dcd7b61e9379371a7d9a3", checked := Tryz.checked }
namespace Rows
def none {H : Type} : Left H := { results := [], args := [] }

/- WHAT THE LISTED PACKAGE-LEVEL VARIABLES READ AS WHEN THE CALL BEGINS. Each datum BY PROGRAM (the guide's laid-datum.mjs) off the statement by which the dump's own 'gosem.cut.vars' lays the variable. In a bare row this is a premise. The card (YtknjjjenklfeoaaGreatDoorCards.lean) ties it to the program's text. -/
def laid_errors_errorType {H : Type} : DataW H := .iface "internal/reflectlite.rtype" (.agg [.ptr (.lit (.string [101, 114, 114, 111, 114]))])
def laid_vellum_volume_errLength {H : Type} : DataW H := .iface "*errors.errorString" (.ptr (.agg [.lit (.string [116, 104, 101, 32, 102, 105, 108, 101, 32, 105, 115, 32, 116, 111, 111, 32, 115, 104, 111, 114, 116, 32, 111, 114, 32, 116, 111, 111, 32, 108, 111, 110, 103])]))
def laid_vellum_volume_errHead {H : Type} : DataW H := .iface "*errors.errorString" (.ptr (.agg [.lit (.string [116, 104, 101, 32, 104, 101, 97, 100, 32, 105, 115, 32, 110, 111, 116, 32, 97, 115, 32, 105, 116, 32, 109, 117, 115, 116, 32, 98, 101])]))
def laid_vellum_volume_errList {H : Type} : DataW H := .iface "*errors.errorString" (.ptr (.agg [.lit (.string [116, 104, 101, 32, 108, 105, 115, 116, 32, 105, 115, 32, 110, 111, 116, 32, 97, 115, 32, 105, 116, 32, 109, 117, 115, 116, 32, 98, 101])]))
def laid_vellum_volume_errNowhere {H : Type} : DataW H := .iface "*errors.errorString" (.ptr (.agg [.lit (.string [97, 32, 110, 117, 109, 98, 101, 114, 32, 116, 101, 108, 108, 115, 32, 97, 32, 99, 108, 117, 115, 116, 101, 114, 32, 116, 104, 97, 116, 32, 109, 97, 121, 32, 110, 111, 116, 32, 98, 101, 32, 116, 111, 108, 100])]))
def laid_vellum_volume_errTwice {H : Type} : DataW H := .iface "*errors.errorString" (.ptr (.agg [.lit (.string [97, 32, 110, 117, 109, 98, 101, 114, 32, 116, 101, 108, 108, 115, 32, 97, 32, 99, 108, 117, 115, 116, 101, 114, 32, 116, 104, 97, 116, 32, 105, 115, 32, 116, 111, 108, 100, 32, 97, 115, 32, 115, 111, 109, 101, 116, 104, 105, 110, 103, 32, 101, 108, 115, 101])]))
def laid_vellum_volume_errBehind {H : Type} : DataW H := .iface "*errors.errorString" (.ptr (.agg [.lit (.string [97, 32, 110, 117, 109, 98, 101, 114, 32, 115, 116, 97, 110, 100, 115, 32, 98, 101, 104, 105, 110, 100, 32, 116, 104, 111, 115, 101, 32, 116, 104, 97, 116, 32, 97, 32, 102, 105, 114, 115, 116, 32, 116, 97, 98, 108, 101, 32, 117, 115, 101, 115])]))
def laid_vellum_volume_errCount {H : Type} : DataW H := .iface "*errors.errorString" (.ptr (.agg [.lit (.string [97, 32, 99, 111, 117, 110, 116, 32, 105, 115, 32, 116, 111, 111, 32, 108, 111, 119, 32, 111, 114, 32, 116, 111, 111, 32, 104, 105, 103, 104])]))
def laid_vellum_volume_errMark {H : Type} : DataW H := .iface "*errors.errorString" (.ptr (.agg [.lit (.string [97, 32, 109, 97, 114, 107, 32, 115, 116, 97, 110, 100, 115, 32, 119, 104, 101, 114, 101, 32, 116, 104, 101, 32, 99, 108, 117, 115, 116, 101, 114, 32, 105, 115, 32, 110, 111, 116, 32, 117, 115, 101, 100, 32, 98, 121, 32, 116, 104, 105, 115, 32, 110, 117, 109, 98, 101, 114, 32, 97, 108, 111, 110, 101])]))

/-- 'vellumlaw.Blocks': WHATEVER THE INPUT: true; the input reads as it did. -/
def blocksSpec : ChangeSpec := { name := "blocks", fn := fun _ => fun
  | [d] => { results := [.lit (.bool true)], args := [d] }
  | _ => none }
def blocksRow : OpenClaim := { program := "ytknjjjenklfeoaagreatdoor", sum := "cbf3f95efab105e263548a00a77d545adfb37d8d7f4dcd7b61e9379371a7d9a3", func := "vellum/vellumlaw.Blocks", spec := "blocks", inPlace := ["internal/bytealg.IndexByte", "internal/bytealg.Index", "internal/reflectlite.ValueOf", "(internal/reflectlite.Value).Type", "(internal/reflectlite.Value).IsNil", "internal/reflectlite.TypeOf", "(internal/reflectlite.Value).Elem", "(internal/reflectlite.Value).Set"], unfollowed := true, recurses := true, named := ["internal/bytealg.MaxLen", "vellum/volume.errLength", "vellum/volume.errHead", "vellum/volume.errList", "vellum/volume.errNowhere", "vellum/volume.errTwice", "vellum/volume.errBehind", "vellum/volume.errCount", "vellum/volume.errMark", "errors.errorType"], apart := false, laid := [("errors.errorType", laid_errors_errorType), ("vellum/volume.errLength", laid_vellum_volume_errLength), ("vellum/volume.errHead", laid_vellum_volume_errHead), ("vellum/volume.errList", laid_vellum_volume_errList), ("vellum/volume.errNowhere", laid_vellum_volume_errNowhere), ("vellum/volume.errTwice", laid_vellum_volume_errTwice), ("vellum/volume.errBehind", laid_vellum_volume_errBehind), ("vellum/volume.errCount", laid_vellum_volume_errCount), ("vellum/volume.errMark", laid_vellum_volume_errMark)] }
def BlocksSaid : Prop := blocksRow.holds Tryz.pinned (OpenSpec.ofChange blocksSpec)

/-- ITS FALSE NEIGHBOUR: 'it returns false'. Refute it at one input. -/
def blocksWrong : ChangeSpec := { name := "blocks", fn := fun _ => fun
  | [d] => { results := [.lit (.bool false)], args := [d] }
  | _ => none }
def BlocksWrongFalsely : Prop := blocksRow.holds Tryz.pinned (OpenSpec.ofChange blocksWrong)

/-- 'vellumlaw.Pictures': WHATEVER THE INPUT: true; the input reads as it did. -/
def picturesSpec : ChangeSpec := { name := "pictures", fn := fun _ => fun
  | [d] => { results := [.lit (.bool true)], args := [d] }
  | _ => none }
def picturesRow : OpenClaim := { program := "ytknjjjenklfeoaagreatdoor", sum := "cbf3f95efab105e263548a00a77d545adfb37d8d7f4dcd7b61e9379371a7d9a3", func := "vellum/vellumlaw.Pictures", spec := "pictures", inPlace := ["internal/bytealg.IndexByte", "internal/bytealg.Index", "internal/reflectlite.ValueOf", "(internal/reflectlite.Value).Type", "(internal/reflectlite.Value).IsNil", "internal/reflectlite.TypeOf", "(internal/reflectlite.Value).Elem", "(internal/reflectlite.Value).Set"], unfollowed := true, recurses := true, named := ["internal/bytealg.MaxLen", "vellum/volume.errLength", "vellum/volume.errHead", "vellum/volume.errList", "vellum/volume.errNowhere", "vellum/volume.errTwice", "vellum/volume.errBehind", "vellum/volume.errCount", "vellum/volume.errMark", "errors.errorType"], apart := false, laid := [("errors.errorType", laid_errors_errorType), ("vellum/volume.errLength", laid_vellum_volume_errLength), ("vellum/volume.errHead", laid_vellum_volume_errHead), ("vellum/volume.errList", laid_vellum_volume_errList), ("vellum/volume.errNowhere", laid_vellum_volume_errNowhere), ("vellum/volume.errTwice", laid_vellum_volume_errTwice), ("vellum/volume.errBehind", laid_vellum_volume_errBehind), ("vellum/volume.errCount", laid_vellum_volume_errCount), ("vellum/volume.errMark", laid_vellum_volume_errMark)] }
def PicturesSaid : Prop := picturesRow.holds Tryz.pinned (OpenSpec.ofChange picturesSpec)

/-- ITS FALSE NEIGHBOUR: 'it returns false'. Refute it at one input. -/
def picturesWrong : ChangeSpec := { name := "pictures", fn := fun _ => fun
  | [d] => { results := [.lit (.bool false)], args := [d] }
  | _ => none }
def PicturesWrongFalsely : Prop := picturesRow.holds Tryz.pinned (OpenSpec.ofChange picturesWrong)

/-- 'vellumlaw.Opens': WHATEVER THE INPUT: true; the input reads as it did. -/
def opensSpec : ChangeSpec := { name := "opens", fn := fun _ => fun
  | [d] => { results := [.lit (.bool true)], args := [d] }
  | _ => none }
def opensRow : OpenClaim := { program := "ytknjjjenklfeoaagreatdoor", sum := "cbf3f95efab105e263548a00a77d545adfb37d8d7f4dcd7b61e9379371a7d9a3", func := "vellum/vellumlaw.Opens", spec := "opens", inPlace := ["internal/bytealg.IndexByte", "internal/bytealg.Index", "internal/reflectlite.ValueOf", "(internal/reflectlite.Value).Type", "(internal/reflectlite.Value).IsNil", "internal/reflectlite.TypeOf", "(internal/reflectlite.Value).Elem", "(internal/reflectlite.Value).Set"], unfollowed := true, recurses := true, named := ["internal/bytealg.MaxLen", "vellum/volume.errLength", "vellum/volume.errHead", "vellum/volume.errList", "vellum/volume.errNowhere", "vellum/volume.errTwice", "vellum/volume.errBehind", "vellum/volume.errCount", "vellum/volume.errMark", "errors.errorType"], apart := false, laid := [("errors.errorType", laid_errors_errorType), ("vellum/volume.errLength", laid_vellum_volume_errLength), ("vellum/volume.errHead", laid_vellum_volume_errHead), ("vellum/volume.errList", laid_vellum_volume_errList), ("vellum/volume.errNowhere", laid_vellum_volume_errNowhere), ("vellum/volume.errTwice", laid_vellum_volume_errTwice), ("vellum/volume.errBehind", laid_vellum_volume_errBehind), ("vellum/volume.errCount", laid_vellum_volume_errCount), ("vellum/volume.errMark", laid_vellum_volume_errMark)] }
def OpensSaid : Prop := opensRow.holds Tryz.pinned (OpenSpec.ofChange opensSpec)

/-- ITS FALSE NEIGHBOUR: 'it returns false'. Refute it at one input. -/
def opensWrong : ChangeSpec := { name := "opens", fn := fun _ => fun
  | [d] => { results := [.lit (.bool false)], args := [d] }
  | _ => none }
def OpensWrongFalsely : Prop := opensRow.holds Tryz.pinned (OpenSpec.ofChange opensWrong)

/-- 'vellumlaw.Any': WHATEVER THE INPUT: true; the input reads as it did. -/
def anySpec : ChangeSpec := { name := "any", fn := fun _ => fun
  | [d] => { results := [.lit (.bool true)], args := [d] }
  | _ => none }
def anyRow : OpenClaim := { program := "ytknjjjenklfeoaagreatdoor", sum := "cbf3f95efab105e263548a00a77d545adfb37d8d7f4dcd7b61e9379371a7d9a3", func := "vellum/vellumlaw.Any", spec := "any", inPlace := ["internal/bytealg.IndexByte", "internal/bytealg.Index", "internal/reflectlite.ValueOf", "(internal/reflectlite.Value).Type", "(internal/reflectlite.Value).IsNil", "internal/reflectlite.TypeOf", "(internal/reflectlite.Value).Elem", "(internal/reflectlite.Value).Set"], unfollowed := true, recurses := true, named := ["vellum/volume.errLength", "vellum/volume.errHead", "vellum/volume.errList", "internal/bytealg.MaxLen", "vellum/volume.errNowhere", "vellum/volume.errTwice", "vellum/volume.errBehind", "vellum/volume.errCount", "vellum/volume.errMark", "errors.errorType"], apart := false, laid := [("errors.errorType", laid_errors_errorType), ("vellum/volume.errLength", laid_vellum_volume_errLength), ("vellum/volume.errHead", laid_vellum_volume_errHead), ("vellum/volume.errList", laid_vellum_volume_errList), ("vellum/volume.errNowhere", laid_vellum_volume_errNowhere), ("vellum/volume.errTwice", laid_vellum_volume_errTwice), ("vellum/volume.errBehind", laid_vellum_volume_errBehind), ("vellum/volume.errCount", laid_vellum_volume_errCount), ("vellum/volume.errMark", laid_vellum_volume_errMark)] }
def AnySaid : Prop := anyRow.holds Tryz.pinned (OpenSpec.ofChange anySpec)

/-- ITS FALSE NEIGHBOUR: 'it returns false'. Refute it at one input. -/
def anyWrong : ChangeSpec := { name := "any", fn := fun _ => fun
  | [d] => { results := [.lit (.bool false)], args := [d] }
  | _ => none }
def AnyWrongFalsely : Prop := anyRow.holds Tryz.pinned (OpenSpec.ofChange anyWrong)

/-- 'vellumkeep.Again': WHATEVER THE INPUT: true; the input reads as it did. -/
def againSpec : ChangeSpec := { name := "again", fn := fun _ => fun
  | [d1, d2, d3] => { results := [.lit (.bool true)], args := [d1, d2, d3] }
  | _ => none }
def againRow : OpenClaim := { program := "ytknjjjenklfeoaagreatdoor", sum := "cbf3f95efab105e263548a00a77d545adfb37d8d7f4dcd7b61e9379371a7d9a3", func := "vellum/vellumkeep.Again", spec := "again", inPlace := ["internal/bytealg.IndexByte", "internal/bytealg.Index", "internal/reflectlite.ValueOf", "(internal/reflectlite.Value).Type", "(internal/reflectlite.Value).IsNil", "internal/reflectlite.TypeOf", "(internal/reflectlite.Value).Elem", "(internal/reflectlite.Value).Set"], unfollowed := true, recurses := true, named := ["internal/bytealg.MaxLen", "vellum/volume.errLength", "vellum/volume.errHead", "vellum/volume.errList", "vellum/volume.errNowhere", "vellum/volume.errTwice", "vellum/volume.errBehind", "vellum/volume.errCount", "vellum/volume.errMark", "errors.errorType"], apart := false, laid := [("errors.errorType", laid_errors_errorType), ("vellum/volume.errLength", laid_vellum_volume_errLength), ("vellum/volume.errHead", laid_vellum_volume_errHead), ("vellum/volume.errList", laid_vellum_volume_errList), ("vellum/volume.errNowhere", laid_vellum_volume_errNowhere), ("vellum/volume.errTwice", laid_vellum_volume_errTwice), ("vellum/volume.errBehind", laid_vellum_volume_errBehind), ("vellum/volume.errCount", laid_vellum_volume_errCount), ("vellum/volume.errMark", laid_vellum_volume_errMark)] }
def AgainSaid : Prop := againRow.holds Tryz.pinned (OpenSpec.ofChange againSpec)

/-- ITS FALSE NEIGHBOUR: 'it returns false'. Refute it at one input. -/
def againWrong : ChangeSpec := { name := "again", fn := fun _ => fun
  | [d1, d2, d3] => { results := [.lit (.bool false)], args := [d1, d2, d3] }
  | _ => none }
def AgainWrongFalsely : Prop := againRow.holds Tryz.pinned (OpenSpec.ofChange againWrong)

/-- 'vellumlaw.Cuts': WHATEVER THE INPUT: true; the input reads as it did. -/
def cutsSpec : ChangeSpec := { name := "cuts", fn := fun _ => fun
  | [d] => { results := [.lit (.bool true)], args := [d] }
  | _ => none }
def cutsRow : OpenClaim := { program := "ytknjjjenklfeoaagreatdoor", sum := "cbf3f95efab105e263548a00a77d545adfb37d8d7f4dcd7b61e9379371a7d9a3", func := "vellum/vellumlaw.Cuts", spec := "cuts", inPlace := ["internal/bytealg.IndexByte", "internal/bytealg.Index", "internal/reflectlite.ValueOf", "(internal/reflectlite.Value).Type", "(internal/reflectlite.Value).IsNil", "internal/reflectlite.TypeOf", "(internal/reflectlite.Value).Elem", "(internal/reflectlite.Value).Set"], unfollowed := true, recurses := true, named := ["internal/bytealg.MaxLen", "vellum/volume.errLength", "vellum/volume.errHead", "vellum/volume.errList", "vellum/volume.errNowhere", "vellum/volume.errTwice", "vellum/volume.errBehind", "vellum/volume.errCount", "vellum/volume.errMark", "errors.errorType"], apart := false, laid := [("errors.errorType", laid_errors_errorType), ("vellum/volume.errLength", laid_vellum_volume_errLength), ("vellum/volume.errHead", laid_vellum_volume_errHead), ("vellum/volume.errList", laid_vellum_volume_errList), ("vellum/volume.errNowhere", laid_vellum_volume_errNowhere), ("vellum/volume.errTwice", laid_vellum_volume_errTwice), ("vellum/volume.errBehind", laid_vellum_volume_errBehind), ("vellum/volume.errCount", laid_vellum_volume_errCount), ("vellum/volume.errMark", laid_vellum_volume_errMark)] }
def CutsSaid : Prop := cutsRow.holds Tryz.pinned (OpenSpec.ofChange cutsSpec)

/-- ITS FALSE NEIGHBOUR: 'it returns false'. Refute it at one input. -/
def cutsWrong : ChangeSpec := { name := "cuts", fn := fun _ => fun
  | [d] => { results := [.lit (.bool false)], args := [d] }
  | _ => none }
def CutsWrongFalsely : Prop := cutsRow.holds Tryz.pinned (OpenSpec.ofChange cutsWrong)

/-- 'vellumkeep.Torn': WHATEVER THE INPUT: true; the input reads as it did. -/
def tornSpec : ChangeSpec := { name := "torn", fn := fun _ => fun
  | [d1, d2, d3, d4, d5, d6] => { results := [.lit (.bool true)], args := [d1, d2, d3, d4, d5, d6] }
  | _ => none }
def tornRow : OpenClaim := { program := "ytknjjjenklfeoaagreatdoor", sum := "cbf3f95efab105e263548a00a77d545adfb37d8d7f4dcd7b61e9379371a7d9a3", func := "vellum/vellumkeep.Torn", spec := "torn", inPlace := ["internal/bytealg.IndexByte", "internal/bytealg.Index", "internal/reflectlite.ValueOf", "(internal/reflectlite.Value).Type", "(internal/reflectlite.Value).IsNil", "internal/reflectlite.TypeOf", "(internal/reflectlite.Value).Elem", "(internal/reflectlite.Value).Set"], unfollowed := true, recurses := true, named := ["internal/bytealg.MaxLen", "vellum/volume.errLength", "vellum/volume.errHead", "vellum/volume.errList", "vellum/volume.errNowhere", "vellum/volume.errTwice", "vellum/volume.errBehind", "vellum/volume.errCount", "vellum/volume.errMark", "errors.errorType"], apart := false, laid := [("errors.errorType", laid_errors_errorType), ("vellum/volume.errLength", laid_vellum_volume_errLength), ("vellum/volume.errHead", laid_vellum_volume_errHead), ("vellum/volume.errList", laid_vellum_volume_errList), ("vellum/volume.errNowhere", laid_vellum_volume_errNowhere), ("vellum/volume.errTwice", laid_vellum_volume_errTwice), ("vellum/volume.errBehind", laid_vellum_volume_errBehind), ("vellum/volume.errCount", laid_vellum_volume_errCount), ("vellum/volume.errMark", laid_vellum_volume_errMark)] }
def TornSaid : Prop := tornRow.holds Tryz.pinned (OpenSpec.ofChange tornSpec)

/-- ITS FALSE NEIGHBOUR: 'it returns false'. Refute it at one input. -/
def tornWrong : ChangeSpec := { name := "torn", fn := fun _ => fun
  | [d1, d2, d3, d4, d5, d6] => { results := [.lit (.bool false)], args := [d1, d2, d3, d4, d5, d6] }
  | _ => none }
def TornWrongFalsely : Prop := tornRow.holds Tryz.pinned (OpenSpec.ofChange tornWrong)

/- THE SECOND FORM. 'bulk': how many values and letters a reading holds, each counted each time it is reached (what is shared counts as often as it is met; a slice's spare places count too). A statement '..UptoSaid' is the law's where the arguments, and the package variables that the reading takes, are together of bulk at most 1048576: NARROWER than '..Said'. Prove '..Said' where nothing that the law and all that it calls make is longer than what came in: it says more and counts as full. Else prove '..UptoSaid'. A law counts once. -/
mutual
def uptoBulk {H : Type} : DataW H → Nat
  | .lit (.string bytes) => bytes.length + 1
  | .lit _ => 1
  | .nil => 1
  | .ptr d => uptoBulk d + 1
  | .slice elems spare => uptoBulkAll elems + uptoBulkAll spare + 1
  | .agg parts => uptoBulkAll parts + 1
  | .iface _ d => uptoBulk d + 1
  | .map entries => uptoBulkEntries entries + 1
  | .held _ => 1
def uptoBulkAll {H : Type} : List (DataW H) → Nat
  | [] => 0
  | d :: r => uptoBulk d + uptoBulkAll r
def uptoBulkEntries {H : Type} : List (Lit × DataW H) → Nat
  | [] => 0
  | x :: r => uptoBulkEntry x + uptoBulkEntries r
def uptoBulkEntry {H : Type} : Lit × DataW H → Nat
  | (.string bytes, d) => bytes.length + uptoBulk d + 1
  | (_, d) => uptoBulk d + 1
 end
def uptoSmall : (H : Type) → List (DataW H) → Bool := fun _ ds => decide (uptoBulkAll ds ≤ 1048576)
def OpenSpec.upto (s : _root_.Go.ChangeSpec) : _root_.Go.OpenSpec := { _root_.Go.OpenSpec.ofChange s with cond := some uptoSmall }

/-- 'vellumlaw.Blocks', WHERE WHAT IT READS IS OF BULK AT MOST 1048576: true; the input reads as it did. -/
def blocksUptoRow : OpenClaim := { program := "ytknjjjenklfeoaagreatdoor", sum := "cbf3f95efab105e263548a00a77d545adfb37d8d7f4dcd7b61e9379371a7d9a3", func := "vellum/vellumlaw.Blocks", spec := "blocks", inPlace := ["internal/bytealg.IndexByte", "internal/bytealg.Index", "internal/reflectlite.ValueOf", "(internal/reflectlite.Value).Type", "(internal/reflectlite.Value).IsNil", "internal/reflectlite.TypeOf", "(internal/reflectlite.Value).Elem", "(internal/reflectlite.Value).Set"], unfollowed := true, recurses := true, named := ["internal/bytealg.MaxLen", "vellum/volume.errLength", "vellum/volume.errHead", "vellum/volume.errList", "vellum/volume.errNowhere", "vellum/volume.errTwice", "vellum/volume.errBehind", "vellum/volume.errCount", "vellum/volume.errMark", "errors.errorType"], apart := false, laid := [("errors.errorType", laid_errors_errorType), ("vellum/volume.errLength", laid_vellum_volume_errLength), ("vellum/volume.errHead", laid_vellum_volume_errHead), ("vellum/volume.errList", laid_vellum_volume_errList), ("vellum/volume.errNowhere", laid_vellum_volume_errNowhere), ("vellum/volume.errTwice", laid_vellum_volume_errTwice), ("vellum/volume.errBehind", laid_vellum_volume_errBehind), ("vellum/volume.errCount", laid_vellum_volume_errCount), ("vellum/volume.errMark", laid_vellum_volume_errMark)], narrowed := true }
def BlocksUptoSaid : Prop := blocksUptoRow.holds Tryz.pinned (OpenSpec.upto blocksSpec)

/-- 'vellumlaw.Pictures', WHERE WHAT IT READS IS OF BULK AT MOST 1048576: true; the input reads as it did. -/
def picturesUptoRow : OpenClaim := { program := "ytknjjjenklfeoaagreatdoor", sum := "cbf3f95efab105e263548a00a77d545adfb37d8d7f4dcd7b61e9379371a7d9a3", func := "vellum/vellumlaw.Pictures", spec := "pictures", inPlace := ["internal/bytealg.IndexByte", "internal/bytealg.Index", "internal/reflectlite.ValueOf", "(internal/reflectlite.Value).Type", "(internal/reflectlite.Value).IsNil", "internal/reflectlite.TypeOf", "(internal/reflectlite.Value).Elem", "(internal/reflectlite.Value).Set"], unfollowed := true, recurses := true, named := ["internal/bytealg.MaxLen", "vellum/volume.errLength", "vellum/volume.errHead", "vellum/volume.errList", "vellum/volume.errNowhere", "vellum/volume.errTwice", "vellum/volume.errBehind", "vellum/volume.errCount", "vellum/volume.errMark", "errors.errorType"], apart := false, laid := [("errors.errorType", laid_errors_errorType), ("vellum/volume.errLength", laid_vellum_volume_errLength), ("vellum/volume.errHead", laid_vellum_volume_errHead), ("vellum/volume.errList", laid_vellum_volume_errList), ("vellum/volume.errNowhere", laid_vellum_volume_errNowhere), ("vellum/volume.errTwice", laid_vellum_volume_errTwice), ("vellum/volume.errBehind", laid_vellum_volume_errBehind), ("vellum/volume.errCount", laid_vellum_volume_errCount), ("vellum/volume.errMark", laid_vellum_volume_errMark)], narrowed := true }
def PicturesUptoSaid : Prop := picturesUptoRow.holds Tryz.pinned (OpenSpec.upto picturesSpec)

/-- 'vellumlaw.Opens', WHERE WHAT IT READS IS OF BULK AT MOST 1048576: true; the input reads as it did. -/
def opensUptoRow : OpenClaim := { program := "ytknjjjenklfeoaagreatdoor", sum := "cbf3f95efab105e263548a00a77d545adfb37d8d7f4dcd7b61e9379371a7d9a3", func := "vellum/vellumlaw.Opens", spec := "opens", inPlace := ["internal/bytealg.IndexByte", "internal/bytealg.Index", "internal/reflectlite.ValueOf", "(internal/reflectlite.Value).Type", "(internal/reflectlite.Value).IsNil", "internal/reflectlite.TypeOf", "(internal/reflectlite.Value).Elem", "(internal/reflectlite.Value).Set"], unfollowed := true, recurses := true, named := ["internal/bytealg.MaxLen", "vellum/volume.errLength", "vellum/volume.errHead", "vellum/volume.errList", "vellum/volume.errNowhere", "vellum/volume.errTwice", "vellum/volume.errBehind", "vellum/volume.errCount", "vellum/volume.errMark", "errors.errorType"], apart := false, laid := [("errors.errorType", laid_errors_errorType), ("vellum/volume.errLength", laid_vellum_volume_errLength), ("vellum/volume.errHead", laid_vellum_volume_errHead), ("vellum/volume.errList", laid_vellum_volume_errList), ("vellum/volume.errNowhere", laid_vellum_volume_errNowhere), ("vellum/volume.errTwice", laid_vellum_volume_errTwice), ("vellum/volume.errBehind", laid_vellum_volume_errBehind), ("vellum/volume.errCount", laid_vellum_volume_errCount), ("vellum/volume.errMark", laid_vellum_volume_errMark)], narrowed := true }
def OpensUptoSaid : Prop := opensUptoRow.holds Tryz.pinned (OpenSpec.upto opensSpec)

/-- 'vellumlaw.Any', WHERE WHAT IT READS IS OF BULK AT MOST 1048576: true; the input reads as it did. -/
def anyUptoRow : OpenClaim := { program := "ytknjjjenklfeoaagreatdoor", sum := "cbf3f95efab105e263548a00a77d545adfb37d8d7f4dcd7b61e9379371a7d9a3", func := "vellum/vellumlaw.Any", spec := "any", inPlace := ["internal/bytealg.IndexByte", "internal/bytealg.Index", "internal/reflectlite.ValueOf", "(internal/reflectlite.Value).Type", "(internal/reflectlite.Value).IsNil", "internal/reflectlite.TypeOf", "(internal/reflectlite.Value).Elem", "(internal/reflectlite.Value).Set"], unfollowed := true, recurses := true, named := ["vellum/volume.errLength", "vellum/volume.errHead", "vellum/volume.errList", "internal/bytealg.MaxLen", "vellum/volume.errNowhere", "vellum/volume.errTwice", "vellum/volume.errBehind", "vellum/volume.errCount", "vellum/volume.errMark", "errors.errorType"], apart := false, laid := [("errors.errorType", laid_errors_errorType), ("vellum/volume.errLength", laid_vellum_volume_errLength), ("vellum/volume.errHead", laid_vellum_volume_errHead), ("vellum/volume.errList", laid_vellum_volume_errList), ("vellum/volume.errNowhere", laid_vellum_volume_errNowhere), ("vellum/volume.errTwice", laid_vellum_volume_errTwice), ("vellum/volume.errBehind", laid_vellum_volume_errBehind), ("vellum/volume.errCount", laid_vellum_volume_errCount), ("vellum/volume.errMark", laid_vellum_volume_errMark)], narrowed := true }
def AnyUptoSaid : Prop := anyUptoRow.holds Tryz.pinned (OpenSpec.upto anySpec)

/-- 'vellumkeep.Again', WHERE WHAT IT READS IS OF BULK AT MOST 1048576: true; the input reads as it did. -/
def againUptoRow : OpenClaim := { program := "ytknjjjenklfeoaagreatdoor", sum := "cbf3f95efab105e263548a00a77d545adfb37d8d7f4dcd7b61e9379371a7d9a3", func := "vellum/vellumkeep.Again", spec := "again", inPlace := ["internal/bytealg.IndexByte", "internal/bytealg.Index", "internal/reflectlite.ValueOf", "(internal/reflectlite.Value).Type", "(internal/reflectlite.Value).IsNil", "internal/reflectlite.TypeOf", "(internal/reflectlite.Value).Elem", "(internal/reflectlite.Value).Set"], unfollowed := true, recurses := true, named := ["internal/bytealg.MaxLen", "vellum/volume.errLength", "vellum/volume.errHead", "vellum/volume.errList", "vellum/volume.errNowhere", "vellum/volume.errTwice", "vellum/volume.errBehind", "vellum/volume.errCount", "vellum/volume.errMark", "errors.errorType"], apart := false, laid := [("errors.errorType", laid_errors_errorType), ("vellum/volume.errLength", laid_vellum_volume_errLength), ("vellum/volume.errHead", laid_vellum_volume_errHead), ("vellum/volume.errList", laid_vellum_volume_errList), ("vellum/volume.errNowhere", laid_vellum_volume_errNowhere), ("vellum/volume.errTwice", laid_vellum_volume_errTwice), ("vellum/volume.errBehind", laid_vellum_volume_errBehind), ("vellum/volume.errCount", laid_vellum_volume_errCount), ("vellum/volume.errMark", laid_vellum_volume_errMark)], narrowed := true }
def AgainUptoSaid : Prop := againUptoRow.holds Tryz.pinned (OpenSpec.upto againSpec)

/-- 'vellumlaw.Cuts', WHERE WHAT IT READS IS OF BULK AT MOST 1048576: true; the input reads as it did. -/
def cutsUptoRow : OpenClaim := { program := "ytknjjjenklfeoaagreatdoor", sum := "cbf3f95efab105e263548a00a77d545adfb37d8d7f4dcd7b61e9379371a7d9a3", func := "vellum/vellumlaw.Cuts", spec := "cuts", inPlace := ["internal/bytealg.IndexByte", "internal/bytealg.Index", "internal/reflectlite.ValueOf", "(internal/reflectlite.Value).Type", "(internal/reflectlite.Value).IsNil", "internal/reflectlite.TypeOf", "(internal/reflectlite.Value).Elem", "(internal/reflectlite.Value).Set"], unfollowed := true, recurses := true, named := ["internal/bytealg.MaxLen", "vellum/volume.errLength", "vellum/volume.errHead", "vellum/volume.errList", "vellum/volume.errNowhere", "vellum/volume.errTwice", "vellum/volume.errBehind", "vellum/volume.errCount", "vellum/volume.errMark", "errors.errorType"], apart := false, laid := [("errors.errorType", laid_errors_errorType), ("vellum/volume.errLength", laid_vellum_volume_errLength), ("vellum/volume.errHead", laid_vellum_volume_errHead), ("vellum/volume.errList", laid_vellum_volume_errList), ("vellum/volume.errNowhere", laid_vellum_volume_errNowhere), ("vellum/volume.errTwice", laid_vellum_volume_errTwice), ("vellum/volume.errBehind", laid_vellum_volume_errBehind), ("vellum/volume.errCount", laid_vellum_volume_errCount), ("vellum/volume.errMark", laid_vellum_volume_errMark)], narrowed := true }
def CutsUptoSaid : Prop := cutsUptoRow.holds Tryz.pinned (OpenSpec.upto cutsSpec)

/-- 'vellumkeep.Torn', WHERE WHAT IT READS IS OF BULK AT MOST 1048576: true; the input reads as it did. -/
def tornUptoRow : OpenClaim := { program := "ytknjjjenklfeoaagreatdoor", sum := "cbf3f95efab105e263548a00a77d545adfb37d8d7f4dcd7b61e9379371a7d9a3", func := "vellum/vellumkeep.Torn", spec := "torn", inPlace := ["internal/bytealg.IndexByte", "internal/bytealg.Index", "internal/reflectlite.ValueOf", "(internal/reflectlite.Value).Type", "(internal/reflectlite.Value).IsNil", "internal/reflectlite.TypeOf", "(internal/reflectlite.Value).Elem", "(internal/reflectlite.Value).Set"], unfollowed := true, recurses := true, named := ["internal/bytealg.MaxLen", "vellum/volume.errLength", "vellum/volume.errHead", "vellum/volume.errList", "vellum/volume.errNowhere", "vellum/volume.errTwice", "vellum/volume.errBehind", "vellum/volume.errCount", "vellum/volume.errMark", "errors.errorType"], apart := false, laid := [("errors.errorType", laid_errors_errorType), ("vellum/volume.errLength", laid_vellum_volume_errLength), ("vellum/volume.errHead", laid_vellum_volume_errHead), ("vellum/volume.errList", laid_vellum_volume_errList), ("vellum/volume.errNowhere", laid_vellum_volume_errNowhere), ("vellum/volume.errTwice", laid_vellum_volume_errTwice), ("vellum/volume.errBehind", laid_vellum_volume_errBehind), ("vellum/volume.errCount", laid_vellum_volume_errCount), ("vellum/volume.errMark", laid_vellum_volume_errMark)], narrowed := true }
def TornUptoSaid : Prop := tornUptoRow.holds Tryz.pinned (OpenSpec.upto tornSpec)

end Rows
end Go.Proofs.YtknjjjenklfeoaaGreatDoor
