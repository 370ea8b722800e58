/-
  NARROWER THAN 'FOR EVERY INPUT', by the rows' own cells (each row's printed sentence says how): RemapKeeps: laid · RemapTorn: laid · RemapShapes: laid · RemapReplaces: laid · RemapSpares: laid.
  DERIVED. THE GIVEN ROWS OF THIS SEAT. 5 by the template 'for every input the law returns true; each argument reads behind the call as it read before'; 0 by the template 'total and deterministic' (their statements: YtpdickpipdaphaaGreatDoorTotals.lean).
  GIVEN WITH THE SEED: the statements are not yours to turn. If you find one false, say at which input.
  Laid BY PROGRAM, IN A SANDBOX (cutbox-rows.mjs): the forced cells as the released guide's own fill.sh prints them over the translation 568e2b91e24ae600… (all of the seat's roots in one cut). By AI agents, Wed Nov 11 2026. No macro, syntax, notation, axiom, sorry.
-/
import Derived.Test.YtpdickpipdaphaaGreatDoorChecked
import GoSem.PinnedTables
import GoSem.Claim
import GoSem.ClaimJoined
import GoSem.ClaimMapViews
import Derived.JoinedTies
import Derived.KernelRfl
namespace Go.Proofs.YtpdickpipdaphaaGreatDoor
/- THE CELL 'sum', in the pinned program and in every row, IS THE sha256 OF THE DUMP (.gsa) THAT YtpdickpipdaphaaGreatDoorProg.lean LOADS. Nothing in Lean hashes anything: it is a label: what it is worth is what the hold of that sum in a sandbox is worth. -/
noncomputable def Tryz.pinned : Pinned := { name := "ytpdickpipdaphaagreatdoor", sum := "568e2b91e24ae6003912122f4d227c3985dad24237135b7e4824cff640d67e3e", checked := Tryz.checked }
namespace Rows
def none {H : Type} : Left H := { results := [], args := [] }

/- WHAT THE LISTED PACKAGE-LEVEL VARIABLES READ AS WHEN THE CALL BEGINS. Each datum BY PROGRAM (the guide's laid-datum.mjs) off the statement by which the dump's own 'gosem.cut.vars' lays the variable. In a bare row this is a premise. The card (YtpdickpipdaphaaGreatDoorCards.lean) ties it to the program's text. -/
def laid_unicode_utf8_acceptRanges {H : Type} : DataW H := .agg [.agg [.lit (.int .u8 128), .lit (.int .u8 191)], .agg [.lit (.int .u8 160), .lit (.int .u8 191)], .agg [.lit (.int .u8 128), .lit (.int .u8 159)], .agg [.lit (.int .u8 144), .lit (.int .u8 191)], .agg [.lit (.int .u8 128), .lit (.int .u8 143)], .agg [.lit (.int .u8 0), .lit (.int .u8 0)], .agg [.lit (.int .u8 0), .lit (.int .u8 0)], .agg [.lit (.int .u8 0), .lit (.int .u8 0)], .agg [.lit (.int .u8 0), .lit (.int .u8 0)], .agg [.lit (.int .u8 0), .lit (.int .u8 0)], .agg [.lit (.int .u8 0), .lit (.int .u8 0)], .agg [.lit (.int .u8 0), .lit (.int .u8 0)], .agg [.lit (.int .u8 0), .lit (.int .u8 0)], .agg [.lit (.int .u8 0), .lit (.int .u8 0)], .agg [.lit (.int .u8 0), .lit (.int .u8 0)], .agg [.lit (.int .u8 0), .lit (.int .u8 0)]]
/-- One of Go's own tables, pinned by name: the form's constant. -/
def laid_unicode_utf8_first : DataW Unit := Go.Pinned.utf8First

/-- 'treenaillaw07.RemapKeeps': WHATEVER THE INPUT: true; the input reads as it did. -/
def remapKeepsSpec : ChangeSpec := { name := "remapKeeps", fn := fun _ => fun
  | [d] => { results := [.lit (.bool true)], args := [d] }
  | _ => none }
def remapKeepsRow : OpenClaim := { program := "ytpdickpipdaphaagreatdoor", sum := "568e2b91e24ae6003912122f4d227c3985dad24237135b7e4824cff640d67e3e", func := "treenail/treenaillaw07.RemapKeeps", spec := "remapKeeps", inPlace := ["internal/abi.NoEscape", "internal/bytealg.MakeNoZero", "internal/bytealg.IndexByteString", "internal/bytealg.IndexString"], unfollowed := true, recurses := true, named := ["unicode/utf8.first", "unicode/utf8.acceptRanges", "internal/bytealg.MaxLen"], plainKeys := false, apart := false, laid := [("unicode/utf8.acceptRanges", laid_unicode_utf8_acceptRanges), ("unicode/utf8.first", laid_unicode_utf8_first)] }
def RemapKeepsSaid : Prop := remapKeepsRow.holds Tryz.pinned (OpenSpec.ofChange remapKeepsSpec)

/-- ITS FALSE NEIGHBOUR: 'it returns false'. Refute it at one input. -/
def remapKeepsWrong : ChangeSpec := { name := "remapKeeps", fn := fun _ => fun
  | [d] => { results := [.lit (.bool false)], args := [d] }
  | _ => none }
def RemapKeepsWrongFalsely : Prop := remapKeepsRow.holds Tryz.pinned (OpenSpec.ofChange remapKeepsWrong)

/-- 'treenaillaw07.RemapTorn': WHATEVER THE INPUT: true; the input reads as it did. -/
def remapTornSpec : ChangeSpec := { name := "remapTorn", fn := fun _ => fun
  | [d1, d2, d3] => { results := [.lit (.bool true)], args := [d1, d2, d3] }
  | _ => none }
def remapTornRow : OpenClaim := { program := "ytpdickpipdaphaagreatdoor", sum := "568e2b91e24ae6003912122f4d227c3985dad24237135b7e4824cff640d67e3e", func := "treenail/treenaillaw07.RemapTorn", spec := "remapTorn", inPlace := ["internal/abi.NoEscape", "internal/bytealg.MakeNoZero", "internal/bytealg.IndexByteString", "internal/bytealg.IndexString"], unfollowed := true, recurses := true, named := ["unicode/utf8.first", "unicode/utf8.acceptRanges", "internal/bytealg.MaxLen"], plainKeys := false, apart := false, laid := [("unicode/utf8.acceptRanges", laid_unicode_utf8_acceptRanges), ("unicode/utf8.first", laid_unicode_utf8_first)] }
def RemapTornSaid : Prop := remapTornRow.holds Tryz.pinned (OpenSpec.ofChange remapTornSpec)

/-- ITS FALSE NEIGHBOUR: 'it returns false'. Refute it at one input. -/
def remapTornWrong : ChangeSpec := { name := "remapTorn", fn := fun _ => fun
  | [d1, d2, d3] => { results := [.lit (.bool false)], args := [d1, d2, d3] }
  | _ => none }
def RemapTornWrongFalsely : Prop := remapTornRow.holds Tryz.pinned (OpenSpec.ofChange remapTornWrong)

/-- 'treenaillaw07.RemapShapes': WHATEVER THE INPUT: true; the input reads as it did. -/
def remapShapesSpec : ChangeSpec := { name := "remapShapes", fn := fun _ => fun
  | [d1, d2, d3] => { results := [.lit (.bool true)], args := [d1, d2, d3] }
  | _ => none }
def remapShapesRow : OpenClaim := { program := "ytpdickpipdaphaagreatdoor", sum := "568e2b91e24ae6003912122f4d227c3985dad24237135b7e4824cff640d67e3e", func := "treenail/treenaillaw07.RemapShapes", spec := "remapShapes", inPlace := ["internal/abi.NoEscape", "internal/bytealg.MakeNoZero", "internal/bytealg.IndexByteString", "internal/bytealg.IndexString"], unfollowed := true, recurses := true, named := ["unicode/utf8.first", "unicode/utf8.acceptRanges", "internal/bytealg.MaxLen"], plainKeys := false, apart := false, laid := [("unicode/utf8.acceptRanges", laid_unicode_utf8_acceptRanges), ("unicode/utf8.first", laid_unicode_utf8_first)] }
def RemapShapesSaid : Prop := remapShapesRow.holds Tryz.pinned (OpenSpec.ofChange remapShapesSpec)

/-- ITS FALSE NEIGHBOUR: 'it returns false'. Refute it at one input. -/
def remapShapesWrong : ChangeSpec := { name := "remapShapes", fn := fun _ => fun
  | [d1, d2, d3] => { results := [.lit (.bool false)], args := [d1, d2, d3] }
  | _ => none }
def RemapShapesWrongFalsely : Prop := remapShapesRow.holds Tryz.pinned (OpenSpec.ofChange remapShapesWrong)

/-- 'treenaillaw07.RemapReplaces': WHATEVER THE INPUT: true; the input reads as it did. -/
def remapReplacesSpec : ChangeSpec := { name := "remapReplaces", fn := fun _ => fun
  | [d1, d2] => { results := [.lit (.bool true)], args := [d1, d2] }
  | _ => none }
def remapReplacesRow : OpenClaim := { program := "ytpdickpipdaphaagreatdoor", sum := "568e2b91e24ae6003912122f4d227c3985dad24237135b7e4824cff640d67e3e", func := "treenail/treenaillaw07.RemapReplaces", spec := "remapReplaces", inPlace := ["internal/abi.NoEscape", "internal/bytealg.MakeNoZero", "internal/bytealg.IndexByteString", "internal/bytealg.IndexString"], unfollowed := true, recurses := true, named := ["unicode/utf8.first", "unicode/utf8.acceptRanges", "internal/bytealg.MaxLen"], plainKeys := false, apart := false, laid := [("unicode/utf8.acceptRanges", laid_unicode_utf8_acceptRanges), ("unicode/utf8.first", laid_unicode_utf8_first)] }
def RemapReplacesSaid : Prop := remapReplacesRow.holds Tryz.pinned (OpenSpec.ofChange remapReplacesSpec)

/-- ITS FALSE NEIGHBOUR: 'it returns false'. Refute it at one input. -/
def remapReplacesWrong : ChangeSpec := { name := "remapReplaces", fn := fun _ => fun
  | [d1, d2] => { results := [.lit (.bool false)], args := [d1, d2] }
  | _ => none }
def RemapReplacesWrongFalsely : Prop := remapReplacesRow.holds Tryz.pinned (OpenSpec.ofChange remapReplacesWrong)

/-- 'treenaillaw07.RemapSpares': WHATEVER THE INPUT: true; the input reads as it did. -/
def remapSparesSpec : ChangeSpec := { name := "remapSpares", fn := fun _ => fun
  | [d1, d2] => { results := [.lit (.bool true)], args := [d1, d2] }
  | _ => none }
def remapSparesRow : OpenClaim := { program := "ytpdickpipdaphaagreatdoor", sum := "568e2b91e24ae6003912122f4d227c3985dad24237135b7e4824cff640d67e3e", func := "treenail/treenaillaw07.RemapSpares", spec := "remapSpares", inPlace := ["internal/abi.NoEscape", "internal/bytealg.MakeNoZero", "internal/bytealg.IndexByteString", "internal/bytealg.IndexString"], unfollowed := true, recurses := true, named := ["unicode/utf8.first", "unicode/utf8.acceptRanges", "internal/bytealg.MaxLen"], plainKeys := false, apart := false, laid := [("unicode/utf8.acceptRanges", laid_unicode_utf8_acceptRanges), ("unicode/utf8.first", laid_unicode_utf8_first)] }
def RemapSparesSaid : Prop := remapSparesRow.holds Tryz.pinned (OpenSpec.ofChange remapSparesSpec)

/-- ITS FALSE NEIGHBOUR: 'it returns false'. Refute it at one input. -/
def remapSparesWrong : ChangeSpec := { name := "remapSpares", fn := fun _ => fun
  | [d1, d2] => { results := [.lit (.bool false)], args := [d1, d2] }
  | _ => none }
def RemapSparesWrongFalsely : Prop := remapSparesRow.holds Tryz.pinned (OpenSpec.ofChange remapSparesWrong)

/- THE SECOND FORM. 'bulk': how many values and letters a reading holds, each counted each time it is reached (what is shared counts as often as it is met; a slice's spare places count too). A statement '..UptoSaid' is the law's where the arguments, and the package variables that the reading takes, are together of bulk at most 1048576: NARROWER than '..Said'. Prove '..Said' where nothing that the law and all that it calls make is longer than what came in: it says more and counts as full. Else prove '..UptoSaid'. A law counts once. -/
mutual
def uptoBulk {H : Type} : DataW H → Nat
  | .lit (.string bytes) => bytes.length + 1
  | .lit _ => 1
  | .nil => 1
  | .ptr d => uptoBulk d + 1
  | .slice elems spare => uptoBulkAll elems + uptoBulkAll spare + 1
  | .agg parts => uptoBulkAll parts + 1
  | .iface _ d => uptoBulk d + 1
  | .map entries => uptoBulkEntries entries + 1
  | .held _ => 1
def uptoBulkAll {H : Type} : List (DataW H) → Nat
  | [] => 0
  | d :: r => uptoBulk d + uptoBulkAll r
def uptoBulkEntries {H : Type} : List (Lit × DataW H) → Nat
  | [] => 0
  | x :: r => uptoBulkEntry x + uptoBulkEntries r
def uptoBulkEntry {H : Type} : Lit × DataW H → Nat
  | (.string bytes, d) => bytes.length + uptoBulk d + 1
  | (_, d) => uptoBulk d + 1
 end
def uptoSmall : (H : Type) → List (DataW H) → Bool := fun _ ds => decide (uptoBulkAll ds ≤ 1048576)
def OpenSpec.upto (s : _root_.Go.ChangeSpec) : _root_.Go.OpenSpec := { _root_.Go.OpenSpec.ofChange s with cond := some uptoSmall }

/-- 'treenaillaw07.RemapKeeps', WHERE WHAT IT READS IS OF BULK AT MOST 1048576: true; the input reads as it did. -/
def remapKeepsUptoRow : OpenClaim := { program := "ytpdickpipdaphaagreatdoor", sum := "568e2b91e24ae6003912122f4d227c3985dad24237135b7e4824cff640d67e3e", func := "treenail/treenaillaw07.RemapKeeps", spec := "remapKeeps", inPlace := ["internal/abi.NoEscape", "internal/bytealg.MakeNoZero", "internal/bytealg.IndexByteString", "internal/bytealg.IndexString"], unfollowed := true, recurses := true, named := ["unicode/utf8.first", "unicode/utf8.acceptRanges", "internal/bytealg.MaxLen"], plainKeys := false, apart := false, laid := [("unicode/utf8.acceptRanges", laid_unicode_utf8_acceptRanges), ("unicode/utf8.first", laid_unicode_utf8_first)], narrowed := true }
def RemapKeepsUptoSaid : Prop := remapKeepsUptoRow.holds Tryz.pinned (OpenSpec.upto remapKeepsSpec)

/-- 'treenaillaw07.RemapTorn', WHERE WHAT IT READS IS OF BULK AT MOST 1048576: true; the input reads as it did. -/
def remapTornUptoRow : OpenClaim := { program := "ytpdickpipdaphaagreatdoor", sum := "568e2b91e24ae6003912122f4d227c3985dad24237135b7e4824cff640d67e3e", func := "treenail/treenaillaw07.RemapTorn", spec := "remapTorn", inPlace := ["internal/abi.NoEscape", "internal/bytealg.MakeNoZero", "internal/bytealg.IndexByteString", "internal/bytealg.IndexString"], unfollowed := true, recurses := true, named := ["unicode/utf8.first", "unicode/utf8.acceptRanges", "internal/bytealg.MaxLen"], plainKeys := false, apart := false, laid := [("unicode/utf8.acceptRanges", laid_unicode_utf8_acceptRanges), ("unicode/utf8.first", laid_unicode_utf8_first)], narrowed := true }
def RemapTornUptoSaid : Prop := remapTornUptoRow.holds Tryz.pinned (OpenSpec.upto remapTornSpec)

/-- 'treenaillaw07.RemapShapes', WHERE WHAT IT READS IS OF BULK AT MOST 1048576: true; the input reads as it did. -/
def remapShapesUptoRow : OpenClaim := { program := "ytpdickpipdaphaagreatdoor", sum := "568e2b91e24ae6003912122f4d227c3985dad24237135b7e4824cff640d67e3e", func := "treenail/treenaillaw07.RemapShapes", spec := "remapShapes", inPlace := ["internal/abi.NoEscape", "internal/bytealg.MakeNoZero", "internal/bytealg.IndexByteString", "internal/bytealg.IndexString"], unfollowed := true, recurses := true, named := ["unicode/utf8.first", "unicode/utf8.acceptRanges", "internal/bytealg.MaxLen"], plainKeys := false, apart := false, laid := [("unicode/utf8.acceptRanges", laid_unicode_utf8_acceptRanges), ("unicode/utf8.first", laid_unicode_utf8_first)], narrowed := true }
def RemapShapesUptoSaid : Prop := remapShapesUptoRow.holds Tryz.pinned (OpenSpec.upto remapShapesSpec)

/-- 'treenaillaw07.RemapReplaces', WHERE WHAT IT READS IS OF BULK AT MOST 1048576: true; the input reads as it did. -/
def remapReplacesUptoRow : OpenClaim := { program := "ytpdickpipdaphaagreatdoor", sum := "568e2b91e24ae6003912122f4d227c3985dad24237135b7e4824cff640d67e3e", func := "treenail/treenaillaw07.RemapReplaces", spec := "remapReplaces", inPlace := ["internal/abi.NoEscape", "internal/bytealg.MakeNoZero", "internal/bytealg.IndexByteString", "internal/bytealg.IndexString"], unfollowed := true, recurses := true, named := ["unicode/utf8.first", "unicode/utf8.acceptRanges", "internal/bytealg.MaxLen"], plainKeys := false, apart := false, laid := [("unicode/utf8.acceptRanges", laid_unicode_utf8_acceptRanges), ("unicode/utf8.first", laid_unicode_utf8_first)], narrowed := true }
def RemapReplacesUptoSaid : Prop := remapReplacesUptoRow.holds Tryz.pinned (OpenSpec.upto remapReplacesSpec)

/-- 'treenaillaw07.RemapSpares', WHERE WHAT IT READS IS OF BULK AT MOST 1048576: true; the input reads as it did. -/
def remapSparesUptoRow : OpenClaim := { program := "ytpdickpipdaphaagreatdoor", sum := "568e2b91e24ae6003912122f4d227c3985dad24237135b7e4824cff640d67e3e", func := "treenail/treenaillaw07.RemapSpares", spec := "remapSpares", inPlace := ["internal/abi.NoEscape", "internal/bytealg.MakeNoZero", "internal/bytealg.IndexByteString", "internal/bytealg.IndexString"], unfollowed := true, recurses := true, named := ["unicode/utf8.first", "unicode/utf8.acceptRanges", "internal/bytealg.MaxLen"], plainKeys := false, apart := false, laid := [("unicode/utf8.acceptRanges", laid_unicode_utf8_acceptRanges), ("unicode/utf8.first", laid_unicode_utf8_first)], narrowed := true }
def RemapSparesUptoSaid : Prop := remapSparesUptoRow.holds Tryz.pinned (OpenSpec.upto remapSparesSpec)

end Rows
end Go.Proofs.YtpdickpipdaphaaGreatDoor
