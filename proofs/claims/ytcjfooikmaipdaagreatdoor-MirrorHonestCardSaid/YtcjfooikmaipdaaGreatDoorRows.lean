/-
  NARROWER THAN 'FOR EVERY INPUT', by the rows' own cells (each row's printed sentence says how): MirrorReads: laid · MirrorQuiet: laid · MirrorLost: laid · MirrorHonest: laid · MirrorRefuses: laid · MirrorWhole: laid.
  DERIVED. THE GIVEN ROWS OF THIS SEAT. 6 by the template 'for every input the law returns true; each argument reads behind the call as it read before'; 0 by the template 'total and deterministic' (their statements: YtcjfooikmaipdaaGreatDoorTotals.lean).
  GIVEN WITH THE SEED: the statements are not yours to turn. If you find one false, say at which input.
  Laid BY PROGRAM, IN A SANDBOX (cutbox-rows.mjs): the forced cells as the released guide's own fill.sh prints them over the translation f48694cacd4312df… (all of the seat's roots in one cut). By AI agents, Wed Nov 11 2026. No macro, syntax, notation, axiom, sorry.
-/
import Derived.Test.YtcjfooikmaipdaaGreatDoorChecked
import GoSem.PinnedTables
import GoSem.Claim
import GoSem.ClaimJoined
import GoSem.ClaimMapViews
import Derived.JoinedTies
import Derived.KernelRfl
namespace Go.Proofs.YtcjfooikmaipdaaGreatDoor
/- THE CELL 'sum', in the pinned program and in every row, IS THE sha256 OF THE DUMP (.gsa) THAT YtcjfooikmaipdaaGreatDoorProg.lean LOADS. Nothing in Lean hashes anything: it is a label: what it is worth is what the hold of that sum in a sandbox is worth. -/
noncomputable def Tryz.pinned : Pinned := { name := "ytcjfooikmaipdaagreatdoor", sum := "f48694cacd4312df2bb81a91ca3f066b7394e2e8ee9cdb4cf3bfcd07fe71a3d1", checked := Tryz.checked }
namespace Rows
def none {H : Type} : Left H := { results := [], args := [] }

/- WHAT THE LISTED PACKAGE-LEVEL VARIABLES READ AS WHEN THE CALL BEGINS. Each datum BY PROGRAM (the guide's laid-datum.mjs) off the statement by which the dump's own 'gosem.cut.vars' lays the variable. In a bare row this is a premise. The card (YtcjfooikmaipdaaGreatDoorCards.lean) ties it to the program's text. -/
def laid_unicode_utf8_acceptRanges {H : Type} : DataW H := .agg [.agg [.lit (.int .u8 128), .lit (.int .u8 191)], .agg [.lit (.int .u8 160), .lit (.int .u8 191)], .agg [.lit (.int .u8 128), .lit (.int .u8 159)], .agg [.lit (.int .u8 144), .lit (.int .u8 191)], .agg [.lit (.int .u8 128), .lit (.int .u8 143)], .agg [.lit (.int .u8 0), .lit (.int .u8 0)], .agg [.lit (.int .u8 0), .lit (.int .u8 0)], .agg [.lit (.int .u8 0), .lit (.int .u8 0)], .agg [.lit (.int .u8 0), .lit (.int .u8 0)], .agg [.lit (.int .u8 0), .lit (.int .u8 0)], .agg [.lit (.int .u8 0), .lit (.int .u8 0)], .agg [.lit (.int .u8 0), .lit (.int .u8 0)], .agg [.lit (.int .u8 0), .lit (.int .u8 0)], .agg [.lit (.int .u8 0), .lit (.int .u8 0)], .agg [.lit (.int .u8 0), .lit (.int .u8 0)], .agg [.lit (.int .u8 0), .lit (.int .u8 0)]]
/-- One of Go's own tables, pinned by name: the form's constant. -/
def laid_unicode_utf8_first : DataW Unit := Go.Pinned.utf8First

/-- 'treenaillaw08.MirrorReads': WHATEVER THE INPUT: true; the input reads as it did. -/
def mirrorReadsSpec : ChangeSpec := { name := "mirrorReads", fn := fun _ => fun
  | [d1, d2] => { results := [.lit (.bool true)], args := [d1, d2] }
  | _ => none }
def mirrorReadsRow : OpenClaim := { program := "ytcjfooikmaipdaagreatdoor", sum := "f48694cacd4312df2bb81a91ca3f066b7394e2e8ee9cdb4cf3bfcd07fe71a3d1", func := "treenail/treenaillaw08.MirrorReads", spec := "mirrorReads", inPlace := ["internal/abi.NoEscape", "internal/bytealg.MakeNoZero", "internal/bytealg.IndexByteString", "internal/bytealg.IndexString"], unfollowed := true, recurses := true, named := ["unicode/utf8.first", "unicode/utf8.acceptRanges", "internal/bytealg.MaxLen"], plainKeys := false, apart := false, laid := [("unicode/utf8.acceptRanges", laid_unicode_utf8_acceptRanges), ("unicode/utf8.first", laid_unicode_utf8_first)] }
def MirrorReadsSaid : Prop := mirrorReadsRow.holds Tryz.pinned (OpenSpec.ofChange mirrorReadsSpec)

/-- ITS FALSE NEIGHBOUR: 'it returns false'. Refute it at one input. -/
def mirrorReadsWrong : ChangeSpec := { name := "mirrorReads", fn := fun _ => fun
  | [d1, d2] => { results := [.lit (.bool false)], args := [d1, d2] }
  | _ => none }
def MirrorReadsWrongFalsely : Prop := mirrorReadsRow.holds Tryz.pinned (OpenSpec.ofChange mirrorReadsWrong)

/-- 'treenaillaw08.MirrorQuiet': WHATEVER THE INPUT: true; the input reads as it did. -/
def mirrorQuietSpec : ChangeSpec := { name := "mirrorQuiet", fn := fun _ => fun
  | [d] => { results := [.lit (.bool true)], args := [d] }
  | _ => none }
def mirrorQuietRow : OpenClaim := { program := "ytcjfooikmaipdaagreatdoor", sum := "f48694cacd4312df2bb81a91ca3f066b7394e2e8ee9cdb4cf3bfcd07fe71a3d1", func := "treenail/treenaillaw08.MirrorQuiet", spec := "mirrorQuiet", inPlace := ["internal/abi.NoEscape", "internal/bytealg.MakeNoZero", "internal/bytealg.IndexByteString", "internal/bytealg.IndexString"], unfollowed := true, recurses := true, named := ["unicode/utf8.first", "unicode/utf8.acceptRanges", "internal/bytealg.MaxLen"], plainKeys := false, apart := false, laid := [("unicode/utf8.acceptRanges", laid_unicode_utf8_acceptRanges), ("unicode/utf8.first", laid_unicode_utf8_first)] }
def MirrorQuietSaid : Prop := mirrorQuietRow.holds Tryz.pinned (OpenSpec.ofChange mirrorQuietSpec)

/-- ITS FALSE NEIGHBOUR: 'it returns false'. Refute it at one input. -/
def mirrorQuietWrong : ChangeSpec := { name := "mirrorQuiet", fn := fun _ => fun
  | [d] => { results := [.lit (.bool false)], args := [d] }
  | _ => none }
def MirrorQuietWrongFalsely : Prop := mirrorQuietRow.holds Tryz.pinned (OpenSpec.ofChange mirrorQuietWrong)

/-- 'treenaillaw08.MirrorLost': WHATEVER THE INPUT: true; the input reads as it did. -/
def mirrorLostSpec : ChangeSpec := { name := "mirrorLost", fn := fun _ => fun
  | [d1, d2, d3] => { results := [.lit (.bool true)], args := [d1, d2, d3] }
  | _ => none }
def mirrorLostRow : OpenClaim := { program := "ytcjfooikmaipdaagreatdoor", sum := "f48694cacd4312df2bb81a91ca3f066b7394e2e8ee9cdb4cf3bfcd07fe71a3d1", func := "treenail/treenaillaw08.MirrorLost", spec := "mirrorLost", inPlace := ["internal/abi.NoEscape", "internal/bytealg.MakeNoZero", "internal/bytealg.IndexByteString", "internal/bytealg.IndexString"], unfollowed := true, recurses := true, named := ["unicode/utf8.first", "unicode/utf8.acceptRanges", "internal/bytealg.MaxLen"], plainKeys := false, apart := false, laid := [("unicode/utf8.acceptRanges", laid_unicode_utf8_acceptRanges), ("unicode/utf8.first", laid_unicode_utf8_first)] }
def MirrorLostSaid : Prop := mirrorLostRow.holds Tryz.pinned (OpenSpec.ofChange mirrorLostSpec)

/-- ITS FALSE NEIGHBOUR: 'it returns false'. Refute it at one input. -/
def mirrorLostWrong : ChangeSpec := { name := "mirrorLost", fn := fun _ => fun
  | [d1, d2, d3] => { results := [.lit (.bool false)], args := [d1, d2, d3] }
  | _ => none }
def MirrorLostWrongFalsely : Prop := mirrorLostRow.holds Tryz.pinned (OpenSpec.ofChange mirrorLostWrong)

/-- 'treenaillaw08.MirrorHonest': WHATEVER THE INPUT: true; the input reads as it did. -/
def mirrorHonestSpec : ChangeSpec := { name := "mirrorHonest", fn := fun _ => fun
  | [d] => { results := [.lit (.bool true)], args := [d] }
  | _ => none }
def mirrorHonestRow : OpenClaim := { program := "ytcjfooikmaipdaagreatdoor", sum := "f48694cacd4312df2bb81a91ca3f066b7394e2e8ee9cdb4cf3bfcd07fe71a3d1", func := "treenail/treenaillaw08.MirrorHonest", spec := "mirrorHonest", inPlace := ["internal/abi.NoEscape", "internal/bytealg.MakeNoZero", "internal/bytealg.IndexByteString", "internal/bytealg.IndexString"], unfollowed := true, recurses := true, named := ["unicode/utf8.first", "unicode/utf8.acceptRanges", "internal/bytealg.MaxLen"], plainKeys := false, apart := false, laid := [("unicode/utf8.acceptRanges", laid_unicode_utf8_acceptRanges), ("unicode/utf8.first", laid_unicode_utf8_first)] }
def MirrorHonestSaid : Prop := mirrorHonestRow.holds Tryz.pinned (OpenSpec.ofChange mirrorHonestSpec)

/-- ITS FALSE NEIGHBOUR: 'it returns false'. Refute it at one input. -/
def mirrorHonestWrong : ChangeSpec := { name := "mirrorHonest", fn := fun _ => fun
  | [d] => { results := [.lit (.bool false)], args := [d] }
  | _ => none }
def MirrorHonestWrongFalsely : Prop := mirrorHonestRow.holds Tryz.pinned (OpenSpec.ofChange mirrorHonestWrong)

/-- 'treenaillaw08.MirrorRefuses': WHATEVER THE INPUT: true; the input reads as it did. -/
def mirrorRefusesSpec : ChangeSpec := { name := "mirrorRefuses", fn := fun _ => fun
  | [d1, d2] => { results := [.lit (.bool true)], args := [d1, d2] }
  | _ => none }
def mirrorRefusesRow : OpenClaim := { program := "ytcjfooikmaipdaagreatdoor", sum := "f48694cacd4312df2bb81a91ca3f066b7394e2e8ee9cdb4cf3bfcd07fe71a3d1", func := "treenail/treenaillaw08.MirrorRefuses", spec := "mirrorRefuses", inPlace := ["internal/abi.NoEscape", "internal/bytealg.MakeNoZero", "internal/bytealg.IndexByteString", "internal/bytealg.IndexString"], unfollowed := true, recurses := true, named := ["unicode/utf8.first", "unicode/utf8.acceptRanges", "internal/bytealg.MaxLen"], plainKeys := false, apart := false, laid := [("unicode/utf8.acceptRanges", laid_unicode_utf8_acceptRanges), ("unicode/utf8.first", laid_unicode_utf8_first)] }
def MirrorRefusesSaid : Prop := mirrorRefusesRow.holds Tryz.pinned (OpenSpec.ofChange mirrorRefusesSpec)

/-- ITS FALSE NEIGHBOUR: 'it returns false'. Refute it at one input. -/
def mirrorRefusesWrong : ChangeSpec := { name := "mirrorRefuses", fn := fun _ => fun
  | [d1, d2] => { results := [.lit (.bool false)], args := [d1, d2] }
  | _ => none }
def MirrorRefusesWrongFalsely : Prop := mirrorRefusesRow.holds Tryz.pinned (OpenSpec.ofChange mirrorRefusesWrong)

/-- 'treenaillaw08.MirrorWhole': WHATEVER THE INPUT: true; the input reads as it did. -/
def mirrorWholeSpec : ChangeSpec := { name := "mirrorWhole", fn := fun _ => fun
  | [d1, d2, d3] => { results := [.lit (.bool true)], args := [d1, d2, d3] }
  | _ => none }
def mirrorWholeRow : OpenClaim := { program := "ytcjfooikmaipdaagreatdoor", sum := "f48694cacd4312df2bb81a91ca3f066b7394e2e8ee9cdb4cf3bfcd07fe71a3d1", func := "treenail/treenaillaw08.MirrorWhole", spec := "mirrorWhole", inPlace := ["internal/abi.NoEscape", "internal/bytealg.MakeNoZero", "internal/bytealg.IndexByteString", "internal/bytealg.IndexString"], unfollowed := true, recurses := true, named := ["unicode/utf8.first", "unicode/utf8.acceptRanges", "internal/bytealg.MaxLen"], plainKeys := false, apart := false, laid := [("unicode/utf8.acceptRanges", laid_unicode_utf8_acceptRanges), ("unicode/utf8.first", laid_unicode_utf8_first)] }
def MirrorWholeSaid : Prop := mirrorWholeRow.holds Tryz.pinned (OpenSpec.ofChange mirrorWholeSpec)

/-- ITS FALSE NEIGHBOUR: 'it returns false'. Refute it at one input. -/
def mirrorWholeWrong : ChangeSpec := { name := "mirrorWhole", fn := fun _ => fun
  | [d1, d2, d3] => { results := [.lit (.bool false)], args := [d1, d2, d3] }
  | _ => none }
def MirrorWholeWrongFalsely : Prop := mirrorWholeRow.holds Tryz.pinned (OpenSpec.ofChange mirrorWholeWrong)

/- THE SECOND FORM. 'bulk': how many values and letters a reading holds, each counted each time it is reached (what is shared counts as often as it is met; a slice's spare places count too). A statement '..UptoSaid' is the law's where the arguments, and the package variables that the reading takes, are together of bulk at most 1048576: NARROWER than '..Said'. Prove '..Said' where nothing that the law and all that it calls make is longer than what came in: it says more and counts as full. Else prove '..UptoSaid'. A law counts once. -/
mutual
def uptoBulk {H : Type} : DataW H → Nat
  | .lit (.string bytes) => bytes.length + 1
  | .lit _ => 1
  | .nil => 1
  | .ptr d => uptoBulk d + 1
  | .slice elems spare => uptoBulkAll elems + uptoBulkAll spare + 1
  | .agg parts => uptoBulkAll parts + 1
  | .iface _ d => uptoBulk d + 1
  | .map entries => uptoBulkEntries entries + 1
  | .held _ => 1
def uptoBulkAll {H : Type} : List (DataW H) → Nat
  | [] => 0
  | d :: r => uptoBulk d + uptoBulkAll r
def uptoBulkEntries {H : Type} : List (Lit × DataW H) → Nat
  | [] => 0
  | x :: r => uptoBulkEntry x + uptoBulkEntries r
def uptoBulkEntry {H : Type} : Lit × DataW H → Nat
  | (.string bytes, d) => bytes.length + uptoBulk d + 1
  | (_, d) => uptoBulk d + 1
 end
def uptoSmall : (H : Type) → List (DataW H) → Bool := fun _ ds => decide (uptoBulkAll ds ≤ 1048576)
def OpenSpec.upto (s : _root_.Go.ChangeSpec) : _root_.Go.OpenSpec := { _root_.Go.OpenSpec.ofChange s with cond := some uptoSmall }

/-- 'treenaillaw08.MirrorReads', WHERE WHAT IT READS IS OF BULK AT MOST 1048576: true; the input reads as it did. -/
def mirrorReadsUptoRow : OpenClaim := { program := "ytcjfooikmaipdaagreatdoor", sum := "f48694cacd4312df2bb81a91ca3f066b7394e2e8ee9cdb4cf3bfcd07fe71a3d1", func := "treenail/treenaillaw08.MirrorReads", spec := "mirrorReads", inPlace := ["internal/abi.NoEscape", "internal/bytealg.MakeNoZero", "internal/bytealg.IndexByteString", "internal/bytealg.IndexString"], unfollowed := true, recurses := true, named := ["unicode/utf8.first", "unicode/utf8.acceptRanges", "internal/bytealg.MaxLen"], plainKeys := false, apart := false, laid := [("unicode/utf8.acceptRanges", laid_unicode_utf8_acceptRanges), ("unicode/utf8.first", laid_unicode_utf8_first)], narrowed := true }
def MirrorReadsUptoSaid : Prop := mirrorReadsUptoRow.holds Tryz.pinned (OpenSpec.upto mirrorReadsSpec)

/-- 'treenaillaw08.MirrorQuiet', WHERE WHAT IT READS IS OF BULK AT MOST 1048576: true; the input reads as it did. -/
def mirrorQuietUptoRow : OpenClaim := { program := "ytcjfooikmaipdaagreatdoor", sum := "f48694cacd4312df2bb81a91ca3f066b7394e2e8ee9cdb4cf3bfcd07fe71a3d1", func := "treenail/treenaillaw08.MirrorQuiet", spec := "mirrorQuiet", inPlace := ["internal/abi.NoEscape", "internal/bytealg.MakeNoZero", "internal/bytealg.IndexByteString", "internal/bytealg.IndexString"], unfollowed := true, recurses := true, named := ["unicode/utf8.first", "unicode/utf8.acceptRanges", "internal/bytealg.MaxLen"], plainKeys := false, apart := false, laid := [("unicode/utf8.acceptRanges", laid_unicode_utf8_acceptRanges), ("unicode/utf8.first", laid_unicode_utf8_first)], narrowed := true }
def MirrorQuietUptoSaid : Prop := mirrorQuietUptoRow.holds Tryz.pinned (OpenSpec.upto mirrorQuietSpec)

/-- 'treenaillaw08.MirrorLost', WHERE WHAT IT READS IS OF BULK AT MOST 1048576: true; the input reads as it did. -/
def mirrorLostUptoRow : OpenClaim := { program := "ytcjfooikmaipdaagreatdoor", sum := "f48694cacd4312df2bb81a91ca3f066b7394e2e8ee9cdb4cf3bfcd07fe71a3d1", func := "treenail/treenaillaw08.MirrorLost", spec := "mirrorLost", inPlace := ["internal/abi.NoEscape", "internal/bytealg.MakeNoZero", "internal/bytealg.IndexByteString", "internal/bytealg.IndexString"], unfollowed := true, recurses := true, named := ["unicode/utf8.first", "unicode/utf8.acceptRanges", "internal/bytealg.MaxLen"], plainKeys := false, apart := false, laid := [("unicode/utf8.acceptRanges", laid_unicode_utf8_acceptRanges), ("unicode/utf8.first", laid_unicode_utf8_first)], narrowed := true }
def MirrorLostUptoSaid : Prop := mirrorLostUptoRow.holds Tryz.pinned (OpenSpec.upto mirrorLostSpec)

/-- 'treenaillaw08.MirrorHonest', WHERE WHAT IT READS IS OF BULK AT MOST 1048576: true; the input reads as it did. -/
def mirrorHonestUptoRow : OpenClaim := { program := "ytcjfooikmaipdaagreatdoor", sum := "f48694cacd4312df2bb81a91ca3f066b7394e2e8ee9cdb4cf3bfcd07fe71a3d1", func := "treenail/treenaillaw08.MirrorHonest", spec := "mirrorHonest", inPlace := ["internal/abi.NoEscape", "internal/bytealg.MakeNoZero", "internal/bytealg.IndexByteString", "internal/bytealg.IndexString"], unfollowed := true, recurses := true, named := ["unicode/utf8.first", "unicode/utf8.acceptRanges", "internal/bytealg.MaxLen"], plainKeys := false, apart := false, laid := [("unicode/utf8.acceptRanges", laid_unicode_utf8_acceptRanges), ("unicode/utf8.first", laid_unicode_utf8_first)], narrowed := true }
def MirrorHonestUptoSaid : Prop := mirrorHonestUptoRow.holds Tryz.pinned (OpenSpec.upto mirrorHonestSpec)

/-- 'treenaillaw08.MirrorRefuses', WHERE WHAT IT READS IS OF BULK AT MOST 1048576: true; the input reads as it did. -/
def mirrorRefusesUptoRow : OpenClaim := { program := "ytcjfooikmaipdaagreatdoor", sum := "f48694cacd4312df2bb81a91ca3f066b7394e2e8ee9cdb4cf3bfcd07fe71a3d1", func := "treenail/treenaillaw08.MirrorRefuses", spec := "mirrorRefuses", inPlace := ["internal/abi.NoEscape", "internal/bytealg.MakeNoZero", "internal/bytealg.IndexByteString", "internal/bytealg.IndexString"], unfollowed := true, recurses := true, named := ["unicode/utf8.first", "unicode/utf8.acceptRanges", "internal/bytealg.MaxLen"], plainKeys := false, apart := false, laid := [("unicode/utf8.acceptRanges", laid_unicode_utf8_acceptRanges), ("unicode/utf8.first", laid_unicode_utf8_first)], narrowed := true }
def MirrorRefusesUptoSaid : Prop := mirrorRefusesUptoRow.holds Tryz.pinned (OpenSpec.upto mirrorRefusesSpec)

/-- 'treenaillaw08.MirrorWhole', WHERE WHAT IT READS IS OF BULK AT MOST 1048576: true; the input reads as it did. -/
def mirrorWholeUptoRow : OpenClaim := { program := "ytcjfooikmaipdaagreatdoor", sum := "f48694cacd4312df2bb81a91ca3f066b7394e2e8ee9cdb4cf3bfcd07fe71a3d1", func := "treenail/treenaillaw08.MirrorWhole", spec := "mirrorWhole", inPlace := ["internal/abi.NoEscape", "internal/bytealg.MakeNoZero", "internal/bytealg.IndexByteString", "internal/bytealg.IndexString"], unfollowed := true, recurses := true, named := ["unicode/utf8.first", "unicode/utf8.acceptRanges", "internal/bytealg.MaxLen"], plainKeys := false, apart := false, laid := [("unicode/utf8.acceptRanges", laid_unicode_utf8_acceptRanges), ("unicode/utf8.first", laid_unicode_utf8_first)], narrowed := true }
def MirrorWholeUptoSaid : Prop := mirrorWholeUptoRow.holds Tryz.pinned (OpenSpec.upto mirrorWholeSpec)

end Rows
end Go.Proofs.YtcjfooikmaipdaaGreatDoor
