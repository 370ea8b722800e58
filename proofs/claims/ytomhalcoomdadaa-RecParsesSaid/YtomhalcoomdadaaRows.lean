/-
  No cell of these rows narrows 'for every input' (looked for: loops, veiled, ifaces, maps, wideKeys, modest, calm, conditions, laid).
  DERIVED. THE GIVEN ROWS OF THIS SEAT. 5 by the template 'for every input the law returns true; each argument reads behind the call as it read before'; 0 by the template 'total and deterministic' (their statements: YtomhalcoomdadaaTotals.lean).
  GIVEN WITH THE SEED: the statements are not yours to turn. If you find one false, say at which input.
  Laid BY PROGRAM, IN A SANDBOX (cutbox-rows.mjs): the forced cells as the released guide's own fill.sh prints them over the translation e72df95ffbd26c15… (all of the seat's roots in one cut). By AI agents, Wed Nov 11 2026. No macro, syntax, notation, axiom, sorry.
-/
import Derived.Test.YtomhalcoomdadaaChecked
import GoSem.Claim
import GoSem.ClaimJoined
import GoSem.ClaimMapViews
import Derived.JoinedTies
import Derived.KernelRfl
namespace Go.Proofs.Ytomhalcoomdadaa
/- THE CELL 'sum', in the pinned program and in every row, IS THE sha256 OF THE DUMP (.gsa) THAT YtomhalcoomdadaaProg.lean LOADS. Nothing in Lean hashes anything: it is a label: what it is worth is what the hold of that sum in a sandbox is worth. -/
noncomputable def Try.pinned : Pinned := { name := "ytomhalcoomdadaa", sum := "e72df95ffbd26c15266de0be3480a6204911e003199047a0d7d90f754b640493", checked := Try.checked }
namespace Rows
def none {H : Type} : Left H := { results := [], args := [] }

/-- 'treenaillaw12.RecTexts': WHATEVER THE INPUT: true; the input reads as it did. -/
def recTextsSpec : ChangeSpec := { name := "recTexts", fn := fun _ => fun
  | [d] => { results := [.lit (.bool true)], args := [d] }
  | _ => none }
def recTextsRow : OpenClaim := { program := "ytomhalcoomdadaa", sum := "e72df95ffbd26c15266de0be3480a6204911e003199047a0d7d90f754b640493", func := "treenail/treenaillaw12.RecTexts", spec := "recTexts", apart := false }
def RecTextsSaid : Prop := recTextsRow.holds Try.pinned (OpenSpec.ofChange recTextsSpec)

/-- ITS FALSE NEIGHBOUR: 'it returns false'. Refute it at one input. -/
def recTextsWrong : ChangeSpec := { name := "recTexts", fn := fun _ => fun
  | [d] => { results := [.lit (.bool false)], args := [d] }
  | _ => none }
def RecTextsWrongFalsely : Prop := recTextsRow.holds Try.pinned (OpenSpec.ofChange recTextsWrong)

/-- 'treenaillaw12.RecParses': WHATEVER THE INPUT: true; the input reads as it did. -/
def recParsesSpec : ChangeSpec := { name := "recParses", fn := fun _ => fun
  | [d1, d2, d3] => { results := [.lit (.bool true)], args := [d1, d2, d3] }
  | _ => none }
def recParsesRow : OpenClaim := { program := "ytomhalcoomdadaa", sum := "e72df95ffbd26c15266de0be3480a6204911e003199047a0d7d90f754b640493", func := "treenail/treenaillaw12.RecParses", spec := "recParses", apart := false }
def RecParsesSaid : Prop := recParsesRow.holds Try.pinned (OpenSpec.ofChange recParsesSpec)

/-- ITS FALSE NEIGHBOUR: 'it returns false'. Refute it at one input. -/
def recParsesWrong : ChangeSpec := { name := "recParses", fn := fun _ => fun
  | [d1, d2, d3] => { results := [.lit (.bool false)], args := [d1, d2, d3] }
  | _ => none }
def RecParsesWrongFalsely : Prop := recParsesRow.holds Try.pinned (OpenSpec.ofChange recParsesWrong)

/-- 'treenaillaw12.RecRecords': WHATEVER THE INPUT: true; the input reads as it did. -/
def recRecordsSpec : ChangeSpec := { name := "recRecords", fn := fun _ => fun
  | [d1, d2, d3] => { results := [.lit (.bool true)], args := [d1, d2, d3] }
  | _ => none }
def recRecordsRow : OpenClaim := { program := "ytomhalcoomdadaa", sum := "e72df95ffbd26c15266de0be3480a6204911e003199047a0d7d90f754b640493", func := "treenail/treenaillaw12.RecRecords", spec := "recRecords", apart := false }
def RecRecordsSaid : Prop := recRecordsRow.holds Try.pinned (OpenSpec.ofChange recRecordsSpec)

/-- ITS FALSE NEIGHBOUR: 'it returns false'. Refute it at one input. -/
def recRecordsWrong : ChangeSpec := { name := "recRecords", fn := fun _ => fun
  | [d1, d2, d3] => { results := [.lit (.bool false)], args := [d1, d2, d3] }
  | _ => none }
def RecRecordsWrongFalsely : Prop := recRecordsRow.holds Try.pinned (OpenSpec.ofChange recRecordsWrong)

/-- 'treenaillaw12.RecBack': WHATEVER THE INPUT: true; the input reads as it did. -/
def recBackSpec : ChangeSpec := { name := "recBack", fn := fun _ => fun
  | [d1, d2, d3] => { results := [.lit (.bool true)], args := [d1, d2, d3] }
  | _ => none }
def recBackRow : OpenClaim := { program := "ytomhalcoomdadaa", sum := "e72df95ffbd26c15266de0be3480a6204911e003199047a0d7d90f754b640493", func := "treenail/treenaillaw12.RecBack", spec := "recBack", apart := false }
def RecBackSaid : Prop := recBackRow.holds Try.pinned (OpenSpec.ofChange recBackSpec)

/-- ITS FALSE NEIGHBOUR: 'it returns false'. Refute it at one input. -/
def recBackWrong : ChangeSpec := { name := "recBack", fn := fun _ => fun
  | [d1, d2, d3] => { results := [.lit (.bool false)], args := [d1, d2, d3] }
  | _ => none }
def RecBackWrongFalsely : Prop := recBackRow.holds Try.pinned (OpenSpec.ofChange recBackWrong)

/-- 'treenaillaw12.RecSizes': WHATEVER THE INPUT: true; the input reads as it did. -/
def recSizesSpec : ChangeSpec := { name := "recSizes", fn := fun _ => fun
  | [d1, d2] => { results := [.lit (.bool true)], args := [d1, d2] }
  | _ => none }
def recSizesRow : OpenClaim := { program := "ytomhalcoomdadaa", sum := "e72df95ffbd26c15266de0be3480a6204911e003199047a0d7d90f754b640493", func := "treenail/treenaillaw12.RecSizes", spec := "recSizes", apart := false }
def RecSizesSaid : Prop := recSizesRow.holds Try.pinned (OpenSpec.ofChange recSizesSpec)

/-- ITS FALSE NEIGHBOUR: 'it returns false'. Refute it at one input. -/
def recSizesWrong : ChangeSpec := { name := "recSizes", fn := fun _ => fun
  | [d1, d2] => { results := [.lit (.bool false)], args := [d1, d2] }
  | _ => none }
def RecSizesWrongFalsely : Prop := recSizesRow.holds Try.pinned (OpenSpec.ofChange recSizesWrong)

/- THE SECOND FORM. 'bulk': how many values and letters a reading holds, each counted each time it is reached (what is shared counts as often as it is met; a slice's spare places count too). A statement '..UptoSaid' is the law's where the arguments, and the package variables that the reading takes, are together of bulk at most 1048576: NARROWER than '..Said'. Prove '..Said' where nothing that the law and all that it calls make is longer than what came in: it says more and counts as full. Else prove '..UptoSaid'. A law counts once. -/
mutual
def uptoBulk {H : Type} : DataW H → Nat
  | .lit (.string bytes) => bytes.length + 1
  | .lit _ => 1
  | .nil => 1
  | .ptr d => uptoBulk d + 1
  | .slice elems spare => uptoBulkAll elems + uptoBulkAll spare + 1
  | .agg parts => uptoBulkAll parts + 1
  | .iface _ d => uptoBulk d + 1
  | .map entries => uptoBulkEntries entries + 1
  | .held _ => 1
def uptoBulkAll {H : Type} : List (DataW H) → Nat
  | [] => 0
  | d :: r => uptoBulk d + uptoBulkAll r
def uptoBulkEntries {H : Type} : List (Lit × DataW H) → Nat
  | [] => 0
  | x :: r => uptoBulkEntry x + uptoBulkEntries r
def uptoBulkEntry {H : Type} : Lit × DataW H → Nat
  | (.string bytes, d) => bytes.length + uptoBulk d + 1
  | (_, d) => uptoBulk d + 1
 end
def uptoSmall : (H : Type) → List (DataW H) → Bool := fun _ ds => decide (uptoBulkAll ds ≤ 1048576)
def OpenSpec.upto (s : _root_.Go.ChangeSpec) : _root_.Go.OpenSpec := { _root_.Go.OpenSpec.ofChange s with cond := some uptoSmall }

/-- 'treenaillaw12.RecTexts', WHERE WHAT IT READS IS OF BULK AT MOST 1048576: true; the input reads as it did. -/
def recTextsUptoRow : OpenClaim := { program := "ytomhalcoomdadaa", sum := "e72df95ffbd26c15266de0be3480a6204911e003199047a0d7d90f754b640493", func := "treenail/treenaillaw12.RecTexts", spec := "recTexts", apart := false, narrowed := true }
def RecTextsUptoSaid : Prop := recTextsUptoRow.holds Try.pinned (OpenSpec.upto recTextsSpec)

/-- 'treenaillaw12.RecParses', WHERE WHAT IT READS IS OF BULK AT MOST 1048576: true; the input reads as it did. -/
def recParsesUptoRow : OpenClaim := { program := "ytomhalcoomdadaa", sum := "e72df95ffbd26c15266de0be3480a6204911e003199047a0d7d90f754b640493", func := "treenail/treenaillaw12.RecParses", spec := "recParses", apart := false, narrowed := true }
def RecParsesUptoSaid : Prop := recParsesUptoRow.holds Try.pinned (OpenSpec.upto recParsesSpec)

/-- 'treenaillaw12.RecRecords', WHERE WHAT IT READS IS OF BULK AT MOST 1048576: true; the input reads as it did. -/
def recRecordsUptoRow : OpenClaim := { program := "ytomhalcoomdadaa", sum := "e72df95ffbd26c15266de0be3480a6204911e003199047a0d7d90f754b640493", func := "treenail/treenaillaw12.RecRecords", spec := "recRecords", apart := false, narrowed := true }
def RecRecordsUptoSaid : Prop := recRecordsUptoRow.holds Try.pinned (OpenSpec.upto recRecordsSpec)

/-- 'treenaillaw12.RecBack', WHERE WHAT IT READS IS OF BULK AT MOST 1048576: true; the input reads as it did. -/
def recBackUptoRow : OpenClaim := { program := "ytomhalcoomdadaa", sum := "e72df95ffbd26c15266de0be3480a6204911e003199047a0d7d90f754b640493", func := "treenail/treenaillaw12.RecBack", spec := "recBack", apart := false, narrowed := true }
def RecBackUptoSaid : Prop := recBackUptoRow.holds Try.pinned (OpenSpec.upto recBackSpec)

/-- 'treenaillaw12.RecSizes', WHERE WHAT IT READS IS OF BULK AT MOST 1048576: true; the input reads as it did. -/
def recSizesUptoRow : OpenClaim := { program := "ytomhalcoomdadaa", sum := "e72df95ffbd26c15266de0be3480a6204911e003199047a0d7d90f754b640493", func := "treenail/treenaillaw12.RecSizes", spec := "recSizes", apart := false, narrowed := true }
def RecSizesUptoSaid : Prop := recSizesUptoRow.holds Try.pinned (OpenSpec.upto recSizesSpec)

end Rows
end Go.Proofs.Ytomhalcoomdadaa
