/-
  No cell of these rows narrows 'for every input' (looked for: loops, veiled, ifaces, maps, wideKeys, modest, calm, conditions, laid).
  DERIVED. THE GIVEN ROWS OF THIS SEAT. 5 by the template 'for every input the law returns true; each argument reads behind the call as it read before'; 0 by the template 'total and deterministic' (their statements: YtnofgicflijpgaaTotals.lean).
  GIVEN WITH THE SEED: the statements are not yours to turn. If you find one false, say at which input.
  Laid BY PROGRAM, IN A SANDBOX (cutbox-rows.mjs): the forced cells as the released guide's own fill.sh prints them over the translation 6e221be5f159e127… (all of the seat's roots in one cut). By AI agents, Wed Nov 11 2026. No macro, syntax, notation, axiom, sorry.
-/
import Derived.Test.YtnofgicflijpgaaChecked
import GoSem.Claim
import GoSem.ClaimJoined
import GoSem.ClaimMapViews
import Derived.JoinedTies
import Derived.KernelRfl
namespace Go.Proofs.Ytnofgicflijpgaa
/- THE CELL 'sum', in the pinned program and in every row, IS THE sha256 OF THE DUMP (.gsa) THAT YtnofgicflijpgaaProg.lean LOADS. Nothing in Lean hashes anything: it is a label: what it is worth is what the hold of that sum in a sandbox is worth. -/
noncomputable def Try.pinned : Pinned := { name := "ytnofgicflijpgaa", sum := "6e221be5f159e127f929357c67345846e1024f1c4cee97027fb3644154c2f434", checked := Try.checked }
namespace Rows
def none {H : Type} : Left H := { results := [], args := [] }

/-- 'treenaillaw01.LendWrites': WHATEVER THE INPUT: true; the input reads as it did. -/
def lendWritesSpec : ChangeSpec := { name := "lendWrites", fn := fun _ => fun
  | [d1, d2] => { results := [.lit (.bool true)], args := [d1, d2] }
  | _ => none }
def lendWritesRow : OpenClaim := { program := "ytnofgicflijpgaa", sum := "6e221be5f159e127f929357c67345846e1024f1c4cee97027fb3644154c2f434", func := "treenail/treenaillaw01.LendWrites", spec := "lendWrites", apart := false }
def LendWritesSaid : Prop := lendWritesRow.holds Try.pinned (OpenSpec.ofChange lendWritesSpec)

/-- ITS FALSE NEIGHBOUR: 'it returns false'. Refute it at one input. -/
def lendWritesWrong : ChangeSpec := { name := "lendWrites", fn := fun _ => fun
  | [d1, d2] => { results := [.lit (.bool false)], args := [d1, d2] }
  | _ => none }
def LendWritesWrongFalsely : Prop := lendWritesRow.holds Try.pinned (OpenSpec.ofChange lendWritesWrong)

/-- 'treenaillaw01.LendReads': WHATEVER THE INPUT: true; the input reads as it did. -/
def lendReadsSpec : ChangeSpec := { name := "lendReads", fn := fun _ => fun
  | [d1, d2] => { results := [.lit (.bool true)], args := [d1, d2] }
  | _ => none }
def lendReadsRow : OpenClaim := { program := "ytnofgicflijpgaa", sum := "6e221be5f159e127f929357c67345846e1024f1c4cee97027fb3644154c2f434", func := "treenail/treenaillaw01.LendReads", spec := "lendReads", apart := false }
def LendReadsSaid : Prop := lendReadsRow.holds Try.pinned (OpenSpec.ofChange lendReadsSpec)

/-- ITS FALSE NEIGHBOUR: 'it returns false'. Refute it at one input. -/
def lendReadsWrong : ChangeSpec := { name := "lendReads", fn := fun _ => fun
  | [d1, d2] => { results := [.lit (.bool false)], args := [d1, d2] }
  | _ => none }
def LendReadsWrongFalsely : Prop := lendReadsRow.holds Try.pinned (OpenSpec.ofChange lendReadsWrong)

/-- 'treenaillaw01.LendTexts': WHATEVER THE INPUT: true; the input reads as it did. -/
def lendTextsSpec : ChangeSpec := { name := "lendTexts", fn := fun _ => fun
  | [d1, d2] => { results := [.lit (.bool true)], args := [d1, d2] }
  | _ => none }
def lendTextsRow : OpenClaim := { program := "ytnofgicflijpgaa", sum := "6e221be5f159e127f929357c67345846e1024f1c4cee97027fb3644154c2f434", func := "treenail/treenaillaw01.LendTexts", spec := "lendTexts", apart := false }
def LendTextsSaid : Prop := lendTextsRow.holds Try.pinned (OpenSpec.ofChange lendTextsSpec)

/-- ITS FALSE NEIGHBOUR: 'it returns false'. Refute it at one input. -/
def lendTextsWrong : ChangeSpec := { name := "lendTexts", fn := fun _ => fun
  | [d1, d2] => { results := [.lit (.bool false)], args := [d1, d2] }
  | _ => none }
def LendTextsWrongFalsely : Prop := lendTextsRow.holds Try.pinned (OpenSpec.ofChange lendTextsWrong)

/-- 'treenaillaw01.LendBack': WHATEVER THE INPUT: true; the input reads as it did. -/
def lendBackSpec : ChangeSpec := { name := "lendBack", fn := fun _ => fun
  | [d1, d2] => { results := [.lit (.bool true)], args := [d1, d2] }
  | _ => none }
def lendBackRow : OpenClaim := { program := "ytnofgicflijpgaa", sum := "6e221be5f159e127f929357c67345846e1024f1c4cee97027fb3644154c2f434", func := "treenail/treenaillaw01.LendBack", spec := "lendBack", apart := false }
def LendBackSaid : Prop := lendBackRow.holds Try.pinned (OpenSpec.ofChange lendBackSpec)

/-- ITS FALSE NEIGHBOUR: 'it returns false'. Refute it at one input. -/
def lendBackWrong : ChangeSpec := { name := "lendBack", fn := fun _ => fun
  | [d1, d2] => { results := [.lit (.bool false)], args := [d1, d2] }
  | _ => none }
def LendBackWrongFalsely : Prop := lendBackRow.holds Try.pinned (OpenSpec.ofChange lendBackWrong)

/-- 'treenaillaw01.LendSizes': WHATEVER THE INPUT: true; the input reads as it did. -/
def lendSizesSpec : ChangeSpec := { name := "lendSizes", fn := fun _ => fun
  | [d1, d2] => { results := [.lit (.bool true)], args := [d1, d2] }
  | _ => none }
def lendSizesRow : OpenClaim := { program := "ytnofgicflijpgaa", sum := "6e221be5f159e127f929357c67345846e1024f1c4cee97027fb3644154c2f434", func := "treenail/treenaillaw01.LendSizes", spec := "lendSizes", apart := false }
def LendSizesSaid : Prop := lendSizesRow.holds Try.pinned (OpenSpec.ofChange lendSizesSpec)

/-- ITS FALSE NEIGHBOUR: 'it returns false'. Refute it at one input. -/
def lendSizesWrong : ChangeSpec := { name := "lendSizes", fn := fun _ => fun
  | [d1, d2] => { results := [.lit (.bool false)], args := [d1, d2] }
  | _ => none }
def LendSizesWrongFalsely : Prop := lendSizesRow.holds Try.pinned (OpenSpec.ofChange lendSizesWrong)

/- THE SECOND FORM. 'bulk': how many values and letters a reading holds, each counted each time it is reached (what is shared counts as often as it is met; a slice's spare places count too). A statement '..UptoSaid' is the law's where the arguments, and the package variables that the reading takes, are together of bulk at most 1048576: NARROWER than '..Said'. Prove '..Said' where nothing that the law and all that it calls make is longer than what came in: it says more and counts as full. Else prove '..UptoSaid'. A law counts once. -/
mutual
def uptoBulk {H : Type} : DataW H → Nat
  | .lit (.string bytes) => bytes.length + 1
  | .lit _ => 1
  | .nil => 1
  | .ptr d => uptoBulk d + 1
  | .slice elems spare => uptoBulkAll elems + uptoBulkAll spare + 1
  | .agg parts => uptoBulkAll parts + 1
  | .iface _ d => uptoBulk d + 1
  | .map entries => uptoBulkEntries entries + 1
  | .held _ => 1
def uptoBulkAll {H : Type} : List (DataW H) → Nat
  | [] => 0
  | d :: r => uptoBulk d + uptoBulkAll r
def uptoBulkEntries {H : Type} : List (Lit × DataW H) → Nat
  | [] => 0
  | x :: r => uptoBulkEntry x + uptoBulkEntries r
def uptoBulkEntry {H : Type} : Lit × DataW H → Nat
  | (.string bytes, d) => bytes.length + uptoBulk d + 1
  | (_, d) => uptoBulk d + 1
 end
def uptoSmall : (H : Type) → List (DataW H) → Bool := fun _ ds => decide (uptoBulkAll ds ≤ 1048576)
def OpenSpec.upto (s : _root_.Go.ChangeSpec) : _root_.Go.OpenSpec := { _root_.Go.OpenSpec.ofChange s with cond := some uptoSmall }

/-- 'treenaillaw01.LendWrites', WHERE WHAT IT READS IS OF BULK AT MOST 1048576: true; the input reads as it did. -/
def lendWritesUptoRow : OpenClaim := { program := "ytnofgicflijpgaa", sum := "6e221be5f159e127f929357c67345846e1024f1c4cee97027fb3644154c2f434", func := "treenail/treenaillaw01.LendWrites", spec := "lendWrites", apart := false, narrowed := true }
def LendWritesUptoSaid : Prop := lendWritesUptoRow.holds Try.pinned (OpenSpec.upto lendWritesSpec)

/-- 'treenaillaw01.LendReads', WHERE WHAT IT READS IS OF BULK AT MOST 1048576: true; the input reads as it did. -/
def lendReadsUptoRow : OpenClaim := { program := "ytnofgicflijpgaa", sum := "6e221be5f159e127f929357c67345846e1024f1c4cee97027fb3644154c2f434", func := "treenail/treenaillaw01.LendReads", spec := "lendReads", apart := false, narrowed := true }
def LendReadsUptoSaid : Prop := lendReadsUptoRow.holds Try.pinned (OpenSpec.upto lendReadsSpec)

/-- 'treenaillaw01.LendTexts', WHERE WHAT IT READS IS OF BULK AT MOST 1048576: true; the input reads as it did. -/
def lendTextsUptoRow : OpenClaim := { program := "ytnofgicflijpgaa", sum := "6e221be5f159e127f929357c67345846e1024f1c4cee97027fb3644154c2f434", func := "treenail/treenaillaw01.LendTexts", spec := "lendTexts", apart := false, narrowed := true }
def LendTextsUptoSaid : Prop := lendTextsUptoRow.holds Try.pinned (OpenSpec.upto lendTextsSpec)

/-- 'treenaillaw01.LendBack', WHERE WHAT IT READS IS OF BULK AT MOST 1048576: true; the input reads as it did. -/
def lendBackUptoRow : OpenClaim := { program := "ytnofgicflijpgaa", sum := "6e221be5f159e127f929357c67345846e1024f1c4cee97027fb3644154c2f434", func := "treenail/treenaillaw01.LendBack", spec := "lendBack", apart := false, narrowed := true }
def LendBackUptoSaid : Prop := lendBackUptoRow.holds Try.pinned (OpenSpec.upto lendBackSpec)

/-- 'treenaillaw01.LendSizes', WHERE WHAT IT READS IS OF BULK AT MOST 1048576: true; the input reads as it did. -/
def lendSizesUptoRow : OpenClaim := { program := "ytnofgicflijpgaa", sum := "6e221be5f159e127f929357c67345846e1024f1c4cee97027fb3644154c2f434", func := "treenail/treenaillaw01.LendSizes", spec := "lendSizes", apart := false, narrowed := true }
def LendSizesUptoSaid : Prop := lendSizesUptoRow.holds Try.pinned (OpenSpec.upto lendSizesSpec)

end Rows
end Go.Proofs.Ytnofgicflijpgaa
