/- Layer 12 (rec): the document's own answers: Parse. -/
import Derived.Test.YtfmbjepjmjcgeaaRecE
import Derived.Test.YtfmbjepjmjcgeaaRefLend
namespace Go.Proofs.Ytfmbjepjmjcgeaa.Rec
open Go Go.RowKit Go.Proofs.Ytfmbjepjmjcgeaa Go.Proofs.Ytfmbjepjmjcgeaa.Lend
set_option linter.unusedVariables false

/-- a row of the document's updates -/
abbrev RU (w : World) (base : Nat) (v : Value) (l : List Up) : Prop := w.ownsRow base 35 4 v l.length (flatU l)
/-- what the document's Parse answers -/
def PaP (w : World) (s : List UInt8) (e : Ending) (w' : World) : Prop :=
  (∃ l v', parL s = some l ∧ e = .returned (.tuple #[v', .int .i64 0]) ∧ RU w' w.heap.size v' l ∧ Below w.heap.size w w') ∨
  (parL s = none ∧ e = .returned (.tuple #[.slice none 0 0, .int .i64 4]) ∧ Below w.heap.size w w')
theorem PaP.yes {w w' : World} {s : List UInt8} {e : Ending} (l : List Up) (v' : Value) (h : parL s = some l) (he : e = .returned (.tuple #[v', .int .i64 0])) (h1 : RU w' w.heap.size v' l) (h2 : Below w.heap.size w w') : PaP w s e w' := .inl ⟨l, v', h, he, h1, h2⟩
theorem PaP.no {w w' : World} {s : List UInt8} {e : Ending} (h : parL s = none) (he : e = .returned (.tuple #[.slice none 0 0, .int .i64 4])) (h2 : Below w.heap.size w w') : PaP w s e w' := .inr ⟨h, he, h2⟩
theorem info_ur : (Try.prog.info? 35).map (fun i => (i.zero, i.size, i.bytes)) = some (some (.agg #[.int .u8 0, .string ⟨#[]⟩, .string ⟨#[]⟩, .int .u64 0]), 4, 48) := by kernel_rfl
theorem refsplit_at (l : List UInt8) (w : World) (h : l.length ≤ 1000000) : Calls Try.prog 41 #[.string (Lend.strOf l)] w fun e w' => e = .returned (.tuple #[.string (Lend.strOf (splT l)), .string (Lend.strOf (splR l)), .bool (splB l)]) ∧ Below w.heap.size w w' := by
  have := refsplit_any (Lend.strOf l) w (by rw [ssize]; exact h)
  rwa [Lend.strOf_data] at this
/-- the update's block, beside the row -/
structure Cx (w0 : World) (v : Value) (m : List Up) (X : Nat) (cs : List Value) (w : World) : Prop where
  has : Has w X 35 cs
  row : RU w w0.heap.size v m
  bel : Below w0.heap.size w0 w
  old : ∀ k, v.ownBlock = some k → k < X
  ge : w0.heap.size ≤ X
theorem Cx.on {w0 w w' : World} {v : Value} {m : List Up} {X : Nat} {cs : List Value} (h : Cx w0 v m X cs w) (hb : Below w.heap.size w w') : Cx w0 v m X cs w' := ⟨h.has.below hb h.has.lt, own_bel h.row hb, below_on h.bel hb, h.old, h.ge⟩
theorem Cx.set {w0 w : World} {v : Value} {m : List Up} {X : Nat} {cs : List Value} (h : Cx w0 v m X cs w) (i : Nat) (x : Value) : Cx w0 v m X (cs.set i x) (w.setCell ⟨X, i, none⟩ x) :=
  ⟨h.has.set i x, owns_same h.row fun k e => Below.heap_setCell _ _ _ _ (fun e2 => by have h1 := h.old k e; subst e2; exact Nat.lt_irrefl _ h1), h.bel.setCell h.ge x, h.old, h.ge⟩
end Go.Proofs.Ytfmbjepjmjcgeaa.Rec
