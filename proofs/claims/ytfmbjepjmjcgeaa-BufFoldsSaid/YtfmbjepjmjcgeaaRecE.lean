/- Layer 12 (rec): Parse. -/
import Derived.OwnWalk
import Derived.Maps.AppendAt
import Derived.Test.YtfmbjepjmjcgeaaRecD
namespace Go.Proofs.Ytfmbjepjmjcgeaa.Rec
open Go Go.RowKit Go.Proofs.Ytfmbjepjmjcgeaa Go.Proofs.Ytfmbjepjmjcgeaa.Lend
set_option linter.unusedVariables false

def lenOf : Value → Nat
  | .string b => b.size
  | _ => 0
/-- what Parse answers -/
def PaQ (w : World) (s : List UInt8) (e : Ending) (w' : World) : Prop :=
  (∃ l v', parL s = some l ∧ e = .returned (.tuple #[v', .int .i64 0]) ∧ RA w' w.heap.size v' l ∧ Below w.heap.size w w') ∨
  (parL s = none ∧ e = .returned (.tuple #[.slice none 0 0, .int .i64 4]) ∧ Below w.heap.size w w')
theorem PaQ.yes {w w' : World} {s : List UInt8} {e : Ending} (l : List Up) (v' : Value) (h : parL s = some l) (he : e = .returned (.tuple #[v', .int .i64 0])) (h1 : RA w' w.heap.size v' l) (h2 : Below w.heap.size w w') : PaQ w s e w' := .inl ⟨l, v', h, he, h1, h2⟩
theorem PaQ.no {w w' : World} {s : List UInt8} {e : Ending} (h : parL s = none) (he : e = .returned (.tuple #[.slice none 0 0, .int .i64 4])) (h2 : Below w.heap.size w w') : PaQ w s e w' := .inr ⟨h, he, h2⟩
theorem own_base {w : World} {base base' : Nat} {e : TypeId} {size : Nat} {v : Value} {n : Nat} {xs : List Value} (h : w.ownsRow base e size v n xs) (hb : base' ≤ base) : w.ownsRow base' e size v n xs := by
  refine ⟨h.1, ?_⟩
  rcases h.2 with h | ⟨g, cap, cur, a, b, rest⟩
  · exact .inl h
  · exact .inr ⟨g, cap, cur, a, Nat.le_trans hb b, rest⟩
theorem own_drew {w : World} {base : Nat} {e : TypeId} {size : Nat} {v : Value} {n : Nat} {xs : List Value} (h : w.ownsRow base e size v n xs) : w.drew.ownsRow base e size v n xs := h
theorem parN_le : ∀ (n : Nat) (s : List UInt8) (l : List Up), parN n s = some l → l.length ≤ s.length
  | n, [], l, h => by
    have : l = [] := by cases n <;> (unfold parN at h; injection h with h; exact h.symm)
    subst this; simp
  | 0, x :: s, l, h => by unfold parN at h; cases h
  | n + 1, x :: s, l, h => by
    rw [parN_cons _ _ (by simp)] at h
    cases e : par1 (x :: s) with
    | none => rw [e] at h; cases h
    | some p =>
      obtain ⟨u, r⟩ := p
      rw [e] at h
      simp only at h
      have h1 := (par1_some e).1
      cases e2 : parN n r with
      | none => rw [e2] at h; cases h
      | some m =>
        rw [e2] at h
        injection h with h
        subst h
        have := parN_le n r m e2
        rw [List.length_cons]; omega
theorem parL_le {s : List UInt8} {l : List Up} (h : parL s = some l) : l.length ≤ s.length := parN_le _ s l h
end Go.Proofs.Ytfmbjepjmjcgeaa.Rec
