/- A drawn region with two new blocks of four cells, at slots d and e, made (ia, ib) and written (ja, jb) in any order: 'a, b := f(x), g(y)', both kept in blocks. -/
import Derived.Test.YtmhinnfcfnlfkaaRegionV
import Derived.Test.YtmhinnfcfnlfkaaMsgL
namespace Go.Proofs.Ytmhinnfcfnlfkaa.Msg
open Go Go.RowKit Go.Proofs.Ytmhinnfcfnlfkaa Go.Proofs.Ytmhinnfcfnlfkaa.Rec
set_option linter.unusedVariables false

def Cel (w : World) (q : Nat) (t : TypeId) (b : Bool) (x0 x1 x2 x3 : Value) : Prop := ∃ c0 c1 c2 c3, Has w q t [c0, c1, c2, c3] ∧ (b = true → c0 = x0 ∧ c1 = x1 ∧ c2 = x2 ∧ c3 = x3)
def Duo (w1 : World) (d e ia ib ja jb : Nat) (tx ty : TypeId) (x0 x1 x2 x3 y0 y1 y2 y3 : Value) (l : Nat → Bool) (a : Act) (w : World) : Prop :=
  Below w1.heap.size w1 w ∧ ∃ q r : Nat, (l ia = true → a.tmps.getD d undef = .pointer (some ⟨q, 0, none⟩) ∧ w1.heap.size ≤ q ∧ Cel w q tx (l ja) x0 x1 x2 x3) ∧ (l ib = true → a.tmps.getD e undef = .pointer (some ⟨r, 0, none⟩) ∧ w1.heap.size ≤ r ∧ Cel w r ty (l jb) y0 y1 y2 y3) ∧ (l ia = true → l ib = true → q ≠ r)
theorem Cel.on {w w' : World} {q : Nat} {t : TypeId} {b : Bool} {x0 x1 x2 x3 : Value} (h : Cel w q t b x0 x1 x2 x3) (hb : Below w.heap.size w w') : Cel w' q t b x0 x1 x2 x3 := by
  obtain ⟨c0, c1, c2, c3, h, k⟩ := h
  exact ⟨c0, c1, c2, c3, h.below hb h.lt, k⟩
theorem Cel.lt {w : World} {q : Nat} {t : TypeId} {b : Bool} {x0 x1 x2 x3 : Value} (h : Cel w q t b x0 x1 x2 x3) : q < w.heap.size := by
  obtain ⟨c0, c1, c2, c3, h, k⟩ := h
  exact h.lt
section
variable {w1 w : World} {d e ia ib ja jb : Nat} {tx ty : TypeId} {x0 x1 x2 x3 y0 y1 y2 y3 : Value} {l : Nat → Bool} {a : Act}
theorem Duo.start (a : Act) : Duo w1 d e ia ib ja jb tx ty x0 x1 x2 x3 y0 y1 y2 y3 (fun _ => false) a w1.drew :=
  ⟨(Below.refl _ _).drew, 0, 0, (fun h => by cases h), (fun h => by cases h), (fun h => by cases h)⟩
theorem lset_ne {l : Nat → Bool} {i j : Nat} (h : i ≠ j) : Reg.lset l i j = l j := by unfold Reg.lset; rw [if_neg h]
theorem lset_eq {l : Nat → Bool} {i : Nat} : Reg.lset l i i = true := by unfold Reg.lset; rw [if_pos rfl]
theorem Duo.keep (h : Duo w1 d e ia ib ja jb tx ty x0 x1 x2 x3 y0 y1 y2 y3 l a w) {i c : Nat} (v : Value) {w' : World} (hb : Below w.heap.size w w') (h1 : i ≠ ia) (h2 : i ≠ ib) (h3 : i ≠ ja) (h4 : i ≠ jb) (h5 : c ≠ d) (h6 : c ≠ e) (hc : c < a.tmps.size) :
    Duo w1 d e ia ib ja jb tx ty x0 x1 x2 x3 y0 y1 y2 y3 (Reg.lset l i) (a.put (some c) v) w' := by
  obtain ⟨k, q, r, k1, k2, k3⟩ := h
  refine ⟨below_on k hb, q, r, ?_, ?_, ?_⟩
  · rw [lset_ne h1, lset_ne h3, Reg.getD_put _ _ _ _ hc, if_neg h5]
    intro h; obtain ⟨g1, g2, g3⟩ := k1 h; exact ⟨g1, g2, g3.on hb⟩
  · rw [lset_ne h2, lset_ne h4, Reg.getD_put _ _ _ _ hc, if_neg h6]
    intro h; obtain ⟨g1, g2, g3⟩ := k2 h; exact ⟨g1, g2, g3.on hb⟩
  · rw [lset_ne h1, lset_ne h2]; exact k3
theorem Duo.swap (h : Duo w1 d e ia ib ja jb tx ty x0 x1 x2 x3 y0 y1 y2 y3 l a w) : Duo w1 e d ib ia jb ja ty tx y0 y1 y2 y3 x0 x1 x2 x3 l a w := by
  obtain ⟨k, q, r, k1, k2, k3⟩ := h
  exact ⟨k, r, q, k2, k1, fun h h' e => k3 h' h e.symm⟩
theorem Duo.mk (h : Duo w1 d e ia ib ja jb tx ty x0 x1 x2 x3 y0 y1 y2 y3 l a w) (u0 u1 u2 u3 : Value) (hl : l ja = false) (h1 : ia ≠ ib) (h2 : ia ≠ ja) (h3 : ia ≠ jb) (h5 : d ≠ e) (hc : d < a.tmps.size) :
    Duo w1 d e ia ib ja jb tx ty x0 x1 x2 x3 y0 y1 y2 y3 (Reg.lset l ia) (a.put (some d) (.pointer (some ⟨w.heap.size, 0, none⟩))) (w.alloc (.cells #[u0, u1, u2, u3] tx)) := by
  obtain ⟨k, q, r, k1, k2, k3⟩ := h
  refine ⟨below_nw k _, w.heap.size, r, ?_, ?_, ?_⟩
  · rw [lset_eq, lset_ne h2, hl, Reg.getD_put _ _ _ _ hc, if_pos rfl]
    exact fun _ => ⟨rfl, k.size, u0, u1, u2, u3, Has.new w [u0, u1, u2, u3] tx, fun h => by cases h⟩
  · rw [lset_ne h1, lset_ne h3, Reg.getD_put _ _ _ _ hc, if_neg h5]
    intro h; obtain ⟨g1, g2, g3⟩ := k2 h; exact ⟨g1, g2, g3.on (below_new _ _)⟩
  · rw [lset_ne h1]
    intro _ h e
    obtain ⟨_, _, g3⟩ := k2 h
    have := g3.lt; omega
theorem Duo.st (h : Duo w1 d e ia ib ja jb tx ty x0 x1 x2 x3 y0 y1 y2 y3 l a w) (h1 : l ia = true) (h2 : ja ≠ ia) (h3 : ja ≠ ib) (h4 : ja ≠ jb) :
    ∃ q, a.tmps.getD d undef = .pointer (some ⟨q, 0, none⟩) ∧ (∃ u0 u1 u2 u3, Has w q tx [u0, u1, u2, u3]) ∧ Duo w1 d e ia ib ja jb tx ty x0 x1 x2 x3 y0 y1 y2 y3 (Reg.lset l ja) a ((((w.setCell ⟨q, 0, none⟩ x0).setCell ⟨q, 1, none⟩ x1).setCell ⟨q, 2, none⟩ x2).setCell ⟨q, 3, none⟩ x3) := by
  obtain ⟨k, q, r, k1, k2, k3⟩ := h
  obtain ⟨g1, g2, u0, u1, u2, u3, g3, g4⟩ := k1 h1
  refine ⟨q, g1, ⟨u0, u1, u2, u3, g3⟩, bel4 k g2, q, r, ?_, ?_, ?_⟩
  · rw [lset_eq]
    exact fun _ => ⟨g1, g2, x0, x1, x2, x3, (((g3.set 0 x0).set 1 x1).set 2 x2).set 3 x3, fun _ => ⟨rfl, rfl, rfl, rfl⟩⟩
  · rw [lset_ne h3, lset_ne h4]
    intro h
    obtain ⟨f1, f2, c0, c1, c2, c3, f3, f4⟩ := k2 h
    exact ⟨f1, f2, c0, c1, c2, c3, oth4 f3 (k3 h1 h), f4⟩
  · rw [lset_ne h2, lset_ne h3]; exact k3
end
end Go.Proofs.Ytmhinnfcfnlfkaa.Msg
