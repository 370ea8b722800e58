/- Layer 11's law CachePlays: a cache and the document's list, beside blocks that last. -/
import Derived.Test.YtbdiadbaapfdgaaCaQ
namespace Go.Proofs.Ytbdiadbaapfdgaa.Ca
open Go Go.RowKit Go.Proofs.Ytbdiadbaapfdgaa Go.Maps
set_option linter.unusedVariables false

/-- a cache that keeps es, a row v that holds ls, blocks K that are neither's -/
def Tw (w0 : World) (K : Nat → Prop) (p n : Nat) (es ls : List En) (v : Value) (c f m : Nat) (w : World) : Prop := ∃ R, Own w0 p R n es c f m w ∧ RE w 0 v ls ∧ ∀ k, (v.ownBlock = some k ∨ K k) → k < w.heap.size ∧ ¬ R k
section
variable {w0 w w' : World} {K K' : Nat → Prop} {p n : Nat} {es es' ls ls' : List En} {v v' : Value} {c f m c' f' m' : Nat} {R : Nat → Prop}
theorem Tw.bel (h : Tw w0 K p n es ls v c f m w) : Below w0.heap.size w0 w := by obtain ⟨R, o, _⟩ := h; exact o.bel
theorem Tw.start (h : Own w0 p R n [] c f m w) : Tw w0 (fun _ => False) p n [] [] (.slice none 0 0) c f m w := ⟨R, h, World.ownsRow_nil _ _ _ _, fun k hk => hk.elim (fun e => by cases e) (fun e => e.elim)⟩
theorem Tw.on (h : Tw w0 K p n es ls v c f m w) (hb : Below w.heap.size w w') : Tw w0 K p n es ls v c f m w' := by
  obtain ⟨R, o, r, a⟩ := h
  exact ⟨R, o.on hb, r.below hb, fun k hk => ⟨Nat.lt_of_lt_of_le (a k hk).1 hb.size, (a k hk).2⟩⟩
theorem Tw.less (h : Tw w0 K p n es ls v c f m w) (hK : ∀ k, K' k → K k) : Tw w0 K' p n es ls v c f m w := by
  obtain ⟨R, o, r, a⟩ := h
  exact ⟨R, o, r, fun k hk => a k (hk.imp id (hK k))⟩
/-- a block that was made -/
theorem Tw.more (h : Tw w0 K p n es ls v c f m w) (o : Obj) : Tw w0 (fun k => K k ∨ k = w.heap.size) p n es ls v c f m (w.alloc o) := by
  obtain ⟨R, h1, r, a⟩ := h
  have hb : Below w.heap.size w (w.alloc o) := (Below.refl _ _).alloc (Nat.le_refl _) o
  refine ⟨R, h1.on hb, r.below hb, fun k hk => ?_⟩
  rcases hk with hk | hk | hk
  · exact ⟨Nat.lt_of_lt_of_le (a k (.inl hk)).1 hb.size, (a k (.inl hk)).2⟩
  · exact ⟨Nat.lt_of_lt_of_le (a k (.inr hk)).1 hb.size, (a k (.inr hk)).2⟩
  · subst hk
    refine ⟨by simp, fun hr => ?_⟩
    have := h1.at_.lt hr; omega
theorem Tw.kept (h1 : Own w0 p R n es c f m w) (h2 : RE w 0 v ls) (h3 : ∀ k, (v.ownBlock = some k ∨ K k) → k < w.heap.size ∧ ¬ R k) (hk : Kept w p R n es' c' f' m' w') : Tw w0 K p n es' ls v c' f' m' w' ∧ ∀ k, K k → w'.heap[k]? = w.heap[k]? := by
  obtain ⟨R', o, s, ch⟩ := h1.kept hk
  refine ⟨⟨R', o, owns_same h2 fun k hk => ch.block k (h3 k (.inl hk)).1 (h3 k (.inl hk)).2, fun k hk => ⟨Nat.lt_of_lt_of_le (h3 k hk).1 ch.size, fun hr => ?_⟩⟩, fun k hk => ch.block k (h3 k (.inr hk)).1 (h3 k (.inr hk)).2⟩
  rcases s k hr with e | e
  · exact (h3 k hk).2 e
  · have := (h3 k hk).1; omega
theorem Tw.row (h : Tw w0 K p n es ls v c f m w) (hr : RE w' w.heap.size v' ls') (hb : Below w.heap.size w w') : Tw w0 K p n es ls' v' c f m w' := by
  obtain ⟨R, o, r, a⟩ := h
  refine ⟨R, o.on hb, ownsRow_base hr (Nat.zero_le _), fun k hk => ?_⟩
  rcases hk with hk | hk
  · have := hr.lt k hk
    refine ⟨this.2, fun hr => ?_⟩
    have := o.at_.lt hr; omega
  · exact ⟨Nat.lt_of_lt_of_le (a k (.inr hk)).1 hb.size, (a k (.inr hk)).2⟩
theorem Tw.len (h : Tw w0 K p n es ls v c f m w) : es.length ≤ n ∧ 1 ≤ n ∧ n ≤ 4096 := by obtain ⟨R, o, _⟩ := h; exact o.at_.len
end
theorem run_maxC (P : Program) (w : World) (t : TypeId) (ts : Array TypeId) (a : Int) : (Builtin.max_ ts t #[.int .i64 0, .int .i64 a]).run P w = .ok (.int .i64 (if 0 < a then a else 0)) w := by
  simp only [Builtin.max_, Builtin.max2, List.foldlM, Sem.run_bind, Sem.run_pure, Result.andThen]
theorem run_minC (P : Program) (w : World) (t : TypeId) (ts : Array TypeId) (a c : Nat) : (Builtin.min_ ts t #[.int .i64 (a : Nat), .int .i64 (c : Nat)]).run P w = .ok (.int .i64 ((min a c : Nat) : Int)) w := by
  have e : ∀ a b : Nat, (if (b : Int) < a then (b : Int) else a) = ((min a b : Nat) : Int) := by intro a b; split <;> omega
  simp only [Builtin.min_, Builtin.min2, List.foldlM, Sem.run_bind, Sem.run_pure, Result.andThen]
  rw [e]
end Go.Proofs.Ytbdiadbaapfdgaa.Ca
