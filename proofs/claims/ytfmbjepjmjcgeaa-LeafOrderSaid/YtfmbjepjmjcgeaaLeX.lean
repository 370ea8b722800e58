/- Layer 16 (leaf): for the laws' walks: updates that came in, a leaf in a block of the law's own beside the document's, all that were put. -/
import Derived.Test.YtfmbjepjmjcgeaaLeW
import Derived.Test.YtfmbjepjmjcgeaaLeD
namespace Go.Proofs.Ytfmbjepjmjcgeaa.Leaf
open Go Go.RowKit Go.Proofs.Ytfmbjepjmjcgeaa Go.Proofs.Ytfmbjepjmjcgeaa.Lend Go.Proofs.Ytfmbjepjmjcgeaa.Rec Go.Proofs.Ytfmbjepjmjcgeaa.Msg Go.Proofs.Ytfmbjepjmjcgeaa.Buf
set_option linter.unusedVariables false

/-- an update that came in -/
def Qu (u : Up) : Prop := WfU u ∧ u.key.length ≤ 140737488355327 ∧ u.val.length ≤ 140737488355327
theorem ea_own {T : TypeId} {w : World} {base n : Nat} {v : Value} {l : List Up} (hn : n = l.length) (h : w.ownsRow base T 2 v n (flatE l)) : EO T w base v l := by subst hn; exact h
theorem own_far {T : TypeId} {w : World} {base B s n : Nat} {v : Value} {xs : List Value} (h : w.ownsRow base T s v n xs) (hB : B < base) (x : Value) : (w.setCell ⟨B, 0, none⟩ x).ownsRow base T s v n xs :=
  owns_same h fun k e => Below.heap_setCell _ _ _ _ (fun e' => by have := (h.lt k e).1; simp at e'; omega)
/-- append(v, x), x an update of the program's -/
theorem uapp_one (ty : TypeId) {w : World} {B : Nat} {v : Value} {la : List Up} (x : Up) (ha : RA w B v la) (hB : B ≤ w.heap.size) (hn : la.length ≤ 1000000) :
    ∃ v' w', (Builtin.append_ #[28, 28] ty #[v, .slice (some ⟨w.heap.size, 0, none⟩) 1 1]).run Try.prog (w.alloc (.cells #[.int .u8 x.kind, .string (Lend.strOf x.key), .string (Lend.strOf x.val), .int .u64 x.delta] 34)) = .ok v' w' ∧ RA w' B v' (la ++ [x]) ∧ (w.alloc (.cells #[.int .u8 x.kind, .string (Lend.strOf x.key), .string (Lend.strOf x.val), .int .u64 x.delta] 34)).grownBy w' v.ownBlock := by
  obtain ⟨i0, hi, hz0, hz1, hz2⟩ := info_parts info_up
  have hb := below_new w (.cells #[.int .u8 x.kind, .string (Lend.strOf x.key), .string (Lend.strOf x.val), .int .u64 x.delta] 34)
  have hh : Has (w.alloc (.cells #[.int .u8 x.kind, .string (Lend.strOf x.key), .string (Lend.strOf x.val), .int .u64 x.delta] 34)) w.heap.size 34 (encU x) := Has.new w (encU x) _
  obtain ⟨v', w', hr, h2, h3, _⟩ := run_append_own (P := Try.prog) _ B 28 ty 34 i0 _ 4 48 Try.underlying28 hi hz0 hz1 hz2 rfl (by decide) v la.length (flatU la) (own_bel ha hb) ⟨w.heap.size, 0, none⟩ 1 1 (encU x) rfl
    (fun j u hj => by rw [Addr.add_lit, Nat.zero_add, hh.cell]; exact hj) (enc_one x) (by unfold maxLen; omega) (by omega) (by simp; omega)
  exact ⟨v', w', hr, by unfold RA; rw [flatU_snoc, List.length_append]; exact h2, h3⟩
theorem tne2 : (34 : TypeId) ≠ 53 := by decide
theorem tne3 : (34 : TypeId) ≠ 52 := by decide
/-- the law's leaf in its block, the document's beside it, and all that were put -/
structure Lp (w0 : World) (G : Nat) (fv mv av : Value) (L A : List Up) (w : World) : Prop where
  b : Has w G 25 [fv]
  ea : EA w (G + 1) fv L
  ed : ED w (G + 1) mv L
  ra : RA w (G + 1) av A
  bel : Below w0.heap.size w0 w
section
variable {w0 w w' : World} {G : Nat} {fv mv av cv nv : Value} {L L' A : List Up}
theorem Lp.on (h : Lp w0 G fv mv av L A w) (hb : Below w.heap.size w w') : Lp w0 G fv mv av L A w' := ⟨h.b.below hb h.b.lt, own_bel h.ea hb, own_bel h.ed hb, own_bel h.ra hb, below_on h.bel hb⟩
theorem Lp.set (h : Lp w0 G fv mv av L A w) (hG : w0.heap.size ≤ G) (hc : EA w (G + 1) cv L') (hn : ED w (G + 1) nv L') : Lp w0 G cv nv av L' A (w.setCell ⟨G, 0, none⟩ cv) :=
  ⟨h.b.set 0 cv, own_far hc (Nat.lt_succ_self _) _, own_far hn (Nat.lt_succ_self _) _, own_far h.ra (Nat.lt_succ_self _) _, h.bel.setCell hG _⟩
theorem Lp.new (w : World) : Lp w w.heap.size (.slice none 0 0) (.slice none 0 0) (.slice none 0 0) [] [] (w.alloc (.cells #[.slice none 0 0] 25)) :=
  ⟨Has.new w [.slice none 0 0] _, World.ownsRow_nil _ _ _ _, World.ownsRow_nil _ _ _ _, World.ownsRow_nil _ _ _ _, below_new w _⟩
/-- one more was put -/
theorem Lp.more (h : Lp w0 G fv mv av L A w) (hG : w0.heap.size ≤ G) {x : Up} {v' : Value} (hr : RA w' (G + 1) v' (A ++ [x])) (hg : w.grownBy w' av.ownBlock) : Lp w0 G fv mv v' L (A ++ [x]) w' := by
  refine ⟨h.b.same (hg.block G h.b.lt (fun e => by have := (h.ra.lt G e.symm).1; omega)), h.ea.kept hg ?_, h.ed.kept hg ?_, hr, h.bel.grown hg h.bel.size (fun k hk => by have := (h.ra.lt k hk).1; omega)⟩
  · cases hv : fv.ownBlock with
    | none => exact .inl rfl
    | some k => exact .inr fun e => own_ne tne2 h.ra h.ea k e.symm hv
  · cases hv : mv.ownBlock with
    | none => exact .inl rfl
    | some k => exact .inr fun e => own_ne tne3 h.ra h.ed k e.symm hv
end
theorem Ge.sho {L : List Up} {k : Nat} (h : Ge L k) : Sho L := fun x hx => by have := h.ok x hx; exact ⟨by have := this.2.1; omega, by have := this.2.2; omega⟩
/-- all that came -/
structure Aq (A : List Up) (k : Nat) : Prop where
  wf : ∀ u ∈ A, WfU u
  len : A.length = k
theorem aq_nil : Aq [] 0 := ⟨(fun u h => by cases h), rfl⟩
theorem Aq.snoc {A : List Up} {k : Nat} {x : Up} (h : Aq A k) (hx : WfU x) : Aq (A ++ [x]) (k + 1) :=
  ⟨fun u hu => by rcases List.mem_append.1 hu with hu | hu; exact h.wf u hu; rw [List.mem_singleton] at hu; rw [hu]; exact hx, by rw [List.length_append, h.len]; rfl⟩
end Go.Proofs.Ytfmbjepjmjcgeaa.Leaf
