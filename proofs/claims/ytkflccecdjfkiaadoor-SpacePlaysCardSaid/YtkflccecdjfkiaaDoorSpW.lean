/- Layer 10's law SpacePlays: the program's space and the document's, beside a block of the law's own. -/
import Derived.Test.YtkflccecdjfkiaaDoorRefSp
namespace Go.Proofs.YtkflccecdjfkiaaDoor.Spc
open Go.RowKit Go.Proofs.YtkflccecdjfkiaaDoor Go.Proofs.YtkflccecdjfkiaaDoor.Bit
set_option linter.unusedVariables false

theorem len_take (S : Sp) : S.take.used.length = S.used.length := by unfold Sp.take; split <;> simp [putL_length]
theorem len_use (S : Sp) (k : Int) : (S.use k).used.length = S.used.length := by unfold Sp.use; split <;> simp [putL_length]
theorem len_give (S : Sp) (k : Int) : (S.give k).used.length = S.used.length := by unfold Sp.give; split <;> rfl
theorem len_settle (S : Sp) : S.settle.used.length = S.used.length := minusL_length _ _
theorem len_undo (S : Sp) : S.undo.used.length = S.used.length := minusL_length _ _
theorem len_step (S : Sp) : S.step.used.length = S.used.length := by unfold Sp.step; split <;> rfl
/-- how many of the first k are free -/
def freeK (l : List Bool) (k : Nat) : Int := (k : Int) - ((lstL k l).length : Nat)
theorem freeK_zero (l : List Bool) : freeK l 0 = 0 := by simp [freeK, lstL]
theorem freeK_yes {l : List Bool} {k : Nat} (h : bg l k = true) : freeK l (k + 1) = freeK l k := by rw [freeK, freeK, lst_succ, if_pos h]; simp; omega
theorem freeK_no {l : List Bool} {k : Nat} (h : bg l k = false) : freeK l (k + 1) = freeK l k + 1 := by rw [freeK, freeK, lst_succ, if_neg (by rw [h]; decide)]; push_cast; omega
theorem freeK_all (S : Sp) : freeN S = freeK S.used S.used.length := rfl
theorem freeK_bd (l : List Bool) (k : Nat) : 0 ≤ freeK l k ∧ freeK l k ≤ k := by have := lst_le k l; unfold freeK; omega
theorem RefAt.keep {w w' : World} {q bu bt bg_ cu : Nat} {xu : List Value} {S : Sp} (h : RefAt w q bu bt bg_ cu xu S) (hk : ∀ b, (b = q ∨ b = bu ∨ b = bt ∨ b = bg_) → w'.heap[b]? = w.heap[b]?) : RefAt w' q bu bt bg_ cu xu S :=
  ⟨h.main.same (hk _ (.inl rfl)), h.used.same (hk _ (.inr (.inl rfl))), h.taken.same (hk _ (.inr (.inr (.inl rfl)))), h.given.same (hk _ (.inr (.inr (.inr rfl)))), h.cap, h.ne1, h.ne2, h.ok⟩
theorem RefAt.lt {w : World} {q bu bt bg_ cu : Nat} {xu : List Value} {S : Sp} (h : RefAt w q bu bt bg_ cu xu S) : ∀ b, (b = q ∨ b = bu ∨ b = bt ∨ b = bg_) → b < w.heap.size := by
  rintro b (rfl | rfl | rfl | rfl)
  · exact h.main.lt
  · exact h.used.lt
  · exact h.taken.lt
  · exact h.given.lt
/-- both spaces, apart, above w0's end; and the block X, that holds cs -/
def Duo (w0 : World) (p q X : Nat) (t : TypeId) (cs : List Value) (S T : Sp) (w : World) : Prop := ∃ R bu bt bg_ cu xu, Own w0 p R S w ∧ RefAt w q bu bt bg_ cu xu T ∧ (∀ b, (b = q ∨ b = bu ∨ b = bt ∨ b = bg_) → b ∉ R ∧ w0.heap.size ≤ b ∧ b ≠ X) ∧ X ∉ R ∧ Has w X t cs
/-- both spaces, without a block -/
def Two (w0 : World) (p q : Nat) (S T : Sp) (w : World) : Prop := ∃ R bu bt bg_ cu xu, Own w0 p R S w ∧ RefAt w q bu bt bg_ cu xu T ∧ (∀ b, (b = q ∨ b = bu ∨ b = bt ∨ b = bg_) → b ∉ R ∧ w0.heap.size ≤ b)
section
variable {w0 w w' : World} {p q X : Nat} {t : TypeId} {cs : List Value} {S S' T T' : Sp} {f : FuncId} {args : Array Value} {E : Ending}
theorem Two.on (h : Two w0 p q S T w) (hb : Below w.heap.size w w') : Two w0 p q S T w' := by
  obtain ⟨R, bu, bt, bg_, cu, xu, h1, h2, h3⟩ := h
  exact ⟨R, bu, bt, bg_, cu, xu, h1.on hb, h2.on hb, h3⟩
theorem Two.tw (h : Two w0 p q S T w) : Tz w := by obtain ⟨R, bu, bt, bg_, cu, xu, h1, h2, h3⟩ := h; exact h1.tw
theorem Two.bel (h : Two w0 p q S T w) : Below w0.heap.size w0 w := by obtain ⟨R, bu, bt, bg_, cu, xu, h1, h2, h3⟩ := h; exact h1.bel
theorem Two.duo (h : Two w0 p q S T w) (t : TypeId) (cs : List Value) : Duo w0 p q w.heap.size t cs S T (w.alloc (.cells cs.toArray t)) := by
  obtain ⟨R, bu, bt, bg_, cu, xu, h1, h2, h3⟩ := h
  exact ⟨R, bu, bt, bg_, cu, xu, h1.on (b_new _ _), h2.on (b_new _ _), fun b hb => ⟨(h3 b hb).1, (h3 b hb).2, fun e => by have := h2.lt b hb; omega⟩, fun e => by have := h1.at_.lt _ e; omega, Has.new _ _ _⟩
theorem Duo.two (h : Duo w0 p q X t cs S T w) : Two w0 p q S T w := by
  obtain ⟨R, bu, bt, bg_, cu, xu, h1, h2, h3, h4, h5⟩ := h
  exact ⟨R, bu, bt, bg_, cu, xu, h1, h2, fun b hb => ⟨(h3 b hb).1, (h3 b hb).2.1⟩⟩
theorem Duo.bel (h : Duo w0 p q X t cs S T w) : Below w0.heap.size w0 w := h.two.bel
theorem Duo.on (h : Duo w0 p q X t cs S T w) (hb : Below w.heap.size w w') : Duo w0 p q X t cs S T w' := by
  obtain ⟨R, bu, bt, bg_, cu, xu, h1, h2, h3, h4, h5⟩ := h
  exact ⟨R, bu, bt, bg_, cu, xu, h1.on hb, h2.on hb, h3, h4, h5.below hb h5.lt⟩
theorem Duo.cell (h : Duo w0 p q X t cs S T w) (i : Nat) : w.cell? ⟨X, i, none⟩ = cs[i]? := by
  obtain ⟨R, bu, bt, bg_, cu, xu, h1, h2, h3, h4, h5⟩ := h; exact h5.cell i
theorem Two.start {R : List Nat} {bu bt bg_ cu : Nat} {xu : List Value} {w1 : World} (hs : Own w0 p R S w1) (hr : RefAt w q bu bt bg_ cu xu T) (hb : Below w1.heap.size w1 w) (h1 : w1.heap.size ≤ q) (h2 : w1.heap.size ≤ bu) (h3 : w1.heap.size ≤ bt) (h4 : w1.heap.size ≤ bg_) : Two w0 p q S T w := by
  refine ⟨R, bu, bt, bg_, cu, xu, hs.on hb, hr, fun b hbb => ?_⟩
  have hge : w1.heap.size ≤ b := by rcases hbb with rfl | rfl | rfl | rfl <;> assumption
  exact ⟨fun e => by have := hs.at_.lt b e; omega, Nat.le_trans hs.bel.size hge⟩
theorem Duo.left (h : Duo w0 p q X t cs S T w) {P : Program} (hc : ∀ R, Tz w → SpAt w p R S → Calls P f args w fun e w' => e = E ∧ Kept w p R S' w') : Calls P f args w fun e w' => e = E ∧ Duo w0 p q X t cs S' T w' := by
  obtain ⟨R, bu, bt, bg_, cu, xu, h1, h2, h3, h4, h5⟩ := h
  refine (hc R h1.tw h1.at_).mono ?_
  rintro e w' ⟨rfl, hk⟩
  obtain ⟨R', o, hR, hch⟩ := h1.kept hk
  have hrl := h2.lt
  exact ⟨rfl, R', bu, bt, bg_, cu, xu, o, h2.keep (fun b hb => hch.block b (hrl b hb) (h3 b hb).1), (fun b hb => ⟨fun e => by
    rcases hR b e with k | k
    · exact (h3 b hb).1 k
    · have := hrl b hb; omega, (h3 b hb).2⟩), (fun e => by
    rcases hR X e with k | k
    · exact h4 k
    · have := h5.lt; omega), hch.has h5 h4⟩
theorem Duo.right (h : Duo w0 p q X t cs S T w) {P : Program} (hc : ∀ bu bt bg_ cu xu, RefAt w q bu bt bg_ cu xu T → Calls P f args w fun e w' => e = E ∧ RKept w q bu bt bg_ T' w') : Calls P f args w fun e w' => e = E ∧ Duo w0 p q X t cs S T' w' := by
  obtain ⟨R, bu, bt, bg_, cu, xu, h1, h2, h3, h4, h5⟩ := h
  refine (hc bu bt bg_ cu xu h2).mono ?_
  rintro e w' ⟨rfl, bt', bg', cu', xu', r, l1, l2, hch⟩
  have hlt := h1.at_.lt
  have hX : ¬ (X = q ∨ X = bu ∨ X = bt ∨ X = bg_) := fun e => (h3 X e).2.2 rfl
  have hXl := h5.lt
  have hbel := h1.bel.size
  have key : ∀ b, (b = q ∨ b = bu ∨ b = bt ∨ b = bg_) ∨ w.heap.size ≤ b → b ∉ R ∧ w0.heap.size ≤ b ∧ b ≠ X := by
    rintro b (hb | hb)
    · exact h3 b hb
    · exact ⟨fun e => by have := hlt b e; omega, by omega, by omega⟩
  refine ⟨rfl, R, bu, bt', bg', cu', xu', ⟨h1.at_.same fun k hk => hch.block k (hlt k hk) (fun e => (h3 k e).1 hk), h1.ge, h1.bel.trans (hch.below hbel (fun i hi => (h3 i hi).2.1)), h1.tz⟩, r, ?_, h4, hch.has h5 hX⟩
  rintro b (rfl | rfl | rfl | rfl)
  · exact key _ (.inl (.inl rfl))
  · exact key _ (.inl (.inr (.inl rfl)))
  · exact key _ (l1.elim (fun e => .inl (.inr (.inr (.inl e)))) .inr)
  · exact key _ (l2.elim (fun e => .inl (.inr (.inr (.inr e)))) .inr)
theorem Duo.calm (h : Duo w0 p q X t cs S T w) {P : Program} (hc : ∀ R, Tz w → SpAt w p R S → Calls P f args w fun e w' => e = E ∧ Below w.heap.size w w') : Calls P f args w fun e w' => e = E ∧ Duo w0 p q X t cs S T w' := by
  obtain ⟨R, bu, bt, bg_, cu, xu, h1, _⟩ := id h
  refine (hc R h1.tw h1.at_).mono ?_
  rintro e w' ⟨rfl, hb⟩
  exact ⟨rfl, h.on hb⟩
theorem Two.row (h : Two w0 p q S T w) : ∃ bu cu, w.cell? ⟨q, 0, none⟩ = some (.slice (some ⟨bu, 0, none⟩) T.used.length cu) ∧ T.used.length ≤ cu ∧ T.Ok ∧ (∀ k, k < T.used.length → w.cell? ⟨bu, k, none⟩ = some (.bool (bg T.used k))) ∧ w.cell? ⟨q, 4, none⟩ = some (.int .u64 T.gen) ∧ bu < w.heap.size ∧ q < w.heap.size := by
  obtain ⟨R, bu, bt, bg_, cu, xu, h1, h2, h3⟩ := h
  exact ⟨bu, cu, h2.m0, h2.cap, h2.ok, h2.getU, h2.m4, h2.used.lt, h2.main.lt⟩
theorem Two.calm (h : Two w0 p q S T w) {P : Program} (hc : ∀ R, Tz w → SpAt w p R S → Calls P f args w fun e w' => e = E ∧ Below w.heap.size w w') : Calls P f args w fun e w' => e = E ∧ Two w0 p q S T w' ∧ Below w.heap.size w w' := by
  obtain ⟨R, bu, bt, bg_, cu, xu, h1, _⟩ := id h
  refine (hc R h1.tw h1.at_).mono ?_
  rintro e w' ⟨rfl, hb⟩
  exact ⟨rfl, h.on hb, hb⟩
/-- the row at bu -/
def BRows (w : World) (bu n : Nat) (l : List Bool) : Prop := ∀ j, j < n → w.cell? ⟨bu, j, none⟩ = some (.bool (bg l j))
theorem BRows.on {bu n : Nat} {l : List Bool} (h : BRows w bu n l) (hb : Below w.heap.size w w') : BRows w' bu n l := fun j hj => (hb.cell (World.block_lt_of_cell? _ _ (h j hj))).trans (h j hj)
/-- a call of one of both in a region that draws its order -/
def DuoB (w0 : World) (p q X : Nat) (t : TypeId) (cs : List Value) (S S' : Sp) (a b : Bool) (w : World) : Prop := Duo w0 p q X t cs (bif a then S' else S) (bif b then S' else S) w
end
end Go.Proofs.YtkflccecdjfkiaaDoor.Spc
