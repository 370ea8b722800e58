/- Layers' contracts, bundled: Heap, DevMath, DevMathB, DevPlain, Region, RegionW, DevA, DevS, DevC, DevD. -/
import Derived.WalkKit
import Derived.Lib.Hide
import Derived.Below
import Derived.Laws.OwnMore
import Derived.Maps.AppendAt
import Derived.Deep.Quiet
import Derived.Orders
import Derived.KernelRfl
import Derived.StillTailTactics
import Derived.WalkLawsBesides
import Derived.WalkSpells
import Derived.Outline
import Derived.OpenShut
import Derived.Deep.QuietTactic
import Derived.BigQuiet
import Derived.Test.YtflanjcfkdjpjaaGreatDoorRows
import Derived.Deep.DeepCutAuto
import Derived.Deep.RegionWith
/- Blocks of memory: what a block holds, and what a step leaves as it was. For calls that write into memory of their own. -/
namespace Go.Proofs.YtflanjcfkdjpjaaGreatDoor
open Go Go.RowKit

/-- Block b holds the cells cs, and may be written. -/
def Has (w : World) (b : Nat) (t : TypeId) (cs : List Value) : Prop := w.heap[b]? = some (.cells cs.toArray t (0, 0))
section
variable {w w' : World} {b : Nat} {t : TypeId} {cs : List Value}
theorem Has.lt (h : Has w b t cs) : b < w.heap.size := (Array.getElem?_eq_some_iff.1 h).1
theorem Has.cell (h : Has w b t cs) (i : Nat) : w.cell? ⟨b, i, none⟩ = cs[i]? := by
  unfold Has at h; unfold World.cell?; simp only [h]; simp
theorem Has.frozen (h : Has w b t cs) (i : Nat) : w.frozen? ⟨b, i, none⟩ = false := by
  unfold Has at h; unfold World.frozen?; simp only [h]; simp
theorem Has.set (h : Has w b t cs) (i : Nat) (v : Value) : Has (w.setCell ⟨b, i, none⟩ v) b t (cs.set i v) := by
  unfold Has at h ⊢
  have hl := (Array.getElem?_eq_some_iff.1 h).1
  simp only [World.setCell, Array.getElem?_modify, h]; simp
theorem Has.setOther (h : Has w b t cs) {a : Addr} (ha : a.block ≠ b) (v : Value) : Has (w.setCell a v) b t cs := by
  unfold Has at h ⊢; rw [Below.heap_setCell _ _ _ _ (fun e => ha e.symm)]; exact h
theorem Has.alloc (h : Has w b t cs) (o : Obj) : Has (w.alloc o) b t cs := by
  have := h.lt
  unfold Has at h ⊢; rw [Below.heap_alloc _ _ _ this]; exact h
theorem Has.drew (h : Has w b t cs) : Has w.drew b t cs := h
theorem Has.drewN (h : Has w b t cs) (n : Nat) : Has (w.drewN n) b t cs := h
theorem Has.new (w : World) (cs : List Value) (t : TypeId) : Has (w.alloc (.cells cs.toArray t)) w.heap.size t cs := by
  unfold Has; show (w.heap.push _)[w.heap.size]? = _; simp
theorem Has.same (h : Has w b t cs) (hk : w'.heap[b]? = w.heap[b]?) : Has w' b t cs := by unfold Has at h ⊢; rw [hk]; exact h
theorem Has.below {B : Nat} (h : Has w b t cs) (hb : Below B w w') (hB : b < B) : Has w' b t cs := h.same (hb.block b hB)
end

/-- Only blocks of R, and new ones, are others. -/
structure Chg (R : Nat → Prop) (w w' : World) : Prop where
  os : w'.os = w.os
  tape : w'.tape = w.tape
  output : w'.output = w.output
  size : w.heap.size ≤ w'.heap.size
  block : ∀ k, k < w.heap.size → ¬ R k → w'.heap[k]? = w.heap[k]?
section
variable {R R' : Nat → Prop} {a w w' : World} {b : Nat} {t : TypeId} {cs : List Value}
theorem Chg.refl (R : Nat → Prop) (w : World) : Chg R w w := ⟨rfl, rfl, rfl, Nat.le_refl _, fun _ _ _ => rfl⟩
theorem Chg.trans (h : Chg R a w) (k : Chg R' w w') (hR : ∀ i, i < a.heap.size → R' i → R i) : Chg R a w' :=
  ⟨k.os.trans h.os, k.tape.trans h.tape, k.output.trans h.output, Nat.le_trans h.size k.size, fun i hi hr => (k.block i (Nat.lt_of_lt_of_le hi h.size) (fun e => hr (hR i hi e))).trans (h.block i hi hr)⟩
theorem Chg.mono (h : Chg R w w') (hR : ∀ i, i < w.heap.size → R i → R' i) : Chg R' w w' := ⟨h.os, h.tape, h.output, h.size, fun i hi hr => h.block i hi (fun e => hr (hR i hi e))⟩
theorem Chg.alloc (h : Chg R a w) (o : Obj) : Chg R a (w.alloc o) :=
  ⟨h.os, h.tape, h.output, by have := h.size; simp; omega, fun i hi hr => (Below.heap_alloc _ _ _ (Nat.lt_of_lt_of_le hi h.size)).trans (h.block i hi hr)⟩
theorem Chg.setCell (h : Chg R a w) {p : Addr} (hp : p.block < a.heap.size → R p.block) (v : Value) : Chg R a (w.setCell p v) :=
  ⟨h.os, h.tape, h.output, by have := h.size; simp; omega, fun i hi hr => (Below.heap_setCell _ _ _ _ (fun e => by subst e; exact hr (hp hi))).trans (h.block i hi hr)⟩
theorem Chg.drew (h : Chg R a w) : Chg R a w.drew := ⟨h.os, h.tape, h.output, h.size, h.block⟩
theorem Chg.drewN (h : Chg R a w) (n : Nat) : Chg R a (w.drewN n) := ⟨h.os, h.tape, h.output, h.size, h.block⟩
theorem Chg.has (h : Chg R w w') (hb : Has w b t cs) (hr : ¬ R b) : Has w' b t cs := hb.same (h.block b hb.lt hr)
theorem Chg.of_below {B : Nat} (h : Below B w w') (hB : w.heap.size ≤ B) : Chg R w w' := ⟨h.os, h.tape, h.output, h.size, fun i hi _ => h.block i (Nat.lt_of_lt_of_le hi hB)⟩
theorem Chg.below {B : Nat} (h : Chg R w w') (hB : B ≤ w.heap.size) (hR : ∀ i, R i → B ≤ i) : Below B w w' :=
  ⟨h.os, h.tape, h.output, h.size, fun i hi => h.block i (Nat.lt_of_lt_of_le hi hB) (fun e => by have := hR i e; omega)⟩
theorem Chg.grown (h : Chg R a w) {row : Option Nat} (hg : w.grownBy w' row) (hr : ∀ k, k < a.heap.size → row = some k → R k) : Chg R a w' :=
  ⟨hg.os.trans h.os, hg.tape.trans h.tape, hg.output.trans h.output, Nat.le_trans h.size hg.size, fun i hi hn =>
    (hg.block i (Nat.lt_of_lt_of_le hi h.size) (fun e => hn (hr i hi e.symm))).trans (h.block i hi hn)⟩
end
theorem owns_same {w w' : World} {base : Nat} {e : TypeId} {size : Nat} {v : Value} {n : Nat} {xs : List Value} (h : w.ownsRow base e size v n xs) (hk : ∀ k, v.ownBlock = some k → w'.heap[k]? = w.heap[k]?) : w'.ownsRow base e size v n xs := by
  refine ⟨h.1, ?_⟩
  rcases h.2 with hn | ⟨g, cap, cur, rfl, hb, hgg, rest⟩
  · exact .inl hn
  · exact .inr ⟨g, cap, cur, rfl, hb, by rw [hk g rfl]; exact hgg, rest⟩
end Go.Proofs.YtflanjcfkdjpjaaGreatDoor


/- Layer 3 (dev): a device as plain data, and how it lies in memory. -/
namespace Go.Proofs.YtflanjcfkdjpjaaGreatDoor.Dev
open Go Go.RowKit Go.Proofs.YtflanjcfkdjpjaaGreatDoor

theorem ret_k {k : IntKind} {a b : Int} (h : a = b) : Ending.returned (.int k a) = .returned (.int k b) := by rw [h]
theorem ret_b {a b : Bool} (h : a = b) : Ending.returned (.bool a) = .returned (.bool b) := by rw [h]
structure Dv where
  size : Nat
  secs : List (ByteArray × Bool)
  cache : List (Nat × ByteArray)
  dead : Bool
  off : Bool
  fuse : Nat
  lose : Nat
  stray : Nat
  tgt : Int
  nr : Int
  nw : Int
  nf : Int
def Dv.n (D : Dv) : Nat := D.secs.length
structure Dv.Ok (D : Dv) : Prop where
  n8 : 8 ≤ D.n
  n4096 : D.n ≤ 4096
  s128 : 128 ≤ D.size
  s1024 : D.size ≤ 1024
  media : ∀ x ∈ D.secs, x.1.size = D.size
  text : ∀ x ∈ D.cache, x.2.size = D.size
  sector : ∀ x ∈ D.cache, x.1 < D.n
  fuse : D.fuse ≤ 9223372036854775807
  lose : D.lose ≤ 9223372036854775807
  stray : D.stray ≤ 9223372036854775807

def flatS (l : List (ByteArray × Bool)) : List Value := l.flatMap fun x => [.string x.1, .bool x.2]
def flatW (l : List (Nat × ByteArray)) : List Value := l.flatMap fun x => [.int .i64 (x.1 : Nat), .string x.2]
theorem flat2_len {α : Type} (f g : α → Value) (l : List α) : (l.flatMap fun x => [f x, g x]).length = l.length * 2 := by
  induction l with
  | nil => rfl
  | cons x l ih => rw [List.flatMap_cons, List.length_append, ih, List.length_cons]; simp; omega
theorem flat2_get0 {α : Type} (f g : α → Value) : ∀ (l : List α) (i : Nat), (l.flatMap fun x => [f x, g x])[i * 2]? = l[i]?.map f
  | [], i => by simp
  | x :: l, 0 => by simp
  | x :: l, i + 1 => by
    rw [List.flatMap_cons, List.getElem?_append_right (by simp; omega)]
    have := flat2_get0 f g l i
    simp only [List.length_cons, List.length_nil, List.getElem?_cons_succ]
    rw [← this]; congr 1; omega
theorem flat2_get1 {α : Type} (f g : α → Value) : ∀ (l : List α) (i : Nat), (l.flatMap fun x => [f x, g x])[i * 2 + 1]? = l[i]?.map g
  | [], i => by simp
  | x :: l, 0 => by simp
  | x :: l, i + 1 => by
    rw [List.flatMap_cons, List.getElem?_append_right (by simp; omega)]
    have := flat2_get1 f g l i
    simp only [List.length_cons, List.length_nil, List.getElem?_cons_succ]
    rw [← this]; congr 1; omega
theorem flat2_ext {α : Type} (f g : α → Value) (l : List α) (xs : List Value) (hl : xs.length = l.length * 2) (h0 : ∀ i, i < l.length → xs[i * 2]? = l[i]?.map f) (h1 : ∀ i, i < l.length → xs[i * 2 + 1]? = l[i]?.map g) :
    xs = l.flatMap fun x => [f x, g x] := by
  apply List.ext_getElem?
  intro j
  by_cases hj : j < l.length * 2
  · rcases Nat.mod_two_eq_zero_or_one j with h | h
    · obtain ⟨i, rfl⟩ : ∃ i, j = i * 2 := ⟨j / 2, by omega⟩
      rw [flat2_get0, h0 i (by omega)]
    · obtain ⟨i, rfl⟩ : ∃ i, j = i * 2 + 1 := ⟨j / 2, by omega⟩
      rw [flat2_get1, h1 i (by omega)]
  · rw [List.getElem?_eq_none (by omega), List.getElem?_eq_none (by rw [flat2_len]; omega)]
theorem flat2_set0 {α : Type} (f g : α → Value) (l : List α) (i : Nat) (x : α) (v : Value) (hx : l[i]?.map g = some (g x)) (hv : v = f x) :
    (l.flatMap fun x => [f x, g x]).set (i * 2) v = (l.set i x).flatMap fun x => [f x, g x] := by
  have hi : i < l.length := by
    rcases Nat.lt_or_ge i l.length with h | h
    · exact h
    · rw [List.getElem?_eq_none h] at hx; cases hx
  apply flat2_ext
  · rw [List.length_set, List.length_set, flat2_len]
  · intro j hj
    rw [List.length_set] at hj
    by_cases e : i = j
    · subst e; rw [List.getElem?_set_self (by rw [flat2_len]; omega), List.getElem?_set_self hi, hv]; rfl
    · rw [List.getElem?_set_ne (by omega), List.getElem?_set_ne e, flat2_get0]
  · intro j hj
    rw [List.length_set] at hj
    rw [List.getElem?_set_ne (by omega), flat2_get1]
    by_cases e : i = j
    · subst e; rw [List.getElem?_set_self hi, hx]; rfl
    · rw [List.getElem?_set_ne e]
def Dv.cells (D : Dv) (sb : Nat) (cv : Value) : List Value :=
  [.int .i64 D.n, .int .i64 D.size, .slice (some ⟨sb, 0, none⟩) D.n D.n, cv, .bool D.dead, .bool D.off, .int .i64 D.fuse, .int .i64 D.lose, .int .i64 D.stray, .int .i64 D.tgt, .int .i64 D.nr, .int .i64 D.nw, .int .i64 D.nf]

/-- The device D stands at block p, its sectors at sb; cv is its cache. -/
structure DevAt (w : World) (p sb : Nat) (cv : Value) (D : Dv) : Prop where
  main : Has w p 126 (D.cells sb cv)
  secs : Has w sb 129 (flatS D.secs)
  cache : w.ownsRow 0 131 2 cv D.cache.length (flatW D.cache)
  ps : p ≠ sb
  cp : cv.ownBlock ≠ some p
  cs : cv.ownBlock ≠ some sb
  ok : D.Ok
/-- The blocks that it has. -/
def foot (p sb : Nat) (cv : Value) : Nat → Prop := fun k => k = p ∨ k = sb ∨ cv.ownBlock = some k
section
variable {w w' : World} {p sb : Nat} {cv : Value} {D : Dv}
theorem DevAt.same (h : DevAt w p sb cv D) (hk : ∀ k, foot p sb cv k → w'.heap[k]? = w.heap[k]?) : DevAt w' p sb cv D :=
  ⟨h.main.same (hk p (.inl rfl)), h.secs.same (hk sb (.inr (.inl rfl))), owns_same h.cache fun k e => hk k (.inr (.inr e)), h.ps, h.cp, h.cs, h.ok⟩
theorem DevAt.lt (h : DevAt w p sb cv D) : ∀ k, foot p sb cv k → k < w.heap.size := by
  rintro k (rfl | rfl | e)
  · exact h.main.lt
  · exact h.secs.lt
  · exact (h.cache.lt k e).2
theorem DevAt.chg {R : Nat → Prop} (h : DevAt w p sb cv D) (hc : Chg R w w') (hr : ∀ k, foot p sb cv k → ¬ R k) : DevAt w' p sb cv D :=
  h.same fun k hk => hc.block k (h.lt k hk) (hr k hk)
theorem DevAt.below {B : Nat} (h : DevAt w p sb cv D) (hb : Below B w w') (hB : w.heap.size ≤ B) : DevAt w' p sb cv D :=
  h.same fun k hk => hb.block k (by have := h.lt k hk; omega)
theorem DevAt.alloc (h : DevAt w p sb cv D) (o : Obj) : DevAt (w.alloc o) p sb cv D := h.below ((Below.refl _ _).alloc (Nat.le_refl _) o) (Nat.le_refl _)
theorem DevAt.drew (h : DevAt w p sb cv D) : DevAt w.drew p sb cv D := h.same fun _ _ => rfl
theorem DevAt.drewN (h : DevAt w p sb cv D) (n : Nat) : DevAt (w.drewN n) p sb cv D := h.same fun _ _ => rfl
theorem DevAt.cell (h : DevAt w p sb cv D) (i : Nat) : w.cell? ⟨p, i, none⟩ = (D.cells sb cv)[i]? := h.main.cell i
theorem DevAt.c0 (h : DevAt w p sb cv D) : w.cell? ⟨p, 0, none⟩ = some (.int .i64 D.n) := h.cell 0
theorem DevAt.c1 (h : DevAt w p sb cv D) : w.cell? ⟨p, 1, none⟩ = some (.int .i64 D.size) := h.cell 1
theorem DevAt.c2 (h : DevAt w p sb cv D) : w.cell? ⟨p, 2, none⟩ = some (.slice (some ⟨sb, 0, none⟩) D.n D.n) := h.cell 2
theorem DevAt.c3 (h : DevAt w p sb cv D) : w.cell? ⟨p, 3, none⟩ = some cv := h.cell 3
theorem DevAt.c4 (h : DevAt w p sb cv D) : w.cell? ⟨p, 4, none⟩ = some (.bool D.dead) := h.cell 4
theorem DevAt.c5 (h : DevAt w p sb cv D) : w.cell? ⟨p, 5, none⟩ = some (.bool D.off) := h.cell 5
theorem DevAt.c6 (h : DevAt w p sb cv D) : w.cell? ⟨p, 6, none⟩ = some (.int .i64 D.fuse) := h.cell 6
theorem DevAt.c7 (h : DevAt w p sb cv D) : w.cell? ⟨p, 7, none⟩ = some (.int .i64 D.lose) := h.cell 7
theorem DevAt.c8 (h : DevAt w p sb cv D) : w.cell? ⟨p, 8, none⟩ = some (.int .i64 D.stray) := h.cell 8
theorem DevAt.c9 (h : DevAt w p sb cv D) : w.cell? ⟨p, 9, none⟩ = some (.int .i64 D.tgt) := h.cell 9
theorem DevAt.c10 (h : DevAt w p sb cv D) : w.cell? ⟨p, 10, none⟩ = some (.int .i64 D.nr) := h.cell 10
theorem DevAt.c11 (h : DevAt w p sb cv D) : w.cell? ⟨p, 11, none⟩ = some (.int .i64 D.nw) := h.cell 11
theorem DevAt.c12 (h : DevAt w p sb cv D) : w.cell? ⟨p, 12, none⟩ = some (.int .i64 D.nf) := h.cell 12
theorem DevAt.fz (h : DevAt w p sb cv D) (i : Nat) : w.frozen? ⟨p, i, none⟩ = false := h.main.frozen i
theorem DevAt.media (h : DevAt w p sb cv D) (i : Nat) (hi : i < D.n) : w.cell? ⟨sb, i * 2, none⟩ = some (.string (D.secs[i]'hi).1) := by
  rw [h.secs.cell, flatS, flat2_get0 (fun x : ByteArray × Bool => Value.string x.1) (fun x => Value.bool x.2), List.getElem?_eq_getElem hi]; rfl
theorem DevAt.bad (h : DevAt w p sb cv D) (i : Nat) (hi : i < D.n) : w.cell? ⟨sb, i * 2 + 1, none⟩ = some (.bool (D.secs[i]'hi).2) := by
  rw [h.secs.cell, flatS, flat2_get1 (fun x : ByteArray × Bool => Value.string x.1) (fun x => Value.bool x.2), List.getElem?_eq_getElem hi]; rfl
theorem DevAt.sfz (h : DevAt w p sb cv D) (i : Nat) : w.frozen? ⟨sb, i, none⟩ = false := h.secs.frozen i
/-- one field is another one -/
theorem DevAt.set (h : DevAt w p sb cv D) (i : Nat) (v : Value) (D' : Dv) (hc : (D.cells sb cv).set i v = D'.cells sb cv) (hs : D'.secs = D.secs) (hw : D'.cache = D.cache) (ok : D'.Ok) : DevAt (w.setCell ⟨p, i, none⟩ v) p sb cv D' :=
  ⟨by rw [← hc]; exact h.main.set i v, by rw [hs]; exact h.secs.setOther h.ps v, by rw [hw]; exact owns_same h.cache fun k e => Below.heap_setCell _ _ _ _ (fun e' => h.cp (by rw [e]; exact congrArg some e')), h.ps, h.cp, h.cs, ok⟩
theorem DevAt.setMedia (h : DevAt w p sb cv D) (i : Nat) (hi : i < D.n) (t : ByteArray) (D' : Dv) (hD : D' = { D with secs := D.secs.set i (t, (D.secs[i]'hi).2) }) (ok : D'.Ok) : DevAt (w.setCell ⟨sb, i * 2, none⟩ (.string t)) p sb cv D' := by
  subst hD
  have hn : (D.secs.set i (t, (D.secs[i]'hi).2)).length = D.n := by rw [List.length_set]; rfl
  have hc : ∀ D2 : Dv, D2 = { D with secs := D.secs.set i (t, (D.secs[i]'hi).2) } → D2.cells sb cv = D.cells sb cv := by
    rintro D2 rfl
    have : Dv.n { D with secs := D.secs.set i (t, (D.secs[i]'hi).2) } = D.n := hn
    unfold Dv.cells; rw [this]
  refine ⟨?_, ?_, owns_same h.cache fun k e => Below.heap_setCell _ _ _ _ (fun e' => h.cs (by rw [e]; exact congrArg some e')), h.ps, h.cp, h.cs, ok⟩
  · rw [hc _ rfl]; exact h.main.setOther (fun e => h.ps e.symm) _
  · have := h.secs.set (i * 2) (.string t)
    unfold flatS at this ⊢
    rw [flat2_set0 (fun x : ByteArray × Bool => Value.string x.1) (fun x => Value.bool x.2) D.secs i (t, (D.secs[i]'hi).2) _ (by rw [List.getElem?_eq_getElem hi]; rfl) rfl] at this
    exact this
theorem setCell_self {w : World} {a : Addr} {v : Value} (h : w.cell? a = some v) : w.setCell a v = w := by
  obtain ⟨heap, tape, drawn, os, output⟩ := w
  simp only [World.setCell, World.mk.injEq, and_self, and_true]
  apply Array.ext
  · simp
  · intro i h1 h2
    rw [Array.getElem_modify]
    split
    · rename_i e
      subst e
      simp only [World.cell?] at h
      split at h
      · rename_i c _ _ hh
        have hg : heap[a.block] = _ := Option.some.inj ((Array.getElem?_eq_getElem h2).symm.trans hh)
        rw [hg]
        simp only
        split
        · rfl
        · rename_i hs
          simp only [if_neg hs] at h
          congr 1
          apply Array.ext
          · simp
          · intro j h3 h4
            rw [Array.getElem_setIfInBounds (by simpa using h4)]
            split
            · rename_i e; subst e
              exact (Option.some.inj ((Array.getElem?_eq_getElem h4).symm.trans h)).symm
            · rfl
      · cases h
    · rfl
end
/-- does a countdown strike? -/
def stk (n : Nat) : Bool := decide (n = 1)
def Dv.blow (D : Dv) : Dv := { D with off := stk D.fuse, fuse := D.fuse - 1 }
def hasB (D : Dv) (i : Int) : Bool := decide (0 ≤ i ∧ i < D.n)
def refuse (D : Dv) : Int := if D.off then 6 else if D.dead then 8 else 0
def keptN (f : Int) (size : Nat) : Nat := if f = 1 then size else if 2 ≤ f then min (f - 2).toNat (size - 1) else 0
def shapeR (n s : Int) : Bool := decide (8 ≤ n ∧ n ≤ 4096 ∧ 128 ≤ s ∧ s ≤ 1024 ∧ s % 64 = 0)
def badB (D : Dv) (i : Int) : Bool := ((D.secs[i.toNat]?).map (·.2)).getD false
def Dv.struck (D : Dv) : Dv := { D with lose := D.lose - 1, stray := D.stray - 1 }
/-- the first bytes of t, the others of m -/
def mixB (t m : ByteArray) (k : Nat) : ByteArray := t.extract 0 k ++ m.extract k m.size
theorem mixB_size (t m : ByteArray) (k : Nat) (h1 : t.size = m.size) (h2 : k ≤ m.size) : (mixB t m k).size = m.size := by
  unfold mixB; rw [ByteArray.size_append, ByteArray.size_extract, ByteArray.size_extract]; omega
def Dv.put (D : Dv) (i : Nat) (t : ByteArray) (k : Nat) : Dv := match D.secs[i]? with | some s => { D with secs := D.secs.set i (mixB t s.1 k, s.2) } | none => D
/-- where a write goes, and does it go anywhere? -/
def dest (D : Dv) (i : Int) : Int := if stk D.stray then D.tgt else i
def goes (D : Dv) (i : Int) : Bool := !stk D.lose && (hasB D (dest D i) && !badB D (dest D i))
theorem Dv.put_eq (D : Dv) (i : Nat) (t : ByteArray) (k : Nat) (hi : i < D.n) : D.put i t k = { D with secs := D.secs.set i (mixB t (D.secs[i]'hi).1 k, (D.secs[i]'hi).2) } := by
  unfold Dv.put; rw [List.getElem?_eq_getElem hi]
theorem Dv.put_ok (D : Dv) (ok : D.Ok) (i : Nat) (t : ByteArray) (k : Nat) (hi : i < D.n) (ht : t.size = D.size) (hk : k ≤ D.size) : (D.put i t k).Ok := by
  rw [D.put_eq i t k hi]
  have hn : (D.secs.set i (mixB t (D.secs[i]'hi).1 k, (D.secs[i]'hi).2)).length = D.n := by rw [List.length_set]; rfl
  have hm := ok.media _ (List.getElem_mem hi)
  refine ⟨?_, ?_, ok.s128, ok.s1024, ?_, ok.text, ?_, ok.fuse, ok.lose, ok.stray⟩
  · show 8 ≤ List.length _; rw [hn]; exact ok.n8
  · show List.length _ ≤ 4096; rw [hn]; exact ok.n4096
  · intro x hx
    rcases List.mem_or_eq_of_mem_set hx with hx | hx
    · exact ok.media x hx
    · subst hx; simp only; rw [mixB_size _ _ _ (by omega) (by omega), hm]
  · intro x hx; show x.1 < List.length _; rw [hn]; exact ok.sector x hx
/-- what a sector reads -/
def Dv.reads (D : Dv) (i : Nat) : ByteArray := match D.cache.reverse.find? (fun x => x.1 == i) with | some x => x.2 | none => ((D.secs[i]?).map (·.1)).getD ⟨#[]⟩
def bump (x : Int) : Int := wrap64 (x + 1)
def Dv.readE (D : Dv) (i : Int) : Int := if refuse D ≠ 0 then refuse D else if hasB D i = false then 3 else if badB D i then 7 else 0
def Dv.readT (D : Dv) (i : Int) : ByteArray := if D.readE i = 0 then D.reads i.toNat else ⟨#[]⟩
def Dv.readD (D : Dv) (i : Int) : Dv := if D.readE i = 0 then { D with nr := bump D.nr } else D
def Dv.writeE (D : Dv) (i : Int) (s : ByteArray) : Int := if refuse D ≠ 0 then refuse D else if hasB D i = false then 3 else if s.size ≠ D.size then 2 else if stk D.fuse then 6 else if badB D i then 7 else 0
def Dv.counted (D : Dv) : Dv := { D with nw := bump D.nw }
def Dv.push (D : Dv) (i : Int) (s : ByteArray) : Dv := { D with cache := D.cache ++ [(i.toNat, s)] }
def Dv.writeD (D : Dv) (i : Int) (s : ByteArray) : Dv :=
  if refuse D ≠ 0 ∨ hasB D i = false ∨ s.size ≠ D.size then D
  else if stk D.fuse ∨ badB D i then D.blow
  else if goes D.blow.counted i then D.blow.counted.struck.push (dest D.blow.counted i) s else D.blow.counted.struck
/-- The device D stands at block p, within the blocks R. -/
def Dev (w : World) (R : Nat → Prop) (p : Nat) (D : Dv) : Prop := ∃ sb cv, DevAt w p sb cv D ∧ (∀ k, foot p sb cv k → R k)
end Go.Proofs.YtflanjcfkdjpjaaGreatDoor.Dev


/- Layer 3 (dev): a write that is appended to the cache. -/
namespace Go.Proofs.YtflanjcfkdjpjaaGreatDoor.Dev
open Go Go.RowKit Go.Proofs.YtflanjcfkdjpjaaGreatDoor

/-- the device is D now; only its own blocks, and new ones, are others; it has none but its own and new ones -/
def Now (p sb : Nat) (cv : Value) (w : World) (D : Dv) (w' : World) : Prop :=
  ∃ cv', Chg (foot p sb cv) w w' ∧ DevAt w' p sb cv' D ∧ ∀ k, foot p sb cv' k → foot p sb cv k ∨ w.heap.size ≤ k
theorem Now.same {p sb : Nat} {cv : Value} {w w' : World} {D : Dv} (hc : Chg (foot p sb cv) w w') (h : DevAt w' p sb cv D) : Now p sb cv w D w' := ⟨cv, hc, h, fun _ hk => .inl hk⟩
theorem Now.trans {p sb : Nat} {cv : Value} {w w1 w2 : World} {D2 : Dv} (h1 : Chg (foot p sb cv) w w1) (h2 : Now p sb cv w1 D2 w2) : Now p sb cv w D2 w2 := by
  obtain ⟨cv', hc, hd, hf⟩ := h2
  refine ⟨cv', h1.trans hc (fun _ _ h => h), hd, fun k hk => ?_⟩
  rcases hf k hk with h | h
  · exact .inl h
  · exact .inr (Nat.le_trans h1.size h)

theorem flatW_snoc (l : List (Nat × ByteArray)) (i : Nat) (s : ByteArray) : flatW (l ++ [(i, s)]) = flatW l ++ [.int .i64 (i : Nat), .string s] := by
  unfold flatW; rw [List.flatMap_append]; rfl
theorem DevAt.append {w w1 : World} {p sb : Nat} {cv v' : Value} {D : Dv} (h : DevAt w p sb cv D) (o : Obj) (i : Nat) (s : ByteArray) (hi : i < D.n) (hs : s.size = D.size)
    (hown : w1.ownsRow 0 131 2 v' (D.cache.length + 1) (flatW D.cache ++ [.int .i64 (i : Nat), .string s])) (hg : (w.alloc o).grownBy w1 cv.ownBlock) (hat : v'.ownBlock = cv.ownBlock ∨ v'.ownBlock = some (w.alloc o).heap.size) :
    Now p sb cv w (D.push i s) (w1.setCell ⟨p, 3, none⟩ v') := by
  have hp := h.main.lt
  have hsb := h.secs.lt
  have hcv := fun k e => (h.cache.lt k e).2
  have hvp : v'.ownBlock ≠ some p := by
    rcases hat with e | e
    · rw [e]; exact h.cp
    · rw [e]; simp; omega
  have hvs : v'.ownBlock ≠ some sb := by
    rcases hat with e | e
    · rw [e]; exact h.cs
    · rw [e]; simp; omega
  have hm1 : Has w1 p 126 (D.cells sb cv) := (h.main.alloc o).same (hg.block p (by simp; omega) (fun e => h.cp e.symm))
  have hs1 : Has w1 sb 129 (flatS D.secs) := (h.secs.alloc o).same (hg.block sb (by simp; omega) (fun e => h.cs e.symm))
  have hlen : (D.cache ++ [(i, s)]).length = D.cache.length + 1 := by simp
  have e0 : (D.push i s) = { D with cache := D.cache ++ [(i, s)] } := by unfold Dv.push; rw [Int.toNat_natCast]
  rw [e0]
  refine ⟨v', ?_, ⟨?_, hs1.setOther h.ps _, ?_, h.ps, hvp, hvs, ?_⟩, ?_⟩
  · exact (((Chg.refl _ w).alloc o).grown hg (fun k _ e => .inr (.inr e))).setCell (fun _ => .inl rfl) _
  · exact hm1.set 3 v'
  · rw [show ({ D with cache := D.cache ++ [(i, s)] } : Dv).cache = D.cache ++ [(i, s)] from rfl, hlen, flatW_snoc]
    exact owns_same hown fun k e => Below.heap_setCell _ _ _ _ (fun e' => hvp (by rw [e]; exact congrArg some e'))
  · refine ⟨h.ok.n8, h.ok.n4096, h.ok.s128, h.ok.s1024, h.ok.media, ?_, ?_, h.ok.fuse, h.ok.lose, h.ok.stray⟩
    · intro x hx
      rcases List.mem_append.1 hx with hx | hx
      · exact h.ok.text x hx
      · rw [List.mem_singleton.1 hx]; exact hs
    · intro x hx
      rcases List.mem_append.1 hx with hx | hx
      · exact h.ok.sector x hx
      · rw [List.mem_singleton.1 hx]; exact hi
  · rintro k (rfl | rfl | e)
    · exact .inl (.inl rfl)
    · exact .inl (.inr (.inl rfl))
    · rcases hat with e' | e'
      · exact .inl (.inr (.inr (by rw [← e']; exact e)))
      · rw [e'] at e; simp at e; exact .inr (by omega)

/-! ### writes that last -/
theorem Dv.put_n (D : Dv) (i : Nat) (t : ByteArray) (k : Nat) : (D.put i t k).n = D.n := by
  unfold Dv.put; split
  · show List.length _ = _; rw [List.length_set]; rfl
  · rfl
theorem Dv.put_size (D : Dv) (i : Nat) (t : ByteArray) (k : Nat) : (D.put i t k).size = D.size := by unfold Dv.put; split <;> rfl
theorem Dv.put_cache (D : Dv) (i : Nat) (t : ByteArray) (k : Nat) : (D.put i t k).cache = D.cache := by unfold Dv.put; split <;> rfl
/-- of each write the first bytes last: as many as g tells -/
def Dv.puts (D : Dv) (l : List ((Nat × ByteArray) × Nat)) : Dv := l.foldl (fun D x => D.put x.1.1 x.1.2 x.2) D
theorem Dv.puts_n (l : List ((Nat × ByteArray) × Nat)) : ∀ D : Dv, (D.puts l).n = D.n := by
  induction l with
  | nil => intro D; rfl
  | cons x l ih => intro D; show (Dv.puts _ l).n = _; rw [ih, Dv.put_n]
theorem Dv.puts_size (l : List ((Nat × ByteArray) × Nat)) : ∀ D : Dv, (D.puts l).size = D.size := by
  induction l with
  | nil => intro D; rfl
  | cons x l ih => intro D; show (Dv.puts _ l).size = _; rw [ih, Dv.put_size]
theorem Dv.puts_cache (l : List ((Nat × ByteArray) × Nat)) : ∀ D : Dv, (D.puts l).cache = D.cache := by
  induction l with
  | nil => intro D; rfl
  | cons x l ih => intro D; show (Dv.puts _ l).cache = _; rw [ih, Dv.put_cache]
theorem Dv.puts_snoc (D : Dv) (l : List ((Nat × ByteArray) × Nat)) (x : (Nat × ByteArray) × Nat) : D.puts (l ++ [x]) = (D.puts l).put x.1.1 x.1.2 x.2 := by
  unfold Dv.puts; rw [List.foldl_append]; rfl
/-- the cache with how much of each lasts -/
def whole (D : Dv) : List ((Nat × ByteArray) × Nat) := D.cache.map fun x => (x, D.size)
theorem take_snoc' {α : Type} (l : List α) (k : Nat) (h : k < l.length) : l.take (k + 1) = l.take k ++ [l[k]] := by
  rw [List.take_succ_eq_append_getElem h]
theorem whole_take (D : Dv) (k : Nat) (h : k < D.cache.length) : (whole D).take (k + 1) = (whole D).take k ++ [(D.cache[k], D.size)] := by
  rw [take_snoc' _ k (by simpa [whole] using h)]; simp [whole]
def Dv.emptied (D : Dv) : Dv := { D with cache := [] }
def Dv.flushed (D : Dv) : Dv := { D with nf := bump D.nf }
def Dv.flushE (D : Dv) : Int := if refuse D ≠ 0 then refuse D else if stk D.fuse then 6 else 0
def Dv.flushD (D : Dv) : Dv := if refuse D ≠ 0 then D else if stk D.fuse then D.blow else ((D.blow.flushed).puts (whole D)).emptied
theorem DevAt.empty {w : World} {p sb : Nat} {cv : Value} {D : Dv} (h : DevAt w p sb cv D) : DevAt (w.setCell ⟨p, 3, none⟩ (.slice none 0 0)) p sb (.slice none 0 0) D.emptied :=
  ⟨h.main.set 3 _, h.secs.setOther h.ps _, World.ownsRow_nil _ _ _ _, h.ps, by simp [Value.ownBlock], by simp [Value.ownBlock],
   ⟨h.ok.n8, h.ok.n4096, h.ok.s128, h.ok.s1024, h.ok.media, fun x hx => (by cases hx), fun x hx => (by cases hx), h.ok.fuse, h.ok.lose, h.ok.stray⟩⟩
theorem foot_nil {p sb : Nat} {cv : Value} (k : Nat) (h : foot p sb (.slice none 0 0) k) : foot p sb cv k := by
  rcases h with rfl | rfl | h
  · exact .inl rfl
  · exact .inr (.inl rfl)
  · cases h
theorem Now.empty {w w' : World} {p sb : Nat} {cv : Value} {D : Dv} (hc : Chg (foot p sb cv) w w') (h : DevAt w' p sb (.slice none 0 0) D) : Now p sb cv w D w' := ⟨_, hc, h, fun k hk => .inl (foot_nil k hk)⟩
/-- the cache's value: nil, or in a block -/
theorem DevAt.cv_slice {w : World} {p sb : Nat} {cv : Value} {D : Dv} (h : DevAt w p sb cv D) : ∃ a cap, cv = .slice a D.cache.length cap ∧ (0 < D.cache.length → ∃ g, a = some ⟨g, 0, none⟩) := by
  rcases h.cache.2 with ⟨rfl, h0⟩ | ⟨g, cap, cur, rfl, _⟩
  · exact ⟨none, 0, by rw [h0], fun h => by omega⟩
  · exact ⟨_, cap, rfl, fun _ => ⟨g, rfl⟩⟩
theorem DevAt.cw0 {w : World} {p sb g len cap : Nat} {D : Dv} (h : DevAt w p sb (.slice (some ⟨g, 0, none⟩) len cap) D) (hl : len = D.cache.length) (k : Nat) (hk : k < D.cache.length) : w.cell? ⟨g, k * 2, none⟩ = some (.int .i64 ((D.cache[k].1 : Nat) : Int)) := by
  subst hl
  rw [h.cache.cellAt (k * 2) (by omega), flatW, flat2_get0 (fun x : Nat × ByteArray => Value.int .i64 (x.1 : Nat)) (fun x => Value.string x.2), List.getElem?_eq_getElem hk]; rfl
theorem DevAt.cw1 {w : World} {p sb g len cap : Nat} {D : Dv} (h : DevAt w p sb (.slice (some ⟨g, 0, none⟩) len cap) D) (hl : len = D.cache.length) (k : Nat) (hk : k < D.cache.length) : w.cell? ⟨g, k * 2 + 1, none⟩ = some (.string D.cache[k].2) := by
  subst hl
  rw [h.cache.cellAt (k * 2 + 1) (by omega), flatW, flat2_get1 (fun x : Nat × ByteArray => Value.int .i64 (x.1 : Nat)) (fun x => Value.string x.2), List.getElem?_eq_getElem hk]; rfl
theorem DevAt.cw0x {w : World} {p sb g len cap : Nat} {D : Dv} {x : Nat × ByteArray} (h : DevAt w p sb (.slice (some ⟨g, 0, none⟩) len cap) D) (hl : len = D.cache.length) (k : Nat) (hx : D.cache[k]? = some x) : w.cell? ⟨g, k * 2, none⟩ = some (.int .i64 (x.1 : Nat)) ∧ w.cell? ⟨g, k * 2 + 1, none⟩ = some (.string x.2) := by
  obtain ⟨hk, rfl⟩ := List.getElem?_eq_some_iff.1 hx
  exact ⟨h.cw0 hl k hk, h.cw1 hl k hk⟩
theorem whole_takex (D : Dv) (k : Nat) (x : Nat × ByteArray) (hx : D.cache[k]? = some x) : (whole D).take (k + 1) = (whole D).take k ++ [(x, D.size)] := by
  obtain ⟨hk, rfl⟩ := List.getElem?_eq_some_iff.1 hx
  exact whole_take D k hk
/-- the cache with what of each lasts behind a crash -/
def fated (D : Dv) (fs : List Int) : List ((Nat × ByteArray) × Nat) := List.zipWith (fun x f => (x, keptN f D.size)) D.cache fs
def Dv.calm (D : Dv) : Dv := { D with off := false, fuse := 0 }
def Dv.crashD (D : Dv) (fs : List Int) : Dv := ((D.puts (fated D fs)).emptied).calm
theorem fated_take (D : Dv) (fs : List Int) (k : Nat) (x : Nat × ByteArray) (f : Int) (hx : D.cache[k]? = some x) (hf : fs[k]? = some f) : (fated D fs).take (k + 1) = (fated D fs).take k ++ [(x, keptN f D.size)] := by
  obtain ⟨hk, rfl⟩ := List.getElem?_eq_some_iff.1 hx
  obtain ⟨hk', rfl⟩ := List.getElem?_eq_some_iff.1 hf
  rw [take_snoc' _ k (by unfold fated; rw [List.length_zipWith]; omega)]
  simp [fated]
theorem keptN_le (f : Int) (size : Nat) : keptN f size ≤ size := by
  unfold keptN; split
  · exact Nat.le_refl _
  · split <;> omega
end Go.Proofs.YtflanjcfkdjpjaaGreatDoor.Dev


/- Layer 3 (dev): a device without faults, as plain data. -/
namespace Go.Proofs.YtflanjcfkdjpjaaGreatDoor.Dev
open Go Go.RowKit Go.Proofs.YtflanjcfkdjpjaaGreatDoor

structure Dv.Plain (D : Dv) : Prop where
  dead : D.dead = false
  off : D.off = false
  fuse : D.fuse = 0
  lose : D.lose = 0
  stray : D.stray = 0
  good : ∀ x ∈ D.secs, x.2 = false
section
variable {D : Dv}
theorem Dv.Plain.refuse (h : D.Plain) : refuse D = 0 := by unfold Dev.refuse; rw [h.off, h.dead]; rfl
theorem Dv.Plain.stk_fuse (h : D.Plain) : stk D.fuse = false := by rw [h.fuse]; rfl
theorem Dv.Plain.blow (h : D.Plain) : D.blow = D := by
  obtain ⟨size, secs, cache, dead, off, fuse, lose, stray, tgt, nr, nw, nf⟩ := D
  have h1 := h.off; have h2 := h.fuse
  simp only at h1 h2
  subst h1; subst h2
  rfl
theorem hasB_nat (D : Dv) (i : Nat) (hi : i < D.n) : hasB D (i : Nat) = true := by unfold hasB; simp; omega
theorem Dv.Plain.bad (h : D.Plain) (i : Int) : badB D i = false := by
  unfold badB
  cases hx : D.secs[i.toNat]? with
  | none => rfl
  | some x => exact h.good x (List.mem_of_getElem? hx)
theorem Dv.Plain.writeE (h : D.Plain) (i : Nat) (s : ByteArray) (hi : i < D.n) (hs : s.size = D.size) : D.writeE (i : Nat) s = 0 := by
  unfold Dv.writeE; rw [h.refuse, h.stk_fuse, h.bad, hasB_nat D i hi]; simp [hs]
theorem Dv.Plain.struck (h : D.Plain) : D.struck = D := by
  obtain ⟨size, secs, cache, dead, off, fuse, lose, stray, tgt, nr, nw, nf⟩ := D
  have h1 := h.lose; have h2 := h.stray
  simp only at h1 h2
  subst h1; subst h2
  rfl
theorem Dv.Plain.counted (h : D.Plain) : D.counted.Plain := ⟨h.dead, h.off, h.fuse, h.lose, h.stray, h.good⟩
theorem Dv.Plain.dest (h : D.Plain) (i : Int) : dest D i = i := by unfold Dev.dest; rw [h.stray]; rfl
theorem Dv.Plain.goes (h : D.Plain) (i : Nat) (hi : i < D.n) : goes D (i : Nat) = true := by
  unfold Dev.goes; rw [h.dest, h.bad, h.lose, hasB_nat D i hi]; rfl
theorem Dv.Plain.writeD (h : D.Plain) (i : Nat) (s : ByteArray) (hi : i < D.n) (hs : s.size = D.size) : D.writeD (i : Nat) s = D.counted.push (i : Nat) s := by
  unfold Dv.writeD; rw [h.refuse, h.stk_fuse, h.bad, hasB_nat D i hi, h.blow, h.counted.goes i hi, h.counted.dest, h.counted.struck]; simp [hs]
theorem Dv.Plain.push (h : D.Plain) (i : Int) (s : ByteArray) : (D.push i s).Plain := ⟨h.dead, h.off, h.fuse, h.lose, h.stray, h.good⟩
theorem Dv.Plain.readE (h : D.Plain) (i : Nat) (hi : i < D.n) : D.readE (i : Nat) = 0 := by
  unfold Dv.readE; rw [h.refuse, h.bad, hasB_nat D i hi]; simp
theorem Dv.Plain.readT (h : D.Plain) (i : Nat) (hi : i < D.n) : D.readT (i : Nat) = D.reads i := by
  unfold Dv.readT; rw [h.readE i hi, Int.toNat_natCast]; rfl
theorem Dv.Plain.readD (h : D.Plain) (i : Nat) (hi : i < D.n) : D.readD (i : Nat) = { D with nr := bump D.nr } := by
  unfold Dv.readD; rw [h.readE i hi]; rfl
theorem Dv.Plain.read (h : D.Plain) (x : Int) : ({ D with nr := x } : Dv).Plain := ⟨h.dead, h.off, h.fuse, h.lose, h.stray, h.good⟩
theorem Dv.Plain.put (h : D.Plain) (i : Nat) (t : ByteArray) (k : Nat) : (D.put i t k).Plain := by
  unfold Dv.put
  split
  · rename_i s hs
    refine ⟨h.dead, h.off, h.fuse, h.lose, h.stray, fun x hx => ?_⟩
    rcases List.mem_or_eq_of_mem_set hx with hx | hx
    · exact h.good x hx
    · subst hx; exact h.good s (List.mem_of_getElem? hs)
  · exact h
theorem Dv.Plain.puts (l : List ((Nat × ByteArray) × Nat)) : ∀ {D : Dv}, D.Plain → (D.puts l).Plain := by
  induction l with
  | nil => intro D h; exact h
  | cons x l ih => intro D h; exact ih (h.put _ _ _)
theorem Dv.Plain.flushed (h : D.Plain) : D.flushed.Plain := ⟨h.dead, h.off, h.fuse, h.lose, h.stray, h.good⟩
theorem Dv.Plain.emptied (h : D.Plain) : D.emptied.Plain := ⟨h.dead, h.off, h.fuse, h.lose, h.stray, h.good⟩
theorem Dv.Plain.calm (h : D.Plain) : D.calm.Plain := ⟨h.dead, rfl, rfl, h.lose, h.stray, h.good⟩
theorem Dv.Plain.flushE (h : D.Plain) : D.flushE = 0 := by unfold Dv.flushE; rw [h.refuse, h.stk_fuse]; rfl
theorem Dv.Plain.flushD (h : D.Plain) : D.flushD = (D.flushed.puts (whole D)).emptied := by unfold Dv.flushD; rw [h.refuse, h.stk_fuse, h.blow]; rfl
theorem Dv.Plain.flush (h : D.Plain) : D.flushD.Plain := by rw [h.flushD]; exact (Dv.Plain.puts _ h.flushed).emptied
end
end Go.Proofs.YtflanjcfkdjpjaaGreatDoor.Dev


/- A region that draws its order, where each operation's value has a description that later steps keep: each operation is looked at once, whatever the order. -/
namespace Go.Proofs.YtflanjcfkdjpjaaGreatDoor.Reg
open Go Go.RowKit

def dsts (ops : Array Oper) : List Tmp := ops.toList.filterMap (·.dst)
def dstOf (ops : Array Oper) (j : Nat) : Option Tmp := (ops[j]?).bind (·.dst)
/-- the slots of the operations that must have come up before o -/
def deps (ops : Array Oper) (o : Oper) : List Tmp := o.after.toList.filterMap fun e => if Region.binds .any e then dstOf ops e.on else none
/-- edges point backward; slots are apart, and lie in the frame; a guard waits for what it looks at -/
def okOps (n : Nat) (ops : Array Oper) : Bool :=
  ((List.range ops.size).all fun i => match ops[i]? with
    | none => true
    | some o => (o.after.toList.all fun e => decide (e.on < i) || !Region.binds .any e) && (match o.guard with | none => true | some (j, _) => match dstOf ops j with | some d => (deps ops o).contains d && decide (d < n) | none => false)) &&
  (dsts ops).all (fun d => decide (d < n)) && decide (dsts ops).Nodup
def guards (ops : Array Oper) : List (Tmp × Bool) := ops.toList.filterMap fun o => match o.guard with | some (j, b) => (dstOf ops j).map fun d => (d, b) | none => none

section
variable {P : Program} {ops : Array Oper} {Q : Exit → Act → World → Prop}

structure St (ops : Array Oper) (V : Tmp → Value → World → Prop) (Inv : World → Prop) (a0 : Act) (listed : Array Bool) (a : Act) (w : World) : Prop where
  size : a.tmps.size = a0.tmps.size
  defers : a.defers = a0.defers
  inv : Inv w
  lsize : listed.size = ops.size
  val : ∀ i d, dstOf ops i = some d → listed.getD i false = true → V d (a.tmps.getD d undef) w
  out : ∀ t, (dsts ops).contains t = false → a.tmps.getD t undef = a0.tmps.getD t undef

/-- what is to be shown of one operation -/
def Step (P : Program) (ops : Array Oper) (Q : Exit → Act → World → Prop) (V : Tmp → Value → World → Prop) (Inv : World → Prop) (a0 : Act) (o : Oper) : Prop :=
  ∀ (a : Act) (w : World), Inv w → (∀ t, (deps ops o).contains t = true → V t (a.tmps.getD t undef) w) → (∀ t, (dsts ops).contains t = false → a.tmps.getD t undef = a0.tmps.getD t undef) →
    Oper.wp P o a w (fun a' w' => ∃ v, a' = a.put o.dst v ∧ (∀ d, o.dst = some d → V d v w') ∧ Inv w' ∧ Below w.heap.size w w') Q
/-- of all of them, one by one -/
def Steps (P : Program) (ops : Array Oper) (Q : Exit → Act → World → Prop) (V : Tmp → Value → World → Prop) (Inv : World → Prop) (a0 : Act) : List Oper → Prop
  | [] => True
  | o :: l => Step P ops Q V Inv a0 o ∧ Steps P ops Q V Inv a0 l
theorem Steps.mem {V : Tmp → Value → World → Prop} {Inv : World → Prop} {a0 : Act} {l : List Oper} (h : Steps P ops Q V Inv a0 l) : ∀ o ∈ l, Step P ops Q V Inv a0 o := by
  induction l with
  | nil => intro o ho; cases ho
  | cons x l ih =>
    intro o ho
    rcases List.mem_cons.1 ho with rfl | ho
    · exact h.1
    · exact ih h.2 o ho

theorem okOps_back {n : Nat} (h : okOps n ops = true) {i : Nat} {o : Oper} (ho : ops[i]? = some o) : (∀ e ∈ o.after, Region.binds .any e = true → e.on < i) ∧
    (∀ j b, o.guard = some (j, b) → ∃ d, dstOf ops j = some d ∧ (deps ops o).contains d = true ∧ d < n) := by
  unfold okOps at h
  simp only [Bool.and_eq_true, List.all_eq_true] at h
  have hi : i ∈ List.range ops.size := List.mem_range.2 (Array.getElem?_eq_some_iff.1 ho).1
  have h1 := h.1.1 i hi
  simp only [ho, Bool.and_eq_true, List.all_eq_true] at h1
  refine ⟨fun e he hb => by have := h1.1 e (by simpa using he); rw [hb] at this; simpa using this, fun j b hg => ?_⟩
  have h2 := h1.2
  rw [hg] at h2
  simp only at h2
  cases hd : dstOf ops j with
  | none => rw [hd] at h2; cases h2
  | some d => rw [hd] at h2; simp only [Bool.and_eq_true, decide_eq_true_eq] at h2; exact ⟨d, rfl, h2.1, h2.2⟩
theorem okOps_lt {n : Nat} (h : okOps n ops = true) {d : Tmp} (hd : d ∈ dsts ops) : d < n := by
  unfold okOps at h
  simp only [Bool.and_eq_true, List.all_eq_true] at h
  simpa using h.1.2 d hd
theorem filterMap_nodup {α β : Type} (f : α → Option β) : ∀ (l : List α), (l.filterMap f).Nodup → ∀ (i j : Nat) (x y : α) (d : β), l[i]? = some x → l[j]? = some y → f x = some d → f y = some d → i = j
  | [], _, i, j, x, y, d, hi, _, _, _ => by simp at hi
  | z :: l, hn, i, j, x, y, d, hi, hj, hx, hy => by
    have hmem : ∀ (k : Nat) (u : α), l[k]? = some u → f u = some d → d ∈ l.filterMap f := fun k u hk hu => List.mem_filterMap.2 ⟨u, List.mem_of_getElem? hk, hu⟩
    cases i with
    | zero =>
      cases j with
      | zero => rfl
      | succ j =>
        simp only [List.getElem?_cons_zero, Option.some.injEq] at hi
        subst hi
        rw [List.filterMap_cons_some hx, List.nodup_cons] at hn
        exact absurd (hmem j y (by simpa using hj) hy) hn.1
    | succ i =>
      cases j with
      | zero =>
        simp only [List.getElem?_cons_zero, Option.some.injEq] at hj
        subst hj
        rw [List.filterMap_cons_some hy, List.nodup_cons] at hn
        exact absurd (hmem i x (by simpa using hi) hx) hn.1
      | succ j =>
        have hn' : (l.filterMap f).Nodup := by
          cases hz : f z with
          | none => rwa [List.filterMap_cons_none hz] at hn
          | some b => rw [List.filterMap_cons_some hz, List.nodup_cons] at hn; exact hn.2
        rw [filterMap_nodup f l hn' i j x y d (by simpa using hi) (by simpa using hj) hx hy]
theorem okOps_inj {n : Nat} (h : okOps n ops = true) {i j : Nat} {d : Tmp} (hi : dstOf ops i = some d) (hj : dstOf ops j = some d) : i = j := by
  unfold okOps at h
  simp only [Bool.and_eq_true] at h
  have hn : (dsts ops).Nodup := by simpa using h.2
  unfold dstOf at hi hj
  obtain ⟨x, hx, hxd⟩ := Option.bind_eq_some_iff.1 hi
  obtain ⟨y, hy, hyd⟩ := Option.bind_eq_some_iff.1 hj
  exact filterMap_nodup (fun o : Oper => o.dst) ops.toList hn i j x y d (by simpa using hx) (by simpa using hy) hxd hyd
theorem dstOf_mem {i : Nat} {d : Tmp} (h : dstOf ops i = some d) : d ∈ dsts ops := by
  unfold dstOf at h
  obtain ⟨x, hx, hxd⟩ := Option.bind_eq_some_iff.1 h
  exact List.mem_filterMap.2 ⟨x, by have := Array.mem_of_getElem? hx; simpa using this, hxd⟩
theorem getD_put (a : Act) (d t : Tmp) (v : Value) (hd : d < a.tmps.size) : (a.put (some d) v).tmps.getD t undef = if d = t then v else a.tmps.getD t undef := by
  simp only [Act.put, Array.getD_eq_getD_getElem?, Array.getElem?_setIfInBounds]
  by_cases e : d = t
  · subst e; simp [hd]
  · simp [e]
theorem size_put (a : Act) (d : Option Tmp) (v : Value) : (a.put d v).tmps.size = a.tmps.size := by
  unfold Act.put; split <;> simp
theorem defers_put (a : Act) (d : Option Tmp) (v : Value) : (a.put d v).defers = a.defers := by
  unfold Act.put; split <;> rfl
theorem getD_listed (l : Array Bool) (i j : Nat) (hi : i < l.size) : (l.setIfInBounds i true).getD j false = if i = j then true else l.getD j false := by
  simp only [Array.getD_eq_getD_getElem?, Array.getElem?_setIfInBounds]
  by_cases e : i = j
  · subst e; simp [hi]
  · simp [e]

/-- how many have not come up yet -/
def left (l : Array Bool) : Nat := l.toList.countP (! ·)
theorem left_set (l : Array Bool) (i : Nat) (hi : l.getD i true = false) : left (l.setIfInBounds i true) + 1 = left l := by
  unfold left
  have hlt : i < l.size := by
    rcases Nat.lt_or_ge i l.size with h | h
    · exact h
    · rw [Array.getD_eq_getD_getElem?, Array.getElem?_eq_none h] at hi; cases hi
  have hv : l.toList[i]'(by simpa using hlt) = false := by
    rw [Array.getD_eq_getD_getElem?, Array.getElem?_eq_getElem hlt] at hi
    simpa using hi
  rw [Array.toList_setIfInBounds]
  have := List.countP_set (p := fun b => !b) (l := l.toList) (i := i) (a := true) (by simpa using hlt)
  rw [this]
  have hpos : 0 < l.toList.countP (fun b => !b) := List.countP_pos_iff.2 ⟨false, by rw [← hv]; exact List.getElem_mem _, rfl⟩
  have e1 : (if (!l.toList[i]'(by simpa using hlt)) = true then 1 else 0) = 1 := by rw [hv]; rfl
  have e2 : (if (!true) = true then 1 else 0) = 0 := rfl
  rw [e1, e2]
  omega
theorem ready_nil {n : Nat} (h : okOps n ops = true) {listed : Array Bool} (hs : listed.size = ops.size) (hr : Region.ready .any ops listed = []) : ∀ i, i < ops.size → listed.getD i false = true := by
  intro i
  induction i using Nat.strongRecOn with
  | ind i ih =>
    intro hi
    cases hl : listed.getD i true with
    | true =>
      rw [Array.getD_eq_getD_getElem?, Array.getElem?_eq_getElem (by omega)] at hl ⊢
      simpa using hl
    | false =>
      have hm : i ∈ Region.ready .any ops listed := mem_ready.2 ⟨hl, ops[i], Array.getElem?_eq_getElem hi, fun e he hb => by
        have hlt := (okOps_back h (Array.getElem?_eq_getElem hi)).1 e he hb
        exact ih e.on hlt (by omega)⟩
      rw [hr] at hm; cases hm

theorem left_all (n : Nat) : left (Array.replicate n false) = n := by
  unfold left
  rw [Array.toList_replicate, List.countP_replicate]; simp
/-! ### descriptions: a value, or a property that lasts -/
structure Sp where
  fixed : Option Value
  p : Value → World → Prop
  lasts : ∀ v w w', p v w → Below w.heap.size w w' → p v w'
  eq : ∀ x, fixed = some x → ∀ v w, p v w → v = x
def Sp.val (x : Value) : Sp := ⟨some x, fun v _ => v = x, fun _ _ _ h _ => h, fun y hy v _ h => by cases hy; exact h⟩
def VS (l : List (Tmp × Sp)) (t : Tmp) (v : Value) (w : World) : Prop :=
  match l.lookup t with
  | some s => s.p v w
  | none => True
theorem VS.lasts {l : List (Tmp × Sp)} (t : Tmp) (v : Value) (w w' : World) (h : VS l t v w) (hb : Below w.heap.size w w') : VS l t v w' := by
  unfold VS at h ⊢
  split at h
  · rename_i s _; exact s.lasts _ _ _ h hb
  · trivial
def VO (V : Tmp → Value → World → Prop) : Option Tmp → Value → World → Prop
  | some d, v, w => V d v w
  | none, _, _ => True
theorem VO.all {V : Tmp → Value → World → Prop} {o : Option Tmp} {v : Value} {w : World} (h : VO V o v w) : ∀ d, o = some d → V d v w := by
  intro d hd; subst hd; exact h
section
variable {V : Tmp → Value → World → Prop} {Inv : World → Prop} {o : Oper} {a : Act} {w : World}
end
end
end Go.Proofs.YtflanjcfkdjpjaaGreatDoor.Reg


/- A region that draws its order, and whose operations may write: each operation is looked at once, whatever the order. -/
namespace Go.Proofs.YtflanjcfkdjpjaaGreatDoor.Reg
open Go Go.RowKit
section
variable {P : Program} {ops : Array Oper} {Q : Exit → Act → World → Prop}

def lset (l : Nat → Bool) (i : Nat) : Nat → Bool := fun j => if i = j then true else l j
structure St2 (ops : Array Oper) (V : Tmp → Value → World → Prop) (Inv : (Nat → Bool) → World → Prop) (a0 : Act) (listed : Array Bool) (a : Act) (w : World) : Prop where
  size : a.tmps.size = a0.tmps.size
  defers : a.defers = a0.defers
  inv : Inv (fun j => listed.getD j false) w
  lsize : listed.size = ops.size
  val : ∀ i d, dstOf ops i = some d → listed.getD i false = true → V d (a.tmps.getD d undef) w
  out : ∀ t, (dsts ops).contains t = false → a.tmps.getD t undef = a0.tmps.getD t undef
  closed : ∀ i o, ops[i]? = some o → listed.getD i false = true → ∀ e ∈ o.after, Region.binds .any e = true → listed.getD e.on false = true
  old : ∀ i d, dstOf ops i = some d → listed.getD i false = false → a.tmps.getD d undef = a0.tmps.getD d undef

def Did (V : Tmp → Value → World → Prop) (Inv : (Nat → Bool) → World → Prop) (Rel : World → World → Prop) (l : Nat → Bool) (i : Nat) (o : Oper) (a : Act) (w : World) : Act → World → Prop :=
  fun a' w' => ∃ v, a' = a.put o.dst v ∧ (∀ d, o.dst = some d → V d v w') ∧ Inv (lset l i) w' ∧ Rel w w'
/-- what is to be shown of one operation: l tells which have come up; none that waits for this one has -/
def Step2 (P : Program) (ops : Array Oper) (Q : Exit → Act → World → Prop) (V : Tmp → Value → World → Prop) (Inv : (Nat → Bool) → World → Prop) (Rel : World → World → Prop) (a0 : Act) (i : Nat) (o : Oper) : Prop :=
  ∀ (a : Act) (w : World) (l : Nat → Bool), Inv l w → l i = false → (∀ j, Region.waitsFor .any ops i j = true → l j = true) →
    (∀ j, Region.waitsFor .any ops j i = true → l j = false) → (∀ j d, dstOf ops j = some d → l j = false → a.tmps.getD d undef = a0.tmps.getD d undef) →
    (∀ t, (deps ops o).contains t = true → V t (a.tmps.getD t undef) w) → (∀ t, (dsts ops).contains t = false → a.tmps.getD t undef = a0.tmps.getD t undef) →
    Oper.wp P o a w (Did V Inv Rel l i o a w) Q
/-- of all of them, one by one -/
def Steps2 (P : Program) (ops : Array Oper) (Q : Exit → Act → World → Prop) (V : Tmp → Value → World → Prop) (Inv : (Nat → Bool) → World → Prop) (Rel : World → World → Prop) (a0 : Act) : Nat → List Oper → Prop
  | _, [] => True
  | i, o :: l => Step2 P ops Q V Inv Rel a0 i o ∧ Steps2 P ops Q V Inv Rel a0 (i + 1) l
theorem Steps2.at {V : Tmp → Value → World → Prop} {Inv : (Nat → Bool) → World → Prop} {Rel : World → World → Prop} {a0 : Act} {l : List Oper} : ∀ {k : Nat}, Steps2 P ops Q V Inv Rel a0 k l → ∀ i o, l[i]? = some o → Step2 P ops Q V Inv Rel a0 (k + i) o := by
  induction l with
  | nil => intro k _ i o ho; simp at ho
  | cons x l ih =>
    intro k h i o ho
    cases i with
    | zero => simp at ho; subst ho; exact h.1
    | succ i => have := ih h.2 i o (by simpa using ho); rwa [show k + 1 + i = k + (i + 1) by omega] at this

theorem wpAny_specs2 (V : Tmp → Value → World → Prop) (Inv : (Nat → Bool) → World → Prop) (Rel : World → World → Prop) (a0 : Act) (hok : okOps a0.tmps.size ops = true)
    (hV : ∀ t v w w', V t v w → Rel w w' → V t v w')
    (hg : ∀ p ∈ guards ops, ∀ v w, V p.1 v w → v = .bool p.2)
    (hstep : Steps2 P ops Q V Inv Rel a0 0 ops.toList)
    (hend : ∀ (a : Act) (w : World), a.tmps.size = a0.tmps.size → a.defers = a0.defers → Inv (fun j => decide (j < ops.size)) w → (∀ t, (dsts ops).contains t = true → V t (a.tmps.getD t undef) w) →
      (∀ t, (dsts ops).contains t = false → a.tmps.getD t undef = a0.tmps.getD t undef) → Q .normal a w) :
    ∀ (fuel : Nat) (listed : Array Bool) (a : Act) (w : World), left listed ≤ fuel → St2 ops V Inv a0 listed a w → wpAny P .any ops Q fuel listed a w := by
  have hfin : ∀ (listed : Array Bool) (a : Act) (w : World), St2 ops V Inv a0 listed a w → Region.ready .any ops listed = [] → Q .normal a w := by
    intro listed a w hst hr
    have hall := ready_nil hok hst.lsize hr
    have hinv := hst.inv
    rw [show (fun j => listed.getD j false) = fun j => decide (j < ops.size) from funext fun j => by
      by_cases hj : j < ops.size
      · simp only [hj, decide_true]; exact hall j hj
      · rw [Array.getD_eq_getD_getElem?, Array.getElem?_eq_none (by rw [hst.lsize]; omega)]; simp [hj]] at hinv
    refine hend a w hst.size hst.defers hinv (fun t ht => ?_) hst.out
    have hm : t ∈ dsts ops := by simpa using ht
    obtain ⟨o, ho, hod⟩ := List.mem_filterMap.1 hm
    obtain ⟨i, hi, hio⟩ := List.mem_iff_getElem.1 ho
    have hio' : ops[i]? = some o := by rw [Array.getElem?_eq_getElem (by simpa using hi)]; simpa using hio
    exact hst.val i t (by unfold dstOf; rw [hio']; exact hod) (ready_nil hok hst.lsize hr i (by simpa using hi))
  intro fuel
  induction fuel with
  | zero =>
    intro listed a w hf hst
    have hr : Region.ready .any ops listed = [] := by
      cases h : Region.ready .any ops listed with
      | nil => rfl
      | cons i l =>
        have hi : i ∈ Region.ready .any ops listed := by rw [h]; exact List.mem_cons_self
        have := left_set listed i (mem_ready.1 hi).1
        omega
    exact ⟨hr, hfin listed a w hst hr⟩
  | succ fuel ih =>
    intro listed a w hf hst
    refine ⟨hfin listed a w hst, fun i hi => ?_⟩
    obtain ⟨hun, o, ho, hall⟩ := mem_ready.1 hi
    have hlt : i < ops.size := (Array.getElem?_eq_some_iff.1 ho).1
    have hmem : o ∈ ops.toList := by have := Array.mem_of_getElem? ho; simpa using this
    have hdep : ∀ t, (deps ops o).contains t = true → V t (a.tmps.getD t undef) w := by
      intro t ht
      have hm : t ∈ deps ops o := by simpa using ht
      obtain ⟨e, he, het⟩ := List.mem_filterMap.1 hm
      by_cases hbn : Region.binds .any e = true
      · rw [if_pos hbn] at het
        exact hst.val e.on t het (hall e (by simpa using he) hbn)
      · rw [if_neg hbn] at het; cases het
    have hw : Region.wanted o (yielded ops a.tmps) = true := by
      unfold Region.wanted
      cases hgd : o.guard with
      | none => rfl
      | some p =>
        obtain ⟨j, b⟩ := p
        obtain ⟨d, hd, hdc, hdn⟩ := (okOps_back hok ho).2 j b hgd
        have hv := hg (d, b) (List.mem_filterMap.2 ⟨o, hmem, by rw [hgd]; simp [hd]⟩) _ _ (hdep d hdc)
        have hsz : d < a.tmps.size := by rw [hst.size]; exact hdn
        have hs : a.tmps[d]? = some (.bool b) := by
          rw [Array.getElem?_eq_getElem hsz]
          rw [Array.getD_eq_getD_getElem?, Array.getElem?_eq_getElem hsz] at hv
          simpa using hv
        unfold dstOf at hd
        simp [yielded, hd, hs]
    have hunf : listed.getD i false = false := by
      have hlt' : i < listed.size := by rw [hst.lsize]; exact hlt
      rw [Array.getD_eq_getD_getElem?, Array.getElem?_eq_getElem hlt'] at hun ⊢
      simpa using hun
    have hstp := hstep.at i o (by simpa using ho)
    rw [Nat.zero_add] at hstp
    have hstp := hstp a w (fun j => listed.getD j false) hst.inv hunf (fun j hj => by
      obtain ⟨oj, hoj, e, he, hb, hei⟩ := Region.waitsFor_spec hj
      rw [ho] at hoj; cases hoj
      rw [← hei]; exact hall e he hb) (fun j hj => by
      obtain ⟨o', hoj, e, he, hb, hei⟩ := Region.waitsFor_spec hj
      cases hlj : listed.getD j false with
      | false => rfl
      | true => have := hst.closed j o' hoj hlj e he hb; rw [hei, hunf] at this; cases this) hst.old hdep hst.out
    unfold wpOp
    simp only [ho]
    rw [if_pos hw]
    refine .inl (Oper.wp_mono (fun a' w' hk => ?_) hstp)
    obtain ⟨v, rfl, hv, hinv, hb⟩ := hk
    refine ih _ _ _ (by have := left_set listed i hun; omega) ⟨by rw [size_put]; exact hst.size, by rw [defers_put]; exact hst.defers, by rw [show (fun j => (listed.setIfInBounds i true).getD j false) = lset (fun j => listed.getD j false) i from funext fun j => getD_listed _ _ _ (by rw [hst.lsize]; exact hlt)]; exact hinv, by simpa using hst.lsize, fun k d hk hl => ?_, fun t ht => ?_, fun k o' hk hl e he hbn => ?_, fun k d hk hl => ?_⟩
    · rw [getD_listed _ _ _ (by rw [hst.lsize]; exact hlt)] at hl
      cases hod : o.dst with
      | none =>
        by_cases e : i = k
        · subst e; unfold dstOf at hk; rw [ho] at hk; simp [hod] at hk
        · rw [if_neg e] at hl; exact hV _ _ _ _ (hst.val k d hk hl) hb
      | some c =>
        have hc : dstOf ops i = some c := by unfold dstOf; rw [ho]; exact hod
        have hcs : c < a.tmps.size := by rw [hst.size]; exact okOps_lt hok (dstOf_mem hc)
        rw [getD_put _ _ _ _ hcs]
        by_cases e : i = k
        · subst e
          rw [hc] at hk; cases hk
          rw [if_pos rfl]; exact hv _ hod
        · rw [if_neg e] at hl
          have : ¬ c = d := fun h => e (okOps_inj hok hc (by rw [h]; exact hk))
          rw [if_neg this]
          exact hV _ _ _ _ (hst.val k d hk hl) hb
    · cases hod : o.dst with
      | none => exact hst.out t ht
      | some c =>
        have hc : dstOf ops i = some c := by unfold dstOf; rw [ho]; exact hod
        have hcs : c < a.tmps.size := by rw [hst.size]; exact okOps_lt hok (dstOf_mem hc)
        rw [getD_put _ _ _ _ hcs, if_neg (fun h => ?_)]
        · exact hst.out t ht
        · subst h; have := dstOf_mem hc; simp at ht; exact ht this
    · rw [getD_listed _ _ _ (by rw [hst.lsize]; exact hlt)] at hl ⊢
      by_cases e1 : i = e.on
      · rw [if_pos e1]
      · rw [if_neg e1]
        by_cases e2 : i = k
        · subst e2; rw [ho] at hk; cases hk; exact hall e he hbn
        · rw [if_neg e2] at hl; exact hst.closed k o' hk hl e he hbn
    · rw [getD_listed _ _ _ (by rw [hst.lsize]; exact hlt)] at hl
      by_cases e1 : i = k
      · rw [if_pos e1] at hl; cases hl
      · rw [if_neg e1] at hl
        cases hod : o.dst with
        | none => exact hst.old k d hk hl
        | some c =>
          have hc : dstOf ops i = some c := by unfold dstOf; rw [ho]; exact hod
          have hcs : c < a.tmps.size := by rw [hst.size]; exact okOps_lt hok (dstOf_mem hc)
          rw [getD_put _ _ _ _ hcs, if_neg (fun h => ?_)]
          · exact hst.old k d hk hl
          · subst h; exact e1 (okOps_inj hok hc hk)

/-- The law: whatever the order. -/
theorem region_specs2 {id : Nat} {a0 : Act} {w : World} (hm : P.follows .mixedOrders = true) (V : Tmp → Value → World → Prop) (Inv : (Nat → Bool) → World → Prop) (Rel : World → World → Prop) (hok : okOps a0.tmps.size ops = true)
    (hV : ∀ t v w w', V t v w → Rel w w' → V t v w')
    (hg : ∀ p ∈ guards ops, ∀ v w, V p.1 v w → v = .bool p.2)
    (h0 : Inv (fun _ => false) w.drew)
    (hstep : Steps2 P ops Q V Inv Rel a0 0 ops.toList)
    (hend : ∀ (a : Act) (w : World), a.tmps.size = a0.tmps.size → a.defers = a0.defers → Inv (fun j => decide (j < ops.size)) w → (∀ t, (dsts ops).contains t = true → V t (a.tmps.getD t undef) w) →
      (∀ t, (dsts ops).contains t = false → a.tmps.getD t undef = a0.tmps.getD t undef) → Q .normal a w) :
    (Code.region id ops true).wp P Q a0 w :=
  wp_region_any hm (wpAny_specs2 V Inv Rel a0 hok hV hg hstep hend _ _ _ _ (by rw [left_all]; exact Nat.le_refl _)
    ⟨rfl, rfl, by rw [show (fun j => (Array.replicate ops.size false).getD j false) = fun _ => false from funext fun j => by simp [Array.getD_eq_getD_getElem?, Array.getElem?_replicate]; split <;> rfl]; exact h0, by simp, fun i d _ h => by
      rw [Array.getD_eq_getD_getElem?] at h
      by_cases hi : i < ops.size
      · simp [hi] at h
      · simp [Array.getElem?_eq_none (by simpa using hi : (Array.replicate ops.size false).size ≤ i)] at h, fun _ _ => rfl, fun i o _ h => by
      rw [Array.getD_eq_getD_getElem?] at h
      by_cases hi : i < ops.size
      · simp [hi] at h
      · simp [Array.getElem?_eq_none (by simpa using hi : (Array.replicate ops.size false).size ≤ i)] at h, fun _ _ _ _ => rfl⟩)


section
variable {V : Tmp → Value → World → Prop} {Inv : (Nat → Bool) → World → Prop} {Rel : World → World → Prop} {o : Oper} {a : Act} {w : World} {l : Nat → Bool} {i : Nat}
theorem step2_val (v : Value) (hr : (execOp a.eval o).run P w = .ok (.value v) w) (hv : VO V o.dst v w) (hI : Inv (lset l i) w) (hR : Rel w w) :
    Oper.wp P o a w (Did V Inv Rel l i o a w) Q := by
  unfold Oper.wp; rw [hr]; exact ⟨v, rfl, hv.all, hI, hR⟩
theorem step2_move (x : Operand) (ho : o.op = .move x) (hv : VO V o.dst (a.eval x) w) (hI : Inv (lset l i) w) (hR : Rel w w) :
    Oper.wp P o a w (Did V Inv Rel l i o a w) Q :=
  step2_val (a.eval x) (by unfold execOp; rw [ho]; rfl) hv hI hR
theorem step2_assign (x : Operand) (ho : o.op = .assign x) (hv : VO V o.dst (a.eval x) w) (hI : Inv (lset l i) w) (hR : Rel w w) :
    Oper.wp P o a w (Did V Inv Rel l i o a w) Q :=
  step2_val (a.eval x) (by unfold execOp; rw [ho]; rfl) hv hI hR
theorem step2_do (v : Value) (w2 : World) (hr : (execOp a.eval o).run P w = .ok (.value v) w2) (hv : VO V o.dst v w2) (hI : Inv (lset l i) w2) (hR : Rel w w2) :
    Oper.wp P o a w (Did V Inv Rel l i o a w) Q := by
  unfold Oper.wp; rw [hr]; exact ⟨v, rfl, hv.all, hI, hR⟩
theorem step2_call (f : FuncId) (args : Array Value) (hr : (execOp a.eval o).run P w = .ok (.enter f args) w)
    (hc : Calls P f args w fun e w' => ∃ v, e = .returned v ∧ VO V o.dst v w' ∧ Inv (lset l i) w' ∧ Rel w w') :
    Oper.wp P o a w (Did V Inv Rel l i o a w) Q := by
  unfold Oper.wp; rw [hr]
  refine hc.mono ?_
  rintro e w' ⟨v, rfl, hv, hI, hR⟩
  exact ⟨v, rfl, hv.all, hI, hR⟩
end
end
/-! ### every slot has a known value in the end -/
def VV (l : List (Tmp × Value)) (t : Tmp) (v : Value) (_ : World) : Prop :=
  match l.lookup t with
  | some x => v = x
  | none => True
def guardsV (l : List (Tmp × Value)) (gs : List (Tmp × Bool)) : Bool := gs.all fun p => match l.lookup p.1 with | some (.bool b) => b == p.2 | _ => false
def fill (l : List (Tmp × Value)) (t : Array Value) : Array Value := l.foldl (fun t p => t.setIfInBounds p.1 p.2) t
theorem fill_size (l : List (Tmp × Value)) : ∀ t : Array Value, (fill l t).size = t.size := by
  induction l with
  | nil => intro t; rfl
  | cons p l ih => intro t; show (fill l _).size = _; rw [ih]; simp
theorem fill_get (l : List (Tmp × Value)) : ∀ (t : Array Value) (i : Nat), (l.map (·.1)).Nodup → i < t.size → (fill l t)[i]? = match l.lookup i with | some x => some x | none => t[i]? := by
  induction l with
  | nil => intro t i _ _; rfl
  | cons p l ih =>
    intro t i hn hi
    obtain ⟨d, v⟩ := p
    simp only [List.map_cons, List.nodup_cons] at hn
    show (fill l (t.setIfInBounds d v))[i]? = _
    rw [ih _ i hn.2 (by simpa using hi)]
    by_cases e : i = d
    · subst e
      have hl : l.lookup i = none := by
        rw [List.lookup_eq_none_iff]
        intro q hq
        have := fun e => hn.1 (List.mem_map.2 ⟨q, hq, e⟩)
        simp; intro e'; exact this e'.symm
      rw [hl]
      simp [List.lookup, hi]
    · have hb : (i == d) = false := by simpa using e
      simp only [List.lookup, hb]
      cases l.lookup i with
      | some x => rfl
      | none => simp [show ¬ d = i from fun h => e h.symm]
section
variable {P : Program} {ops : Array Oper} {Q : Exit → Act → World → Prop}
theorem lookup_mem (l : List (Tmp × Value)) (t : Tmp) (h : t ∈ l.map (·.1)) : ∃ x, l.lookup t = some x := by
  cases hl : l.lookup t with
  | some x => exact ⟨x, rfl⟩
  | none =>
    rw [List.lookup_eq_none_iff] at hl
    obtain ⟨q, hq, e⟩ := List.mem_map.1 h
    have := hl q hq
    subst e; simp at this
/-- The law: whatever the order, the slots are filled so. -/
theorem region_vals {id : Nat} {a0 : Act} {w : World} (hm : P.follows .mixedOrders = true) (S : List (Tmp × Value)) (Inv : (Nat → Bool) → World → Prop)
    (hok : okOps a0.tmps.size ops = true) (hkeys : (S.map (·.1)) = dsts ops) (hg : guardsV S (guards ops) = true)
    (h0 : Inv (fun _ => false) w.drew)
    (hstep : Steps2 P ops Q (VV S) Inv (fun _ _ => True) a0 0 ops.toList)
    (hend : ∀ w, Inv (fun j => decide (j < ops.size)) w → Q .normal { tmps := fill S a0.tmps, defers := a0.defers } w) :
    (Code.region id ops true).wp P Q a0 w := by
  refine region_specs2 hm (VV S) Inv (fun _ _ => True) hok (fun _ _ _ _ h _ => h) ?_ h0 hstep ?_
  · intro p hp v w hv
    have := List.all_eq_true.1 hg p hp
    unfold VV at hv
    split at this
    · rename_i b hl
      rw [hl] at hv
      rw [hv, eq_of_beq this]
    · cases this
  · intro a w hsz hdf hI hd ho
    have hnd : (S.map (·.1)).Nodup := by
      rw [hkeys]
      unfold okOps at hok
      simp only [Bool.and_eq_true] at hok
      simpa using hok.2
    have e : a = { tmps := fill S a0.tmps, defers := a0.defers } := by
      obtain ⟨tm, df⟩ := a
      simp only at hsz hdf hd ho
      subst hdf
      congr 1
      apply Array.ext_getElem?
      intro i
      by_cases hi : i < a0.tmps.size
      · rw [fill_get S _ i hnd hi]
        have hti : tm[i]? = some (tm.getD i undef) := by
          rw [Array.getD_eq_getD_getElem?, Array.getElem?_eq_getElem (by omega)]; rfl
        cases hc : (dsts ops).contains i with
        | true =>
          have hm' : i ∈ S.map (·.1) := by rw [hkeys]; simpa using hc
          obtain ⟨x, hx⟩ := lookup_mem S i hm'
          have hv := hd i hc
          unfold VV at hv
          rw [hx] at hv ⊢
          rw [hti, hv]
        | false =>
          have hl : S.lookup i = none := by
            rw [List.lookup_eq_none_iff]
            intro q hq
            have : ¬ i ∈ S.map (·.1) := by rw [hkeys]; simpa using hc
            simp; intro e'; exact this (List.mem_map.2 ⟨q, hq, e'.symm⟩)
          rw [hl, hti, ho i hc, Array.getD_eq_getD_getElem?, Array.getElem?_eq_getElem hi]; rfl
      · rw [Array.getElem?_eq_none (by omega), Array.getElem?_eq_none (by rw [fill_size]; omega)]
    rw [e]
    exact hend w hI
end
/-- a region whose operations read, but for the last ones, which stand in a row: in the text's order -/
theorem still_tail {P : Program} {w : World} {id : Nat} {Q : Exit → Act → World → Prop} {a : Act} {l : List Oper} (n : Nat) (hm : P.follows .mixedOrders = true) (hB : Region.lexTailB .any l.toArray n = true)
    (h : wpStill P l.toArray w.drew (fun a' => wpList P l.toArray Q (l.drop n) a' w.drew) (l.take n) a) : (Code.region id l.toArray true).wp P Q a w := wp_region_still_tail n hm hB h
end Go.Proofs.YtflanjcfkdjpjaaGreatDoor.Reg


/- Contracts of layer 3 (dev): the small functions. -/
namespace Go.Proofs.YtflanjcfkdjpjaaGreatDoor.Dev
open Go.RowKit Go.Proofs.YtflanjcfkdjpjaaGreatDoor
set_option linter.unusedVariables false

theorem strikes_no (b o : Nat) (w : World) (hc : w.cell? ⟨b, o, none⟩ = some (.int .i64 0)) :
    Calls Tryz.prog 141 #[.pointer (some ⟨b, o, none⟩)] w fun e w' => e = .returned (.bool false) ∧ w = w' := by
  go_enter Tryz.func141, Tryz.ntmps141
  go_wp2
  go_ret
  exact ⟨rfl, rfl⟩
theorem strikes_yes (b o n : Nat) (w : World) (hc : w.cell? ⟨b, o, none⟩ = some (.int .i64 (n + 1 : Nat))) (hf : w.frozen? ⟨b, o, none⟩ = false) (hn : n < 9223372036854775807) :
    Calls Tryz.prog 141 #[.pointer (some ⟨b, o, none⟩)] w fun e w' => e = .returned (.bool ((n : Int) == 0)) ∧ w' = w.setCell ⟨b, o, none⟩ (.int .i64 n) := by
  have h0 : (((n + 1 : Nat) : Int) == 0) = false := by simp; omega
  go_enter Tryz.func141, Tryz.ntmps141
  go_wp2
  go_ret
  exact ⟨rfl, rfl⟩
theorem strikes_any (b o n : Nat) (w : World) (hc : w.cell? ⟨b, o, none⟩ = some (.int .i64 n)) (hf : w.frozen? ⟨b, o, none⟩ = false) (hn : n ≤ 9223372036854775807) :
    Calls Tryz.prog 141 #[.pointer (some ⟨b, o, none⟩)] w fun e w' => e = .returned (.bool (stk n)) ∧ w' = w.setCell ⟨b, o, none⟩ (.int .i64 ((n - 1 : Nat) : Int)) := by
  match n, hc, hn with
  | 0, hc, _ => exact (strikes_no b o w hc).mono fun e w' ⟨he, hw⟩ => ⟨he, by rw [setCell_self (by simpa using hc)]; exact hw.symm⟩
  | n + 1, hc, hn =>
    refine (strikes_yes b o n w hc hf (by omega)).mono fun e w' ⟨he, hw⟩ => ⟨?_, hw⟩
    rw [he]; unfold stk
    cases n with
    | zero => rfl
    | succ n => congr 2
theorem set_any (b o : Nat) (n : Int) (m : Nat) (v : Value) (w : World) (hm : m = n.toNat) (hc : w.cell? ⟨b, o, none⟩ = some v) (hf : w.frozen? ⟨b, o, none⟩ = false) :
    Calls Tryz.prog 52 #[.pointer (some ⟨b, o, none⟩), .int .i64 n] w fun e w' => e = .returned (.tuple #[]) ∧ w' = w.setCell ⟨b, o, none⟩ (.int .i64 (m : Int)) := by
  have HM := Lib.hid hm
  clear hm
  go_enter Tryz.func52, Tryz.ntmps52
  go_wp2
  all_goals
    go_end0
    refine ⟨rfl, ?_⟩
    have hm := HM.out
    congr 2
    omega
theorem has_any {p sb : Nat} {cv : Value} {D : Dv} (i : Int) (w : World) (h : DevAt w p sb cv D) :
    Calls Tryz.prog 47 #[.pointer (some ⟨p, 0, none⟩), .int .i64 i] w fun e w' => e = .returned (.bool (hasB D i)) ∧ w = w' := by
  have h2 := h.c2
  have hn := h.ok.n4096
  have HB := Lib.hid (show hasB D i = decide (0 ≤ i ∧ i < D.n) from rfl)
  clear h
  go_enter Tryz.func47, Tryz.ntmps47
  go_wp2
  all_goals
    go_ret
    refine ⟨?_, rfl⟩
    rw [HB.out]
    congr 2
    simp
    omega
theorem refusal_any {p sb : Nat} {cv : Value} {D : Dv} (w : World) (h : DevAt w p sb cv D) :
    Calls Tryz.prog 126 #[.pointer (some ⟨p, 0, none⟩)] w fun e w' => e = .returned (.int .i64 (refuse D)) ∧ w = w' := by
  have h4 := h.c4
  have h5 := h.c5
  unfold refuse
  clear h
  generalize D.off = o at *
  generalize D.dead = d at *
  cases o <;> cases d
  all_goals
    go_enter Tryz.func126, Tryz.ntmps126
    go_wp2
    go_ret
    exact ⟨rfl, rfl⟩
theorem dead_any {p sb : Nat} {cv : Value} {D : Dv} (w : World) (h : DevAt w p sb cv D) :
    Calls Tryz.prog 125 #[.pointer (some ⟨p, 0, none⟩)] w fun e w' => e = .returned (.bool D.dead) ∧ w = w' := by
  have h4 := h.c4
  clear h
  go_enter Tryz.func125, Tryz.ntmps125
  go_wp2
  go_ret
  exact ⟨rfl, rfl⟩
theorem off_any {p sb : Nat} {cv : Value} {D : Dv} (w : World) (h : DevAt w p sb cv D) :
    Calls Tryz.prog 65 #[.pointer (some ⟨p, 0, none⟩)] w fun e w' => e = .returned (.bool D.off) ∧ w = w' := by
  have h4 := h.c5
  clear h
  go_enter Tryz.func65, Tryz.ntmps65
  go_wp2
  go_ret
  exact ⟨rfl, rfl⟩
theorem kept_any (f : Int) (size : Nat) (w : World) (h1 : 1 ≤ size) (h2 : size ≤ 1024) (hf : f ≤ 9223372036854775807) :
    Calls Tryz.prog 51 #[.int .i64 f, .int .i64 size] w fun e w' => e = .returned (.int .i64 (keptN f size)) ∧ w = w' := by
  have HK := Lib.hid (show keptN f size = if f = 1 then size else if 2 ≤ f then min (f - 2).toNat (size - 1) else 0 from rfl)
  by_cases ha : f = 1
  · subst ha
    go_enter Tryz.func51, Tryz.ntmps51
    go_wp2
    go_ret
    exact ⟨by rw [HK.out]; rfl, rfl⟩
  · have hb : (f == 1) = false := by simp [ha]
    by_cases hc : 2 ≤ f
    · have HA := Lib.hid ha
      clear ha
      go_enter Tryz.func51, Tryz.ntmps51
      go_wp2
      all_goals
        go_ret
        refine ⟨ret_k ?_, rfl⟩
        rw [HK.out, if_neg HA.out, if_pos hc]
        omega
    · have HA := Lib.hid ha
      clear ha
      go_enter Tryz.func51, Tryz.ntmps51
      go_wp2
      go_ret
      refine ⟨?_, rfl⟩
      rw [HK.out, if_neg HA.out, if_neg (by omega)]; rfl
theorem right_any (n s : Int) (w : World) :
    Calls Tryz.prog 53 #[.agg #[.int .i64 n, .int .i64 s]] w fun e w' => e = .returned (.bool (shapeR n s)) ∧ Below w.heap.size w w' := by
  have HK := Lib.hid (show shapeR n s = decide (8 ≤ n ∧ n ≤ 4096 ∧ 128 ≤ s ∧ s ≤ 1024 ∧ s % 64 = 0) from rfl)
  go_enter Tryz.func53, Tryz.ntmps53
  go_wp2
  all_goals
    go_ret
    refine ⟨ret_b ?_, (Below.refl _ _).alloc (Nat.le_refl _) _⟩
    rw [HK.out]
    rw [Bool.eq_iff_iff]
    simp
    try omega
end Go.Proofs.YtflanjcfkdjpjaaGreatDoor.Dev


/- Contracts of layer 3 (dev): Stick; slices.IndexFunc and slices.DeleteFunc at its closure. -/
namespace Go.Proofs.YtflanjcfkdjpjaaGreatDoor.Dev
open Go.RowKit Go.Proofs.YtflanjcfkdjpjaaGreatDoor
set_option linter.unusedVariables false

/-- is a write to another sector? -/
def keeps (i : Nat) (x : Nat × ByteArray) : Bool := x.1 != i
/-- the first place of a write to sector i, or -1 -/
def place (i : Nat) : List (Nat × ByteArray) → Int
  | [] => -1
  | x :: l => if x.1 = i then 0 else if place i l = -1 then -1 else place i l + 1
theorem place_lt (i : Nat) : ∀ l : List (Nat × ByteArray), -1 ≤ place i l ∧ place i l < l.length
  | [] => by simp [place]
  | x :: l => by
    have := place_lt i l
    unfold place
    simp only [List.length_cons]
    split
    · omega
    · split <;> omega
/-- the row's cells, as they are read: a list of writes, and whatever stands behind them -/
def WRow (w : World) (g : Nat) (l : List (Nat × ByteArray)) (tail : List Value) : Prop := Has w g 131 (flatW l ++ tail)
theorem WRow.cells {w : World} {g : Nat} {l : List (Nat × ByteArray)} {tail : List Value} (h : WRow w g l tail) {k : Nat} {x : Nat × ByteArray} (hx : l[k]? = some x) :
    w.cell? ⟨g, k * 2, none⟩ = some (.int .i64 (x.1 : Nat)) ∧ w.cell? ⟨g, k * 2 + 1, none⟩ = some (.string x.2) := by
  have hk : k < l.length := (List.getElem?_eq_some_iff.1 hx).1
  have hl : (flatW l).length = l.length * 2 := flat2_len _ _ _
  constructor
  · rw [Has.cell h, List.getElem?_append_left (by omega), flatW, flat2_get0 (fun x : Nat × ByteArray => Value.int .i64 (x.1 : Nat)) (fun x => Value.string x.2), hx]; rfl
  · rw [Has.cell h, List.getElem?_append_left (by omega), flatW, flat2_get1 (fun x : Nat × ByteArray => Value.int .i64 (x.1 : Nat)) (fun x => Value.string x.2), hx]; rfl
theorem flatW_set (l : List (Nat × ByteArray)) (k : Nat) (hk : k < l.length) (x : Nat × ByteArray) (tail : List Value) :
    ((flatW l ++ tail).set (k * 2) (.int .i64 (x.1 : Nat))).set (k * 2 + 1) (.string x.2) = flatW (l.set k x) ++ tail := by
  have hl : (flatW l).length = l.length * 2 := flat2_len _ _ _
  rw [List.set_append_left _ _ (by omega), List.set_append_left _ _ (by rw [List.length_set]; omega)]
  congr 1
  unfold flatW
  apply flat2_ext (fun x : Nat × ByteArray => Value.int .i64 (x.1 : Nat)) (fun x => Value.string x.2)
  · rw [List.length_set, List.length_set, flat2_len, List.length_set]
  · intro j hj
    rw [List.length_set] at hj
    rw [List.getElem?_set_ne (by omega)]
    by_cases e : k = j
    · subst e; rw [List.getElem?_set_self (by rw [flat2_len]; omega), List.getElem?_set_self hk]; rfl
    · rw [List.getElem?_set_ne (by omega), List.getElem?_set_ne e, flat2_get0]
  · intro j hj
    rw [List.length_set] at hj
    by_cases e : k = j
    · subst e; rw [List.getElem?_set_self (by rw [List.length_set, flat2_len]; omega), List.getElem?_set_self hk]; rfl
    · rw [List.getElem?_set_ne (by omega), List.getElem?_set_ne (by omega), List.getElem?_set_ne e, flat2_get1]
theorem WRow.set {w : World} {g : Nat} {l : List (Nat × ByteArray)} {tail : List Value} (h : WRow w g l tail) (k : Nat) (hk : k < l.length) (x : Nat × ByteArray) :
    WRow ((w.setCell ⟨g, k * 2, none⟩ (.int .i64 (x.1 : Nat))).setCell ⟨g, k * 2 + 1, none⟩ (.string x.2)) g (l.set k x) tail := by
  have := (Has.set h (k * 2) (.int .i64 (x.1 : Nat))).set (k * 2 + 1) (.string x.2)
  rw [flatW_set l k hk x tail] at this
  exact this

theorem place_inv {i k : Nat} {l : List (Nat × ByteArray)} (h : place i l = (k : Nat)) : k < l.length ∧ (∀ y ∈ l.take k, y.1 ≠ i) ∧ ∃ x, l[k]? = some x ∧ x.1 = i := by
  induction l generalizing k with
  | nil => simp [place] at h
  | cons y l ih =>
    unfold place at h
    split at h
    · rename_i e
      obtain rfl : k = 0 := by omega
      exact ⟨by simp, by simp, y, by simp, e⟩
    · rename_i e
      split at h
      · omega
      · obtain ⟨k, rfl⟩ : ∃ m, k = m + 1 := ⟨k - 1, by have := place_lt i l; omega⟩
        obtain ⟨h1, h2, x, h3, h4⟩ := ih (k := k) (by omega)
        refine ⟨by simp; omega, fun z hz => ?_, x, by simpa using h3, h4⟩
        rw [List.take_succ_cons] at hz
        rcases List.mem_cons.1 hz with rfl | hz
        · exact e
        · exact h2 z hz
theorem filter_take_none {i k : Nat} {l : List (Nat × ByteArray)} (h : ∀ y ∈ l.take k, y.1 ≠ i) : (l.take k).filter (keeps i) = l.take k := by
  rw [List.filter_eq_self]; intro a ha; simpa [keeps] using h a ha
theorem take_succ_get {l : List (Nat × ByteArray)} {k : Nat} {x : Nat × ByteArray} (h : l[k]? = some x) : l.take (k + 1) = l.take k ++ [x] := by
  obtain ⟨hk, rfl⟩ := List.getElem?_eq_some_iff.1 h
  exact take_snoc' l k hk
theorem drop_get {l : List (Nat × ByteArray)} {k : Nat} {x : Nat × ByteArray} (h : l[k]? = some x) : l.drop k = x :: l.drop (k + 1) := by
  obtain ⟨hk, rfl⟩ := List.getElem?_eq_some_iff.1 h
  exact List.drop_eq_getElem_cons hk
/-- in the midst of it: behind j elements k are kept, and stand first -/
structure Mid (i : Nat) (ws : List (Nat × ByteArray)) (j k : Nat) (L : List (Nat × ByteArray)) : Prop where
  ex : ∃ mid, L = (ws.take j).filter (keeps i) ++ mid ++ ws.drop j ∧ 1 ≤ mid.length ∧ ((ws.take j).filter (keeps i)).length + mid.length = j
  k_eq : k = ((ws.take j).filter (keeps i)).length
theorem Mid.len {i : Nat} {ws L : List (Nat × ByteArray)} {j k : Nat} (h : Mid i ws j k L) (hj : j ≤ ws.length) : L.length = ws.length ∧ k < j := by
  obtain ⟨⟨mid, rfl, h1, h2⟩, hk⟩ := h
  refine ⟨?_, by omega⟩
  rw [List.length_append, List.length_append, List.length_drop]; omega
theorem Mid.get {i : Nat} {ws L : List (Nat × ByteArray)} {j k : Nat} (h : Mid i ws j k L) : L[j]? = ws[j]? := by
  obtain ⟨⟨mid, rfl, h1, h2⟩, hk⟩ := h
  rw [List.getElem?_append_right (by rw [List.length_append]; omega), List.length_append, h2, Nat.sub_self, List.getElem?_drop]; rfl
theorem Mid.kept {i : Nat} {ws L : List (Nat × ByteArray)} {j k : Nat} {x : Nat × ByteArray} (h : Mid i ws j k L) (hx : ws[j]? = some x) (he : x.1 ≠ i) : Mid i ws (j + 1) (k + 1) (L.set k x) := by
  obtain ⟨⟨mid, rfl, h1, h2⟩, rfl⟩ := h
  have hf : (ws.take (j + 1)).filter (keeps i) = (ws.take j).filter (keeps i) ++ [x] := by
    rw [take_succ_get hx, List.filter_append, List.filter_cons_of_pos (by simpa [keeps] using he)]; rfl
  obtain ⟨m, mid, rfl⟩ : ∃ m mid', mid = m :: mid' := by
    cases mid with
    | nil => simp at h1
    | cons m mid => exact ⟨m, mid, rfl⟩
  refine ⟨⟨mid ++ [x], ?_, by simp, by rw [hf]; simp at h2 ⊢; omega⟩, by rw [hf]; simp⟩
  rw [hf, drop_get hx]
  simp
theorem Mid.start {i k : Nat} {ws : List (Nat × ByteArray)} (h : place i ws = (k : Nat)) : Mid i ws (k + 1) k ws := by
  obtain ⟨h1, h2, x, h3, h4⟩ := place_inv h
  have hf : (ws.take (k + 1)).filter (keeps i) = ws.take k := by
    rw [take_succ_get h3, List.filter_append, filter_take_none h2, List.filter_cons_of_neg (by simpa [keeps] using h4)]; simp
  refine ⟨⟨[x], ?_, by simp, by rw [hf]; simp; omega⟩, by rw [hf]; simp; omega⟩
  rw [hf]
  conv => lhs; rw [← List.take_append_drop k ws, drop_get h3]
  simp

end Go.Proofs.YtflanjcfkdjpjaaGreatDoor.Dev


/- Contracts of layer 3 (dev): blows, target, lasts. -/
namespace Go.Proofs.YtflanjcfkdjpjaaGreatDoor.Dev
open Go.RowKit Go.Proofs.YtflanjcfkdjpjaaGreatDoor
set_option linter.unusedVariables false

theorem blows_any {p sb : Nat} {cv : Value} {D : Dv} (w : World) (h : DevAt w p sb cv D) :
    Calls Tryz.prog 127 #[.pointer (some ⟨p, 0, none⟩)] w fun e w' => e = .returned (.bool (stk D.fuse)) ∧ Chg (foot p sb cv) w w' ∧ DevAt w' p sb cv D.blow := by
  have h6 := h.c6
  have f6 := h.fz 6
  have hf := h.ok.fuse
  have hs1 := h.set 6 (.int .i64 ((D.fuse - 1 : Nat) : Int)) { D with fuse := D.fuse - 1 } rfl rfl rfl ⟨h.ok.n8, h.ok.n4096, h.ok.s128, h.ok.s1024, h.ok.media, h.ok.text, h.ok.sector, by simp only; omega, h.ok.lose, h.ok.stray⟩
  have hs2 := hs1.set 5 (.bool (stk D.fuse)) D.blow rfl rfl rfl ⟨h.ok.n8, h.ok.n4096, h.ok.s128, h.ok.s1024, h.ok.media, h.ok.text, h.ok.sector, by simp only [Dv.blow]; omega, h.ok.lose, h.ok.stray⟩
  have h5 := hs1.c5
  have f5 := hs1.fz 5
  have h5' := hs2.c5
  have HS := Lib.hid hs2
  have hC : Chg (foot p sb cv) w ((w.setCell ⟨p, 6, none⟩ (.int .i64 ((D.fuse - 1 : Nat) : Int))).setCell ⟨p, 5, none⟩ (.bool (stk D.fuse))) := (((Chg.refl _ _).setCell (fun _ => .inl rfl) _).setCell (fun _ => .inl rfl) _)
  have HC := Lib.hid hC
  clear hs1 hs2 h hC
  obtain ⟨k, hk⟩ : ∃ k, k = D.fuse - 1 := ⟨_, rfl⟩
  have HK := Lib.hid hk
  rw [← hk] at h5 f5 h5' HS HC
  unfold Dv.blow at h5'
  simp only at h5'
  clear hk
  go_enter Tryz.func127, Tryz.ntmps127
  go_wp2_with fail
  refine (strikes_any p 6 D.fuse _ h6 f6 hf).mono ?_
  rintro e w' ⟨rfl, rfl⟩
  rw [← HK.out]
  go_wp2
  go_ret
  exact ⟨rfl, HC.out, HS.out⟩

/-- between the two countdowns -/
def StruckAt (w0 : World) (p sb : Nat) (cv : Value) (D : Dv) (a b : Bool) (w : World) : Prop :=
  DevAt w p sb cv { D with lose := if a then D.lose - 1 else D.lose, stray := if b then D.stray - 1 else D.stray } ∧ Chg (foot p sb cv) w0 w
section
variable {w0 w : World} {p sb : Nat} {cv : Value} {D : Dv} {a b : Bool}
theorem StruckAt.start (h : DevAt w0 p sb cv D) : StruckAt w0 p sb cv D false false w0.drew := ⟨h.drew, (Chg.refl _ _).drew⟩
theorem StruckAt.cell7 (h : StruckAt w0 p sb cv D false b w) : w.cell? ⟨p, 7, none⟩ = some (.int .i64 (D.lose : Int)) := h.1.c7
theorem StruckAt.cell8 (h : StruckAt w0 p sb cv D a false w) : w.cell? ⟨p, 8, none⟩ = some (.int .i64 (D.stray : Int)) := h.1.c8
theorem StruckAt.strike7 (h : StruckAt w0 p sb cv D false b w) : StruckAt w0 p sb cv D true b (w.setCell ⟨p, 7, none⟩ (.int .i64 ((D.lose - 1 : Nat) : Int))) :=
  ⟨h.1.set 7 _ _ rfl rfl rfl ⟨h.1.ok.n8, h.1.ok.n4096, h.1.ok.s128, h.1.ok.s1024, h.1.ok.media, h.1.ok.text, h.1.ok.sector, h.1.ok.fuse, by have := h.1.ok.lose; simp at this ⊢; omega, h.1.ok.stray⟩, h.2.setCell (fun _ => .inl rfl) _⟩
theorem StruckAt.strike8 (h : StruckAt w0 p sb cv D a false w) : StruckAt w0 p sb cv D a true (w.setCell ⟨p, 8, none⟩ (.int .i64 ((D.stray - 1 : Nat) : Int))) :=
  ⟨h.1.set 8 _ _ rfl rfl rfl ⟨h.1.ok.n8, h.1.ok.n4096, h.1.ok.s128, h.1.ok.s1024, h.1.ok.media, h.1.ok.text, h.1.ok.sector, h.1.ok.fuse, h.1.ok.lose, by have := h.1.ok.stray; simp at this ⊢; omega⟩, h.2.setCell (fun _ => .inl rfl) _⟩
end

set_option maxRecDepth 100000 in
set_option maxHeartbeats 1000000 in
theorem target_any {p sb : Nat} {cv : Value} {D : Dv} (i : Int) (w : World) (h : DevAt w p sb cv D) :
    Calls Tryz.prog 145 #[.pointer (some ⟨p, 0, none⟩), .int .i64 i] w fun e w' => e = .returned (.tuple #[.int .i64 (dest D i), .bool (goes D i)]) ∧ Chg (foot p sb cv) w w' ∧ DevAt w' p sb cv D.struck := by
  have hl := h.ok.lose
  have hs := h.ok.stray
  have HL := Lib.hid hl
  have HS := Lib.hid hs
  have HD := Lib.hid h
  obtain ⟨j, hj⟩ : ∃ j, j = dest D i := ⟨_, rfl⟩
  obtain ⟨g, hg⟩ : ∃ g, g = goes D i := ⟨_, rfl⟩
  rw [← hj, ← hg]
  have HG := Lib.hid (show g = (!stk D.lose && (hasB D j && !badB D j)) by rw [hg]; unfold goes; rw [← hj])
  have HJ := Lib.hid (show j = if stk D.stray then D.tgt else i from hj)
  clear h hl hs hg hj
  go_enter Tryz.func145, Tryz.ntmps145
  go_wp2
  go_upto_region 2 with fail
  go_cut [0, 1, 6, 7] (fun d j a b wx => d = .pointer (some ⟨p, 0, none⟩) ∧ j = .int .i64 i ∧ a = .bool (stk D.lose) ∧ b = .bool (stk D.stray) ∧ Chg (foot p sb cv) w wx ∧ DevAt wx p sb cv D.struck)
  case first =>
    refine Reg.region_vals (by kernel_rfl) [(8, .pointer (some ⟨p, 0, none⟩)), (9, .pointer (some ⟨p, 0, none⟩)), (10, .pointer (some ⟨p, 7, none⟩)), (11, .bool (stk D.lose)), (12, .pointer (some ⟨p, 0, none⟩)), (13, .pointer (some ⟨p, 0, none⟩)), (14, .pointer (some ⟨p, 8, none⟩)), (15, .bool (stk D.stray)), (6, .bool (stk D.lose)), (7, .bool (stk D.stray))] (fun l wx => StruckAt w p sb cv D (l 3) (l 7) wx) (by kernel_rfl) (by kernel_rfl) (by kernel_rfl) (StruckAt.start HD.out) ⟨?_, ?_, ?_, ?_, ?_, ?_, ?_, ?_, ?_, ?_, trivial⟩ ?hend
    · skip
      intro aq wq lq hI hl hdone hlater hold hd ho
      have h0 : aq.tmps.getD 0 undef = .pointer (some ⟨p, 0, none⟩) := ho 0 (by kernel_rfl)
      clear hd ho hdone hlater hold
      exact Reg.step2_move (.tmp 0) rfl h0 hI trivial
    · skip
      intro aq wq lq hI hl hdone hlater hold hd ho
      have h8 : aq.tmps.getD 8 undef = .pointer (some ⟨p, 0, none⟩) := hd 8 (by kernel_rfl)
      clear hd ho hdone hlater hold
      rw [Array.getD_eq_getD_getElem?] at h8
      refine Reg.step2_val (.pointer (some ⟨p, 0, none⟩)) ?_ rfl hI trivial
      go_simp
    · skip
      intro aq wq lq hI hl hdone hlater hold hd ho
      have h9 : aq.tmps.getD 9 undef = .pointer (some ⟨p, 0, none⟩) := hd 9 (by kernel_rfl)
      clear hd ho hdone hlater hold
      rw [Array.getD_eq_getD_getElem?] at h9
      refine Reg.step2_val (.pointer (some ⟨p, 7, none⟩)) ?_ rfl hI trivial
      go_simp
    · skip
      intro aq wq lq hI hl hdone hlater hold hd ho
      have h10 : aq.tmps.getD 10 undef = .pointer (some ⟨p, 7, none⟩) := hd 10 (by kernel_rfl)
      clear hd ho hdone hlater hold
      rw [Array.getD_eq_getD_getElem?] at h10
      rw [show lq 3 = false from hl] at hI
      refine Reg.step2_call 141 #[.pointer (some ⟨p, 7, none⟩)] ?_ ((strikes_any p 7 D.lose _ hI.cell7 (hI.1.fz 7) HL.out).mono ?_)
      · simp [execOp]
        go_simp
      · rintro e w' ⟨rfl, rfl⟩
        exact ⟨_, rfl, rfl, hI.strike7, trivial⟩
    · skip
      intro aq wq lq hI hl hdone hlater hold hd ho
      have h0 : aq.tmps.getD 0 undef = .pointer (some ⟨p, 0, none⟩) := ho 0 (by kernel_rfl)
      clear hd ho hdone hlater hold
      exact Reg.step2_move (.tmp 0) rfl h0 hI trivial
    · skip
      intro aq wq lq hI hl hdone hlater hold hd ho
      have h12 : aq.tmps.getD 12 undef = .pointer (some ⟨p, 0, none⟩) := hd 12 (by kernel_rfl)
      clear hd ho hdone hlater hold
      rw [Array.getD_eq_getD_getElem?] at h12
      refine Reg.step2_val (.pointer (some ⟨p, 0, none⟩)) ?_ rfl hI trivial
      go_simp
    · skip
      intro aq wq lq hI hl hdone hlater hold hd ho
      have h13 : aq.tmps.getD 13 undef = .pointer (some ⟨p, 0, none⟩) := hd 13 (by kernel_rfl)
      clear hd ho hdone hlater hold
      rw [Array.getD_eq_getD_getElem?] at h13
      refine Reg.step2_val (.pointer (some ⟨p, 8, none⟩)) ?_ rfl hI trivial
      go_simp
    · skip
      intro aq wq lq hI hl hdone hlater hold hd ho
      have h14 : aq.tmps.getD 14 undef = .pointer (some ⟨p, 8, none⟩) := hd 14 (by kernel_rfl)
      clear hd ho hdone hlater hold
      rw [Array.getD_eq_getD_getElem?] at h14
      rw [show lq 7 = false from hl] at hI
      refine Reg.step2_call 141 #[.pointer (some ⟨p, 8, none⟩)] ?_ ((strikes_any p 8 D.stray _ hI.cell8 (hI.1.fz 8) HS.out).mono ?_)
      · simp [execOp]
        go_simp
      · rintro e w' ⟨rfl, rfl⟩
        exact ⟨_, rfl, rfl, hI.strike8, trivial⟩
    · skip
      intro aq wq lq hI hl hdone hlater hold hd ho
      have h11 : aq.tmps.getD 11 undef = .bool (stk D.lose) := hd 11 (by kernel_rfl)
      clear hd ho hdone hlater hold
      exact Reg.step2_assign (.tmp 11) rfl h11 hI trivial
    · skip
      intro aq wq lq hI hl hdone hlater hold hd ho
      have h15 : aq.tmps.getD 15 undef = .bool (stk D.stray) := hd 15 (by kernel_rfl)
      clear hd ho hdone hlater hold
      exact Reg.step2_assign (.tmp 15) rfl h15 hI trivial
    case hend =>
    intro wx hI
    simp only [Reg.fill, List.foldl_cons, List.foldl_nil, List.setIfInBounds_toArray, List.set_cons_zero, List.set_cons_succ]
    go_wp2
    go_meet
    case rel => exact ⟨rfl, rfl, rfl, rfl, hI.2, hI.1⟩
  case rest =>
    obtain ⟨rfl, rfl, rfl, rfl, hC, hd⟩ := hcut
    have HC := Lib.hid hC
    have h9 := hd.c9
    have h2 := hd.c2
    have hn4 := hd.ok.n4096
    have HDD := Lib.hid hd
    have e1 : D.struck.tgt = D.tgt := rfl
    have e2 : D.struck.n = D.n := rfl
    rw [e1] at h9
    rw [e2] at h2 hn4
    have fin : ∀ (gg : Bool) (x : Ending) (W : World), x = .returned (.tuple #[.int .i64 j, .bool gg]) → (∃ n, W = wc.drewN n) → g = gg → x = .returned (.tuple #[.int .i64 j, .bool g]) ∧ Chg (foot p sb cv) w W ∧ DevAt W p sb cv D.struck := by
      rintro gg x W rfl ⟨n, rfl⟩ rfl
      exact ⟨rfl, HC.out.drewN n, HDD.out.drewN n⟩
    have FIN := Lib.hid fin
    clear fin hC e1 e2 hd
    have hj := HJ.out
    clear HJ
    generalize D.tgt = t0 at h9 hj
    cases hst : stk D.stray
    all_goals
      rw [hst] at hj
      simp only [if_true, Bool.false_eq_true, if_false] at hj
      clear hst
      subst hj
      cases hlo : stk D.lose
      · cases hh : hasB D.struck j
        · have HH := Lib.hid hh
          have HG2 := Lib.hid (show g = false by rw [HG.out, hlo]; have : hasB D j = hasB D.struck j := rfl; rw [this, hh]; rfl)
          clear hlo hh
          go_wp2
          go_quiet ((go_at_call 47; exact Calls.quiet_of_same ((has_any j _ (HDD.out.drewN _)).mono fun e w' ⟨he, hw⟩ => ⟨by rw [he, HH.out], hw.symm⟩)))
          go_wp2
          go_ret2
          exact FIN.out _ _ _ rfl ⟨_, rfl⟩ HG2.out
        · have hr : 0 ≤ j ∧ j < D.n := by unfold hasB at hh; rw [show D.struck.n = D.n from rfl] at hh; simpa using hh
          obtain ⟨k, rfl⟩ := Int.eq_ofNat_of_zero_le hr.1
          have hk : k < D.n := by omega
          have hki : (k : Int) < (D.n : Int) := hr.2
          have hb := HDD.out.bad k hk
          have HH := Lib.hid hh
          have HG2 := Lib.hid (show g = !(D.secs[k]'hk).2 by
            rw [HG.out, hlo]
            have : hasB D k = hasB D.struck k := rfl
            rw [this, hh]; unfold badB; rw [Int.toNat_natCast, List.getElem?_eq_getElem hk]; rfl)
          have hb' : wc.cell? ⟨sb, k * 2 + 1, none⟩ = some (.bool (D.secs[k]'hk).2) := hb
          generalize (D.secs[k]'hk).2 = bad at hb' HG2
          clear hlo hh hr hb
          go_wp2
          go_quiet ((go_at_call 47; exact Calls.quiet_of_same ((has_any k _ (HDD.out.drewN _)).mono fun e w' ⟨he, hw⟩ => ⟨by rw [he, HH.out], hw.symm⟩)))
          go_wp2
          go_ret2
          exact FIN.out _ _ _ rfl ⟨_, rfl⟩ HG2.out
      · have HG2 := Lib.hid (show g = false by rw [HG.out, hlo]; rfl)
        clear hlo
        go_wp2
        go_quiet (fail)
        go_wp2
        go_ret2
        exact FIN.out _ _ _ rfl ⟨_, rfl⟩ HG2.out
end Go.Proofs.YtflanjcfkdjpjaaGreatDoor.Dev


/- Contracts of layer 3 (dev): lasts, Flush, Crash. -/
namespace Go.Proofs.YtflanjcfkdjpjaaGreatDoor.Dev
open Go.RowKit Go.Proofs.YtflanjcfkdjpjaaGreatDoor
set_option linter.unusedVariables false

set_option maxRecDepth 100000 in
set_option maxHeartbeats 1000000 in
theorem lasts_any {p sb : Nat} {cv : Value} {D : Dv} (i k : Nat) (t : ByteArray) (w : World) (h : DevAt w p sb cv D) (hi : i < D.n) (ht : t.size = D.size) (hk : k ≤ D.size) :
    Calls Tryz.prog 50 #[.pointer (some ⟨p, 0, none⟩), .agg #[.int .i64 (i : Nat), .string t], .int .i64 (k : Nat)] w fun e w' => e = .returned (.tuple #[]) ∧ Chg (foot p sb cv) w w' ∧ DevAt w' p sb cv (D.put i t k) := by
  have h2 := h.c2
  have hm := h.media i hi
  have hf := h.sfz (i * 2)
  have hn4 := h.ok.n4096
  have hs4 := h.ok.s1024
  have hps : p < w.heap.size := h.main.lt
  have hss : sb < w.heap.size := h.secs.lt
  have hmz := h.ok.media _ (List.getElem_mem hi)
  have HD := Lib.hid (show ∀ n, DevAt (((w.alloc (.cells #[.int .i64 (i : Nat), .string t] 131)).setCell ⟨sb, i * 2, none⟩ (.string (mixB t (D.secs[i]'hi).1 k))).drewN n) p sb cv (D.put i t k) from
    fun n => ((h.alloc _).setMedia i hi _ _ (D.put_eq i t k hi) (D.put_ok h.ok i t k hi ht hk)).drewN n)
  have HC := Lib.hid (show ∀ n, Chg (foot p sb cv) w (((w.alloc (.cells #[.int .i64 (i : Nat), .string t] 131)).setCell ⟨sb, i * 2, none⟩ (.string (mixB t (D.secs[i]'hi).1 k))).drewN n) from
    fun n => (((Chg.refl _ _).alloc _).setCell (fun _ => .inr (.inl rfl)) _).drewN n)
  obtain ⟨m, hme⟩ : ∃ m, m = (D.secs[i]'hi).1 := ⟨_, rfl⟩
  rw [← hme] at hm hmz HD HC
  have hii : (i : Int) < (D.n : Int) := by omega
  have hkt : k ≤ t.size := by omega
  have hkm : k ≤ m.size := by omega
  have hms : ¬ 9223372036854775807 < m.size := by omega
  unfold mixB at HD HC
  clear hme h ht hmz
  go_enter Tryz.func50, Tryz.ntmps50
  go_wp2
  go_quiet (fail)
  go_wp2
  refine Reg.still_tail 14 (by kernel_rfl) (by kernel_rfl) ?_
  simp only [List.take_succ_cons, List.take_zero, List.drop_succ_cons, List.drop_zero]
  repeat still_step
  try refine wpStill_nil ?_
  go_wp2
  trace_state
  go_end0
  exact ⟨rfl, HC.out _, HD.out _⟩
end Go.Proofs.YtflanjcfkdjpjaaGreatDoor.Dev


