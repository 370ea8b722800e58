/- Layer 3 (dev): a device as plain data, and how it lies in memory. -/
import Derived.Test.YtlnocdmechidfaaHeap
namespace Go.Proofs.Ytlnocdmechidfaa.Dev
open Go Go.RowKit Go.Proofs.Ytlnocdmechidfaa

theorem ret_k {k : IntKind} {a b : Int} (h : a = b) : Ending.returned (.int k a) = .returned (.int k b) := by rw [h]
theorem int_k {k : IntKind} {a b : Int} (h : a = b) : Value.int k a = .int k b := by rw [h]
theorem ret_b {a b : Bool} (h : a = b) : Ending.returned (.bool a) = .returned (.bool b) := by rw [h]
structure Dv where
  size : Nat
  secs : List (ByteArray × Bool)
  cache : List (Nat × ByteArray)
  dead : Bool
  off : Bool
  fuse : Nat
  lose : Nat
  stray : Nat
  tgt : Int
  nr : Int
  nw : Int
  nf : Int
def Dv.n (D : Dv) : Nat := D.secs.length
structure Dv.Ok (D : Dv) : Prop where
  n8 : 8 ≤ D.n
  n4096 : D.n ≤ 4096
  s128 : 128 ≤ D.size
  s1024 : D.size ≤ 1024
  media : ∀ x ∈ D.secs, x.1.size = D.size
  text : ∀ x ∈ D.cache, x.2.size = D.size
  sector : ∀ x ∈ D.cache, x.1 < D.n
  fuse : D.fuse ≤ 9223372036854775807
  lose : D.lose ≤ 9223372036854775807
  stray : D.stray ≤ 9223372036854775807

def flatS (l : List (ByteArray × Bool)) : List Value := l.flatMap fun x => [.string x.1, .bool x.2]
def flatW (l : List (Nat × ByteArray)) : List Value := l.flatMap fun x => [.int .i64 (x.1 : Nat), .string x.2]
theorem flat2_len {α : Type} (f g : α → Value) (l : List α) : (l.flatMap fun x => [f x, g x]).length = l.length * 2 := by
  induction l with
  | nil => rfl
  | cons x l ih => rw [List.flatMap_cons, List.length_append, ih, List.length_cons]; simp; omega
theorem flat2_get0 {α : Type} (f g : α → Value) : ∀ (l : List α) (i : Nat), (l.flatMap fun x => [f x, g x])[i * 2]? = l[i]?.map f
  | [], i => by simp
  | x :: l, 0 => by simp
  | x :: l, i + 1 => by
    rw [List.flatMap_cons, List.getElem?_append_right (by simp; omega)]
    have := flat2_get0 f g l i
    simp only [List.length_cons, List.length_nil, List.getElem?_cons_succ]
    rw [← this]; congr 1; omega
theorem flat2_get1 {α : Type} (f g : α → Value) : ∀ (l : List α) (i : Nat), (l.flatMap fun x => [f x, g x])[i * 2 + 1]? = l[i]?.map g
  | [], i => by simp
  | x :: l, 0 => by simp
  | x :: l, i + 1 => by
    rw [List.flatMap_cons, List.getElem?_append_right (by simp; omega)]
    have := flat2_get1 f g l i
    simp only [List.length_cons, List.length_nil, List.getElem?_cons_succ]
    rw [← this]; congr 1; omega
theorem flat2_ext {α : Type} (f g : α → Value) (l : List α) (xs : List Value) (hl : xs.length = l.length * 2) (h0 : ∀ i, i < l.length → xs[i * 2]? = l[i]?.map f) (h1 : ∀ i, i < l.length → xs[i * 2 + 1]? = l[i]?.map g) :
    xs = l.flatMap fun x => [f x, g x] := by
  apply List.ext_getElem?
  intro j
  by_cases hj : j < l.length * 2
  · rcases Nat.mod_two_eq_zero_or_one j with h | h
    · obtain ⟨i, rfl⟩ : ∃ i, j = i * 2 := ⟨j / 2, by omega⟩
      rw [flat2_get0, h0 i (by omega)]
    · obtain ⟨i, rfl⟩ : ∃ i, j = i * 2 + 1 := ⟨j / 2, by omega⟩
      rw [flat2_get1, h1 i (by omega)]
  · rw [List.getElem?_eq_none (by omega), List.getElem?_eq_none (by rw [flat2_len]; omega)]
theorem flat2_set0 {α : Type} (f g : α → Value) (l : List α) (i : Nat) (x : α) (v : Value) (hx : l[i]?.map g = some (g x)) (hv : v = f x) :
    (l.flatMap fun x => [f x, g x]).set (i * 2) v = (l.set i x).flatMap fun x => [f x, g x] := by
  have hi : i < l.length := by
    rcases Nat.lt_or_ge i l.length with h | h
    · exact h
    · rw [List.getElem?_eq_none h] at hx; cases hx
  apply flat2_ext
  · rw [List.length_set, List.length_set, flat2_len]
  · intro j hj
    rw [List.length_set] at hj
    by_cases e : i = j
    · subst e; rw [List.getElem?_set_self (by rw [flat2_len]; omega), List.getElem?_set_self hi, hv]; rfl
    · rw [List.getElem?_set_ne (by omega), List.getElem?_set_ne e, flat2_get0]
  · intro j hj
    rw [List.length_set] at hj
    rw [List.getElem?_set_ne (by omega), flat2_get1]
    by_cases e : i = j
    · subst e; rw [List.getElem?_set_self hi, hx]; rfl
    · rw [List.getElem?_set_ne e]
theorem flat2_set1 {α : Type} (f g : α → Value) (l : List α) (i : Nat) (x : α) (v : Value) (hx : l[i]?.map f = some (f x)) (hv : v = g x) :
    (l.flatMap fun x => [f x, g x]).set (i * 2 + 1) v = (l.set i x).flatMap fun x => [f x, g x] := by
  have hi : i < l.length := by
    rcases Nat.lt_or_ge i l.length with h | h
    · exact h
    · rw [List.getElem?_eq_none h] at hx; cases hx
  apply flat2_ext
  · rw [List.length_set, List.length_set, flat2_len]
  · intro j hj
    rw [List.length_set] at hj
    rw [List.getElem?_set_ne (by omega), flat2_get0]
    by_cases e : i = j
    · subst e; rw [List.getElem?_set_self hi, hx]; rfl
    · rw [List.getElem?_set_ne e]
  · intro j hj
    rw [List.length_set] at hj
    by_cases e : i = j
    · subst e; rw [List.getElem?_set_self (by rw [flat2_len]; omega), List.getElem?_set_self hi, hv]; rfl
    · rw [List.getElem?_set_ne (by omega), List.getElem?_set_ne e, flat2_get1]

def Dv.cells (D : Dv) (sb : Nat) (cv : Value) : List Value :=
  [.int .i64 D.n, .int .i64 D.size, .slice (some ⟨sb, 0, none⟩) D.n D.n, cv, .bool D.dead, .bool D.off, .int .i64 D.fuse, .int .i64 D.lose, .int .i64 D.stray, .int .i64 D.tgt, .int .i64 D.nr, .int .i64 D.nw, .int .i64 D.nf]

/-- The device D stands at block p, its sectors at sb; cv is its cache. -/
structure DevAt (w : World) (p sb : Nat) (cv : Value) (D : Dv) : Prop where
  main : Has w p 70 (D.cells sb cv)
  secs : Has w sb 63 (flatS D.secs)
  cache : w.ownsRow 0 76 2 cv D.cache.length (flatW D.cache)
  ps : p ≠ sb
  cp : cv.ownBlock ≠ some p
  cs : cv.ownBlock ≠ some sb
  ok : D.Ok
/-- The blocks that it has. -/
def foot (p sb : Nat) (cv : Value) : Nat → Prop := fun k => k = p ∨ k = sb ∨ cv.ownBlock = some k
section
variable {w w' : World} {p sb : Nat} {cv : Value} {D : Dv}
theorem DevAt.same (h : DevAt w p sb cv D) (hk : ∀ k, foot p sb cv k → w'.heap[k]? = w.heap[k]?) : DevAt w' p sb cv D :=
  ⟨h.main.same (hk p (.inl rfl)), h.secs.same (hk sb (.inr (.inl rfl))), owns_same h.cache fun k e => hk k (.inr (.inr e)), h.ps, h.cp, h.cs, h.ok⟩
theorem DevAt.lt (h : DevAt w p sb cv D) : ∀ k, foot p sb cv k → k < w.heap.size := by
  rintro k (rfl | rfl | e)
  · exact h.main.lt
  · exact h.secs.lt
  · exact (h.cache.lt k e).2
theorem DevAt.chg {R : Nat → Prop} (h : DevAt w p sb cv D) (hc : Chg R w w') (hr : ∀ k, foot p sb cv k → ¬ R k) : DevAt w' p sb cv D :=
  h.same fun k hk => hc.block k (h.lt k hk) (hr k hk)
theorem DevAt.below {B : Nat} (h : DevAt w p sb cv D) (hb : Below B w w') (hB : w.heap.size ≤ B) : DevAt w' p sb cv D :=
  h.same fun k hk => hb.block k (by have := h.lt k hk; omega)
theorem DevAt.alloc (h : DevAt w p sb cv D) (o : Obj) : DevAt (w.alloc o) p sb cv D := h.below ((Below.refl _ _).alloc (Nat.le_refl _) o) (Nat.le_refl _)
theorem DevAt.drew (h : DevAt w p sb cv D) : DevAt w.drew p sb cv D := h.same fun _ _ => rfl
theorem DevAt.drewN (h : DevAt w p sb cv D) (n : Nat) : DevAt (w.drewN n) p sb cv D := h.same fun _ _ => rfl
theorem DevAt.cell (h : DevAt w p sb cv D) (i : Nat) : w.cell? ⟨p, i, none⟩ = (D.cells sb cv)[i]? := h.main.cell i
theorem DevAt.c0 (h : DevAt w p sb cv D) : w.cell? ⟨p, 0, none⟩ = some (.int .i64 D.n) := h.cell 0
theorem DevAt.c1 (h : DevAt w p sb cv D) : w.cell? ⟨p, 1, none⟩ = some (.int .i64 D.size) := h.cell 1
theorem DevAt.c2 (h : DevAt w p sb cv D) : w.cell? ⟨p, 2, none⟩ = some (.slice (some ⟨sb, 0, none⟩) D.n D.n) := h.cell 2
theorem DevAt.c3 (h : DevAt w p sb cv D) : w.cell? ⟨p, 3, none⟩ = some cv := h.cell 3
theorem DevAt.c4 (h : DevAt w p sb cv D) : w.cell? ⟨p, 4, none⟩ = some (.bool D.dead) := h.cell 4
theorem DevAt.c5 (h : DevAt w p sb cv D) : w.cell? ⟨p, 5, none⟩ = some (.bool D.off) := h.cell 5
theorem DevAt.c6 (h : DevAt w p sb cv D) : w.cell? ⟨p, 6, none⟩ = some (.int .i64 D.fuse) := h.cell 6
theorem DevAt.c7 (h : DevAt w p sb cv D) : w.cell? ⟨p, 7, none⟩ = some (.int .i64 D.lose) := h.cell 7
theorem DevAt.c8 (h : DevAt w p sb cv D) : w.cell? ⟨p, 8, none⟩ = some (.int .i64 D.stray) := h.cell 8
theorem DevAt.c9 (h : DevAt w p sb cv D) : w.cell? ⟨p, 9, none⟩ = some (.int .i64 D.tgt) := h.cell 9
theorem DevAt.c10 (h : DevAt w p sb cv D) : w.cell? ⟨p, 10, none⟩ = some (.int .i64 D.nr) := h.cell 10
theorem DevAt.c11 (h : DevAt w p sb cv D) : w.cell? ⟨p, 11, none⟩ = some (.int .i64 D.nw) := h.cell 11
theorem DevAt.c12 (h : DevAt w p sb cv D) : w.cell? ⟨p, 12, none⟩ = some (.int .i64 D.nf) := h.cell 12
theorem DevAt.fz (h : DevAt w p sb cv D) (i : Nat) : w.frozen? ⟨p, i, none⟩ = false := h.main.frozen i
theorem DevAt.media (h : DevAt w p sb cv D) (i : Nat) (hi : i < D.n) : w.cell? ⟨sb, i * 2, none⟩ = some (.string (D.secs[i]'hi).1) := by
  rw [h.secs.cell, flatS, flat2_get0 (fun x : ByteArray × Bool => Value.string x.1) (fun x => Value.bool x.2), List.getElem?_eq_getElem hi]; rfl
theorem DevAt.bad (h : DevAt w p sb cv D) (i : Nat) (hi : i < D.n) : w.cell? ⟨sb, i * 2 + 1, none⟩ = some (.bool (D.secs[i]'hi).2) := by
  rw [h.secs.cell, flatS, flat2_get1 (fun x : ByteArray × Bool => Value.string x.1) (fun x => Value.bool x.2), List.getElem?_eq_getElem hi]; rfl
theorem DevAt.sfz (h : DevAt w p sb cv D) (i : Nat) : w.frozen? ⟨sb, i, none⟩ = false := h.secs.frozen i
/-- one field is another one -/
theorem DevAt.set (h : DevAt w p sb cv D) (i : Nat) (v : Value) (D' : Dv) (hc : (D.cells sb cv).set i v = D'.cells sb cv) (hs : D'.secs = D.secs) (hw : D'.cache = D.cache) (ok : D'.Ok) : DevAt (w.setCell ⟨p, i, none⟩ v) p sb cv D' :=
  ⟨by rw [← hc]; exact h.main.set i v, by rw [hs]; exact h.secs.setOther h.ps v, by rw [hw]; exact owns_same h.cache fun k e => Below.heap_setCell _ _ _ _ (fun e' => h.cp (by rw [e]; exact congrArg some e')), h.ps, h.cp, h.cs, ok⟩
theorem DevAt.setMedia (h : DevAt w p sb cv D) (i : Nat) (hi : i < D.n) (t : ByteArray) (D' : Dv) (hD : D' = { D with secs := D.secs.set i (t, (D.secs[i]'hi).2) }) (ok : D'.Ok) : DevAt (w.setCell ⟨sb, i * 2, none⟩ (.string t)) p sb cv D' := by
  subst hD
  have hn : (D.secs.set i (t, (D.secs[i]'hi).2)).length = D.n := by rw [List.length_set]; rfl
  have hc : ∀ D2 : Dv, D2 = { D with secs := D.secs.set i (t, (D.secs[i]'hi).2) } → D2.cells sb cv = D.cells sb cv := by
    rintro D2 rfl
    have : Dv.n { D with secs := D.secs.set i (t, (D.secs[i]'hi).2) } = D.n := hn
    unfold Dv.cells; rw [this]
  refine ⟨?_, ?_, owns_same h.cache fun k e => Below.heap_setCell _ _ _ _ (fun e' => h.cs (by rw [e]; exact congrArg some e')), h.ps, h.cp, h.cs, ok⟩
  · rw [hc _ rfl]; exact h.main.setOther (fun e => h.ps e.symm) _
  · have := h.secs.set (i * 2) (.string t)
    unfold flatS at this ⊢
    rw [flat2_set0 (fun x : ByteArray × Bool => Value.string x.1) (fun x => Value.bool x.2) D.secs i (t, (D.secs[i]'hi).2) _ (by rw [List.getElem?_eq_getElem hi]; rfl) rfl] at this
    exact this
theorem DevAt.setBad (h : DevAt w p sb cv D) (i : Nat) (hi : i < D.n) (b : Bool) (D' : Dv) (hD : D' = { D with secs := D.secs.set i ((D.secs[i]'hi).1, b) }) (ok : D'.Ok) : DevAt (w.setCell ⟨sb, i * 2 + 1, none⟩ (.bool b)) p sb cv D' := by
  subst hD
  have hn : (D.secs.set i ((D.secs[i]'hi).1, b)).length = D.n := by rw [List.length_set]; rfl
  have hc : ∀ D2 : Dv, D2 = { D with secs := D.secs.set i ((D.secs[i]'hi).1, b) } → D2.cells sb cv = D.cells sb cv := by
    rintro D2 rfl
    have : Dv.n { D with secs := D.secs.set i ((D.secs[i]'hi).1, b) } = D.n := hn
    unfold Dv.cells; rw [this]
  refine ⟨?_, ?_, owns_same h.cache fun k e => Below.heap_setCell _ _ _ _ (fun e' => h.cs (by rw [e]; exact congrArg some e')), h.ps, h.cp, h.cs, ok⟩
  · rw [hc _ rfl]; exact h.main.setOther (fun e => h.ps e.symm) _
  · have := h.secs.set (i * 2 + 1) (.bool b)
    unfold flatS at this ⊢
    rw [flat2_set1 (fun x : ByteArray × Bool => Value.string x.1) (fun x => Value.bool x.2) D.secs i ((D.secs[i]'hi).1, b) _ (by rw [List.getElem?_eq_getElem hi]; rfl) rfl] at this
    exact this
theorem setCell_self {w : World} {a : Addr} {v : Value} (h : w.cell? a = some v) : w.setCell a v = w := by
  obtain ⟨heap, tape, drawn, os, output⟩ := w
  simp only [World.setCell, World.mk.injEq, and_self, and_true]
  apply Array.ext
  · simp
  · intro i h1 h2
    rw [Array.getElem_modify]
    split
    · rename_i e
      subst e
      simp only [World.cell?] at h
      split at h
      · rename_i c _ _ hh
        have hg : heap[a.block] = _ := Option.some.inj ((Array.getElem?_eq_getElem h2).symm.trans hh)
        rw [hg]
        simp only
        split
        · rfl
        · rename_i hs
          simp only [if_neg hs] at h
          congr 1
          apply Array.ext
          · simp
          · intro j h3 h4
            rw [Array.getElem_setIfInBounds (by simpa using h4)]
            split
            · rename_i e; subst e
              exact (Option.some.inj ((Array.getElem?_eq_getElem h4).symm.trans h)).symm
            · rfl
      · cases h
    · rfl
end
/-- does a countdown strike? -/
def stk (n : Nat) : Bool := decide (n = 1)
def Dv.blow (D : Dv) : Dv := { D with off := stk D.fuse, fuse := D.fuse - 1 }
def hasB (D : Dv) (i : Int) : Bool := decide (0 ≤ i ∧ i < D.n)
def refuse (D : Dv) : Int := if D.off then 6 else if D.dead then 8 else 0
def mediaN (D : Dv) (i : Int) : ByteArray := if hasB D i then ((D.secs[i.toNat]?).map (·.1)).getD ⟨#[]⟩ else ⟨#[]⟩
def keptN (f : Int) (size : Nat) : Nat := if f = 1 then size else if 2 ≤ f then min (f - 2).toNat (size - 1) else 0
def shapeR (n s : Int) : Bool := decide (8 ≤ n ∧ n ≤ 4096 ∧ 128 ≤ s ∧ s ≤ 1024 ∧ s % 64 = 0)
def badB (D : Dv) (i : Int) : Bool := ((D.secs[i.toNat]?).map (·.2)).getD false
def Dv.struck (D : Dv) : Dv := { D with lose := D.lose - 1, stray := D.stray - 1 }
/-- the first bytes of t, the others of m -/
def mixB (t m : ByteArray) (k : Nat) : ByteArray := t.extract 0 k ++ m.extract k m.size
theorem mixB_size (t m : ByteArray) (k : Nat) (h1 : t.size = m.size) (h2 : k ≤ m.size) : (mixB t m k).size = m.size := by
  unfold mixB; rw [ByteArray.size_append, ByteArray.size_extract, ByteArray.size_extract]; omega
def Dv.put (D : Dv) (i : Nat) (t : ByteArray) (k : Nat) : Dv := match D.secs[i]? with | some s => { D with secs := D.secs.set i (mixB t s.1 k, s.2) } | none => D
/-- where a write goes, and does it go anywhere? -/
def dest (D : Dv) (i : Int) : Int := if stk D.stray then D.tgt else i
def goes (D : Dv) (i : Int) : Bool := !stk D.lose && (hasB D (dest D i) && !badB D (dest D i))
theorem Dv.put_eq (D : Dv) (i : Nat) (t : ByteArray) (k : Nat) (hi : i < D.n) : D.put i t k = { D with secs := D.secs.set i (mixB t (D.secs[i]'hi).1 k, (D.secs[i]'hi).2) } := by
  unfold Dv.put; rw [List.getElem?_eq_getElem hi]
theorem Dv.put_ok (D : Dv) (ok : D.Ok) (i : Nat) (t : ByteArray) (k : Nat) (hi : i < D.n) (ht : t.size = D.size) (hk : k ≤ D.size) : (D.put i t k).Ok := by
  rw [D.put_eq i t k hi]
  have hn : (D.secs.set i (mixB t (D.secs[i]'hi).1 k, (D.secs[i]'hi).2)).length = D.n := by rw [List.length_set]; rfl
  have hm := ok.media _ (List.getElem_mem hi)
  refine ⟨?_, ?_, ok.s128, ok.s1024, ?_, ok.text, ?_, ok.fuse, ok.lose, ok.stray⟩
  · show 8 ≤ List.length _; rw [hn]; exact ok.n8
  · show List.length _ ≤ 4096; rw [hn]; exact ok.n4096
  · intro x hx
    rcases List.mem_or_eq_of_mem_set hx with hx | hx
    · exact ok.media x hx
    · subst hx; simp only; rw [mixB_size _ _ _ (by omega) (by omega), hm]
  · intro x hx; show x.1 < List.length _; rw [hn]; exact ok.sector x hx
/-- what a sector reads -/
def Dv.reads (D : Dv) (i : Nat) : ByteArray := match D.cache.reverse.find? (fun x => x.1 == i) with | some x => x.2 | none => ((D.secs[i]?).map (·.1)).getD ⟨#[]⟩
def bump (x : Int) : Int := wrap64 (x + 1)
def Dv.readE (D : Dv) (i : Int) : Int := if refuse D ≠ 0 then refuse D else if hasB D i = false then 3 else if badB D i then 7 else 0
def Dv.readT (D : Dv) (i : Int) : ByteArray := if D.readE i = 0 then D.reads i.toNat else ⟨#[]⟩
def Dv.readD (D : Dv) (i : Int) : Dv := if D.readE i = 0 then { D with nr := bump D.nr } else D
def Dv.writeE (D : Dv) (i : Int) (s : ByteArray) : Int := if refuse D ≠ 0 then refuse D else if hasB D i = false then 3 else if s.size ≠ D.size then 2 else if stk D.fuse then 6 else if badB D i then 7 else 0
def Dv.counted (D : Dv) : Dv := { D with nw := bump D.nw }
def Dv.push (D : Dv) (i : Int) (s : ByteArray) : Dv := { D with cache := D.cache ++ [(i.toNat, s)] }
def Dv.writeD (D : Dv) (i : Int) (s : ByteArray) : Dv :=
  if refuse D ≠ 0 ∨ hasB D i = false ∨ s.size ≠ D.size then D
  else if stk D.fuse ∨ badB D i then D.blow
  else if goes D.blow.counted i then D.blow.counted.struck.push (dest D.blow.counted i) s else D.blow.counted.struck
/-- The device D stands at block p, within the blocks R. -/
def Dev (w : World) (R : Nat → Prop) (p : Nat) (D : Dv) : Prop := ∃ sb cv, DevAt w p sb cv D ∧ (∀ k, foot p sb cv k → R k)
end Go.Proofs.Ytlnocdmechidfaa.Dev
