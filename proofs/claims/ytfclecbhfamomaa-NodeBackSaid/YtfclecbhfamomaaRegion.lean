/- A region that draws its order, where each operation's value has a description that later steps keep: each operation is looked at once, whatever the order. -/
import Derived.Orders
import Derived.Below
import Derived.KernelRfl
namespace Go.Proofs.Ytfclecbhfamomaa.Reg
open Go Go.RowKit

def dsts (ops : Array Oper) : List Tmp := ops.toList.filterMap (·.dst)
def dstOf (ops : Array Oper) (j : Nat) : Option Tmp := (ops[j]?).bind (·.dst)
/-- the slots of the operations that must have come up before o -/
def deps (ops : Array Oper) (o : Oper) : List Tmp := o.after.toList.filterMap fun e => if Region.binds .any e then dstOf ops e.on else none
/-- edges point backward; slots are apart, and lie in the frame; a guard waits for what it looks at -/
def okOps (n : Nat) (ops : Array Oper) : Bool :=
  ((List.range ops.size).all fun i => match ops[i]? with
    | none => true
    | some o => (o.after.toList.all fun e => decide (e.on < i) || !Region.binds .any e) && (match o.guard with | none => true | some (j, _) => match dstOf ops j with | some d => (deps ops o).contains d && decide (d < n) | none => false)) &&
  (dsts ops).all (fun d => decide (d < n)) && decide (dsts ops).Nodup
def guards (ops : Array Oper) : List (Tmp × Bool) := ops.toList.filterMap fun o => match o.guard with | some (j, b) => (dstOf ops j).map fun d => (d, b) | none => none

section
variable {P : Program} {ops : Array Oper} {Q : Exit → Act → World → Prop}

structure St (ops : Array Oper) (V : Tmp → Value → World → Prop) (Inv : World → Prop) (a0 : Act) (listed : Array Bool) (a : Act) (w : World) : Prop where
  size : a.tmps.size = a0.tmps.size
  defers : a.defers = a0.defers
  inv : Inv w
  lsize : listed.size = ops.size
  val : ∀ i d, dstOf ops i = some d → listed.getD i false = true → V d (a.tmps.getD d undef) w
  out : ∀ t, (dsts ops).contains t = false → a.tmps.getD t undef = a0.tmps.getD t undef

/-- what is to be shown of one operation -/
def Step (P : Program) (ops : Array Oper) (Q : Exit → Act → World → Prop) (V : Tmp → Value → World → Prop) (Inv : World → Prop) (a0 : Act) (o : Oper) : Prop :=
  ∀ (a : Act) (w : World), Inv w → (∀ t, (deps ops o).contains t = true → V t (a.tmps.getD t undef) w) → (∀ t, (dsts ops).contains t = false → a.tmps.getD t undef = a0.tmps.getD t undef) →
    Oper.wp P o a w (fun a' w' => ∃ v, a' = a.put o.dst v ∧ (∀ d, o.dst = some d → V d v w') ∧ Inv w' ∧ Below w.heap.size w w') Q
/-- of all of them, one by one -/
def Steps (P : Program) (ops : Array Oper) (Q : Exit → Act → World → Prop) (V : Tmp → Value → World → Prop) (Inv : World → Prop) (a0 : Act) : List Oper → Prop
  | [] => True
  | o :: l => Step P ops Q V Inv a0 o ∧ Steps P ops Q V Inv a0 l
theorem Steps.mem {V : Tmp → Value → World → Prop} {Inv : World → Prop} {a0 : Act} {l : List Oper} (h : Steps P ops Q V Inv a0 l) : ∀ o ∈ l, Step P ops Q V Inv a0 o := by
  induction l with
  | nil => intro o ho; cases ho
  | cons x l ih =>
    intro o ho
    rcases List.mem_cons.1 ho with rfl | ho
    · exact h.1
    · exact ih h.2 o ho

theorem okOps_back {n : Nat} (h : okOps n ops = true) {i : Nat} {o : Oper} (ho : ops[i]? = some o) : (∀ e ∈ o.after, Region.binds .any e = true → e.on < i) ∧
    (∀ j b, o.guard = some (j, b) → ∃ d, dstOf ops j = some d ∧ (deps ops o).contains d = true ∧ d < n) := by
  unfold okOps at h
  simp only [Bool.and_eq_true, List.all_eq_true] at h
  have hi : i ∈ List.range ops.size := List.mem_range.2 (Array.getElem?_eq_some_iff.1 ho).1
  have h1 := h.1.1 i hi
  simp only [ho, Bool.and_eq_true, List.all_eq_true] at h1
  refine ⟨fun e he hb => by have := h1.1 e (by simpa using he); rw [hb] at this; simpa using this, fun j b hg => ?_⟩
  have h2 := h1.2
  rw [hg] at h2
  simp only at h2
  cases hd : dstOf ops j with
  | none => rw [hd] at h2; cases h2
  | some d => rw [hd] at h2; simp only [Bool.and_eq_true, decide_eq_true_eq] at h2; exact ⟨d, rfl, h2.1, h2.2⟩
theorem okOps_lt {n : Nat} (h : okOps n ops = true) {d : Tmp} (hd : d ∈ dsts ops) : d < n := by
  unfold okOps at h
  simp only [Bool.and_eq_true, List.all_eq_true] at h
  simpa using h.1.2 d hd
theorem filterMap_nodup {α β : Type} (f : α → Option β) : ∀ (l : List α), (l.filterMap f).Nodup → ∀ (i j : Nat) (x y : α) (d : β), l[i]? = some x → l[j]? = some y → f x = some d → f y = some d → i = j
  | [], _, i, j, x, y, d, hi, _, _, _ => by simp at hi
  | z :: l, hn, i, j, x, y, d, hi, hj, hx, hy => by
    have hmem : ∀ (k : Nat) (u : α), l[k]? = some u → f u = some d → d ∈ l.filterMap f := fun k u hk hu => List.mem_filterMap.2 ⟨u, List.mem_of_getElem? hk, hu⟩
    cases i with
    | zero =>
      cases j with
      | zero => rfl
      | succ j =>
        simp only [List.getElem?_cons_zero, Option.some.injEq] at hi
        subst hi
        rw [List.filterMap_cons_some hx, List.nodup_cons] at hn
        exact absurd (hmem j y (by simpa using hj) hy) hn.1
    | succ i =>
      cases j with
      | zero =>
        simp only [List.getElem?_cons_zero, Option.some.injEq] at hj
        subst hj
        rw [List.filterMap_cons_some hy, List.nodup_cons] at hn
        exact absurd (hmem i x (by simpa using hi) hx) hn.1
      | succ j =>
        have hn' : (l.filterMap f).Nodup := by
          cases hz : f z with
          | none => rwa [List.filterMap_cons_none hz] at hn
          | some b => rw [List.filterMap_cons_some hz, List.nodup_cons] at hn; exact hn.2
        rw [filterMap_nodup f l hn' i j x y d (by simpa using hi) (by simpa using hj) hx hy]
theorem okOps_inj {n : Nat} (h : okOps n ops = true) {i j : Nat} {d : Tmp} (hi : dstOf ops i = some d) (hj : dstOf ops j = some d) : i = j := by
  unfold okOps at h
  simp only [Bool.and_eq_true] at h
  have hn : (dsts ops).Nodup := by simpa using h.2
  unfold dstOf at hi hj
  obtain ⟨x, hx, hxd⟩ := Option.bind_eq_some_iff.1 hi
  obtain ⟨y, hy, hyd⟩ := Option.bind_eq_some_iff.1 hj
  exact filterMap_nodup (fun o : Oper => o.dst) ops.toList hn i j x y d (by simpa using hx) (by simpa using hy) hxd hyd
theorem dstOf_mem {i : Nat} {d : Tmp} (h : dstOf ops i = some d) : d ∈ dsts ops := by
  unfold dstOf at h
  obtain ⟨x, hx, hxd⟩ := Option.bind_eq_some_iff.1 h
  exact List.mem_filterMap.2 ⟨x, by have := Array.mem_of_getElem? hx; simpa using this, hxd⟩
theorem getD_put (a : Act) (d t : Tmp) (v : Value) (hd : d < a.tmps.size) : (a.put (some d) v).tmps.getD t undef = if d = t then v else a.tmps.getD t undef := by
  simp only [Act.put, Array.getD_eq_getD_getElem?, Array.getElem?_setIfInBounds]
  by_cases e : d = t
  · subst e; simp [hd]
  · simp [e]
theorem size_put (a : Act) (d : Option Tmp) (v : Value) : (a.put d v).tmps.size = a.tmps.size := by
  unfold Act.put; split <;> simp
theorem defers_put (a : Act) (d : Option Tmp) (v : Value) : (a.put d v).defers = a.defers := by
  unfold Act.put; split <;> rfl
theorem getD_listed (l : Array Bool) (i j : Nat) (hi : i < l.size) : (l.setIfInBounds i true).getD j false = if i = j then true else l.getD j false := by
  simp only [Array.getD_eq_getD_getElem?, Array.getElem?_setIfInBounds]
  by_cases e : i = j
  · subst e; simp [hi]
  · simp [e]

/-- how many have not come up yet -/
def left (l : Array Bool) : Nat := l.toList.countP (! ·)
theorem left_set (l : Array Bool) (i : Nat) (hi : l.getD i true = false) : left (l.setIfInBounds i true) + 1 = left l := by
  unfold left
  have hlt : i < l.size := by
    rcases Nat.lt_or_ge i l.size with h | h
    · exact h
    · rw [Array.getD_eq_getD_getElem?, Array.getElem?_eq_none h] at hi; cases hi
  have hv : l.toList[i]'(by simpa using hlt) = false := by
    rw [Array.getD_eq_getD_getElem?, Array.getElem?_eq_getElem hlt] at hi
    simpa using hi
  rw [Array.toList_setIfInBounds]
  have := List.countP_set (p := fun b => !b) (l := l.toList) (i := i) (a := true) (by simpa using hlt)
  rw [this]
  have hpos : 0 < l.toList.countP (fun b => !b) := List.countP_pos_iff.2 ⟨false, by rw [← hv]; exact List.getElem_mem _, rfl⟩
  have e1 : (if (!l.toList[i]'(by simpa using hlt)) = true then 1 else 0) = 1 := by rw [hv]; rfl
  have e2 : (if (!true) = true then 1 else 0) = 0 := rfl
  rw [e1, e2]
  omega
theorem ready_nil {n : Nat} (h : okOps n ops = true) {listed : Array Bool} (hs : listed.size = ops.size) (hr : Region.ready .any ops listed = []) : ∀ i, i < ops.size → listed.getD i false = true := by
  intro i
  induction i using Nat.strongRecOn with
  | ind i ih =>
    intro hi
    cases hl : listed.getD i true with
    | true =>
      rw [Array.getD_eq_getD_getElem?, Array.getElem?_eq_getElem (by omega)] at hl ⊢
      simpa using hl
    | false =>
      have hm : i ∈ Region.ready .any ops listed := mem_ready.2 ⟨hl, ops[i], Array.getElem?_eq_getElem hi, fun e he hb => by
        have hlt := (okOps_back h (Array.getElem?_eq_getElem hi)).1 e he hb
        exact ih e.on hlt (by omega)⟩
      rw [hr] at hm; cases hm

theorem wpAny_specs (V : Tmp → Value → World → Prop) (Inv : World → Prop) (a0 : Act) (hok : okOps a0.tmps.size ops = true)
    (hV : ∀ t v w w', V t v w → Below w.heap.size w w' → V t v w')
    (hg : ∀ p ∈ guards ops, ∀ v w, V p.1 v w → v = .bool p.2)
    (hstep : Steps P ops Q V Inv a0 ops.toList)
    (hend : ∀ (a : Act) (w : World), a.tmps.size = a0.tmps.size → a.defers = a0.defers → Inv w → (∀ t, (dsts ops).contains t = true → V t (a.tmps.getD t undef) w) →
      (∀ t, (dsts ops).contains t = false → a.tmps.getD t undef = a0.tmps.getD t undef) → Q .normal a w) :
    ∀ (fuel : Nat) (listed : Array Bool) (a : Act) (w : World), left listed ≤ fuel → St ops V Inv a0 listed a w → wpAny P .any ops Q fuel listed a w := by
  have hfin : ∀ (listed : Array Bool) (a : Act) (w : World), St ops V Inv a0 listed a w → Region.ready .any ops listed = [] → Q .normal a w := by
    intro listed a w hst hr
    refine hend a w hst.size hst.defers hst.inv (fun t ht => ?_) hst.out
    have hm : t ∈ dsts ops := by simpa using ht
    obtain ⟨o, ho, hod⟩ := List.mem_filterMap.1 hm
    obtain ⟨i, hi, hio⟩ := List.mem_iff_getElem.1 ho
    have hio' : ops[i]? = some o := by rw [Array.getElem?_eq_getElem (by simpa using hi)]; simpa using hio
    exact hst.val i t (by unfold dstOf; rw [hio']; exact hod) (ready_nil hok hst.lsize hr i (by simpa using hi))
  intro fuel
  induction fuel with
  | zero =>
    intro listed a w hf hst
    have hr : Region.ready .any ops listed = [] := by
      cases h : Region.ready .any ops listed with
      | nil => rfl
      | cons i l =>
        have hi : i ∈ Region.ready .any ops listed := by rw [h]; exact List.mem_cons_self
        have := left_set listed i (mem_ready.1 hi).1
        omega
    exact ⟨hr, hfin listed a w hst hr⟩
  | succ fuel ih =>
    intro listed a w hf hst
    refine ⟨hfin listed a w hst, fun i hi => ?_⟩
    obtain ⟨hun, o, ho, hall⟩ := mem_ready.1 hi
    have hlt : i < ops.size := (Array.getElem?_eq_some_iff.1 ho).1
    have hmem : o ∈ ops.toList := by have := Array.mem_of_getElem? ho; simpa using this
    have hdep : ∀ t, (deps ops o).contains t = true → V t (a.tmps.getD t undef) w := by
      intro t ht
      have hm : t ∈ deps ops o := by simpa using ht
      obtain ⟨e, he, het⟩ := List.mem_filterMap.1 hm
      by_cases hbn : Region.binds .any e = true
      · rw [if_pos hbn] at het
        exact hst.val e.on t het (hall e (by simpa using he) hbn)
      · rw [if_neg hbn] at het; cases het
    have hw : Region.wanted o (yielded ops a.tmps) = true := by
      unfold Region.wanted
      cases hgd : o.guard with
      | none => rfl
      | some p =>
        obtain ⟨j, b⟩ := p
        obtain ⟨d, hd, hdc, hdn⟩ := (okOps_back hok ho).2 j b hgd
        have hv := hg (d, b) (List.mem_filterMap.2 ⟨o, hmem, by rw [hgd]; simp [hd]⟩) _ _ (hdep d hdc)
        have hsz : d < a.tmps.size := by rw [hst.size]; exact hdn
        have hs : a.tmps[d]? = some (.bool b) := by
          rw [Array.getElem?_eq_getElem hsz]
          rw [Array.getD_eq_getD_getElem?, Array.getElem?_eq_getElem hsz] at hv
          simpa using hv
        unfold dstOf at hd
        simp [yielded, hd, hs]
    have hstp := hstep.mem o hmem a w hst.inv hdep hst.out
    unfold wpOp
    simp only [ho]
    rw [if_pos hw]
    refine .inl (Oper.wp_mono (fun a' w' hk => ?_) hstp)
    obtain ⟨v, rfl, hv, hinv, hb⟩ := hk
    refine ih _ _ _ (by have := left_set listed i hun; omega) ⟨by rw [size_put]; exact hst.size, by rw [defers_put]; exact hst.defers, hinv, by simpa using hst.lsize, fun k d hk hl => ?_, fun t ht => ?_⟩
    · rw [getD_listed _ _ _ (by rw [hst.lsize]; exact hlt)] at hl
      cases hod : o.dst with
      | none =>
        by_cases e : i = k
        · subst e; unfold dstOf at hk; rw [ho] at hk; simp [hod] at hk
        · rw [if_neg e] at hl; exact hV _ _ _ _ (hst.val k d hk hl) hb
      | some c =>
        have hc : dstOf ops i = some c := by unfold dstOf; rw [ho]; exact hod
        have hcs : c < a.tmps.size := by rw [hst.size]; exact okOps_lt hok (dstOf_mem hc)
        rw [getD_put _ _ _ _ hcs]
        by_cases e : i = k
        · subst e
          rw [hc] at hk; cases hk
          rw [if_pos rfl]; exact hv _ hod
        · rw [if_neg e] at hl
          have : ¬ c = d := fun h => e (okOps_inj hok hc (by rw [h]; exact hk))
          rw [if_neg this]
          exact hV _ _ _ _ (hst.val k d hk hl) hb
    · cases hod : o.dst with
      | none => exact hst.out t ht
      | some c =>
        have hc : dstOf ops i = some c := by unfold dstOf; rw [ho]; exact hod
        have hcs : c < a.tmps.size := by rw [hst.size]; exact okOps_lt hok (dstOf_mem hc)
        rw [getD_put _ _ _ _ hcs, if_neg (fun h => ?_)]
        · exact hst.out t ht
        · subst h; have := dstOf_mem hc; simp at ht; exact ht this

theorem left_all (n : Nat) : left (Array.replicate n false) = n := by
  unfold left
  rw [Array.toList_replicate, List.countP_replicate]; simp
/-- The law: whatever the order. -/
theorem region_specs {id : Nat} {a0 : Act} {w : World} (hm : P.follows .mixedOrders = true) (V : Tmp → Value → World → Prop) (Inv : World → Prop) (hok : okOps a0.tmps.size ops = true)
    (hV : ∀ t v w w', V t v w → Below w.heap.size w w' → V t v w')
    (hg : ∀ p ∈ guards ops, ∀ v w, V p.1 v w → v = .bool p.2)
    (h0 : Inv w.drew)
    (hstep : Steps P ops Q V Inv a0 ops.toList)
    (hend : ∀ (a : Act) (w : World), a.tmps.size = a0.tmps.size → a.defers = a0.defers → Inv w → (∀ t, (dsts ops).contains t = true → V t (a.tmps.getD t undef) w) →
      (∀ t, (dsts ops).contains t = false → a.tmps.getD t undef = a0.tmps.getD t undef) → Q .normal a w) :
    (Code.region id ops true).wp P Q a0 w :=
  wp_region_any hm (wpAny_specs V Inv a0 hok hV hg hstep hend _ _ _ _ (by rw [left_all]; exact Nat.le_refl _)
    ⟨rfl, rfl, h0, by simp, fun i d _ h => by
      rw [Array.getD_eq_getD_getElem?] at h
      by_cases hi : i < ops.size
      · simp [hi] at h
      · simp [Array.getElem?_eq_none (by simpa using hi : (Array.replicate ops.size false).size ≤ i)] at h, fun _ _ => rfl⟩)

/-! ### descriptions: a value, or a property that lasts -/
structure Sp where
  fixed : Option Value
  p : Value → World → Prop
  lasts : ∀ v w w', p v w → Below w.heap.size w w' → p v w'
  eq : ∀ x, fixed = some x → ∀ v w, p v w → v = x
def Sp.val (x : Value) : Sp := ⟨some x, fun v _ => v = x, fun _ _ _ h _ => h, fun y hy v _ h => by cases hy; exact h⟩
def Sp.that (p : Value → World → Prop) (hp : ∀ v w w', p v w → Below w.heap.size w w' → p v w') : Sp := ⟨none, p, hp, fun _ hy => by cases hy⟩
def VS (l : List (Tmp × Sp)) (t : Tmp) (v : Value) (w : World) : Prop :=
  match l.lookup t with
  | some s => s.p v w
  | none => True
theorem VS.lasts {l : List (Tmp × Sp)} (t : Tmp) (v : Value) (w w' : World) (h : VS l t v w) (hb : Below w.heap.size w w') : VS l t v w' := by
  unfold VS at h ⊢
  split at h
  · rename_i s _; exact s.lasts _ _ _ h hb
  · trivial
def guardsOk (l : List (Tmp × Sp)) (gs : List (Tmp × Bool)) : Bool := gs.all fun p => match (l.lookup p.1).bind (·.fixed) with | some (.bool b) => b == p.2 | _ => false
theorem guardsOk_spec {l : List (Tmp × Sp)} {gs : List (Tmp × Bool)} (h : guardsOk l gs = true) : ∀ p ∈ gs, ∀ v w, VS l p.1 v w → v = .bool p.2 := by
  intro p hp v w hv
  unfold guardsOk at h
  have := List.all_eq_true.1 h p hp
  unfold VS at hv
  split at this
  · rename_i b hl
    obtain ⟨s, hs, hf⟩ := Option.bind_eq_some_iff.1 hl
    rw [hs] at hv
    rw [s.eq _ hf v w hv, eq_of_beq this]
  · cases this
def VO (V : Tmp → Value → World → Prop) : Option Tmp → Value → World → Prop
  | some d, v, w => V d v w
  | none, _, _ => True
theorem VO.all {V : Tmp → Value → World → Prop} {o : Option Tmp} {v : Value} {w : World} (h : VO V o v w) : ∀ d, o = some d → V d v w := by
  intro d hd; subst hd; exact h
section
variable {V : Tmp → Value → World → Prop} {Inv : World → Prop} {o : Oper} {a : Act} {w : World}
theorem step_val (v : Value) (hr : (execOp a.eval o).run P w = .ok (.value v) w) (hv : VO V o.dst v w) (hI : Inv w) :
    Oper.wp P o a w (fun a' w' => ∃ v, a' = a.put o.dst v ∧ (∀ d, o.dst = some d → V d v w') ∧ Inv w' ∧ Below w.heap.size w w') Q := by
  unfold Oper.wp; rw [hr]; exact ⟨v, rfl, hv.all, hI, Below.refl _ _⟩
theorem step_move (x : Operand) (ho : o.op = .move x) (hv : VO V o.dst (a.eval x) w) (hI : Inv w) :
    Oper.wp P o a w (fun a' w' => ∃ v, a' = a.put o.dst v ∧ (∀ d, o.dst = some d → V d v w') ∧ Inv w' ∧ Below w.heap.size w w') Q :=
  step_val (a.eval x) (by unfold execOp; rw [ho]; rfl) hv hI
theorem step_assign (x : Operand) (ho : o.op = .assign x) (hv : VO V o.dst (a.eval x) w) (hI : Inv w) :
    Oper.wp P o a w (fun a' w' => ∃ v, a' = a.put o.dst v ∧ (∀ d, o.dst = some d → V d v w') ∧ Inv w' ∧ Below w.heap.size w w') Q :=
  step_val (a.eval x) (by unfold execOp; rw [ho]; rfl) hv hI
theorem step_new (v : Value) (ob : Obj) (hr : (execOp a.eval o).run P w = .ok (.value v) (w.alloc ob)) (hv : VO V o.dst v (w.alloc ob)) (hI : Inv (w.alloc ob)) :
    Oper.wp P o a w (fun a' w' => ∃ v, a' = a.put o.dst v ∧ (∀ d, o.dst = some d → V d v w') ∧ Inv w' ∧ Below w.heap.size w w') Q := by
  unfold Oper.wp; rw [hr]; exact ⟨v, rfl, hv.all, hI, (Below.refl _ _).alloc (Nat.le_refl _) _⟩
theorem step_call (f : FuncId) (args : Array Value) (hr : (execOp a.eval o).run P w = .ok (.enter f args) w)
    (hc : Calls P f args w fun e w' => ∃ v, e = .returned v ∧ VO V o.dst v w' ∧ Inv w' ∧ Below w.heap.size w w') :
    Oper.wp P o a w (fun a' w' => ∃ v, a' = a.put o.dst v ∧ (∀ d, o.dst = some d → V d v w') ∧ Inv w' ∧ Below w.heap.size w w') Q := by
  unfold Oper.wp; rw [hr]
  refine hc.mono ?_
  rintro e w' ⟨v, rfl, hv, hI, hb⟩
  exact ⟨v, rfl, hv.all, hI, hb⟩
end
end
end Go.Proofs.Ytfclecbhfamomaa.Reg
