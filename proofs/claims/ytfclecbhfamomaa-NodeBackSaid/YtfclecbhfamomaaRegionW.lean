/- A region that draws its order, and whose operations may write: each operation is looked at once, whatever the order. -/
import Derived.Test.YtfclecbhfamomaaRegion
import Derived.StillTailTactics
namespace Go.Proofs.Ytfclecbhfamomaa.Reg
open Go Go.RowKit
section
variable {P : Program} {ops : Array Oper} {Q : Exit → Act → World → Prop}

def lset (l : Nat → Bool) (i : Nat) : Nat → Bool := fun j => if i = j then true else l j
structure St2 (ops : Array Oper) (V : Tmp → Value → World → Prop) (Inv : (Nat → Bool) → World → Prop) (a0 : Act) (listed : Array Bool) (a : Act) (w : World) : Prop where
  size : a.tmps.size = a0.tmps.size
  defers : a.defers = a0.defers
  inv : Inv (fun j => listed.getD j false) w
  lsize : listed.size = ops.size
  val : ∀ i d, dstOf ops i = some d → listed.getD i false = true → V d (a.tmps.getD d undef) w
  out : ∀ t, (dsts ops).contains t = false → a.tmps.getD t undef = a0.tmps.getD t undef
  closed : ∀ i o, ops[i]? = some o → listed.getD i false = true → ∀ e ∈ o.after, Region.binds .any e = true → listed.getD e.on false = true
  old : ∀ i d, dstOf ops i = some d → listed.getD i false = false → a.tmps.getD d undef = a0.tmps.getD d undef

def Did (V : Tmp → Value → World → Prop) (Inv : (Nat → Bool) → World → Prop) (Rel : World → World → Prop) (l : Nat → Bool) (i : Nat) (o : Oper) (a : Act) (w : World) : Act → World → Prop :=
  fun a' w' => ∃ v, a' = a.put o.dst v ∧ (∀ d, o.dst = some d → V d v w') ∧ Inv (lset l i) w' ∧ Rel w w'
/-- what is to be shown of one operation: l tells which have come up; none that waits for this one has -/
def Step2 (P : Program) (ops : Array Oper) (Q : Exit → Act → World → Prop) (V : Tmp → Value → World → Prop) (Inv : (Nat → Bool) → World → Prop) (Rel : World → World → Prop) (a0 : Act) (i : Nat) (o : Oper) : Prop :=
  ∀ (a : Act) (w : World) (l : Nat → Bool), Inv l w → l i = false → (∀ j, Region.waitsFor .any ops i j = true → l j = true) →
    (∀ j, Region.waitsFor .any ops j i = true → l j = false) → (∀ j d, dstOf ops j = some d → l j = false → a.tmps.getD d undef = a0.tmps.getD d undef) →
    (∀ t, (deps ops o).contains t = true → V t (a.tmps.getD t undef) w) → (∀ t, (dsts ops).contains t = false → a.tmps.getD t undef = a0.tmps.getD t undef) →
    Oper.wp P o a w (Did V Inv Rel l i o a w) Q
/-- of all of them, one by one -/
def Steps2 (P : Program) (ops : Array Oper) (Q : Exit → Act → World → Prop) (V : Tmp → Value → World → Prop) (Inv : (Nat → Bool) → World → Prop) (Rel : World → World → Prop) (a0 : Act) : Nat → List Oper → Prop
  | _, [] => True
  | i, o :: l => Step2 P ops Q V Inv Rel a0 i o ∧ Steps2 P ops Q V Inv Rel a0 (i + 1) l
theorem Steps2.at {V : Tmp → Value → World → Prop} {Inv : (Nat → Bool) → World → Prop} {Rel : World → World → Prop} {a0 : Act} {l : List Oper} : ∀ {k : Nat}, Steps2 P ops Q V Inv Rel a0 k l → ∀ i o, l[i]? = some o → Step2 P ops Q V Inv Rel a0 (k + i) o := by
  induction l with
  | nil => intro k _ i o ho; simp at ho
  | cons x l ih =>
    intro k h i o ho
    cases i with
    | zero => simp at ho; subst ho; exact h.1
    | succ i => have := ih h.2 i o (by simpa using ho); rwa [show k + 1 + i = k + (i + 1) by omega] at this

theorem wpAny_specs2 (V : Tmp → Value → World → Prop) (Inv : (Nat → Bool) → World → Prop) (Rel : World → World → Prop) (a0 : Act) (hok : okOps a0.tmps.size ops = true)
    (hV : ∀ t v w w', V t v w → Rel w w' → V t v w')
    (hg : ∀ p ∈ guards ops, ∀ v w, V p.1 v w → v = .bool p.2)
    (hstep : Steps2 P ops Q V Inv Rel a0 0 ops.toList)
    (hend : ∀ (a : Act) (w : World), a.tmps.size = a0.tmps.size → a.defers = a0.defers → Inv (fun j => decide (j < ops.size)) w → (∀ t, (dsts ops).contains t = true → V t (a.tmps.getD t undef) w) →
      (∀ t, (dsts ops).contains t = false → a.tmps.getD t undef = a0.tmps.getD t undef) → Q .normal a w) :
    ∀ (fuel : Nat) (listed : Array Bool) (a : Act) (w : World), left listed ≤ fuel → St2 ops V Inv a0 listed a w → wpAny P .any ops Q fuel listed a w := by
  have hfin : ∀ (listed : Array Bool) (a : Act) (w : World), St2 ops V Inv a0 listed a w → Region.ready .any ops listed = [] → Q .normal a w := by
    intro listed a w hst hr
    have hall := ready_nil hok hst.lsize hr
    have hinv := hst.inv
    rw [show (fun j => listed.getD j false) = fun j => decide (j < ops.size) from funext fun j => by
      by_cases hj : j < ops.size
      · simp only [hj, decide_true]; exact hall j hj
      · rw [Array.getD_eq_getD_getElem?, Array.getElem?_eq_none (by rw [hst.lsize]; omega)]; simp [hj]] at hinv
    refine hend a w hst.size hst.defers hinv (fun t ht => ?_) hst.out
    have hm : t ∈ dsts ops := by simpa using ht
    obtain ⟨o, ho, hod⟩ := List.mem_filterMap.1 hm
    obtain ⟨i, hi, hio⟩ := List.mem_iff_getElem.1 ho
    have hio' : ops[i]? = some o := by rw [Array.getElem?_eq_getElem (by simpa using hi)]; simpa using hio
    exact hst.val i t (by unfold dstOf; rw [hio']; exact hod) (ready_nil hok hst.lsize hr i (by simpa using hi))
  intro fuel
  induction fuel with
  | zero =>
    intro listed a w hf hst
    have hr : Region.ready .any ops listed = [] := by
      cases h : Region.ready .any ops listed with
      | nil => rfl
      | cons i l =>
        have hi : i ∈ Region.ready .any ops listed := by rw [h]; exact List.mem_cons_self
        have := left_set listed i (mem_ready.1 hi).1
        omega
    exact ⟨hr, hfin listed a w hst hr⟩
  | succ fuel ih =>
    intro listed a w hf hst
    refine ⟨hfin listed a w hst, fun i hi => ?_⟩
    obtain ⟨hun, o, ho, hall⟩ := mem_ready.1 hi
    have hlt : i < ops.size := (Array.getElem?_eq_some_iff.1 ho).1
    have hmem : o ∈ ops.toList := by have := Array.mem_of_getElem? ho; simpa using this
    have hdep : ∀ t, (deps ops o).contains t = true → V t (a.tmps.getD t undef) w := by
      intro t ht
      have hm : t ∈ deps ops o := by simpa using ht
      obtain ⟨e, he, het⟩ := List.mem_filterMap.1 hm
      by_cases hbn : Region.binds .any e = true
      · rw [if_pos hbn] at het
        exact hst.val e.on t het (hall e (by simpa using he) hbn)
      · rw [if_neg hbn] at het; cases het
    have hw : Region.wanted o (yielded ops a.tmps) = true := by
      unfold Region.wanted
      cases hgd : o.guard with
      | none => rfl
      | some p =>
        obtain ⟨j, b⟩ := p
        obtain ⟨d, hd, hdc, hdn⟩ := (okOps_back hok ho).2 j b hgd
        have hv := hg (d, b) (List.mem_filterMap.2 ⟨o, hmem, by rw [hgd]; simp [hd]⟩) _ _ (hdep d hdc)
        have hsz : d < a.tmps.size := by rw [hst.size]; exact hdn
        have hs : a.tmps[d]? = some (.bool b) := by
          rw [Array.getElem?_eq_getElem hsz]
          rw [Array.getD_eq_getD_getElem?, Array.getElem?_eq_getElem hsz] at hv
          simpa using hv
        unfold dstOf at hd
        simp [yielded, hd, hs]
    have hunf : listed.getD i false = false := by
      have hlt' : i < listed.size := by rw [hst.lsize]; exact hlt
      rw [Array.getD_eq_getD_getElem?, Array.getElem?_eq_getElem hlt'] at hun ⊢
      simpa using hun
    have hstp := hstep.at i o (by simpa using ho)
    rw [Nat.zero_add] at hstp
    have hstp := hstp a w (fun j => listed.getD j false) hst.inv hunf (fun j hj => by
      obtain ⟨oj, hoj, e, he, hb, hei⟩ := Region.waitsFor_spec hj
      rw [ho] at hoj; cases hoj
      rw [← hei]; exact hall e he hb) (fun j hj => by
      obtain ⟨o', hoj, e, he, hb, hei⟩ := Region.waitsFor_spec hj
      cases hlj : listed.getD j false with
      | false => rfl
      | true => have := hst.closed j o' hoj hlj e he hb; rw [hei, hunf] at this; cases this) hst.old hdep hst.out
    unfold wpOp
    simp only [ho]
    rw [if_pos hw]
    refine .inl (Oper.wp_mono (fun a' w' hk => ?_) hstp)
    obtain ⟨v, rfl, hv, hinv, hb⟩ := hk
    refine ih _ _ _ (by have := left_set listed i hun; omega) ⟨by rw [size_put]; exact hst.size, by rw [defers_put]; exact hst.defers, by rw [show (fun j => (listed.setIfInBounds i true).getD j false) = lset (fun j => listed.getD j false) i from funext fun j => getD_listed _ _ _ (by rw [hst.lsize]; exact hlt)]; exact hinv, by simpa using hst.lsize, fun k d hk hl => ?_, fun t ht => ?_, fun k o' hk hl e he hbn => ?_, fun k d hk hl => ?_⟩
    · rw [getD_listed _ _ _ (by rw [hst.lsize]; exact hlt)] at hl
      cases hod : o.dst with
      | none =>
        by_cases e : i = k
        · subst e; unfold dstOf at hk; rw [ho] at hk; simp [hod] at hk
        · rw [if_neg e] at hl; exact hV _ _ _ _ (hst.val k d hk hl) hb
      | some c =>
        have hc : dstOf ops i = some c := by unfold dstOf; rw [ho]; exact hod
        have hcs : c < a.tmps.size := by rw [hst.size]; exact okOps_lt hok (dstOf_mem hc)
        rw [getD_put _ _ _ _ hcs]
        by_cases e : i = k
        · subst e
          rw [hc] at hk; cases hk
          rw [if_pos rfl]; exact hv _ hod
        · rw [if_neg e] at hl
          have : ¬ c = d := fun h => e (okOps_inj hok hc (by rw [h]; exact hk))
          rw [if_neg this]
          exact hV _ _ _ _ (hst.val k d hk hl) hb
    · cases hod : o.dst with
      | none => exact hst.out t ht
      | some c =>
        have hc : dstOf ops i = some c := by unfold dstOf; rw [ho]; exact hod
        have hcs : c < a.tmps.size := by rw [hst.size]; exact okOps_lt hok (dstOf_mem hc)
        rw [getD_put _ _ _ _ hcs, if_neg (fun h => ?_)]
        · exact hst.out t ht
        · subst h; have := dstOf_mem hc; simp at ht; exact ht this
    · rw [getD_listed _ _ _ (by rw [hst.lsize]; exact hlt)] at hl ⊢
      by_cases e1 : i = e.on
      · rw [if_pos e1]
      · rw [if_neg e1]
        by_cases e2 : i = k
        · subst e2; rw [ho] at hk; cases hk; exact hall e he hbn
        · rw [if_neg e2] at hl; exact hst.closed k o' hk hl e he hbn
    · rw [getD_listed _ _ _ (by rw [hst.lsize]; exact hlt)] at hl
      by_cases e1 : i = k
      · rw [if_pos e1] at hl; cases hl
      · rw [if_neg e1] at hl
        cases hod : o.dst with
        | none => exact hst.old k d hk hl
        | some c =>
          have hc : dstOf ops i = some c := by unfold dstOf; rw [ho]; exact hod
          have hcs : c < a.tmps.size := by rw [hst.size]; exact okOps_lt hok (dstOf_mem hc)
          rw [getD_put _ _ _ _ hcs, if_neg (fun h => ?_)]
          · exact hst.old k d hk hl
          · subst h; exact e1 (okOps_inj hok hc hk)

/-- The law: whatever the order. -/
theorem region_specs2 {id : Nat} {a0 : Act} {w : World} (hm : P.follows .mixedOrders = true) (V : Tmp → Value → World → Prop) (Inv : (Nat → Bool) → World → Prop) (Rel : World → World → Prop) (hok : okOps a0.tmps.size ops = true)
    (hV : ∀ t v w w', V t v w → Rel w w' → V t v w')
    (hg : ∀ p ∈ guards ops, ∀ v w, V p.1 v w → v = .bool p.2)
    (h0 : Inv (fun _ => false) w.drew)
    (hstep : Steps2 P ops Q V Inv Rel a0 0 ops.toList)
    (hend : ∀ (a : Act) (w : World), a.tmps.size = a0.tmps.size → a.defers = a0.defers → Inv (fun j => decide (j < ops.size)) w → (∀ t, (dsts ops).contains t = true → V t (a.tmps.getD t undef) w) →
      (∀ t, (dsts ops).contains t = false → a.tmps.getD t undef = a0.tmps.getD t undef) → Q .normal a w) :
    (Code.region id ops true).wp P Q a0 w :=
  wp_region_any hm (wpAny_specs2 V Inv Rel a0 hok hV hg hstep hend _ _ _ _ (by rw [left_all]; exact Nat.le_refl _)
    ⟨rfl, rfl, by rw [show (fun j => (Array.replicate ops.size false).getD j false) = fun _ => false from funext fun j => by simp [Array.getD_eq_getD_getElem?, Array.getElem?_replicate]; split <;> rfl]; exact h0, by simp, fun i d _ h => by
      rw [Array.getD_eq_getD_getElem?] at h
      by_cases hi : i < ops.size
      · simp [hi] at h
      · simp [Array.getElem?_eq_none (by simpa using hi : (Array.replicate ops.size false).size ≤ i)] at h, fun _ _ => rfl, fun i o _ h => by
      rw [Array.getD_eq_getD_getElem?] at h
      by_cases hi : i < ops.size
      · simp [hi] at h
      · simp [Array.getElem?_eq_none (by simpa using hi : (Array.replicate ops.size false).size ≤ i)] at h, fun _ _ _ _ => rfl⟩)


section
variable {V : Tmp → Value → World → Prop} {Inv : (Nat → Bool) → World → Prop} {Rel : World → World → Prop} {o : Oper} {a : Act} {w : World} {l : Nat → Bool} {i : Nat}
theorem step2_val (v : Value) (hr : (execOp a.eval o).run P w = .ok (.value v) w) (hv : VO V o.dst v w) (hI : Inv (lset l i) w) (hR : Rel w w) :
    Oper.wp P o a w (Did V Inv Rel l i o a w) Q := by
  unfold Oper.wp; rw [hr]; exact ⟨v, rfl, hv.all, hI, hR⟩
theorem step2_move (x : Operand) (ho : o.op = .move x) (hv : VO V o.dst (a.eval x) w) (hI : Inv (lset l i) w) (hR : Rel w w) :
    Oper.wp P o a w (Did V Inv Rel l i o a w) Q :=
  step2_val (a.eval x) (by unfold execOp; rw [ho]; rfl) hv hI hR
theorem step2_assign (x : Operand) (ho : o.op = .assign x) (hv : VO V o.dst (a.eval x) w) (hI : Inv (lset l i) w) (hR : Rel w w) :
    Oper.wp P o a w (Did V Inv Rel l i o a w) Q :=
  step2_val (a.eval x) (by unfold execOp; rw [ho]; rfl) hv hI hR
theorem step2_do (v : Value) (w2 : World) (hr : (execOp a.eval o).run P w = .ok (.value v) w2) (hv : VO V o.dst v w2) (hI : Inv (lset l i) w2) (hR : Rel w w2) :
    Oper.wp P o a w (Did V Inv Rel l i o a w) Q := by
  unfold Oper.wp; rw [hr]; exact ⟨v, rfl, hv.all, hI, hR⟩
theorem step2_call (f : FuncId) (args : Array Value) (hr : (execOp a.eval o).run P w = .ok (.enter f args) w)
    (hc : Calls P f args w fun e w' => ∃ v, e = .returned v ∧ VO V o.dst v w' ∧ Inv (lset l i) w' ∧ Rel w w') :
    Oper.wp P o a w (Did V Inv Rel l i o a w) Q := by
  unfold Oper.wp; rw [hr]
  refine hc.mono ?_
  rintro e w' ⟨v, rfl, hv, hI, hR⟩
  exact ⟨v, rfl, hv.all, hI, hR⟩
end
end
/-! ### every slot has a known value in the end -/
def VV (l : List (Tmp × Value)) (t : Tmp) (v : Value) (_ : World) : Prop :=
  match l.lookup t with
  | some x => v = x
  | none => True
def guardsV (l : List (Tmp × Value)) (gs : List (Tmp × Bool)) : Bool := gs.all fun p => match l.lookup p.1 with | some (.bool b) => b == p.2 | _ => false
def fill (l : List (Tmp × Value)) (t : Array Value) : Array Value := l.foldl (fun t p => t.setIfInBounds p.1 p.2) t
theorem fill_size (l : List (Tmp × Value)) : ∀ t : Array Value, (fill l t).size = t.size := by
  induction l with
  | nil => intro t; rfl
  | cons p l ih => intro t; show (fill l _).size = _; rw [ih]; simp
theorem fill_get (l : List (Tmp × Value)) : ∀ (t : Array Value) (i : Nat), (l.map (·.1)).Nodup → i < t.size → (fill l t)[i]? = match l.lookup i with | some x => some x | none => t[i]? := by
  induction l with
  | nil => intro t i _ _; rfl
  | cons p l ih =>
    intro t i hn hi
    obtain ⟨d, v⟩ := p
    simp only [List.map_cons, List.nodup_cons] at hn
    show (fill l (t.setIfInBounds d v))[i]? = _
    rw [ih _ i hn.2 (by simpa using hi)]
    by_cases e : i = d
    · subst e
      have hl : l.lookup i = none := by
        rw [List.lookup_eq_none_iff]
        intro q hq
        have := fun e => hn.1 (List.mem_map.2 ⟨q, hq, e⟩)
        simp; intro e'; exact this e'.symm
      rw [hl]
      simp [List.lookup, hi]
    · have hb : (i == d) = false := by simpa using e
      simp only [List.lookup, hb]
      cases l.lookup i with
      | some x => rfl
      | none => simp [show ¬ d = i from fun h => e h.symm]
section
variable {P : Program} {ops : Array Oper} {Q : Exit → Act → World → Prop}
theorem lookup_mem (l : List (Tmp × Value)) (t : Tmp) (h : t ∈ l.map (·.1)) : ∃ x, l.lookup t = some x := by
  cases hl : l.lookup t with
  | some x => exact ⟨x, rfl⟩
  | none =>
    rw [List.lookup_eq_none_iff] at hl
    obtain ⟨q, hq, e⟩ := List.mem_map.1 h
    have := hl q hq
    subst e; simp at this
/-- The law: whatever the order, the slots are filled so. -/
theorem region_vals {id : Nat} {a0 : Act} {w : World} (hm : P.follows .mixedOrders = true) (S : List (Tmp × Value)) (Inv : (Nat → Bool) → World → Prop)
    (hok : okOps a0.tmps.size ops = true) (hkeys : (S.map (·.1)) = dsts ops) (hg : guardsV S (guards ops) = true)
    (h0 : Inv (fun _ => false) w.drew)
    (hstep : Steps2 P ops Q (VV S) Inv (fun _ _ => True) a0 0 ops.toList)
    (hend : ∀ w, Inv (fun j => decide (j < ops.size)) w → Q .normal { tmps := fill S a0.tmps, defers := a0.defers } w) :
    (Code.region id ops true).wp P Q a0 w := by
  refine region_specs2 hm (VV S) Inv (fun _ _ => True) hok (fun _ _ _ _ h _ => h) ?_ h0 hstep ?_
  · intro p hp v w hv
    have := List.all_eq_true.1 hg p hp
    unfold VV at hv
    split at this
    · rename_i b hl
      rw [hl] at hv
      rw [hv, eq_of_beq this]
    · cases this
  · intro a w hsz hdf hI hd ho
    have hnd : (S.map (·.1)).Nodup := by
      rw [hkeys]
      unfold okOps at hok
      simp only [Bool.and_eq_true] at hok
      simpa using hok.2
    have e : a = { tmps := fill S a0.tmps, defers := a0.defers } := by
      obtain ⟨tm, df⟩ := a
      simp only at hsz hdf hd ho
      subst hdf
      congr 1
      apply Array.ext_getElem?
      intro i
      by_cases hi : i < a0.tmps.size
      · rw [fill_get S _ i hnd hi]
        have hti : tm[i]? = some (tm.getD i undef) := by
          rw [Array.getD_eq_getD_getElem?, Array.getElem?_eq_getElem (by omega)]; rfl
        cases hc : (dsts ops).contains i with
        | true =>
          have hm' : i ∈ S.map (·.1) := by rw [hkeys]; simpa using hc
          obtain ⟨x, hx⟩ := lookup_mem S i hm'
          have hv := hd i hc
          unfold VV at hv
          rw [hx] at hv ⊢
          rw [hti, hv]
        | false =>
          have hl : S.lookup i = none := by
            rw [List.lookup_eq_none_iff]
            intro q hq
            have : ¬ i ∈ S.map (·.1) := by rw [hkeys]; simpa using hc
            simp; intro e'; exact this (List.mem_map.2 ⟨q, hq, e'.symm⟩)
          rw [hl, hti, ho i hc, Array.getD_eq_getD_getElem?, Array.getElem?_eq_getElem hi]; rfl
      · rw [Array.getElem?_eq_none (by omega), Array.getElem?_eq_none (by rw [fill_size]; omega)]
    rw [e]
    exact hend w hI
end
/-- a region whose operations read, but for the last ones, which stand in a row: in the text's order -/
theorem still_tail {P : Program} {w : World} {id : Nat} {Q : Exit → Act → World → Prop} {a : Act} {l : List Oper} (n : Nat) (hm : P.follows .mixedOrders = true) (hB : Region.lexTailB .any l.toArray n = true)
    (h : wpStill P l.toArray w.drew (fun a' => wpList P l.toArray Q (l.drop n) a' w.drew) (l.take n) a) : (Code.region id l.toArray true).wp P Q a w := wp_region_still_tail n hm hB h
end Go.Proofs.Ytfclecbhfamomaa.Reg
