/- A region that draws its order, with guards that don't hold: each operation is looked at once, whatever the order; those that aren't run leave undef. -/
import Derived.Test.YtfclecbhfamomaaRegionV
namespace Go.Proofs.Ytfclecbhfamomaa.Reg
open Go Go.RowKit
section
variable {P : Program} {ops : Array Oper} {Q : Exit → Act → World → Prop}
/-- what is to be shown of one operation; of one that isn't run that its slot may hold undef -/
def StepG (P : Program) (ops : Array Oper) (Q : Exit → Act → World → Prop) (V : Tmp → Value → World → Prop) (Inv : (Nat → Bool) → World → Prop) (Rel : World → World → Prop) (a0 : Act) (sk : Bool) (i : Nat) (o : Oper) : Prop :=
  ∀ (a : Act) (w : World) (l : Nat → Bool), Inv l w → l i = false → (∀ j, Region.waitsFor .any ops i j = true → l j = true) →
    (∀ j, Region.waitsFor .any ops j i = true → l j = false) → (∀ j d, dstOf ops j = some d → l j = false → a.tmps.getD d undef = a0.tmps.getD d undef) →
    (∀ t, (deps ops o).contains t = true → V t (a.tmps.getD t undef) w) → (∀ t, (dsts ops).contains t = false → a.tmps.getD t undef = a0.tmps.getD t undef) →
    match sk with | true => Did V Inv Rel l i o a w (a.put o.dst undef) w | false => Oper.wp P o a w (Did V Inv Rel l i o a w) Q
def StepsG (P : Program) (ops : Array Oper) (Q : Exit → Act → World → Prop) (V : Tmp → Value → World → Prop) (Inv : (Nat → Bool) → World → Prop) (Rel : World → World → Prop) (a0 : Act) (sk : Nat → Bool) : Nat → List Oper → Prop
  | _, [] => True
  | i, o :: l => StepG P ops Q V Inv Rel a0 (sk i) i o ∧ StepsG P ops Q V Inv Rel a0 sk (i + 1) l
theorem StepsG.at {V : Tmp → Value → World → Prop} {Inv : (Nat → Bool) → World → Prop} {Rel : World → World → Prop} {a0 : Act} {sk : Nat → Bool} {l : List Oper} : ∀ {k : Nat}, StepsG P ops Q V Inv Rel a0 sk k l → ∀ i o, l[i]? = some o → StepG P ops Q V Inv Rel a0 (sk (k + i)) (k + i) o := by
  induction l with
  | nil => intro k _ i o ho; simp at ho
  | cons x l ih =>
    intro k h i o ho
    cases i with
    | zero => simp at ho; subst ho; exact h.1
    | succ i => have := ih h.2 i o (by simpa using ho); rwa [show k + 1 + i = k + (i + 1) by omega] at this

theorem wpAny_specsG (V : Tmp → Value → World → Prop) (Inv : (Nat → Bool) → World → Prop) (Rel : World → World → Prop) (a0 : Act) (sk : Nat → Bool) (hok : okOps a0.tmps.size ops = true)
    (hV : ∀ t v w w', V t v w → Rel w w' → V t v w')
    (hg : ∀ i o, ops[i]? = some o → (o.guard = none → sk i = false) ∧ ∀ j b, o.guard = some (j, b) → ∀ d, dstOf ops j = some d → ∀ v w, V d v w → (sk i = false → v = .bool b) ∧ (sk i = true → v ≠ .bool b))
    (hstep : StepsG P ops Q V Inv Rel a0 sk 0 ops.toList)
    (hend : ∀ (a : Act) (w : World), a.tmps.size = a0.tmps.size → a.defers = a0.defers → Inv (fun j => decide (j < ops.size)) w → (∀ t, (dsts ops).contains t = true → V t (a.tmps.getD t undef) w) →
      (∀ t, (dsts ops).contains t = false → a.tmps.getD t undef = a0.tmps.getD t undef) → Q .normal a w) :
    ∀ (fuel : Nat) (listed : Array Bool) (a : Act) (w : World), left listed ≤ fuel → St2 ops V Inv a0 listed a w → wpAny P .any ops Q fuel listed a w := by
  have hfin : ∀ (listed : Array Bool) (a : Act) (w : World), St2 ops V Inv a0 listed a w → Region.ready .any ops listed = [] → Q .normal a w := by
    intro listed a w hst hr
    have hall := ready_nil hok hst.lsize hr
    have hinv := hst.inv
    rw [show (fun j => listed.getD j false) = fun j => decide (j < ops.size) from funext fun j => by
      by_cases hj : j < ops.size
      · simp only [hj, decide_true]; exact hall j hj
      · rw [Array.getD_eq_getD_getElem?, Array.getElem?_eq_none (by rw [hst.lsize]; omega)]; simp [hj]] at hinv
    refine hend a w hst.size hst.defers hinv (fun t ht => ?_) hst.out
    have hm : t ∈ dsts ops := by simpa using ht
    obtain ⟨o, ho, hod⟩ := List.mem_filterMap.1 hm
    obtain ⟨i, hi, hio⟩ := List.mem_iff_getElem.1 ho
    have hio' : ops[i]? = some o := by rw [Array.getElem?_eq_getElem (by simpa using hi)]; simpa using hio
    exact hst.val i t (by unfold dstOf; rw [hio']; exact hod) (ready_nil hok hst.lsize hr i (by simpa using hi))
  intro fuel
  induction fuel with
  | zero =>
    intro listed a w hf hst
    have hr : Region.ready .any ops listed = [] := by
      cases h : Region.ready .any ops listed with
      | nil => rfl
      | cons i l =>
        have hi : i ∈ Region.ready .any ops listed := by rw [h]; exact List.mem_cons_self
        have := left_set listed i (mem_ready.1 hi).1
        omega
    exact ⟨hr, hfin listed a w hst hr⟩
  | succ fuel ih =>
    intro listed a w hf hst
    refine ⟨hfin listed a w hst, fun i hi => ?_⟩
    obtain ⟨hun, o, ho, hall⟩ := mem_ready.1 hi
    have hlt : i < ops.size := (Array.getElem?_eq_some_iff.1 ho).1
    have hmem : o ∈ ops.toList := by have := Array.mem_of_getElem? ho; simpa using this
    have hdep : ∀ t, (deps ops o).contains t = true → V t (a.tmps.getD t undef) w := by
      intro t ht
      have hm : t ∈ deps ops o := by simpa using ht
      obtain ⟨e, he, het⟩ := List.mem_filterMap.1 hm
      by_cases hbn : Region.binds .any e = true
      · rw [if_pos hbn] at het
        exact hst.val e.on t het (hall e (by simpa using he) hbn)
      · rw [if_neg hbn] at het; cases het
    have hw : Region.wanted o (yielded ops a.tmps) = !sk i := by
      unfold Region.wanted
      cases hgd : o.guard with
      | none => rw [(hg i o ho).1 hgd]; rfl
      | some p =>
        obtain ⟨j, b⟩ := p
        obtain ⟨d, hd, hdc, hdn⟩ := (okOps_back hok ho).2 j b hgd
        have hv := (hg i o ho).2 j b hgd d hd _ _ (hdep d hdc)
        have hsz : d < a.tmps.size := by rw [hst.size]; exact hdn
        have e1 : a.tmps[d]? = some (a.tmps.getD d undef) := by
          rw [Array.getD_eq_getD_getElem?, Array.getElem?_eq_getElem hsz]; rfl
        have hd2 : (ops[j]?).bind (·.dst) = some d := hd
        show (yielded ops a.tmps j == some b) = !sk i
        unfold yielded
        rw [hd2, Option.bind_some, e1]
        cases hs : sk i with
        | false => rw [hv.1 hs]; simp
        | true =>
          have := hv.2 hs
          generalize a.tmps.getD d undef = x at this
          have hn : ∀ z : Option Bool, z ≠ some b → (z == some b) = !true := fun z hz => by
            rcases z with _ | c
            · rfl
            · cases c <;> cases b <;> first | rfl | exact absurd rfl hz
          refine hn _ fun e => this ?_
          split at e
          · rename_i c hc
            cases e; exact Option.some.inj hc
          · cases e
    have hunf : listed.getD i false = false := by
      have hlt' : i < listed.size := by rw [hst.lsize]; exact hlt
      rw [Array.getD_eq_getD_getElem?, Array.getElem?_eq_getElem hlt'] at hun ⊢
      simpa using hun
    have hstp := hstep.at i o (by simpa using ho)
    rw [Nat.zero_add] at hstp
    have hstp := hstp a w (fun j => listed.getD j false) hst.inv hunf (fun j hj => by
      obtain ⟨oj, hoj, e, he, hb, hei⟩ := Region.waitsFor_spec hj
      rw [ho] at hoj; cases hoj
      rw [← hei]; exact hall e he hb) (fun j hj => by
      obtain ⟨o', hoj, e, he, hb, hei⟩ := Region.waitsFor_spec hj
      cases hlj : listed.getD j false with
      | false => rfl
      | true => have := hst.closed j o' hoj hlj e he hb; rw [hei, hunf] at this; cases this) hst.old hdep hst.out
    have hcont : ∀ a' w', Did V Inv Rel (fun j => listed.getD j false) i o a w a' w' → wpAny P .any ops Q fuel (listed.setIfInBounds i true) a' w' := by
      intro a' w' hk
      obtain ⟨v, rfl, hv, hinv, hb⟩ := hk
      refine ih _ _ _ (by have := left_set listed i hun; omega) ⟨by rw [size_put]; exact hst.size, by rw [defers_put]; exact hst.defers, by rw [show (fun j => (listed.setIfInBounds i true).getD j false) = lset (fun j => listed.getD j false) i from funext fun j => getD_listed _ _ _ (by rw [hst.lsize]; exact hlt)]; exact hinv, by simpa using hst.lsize, fun k d hk hl => ?_, fun t ht => ?_, fun k o' hk hl e he hbn => ?_, fun k d hk hl => ?_⟩
      · rw [getD_listed _ _ _ (by rw [hst.lsize]; exact hlt)] at hl
        cases hod : o.dst with
        | none =>
          by_cases e : i = k
          · subst e; unfold dstOf at hk; rw [ho] at hk; simp [hod] at hk
          · rw [if_neg e] at hl; exact hV _ _ _ _ (hst.val k d hk hl) hb
        | some c =>
          have hc : dstOf ops i = some c := by unfold dstOf; rw [ho]; exact hod
          have hcs : c < a.tmps.size := by rw [hst.size]; exact okOps_lt hok (dstOf_mem hc)
          rw [getD_put _ _ _ _ hcs]
          by_cases e : i = k
          · subst e
            rw [hc] at hk; cases hk
            rw [if_pos rfl]; exact hv _ hod
          · rw [if_neg e] at hl
            have : ¬ c = d := fun h => e (okOps_inj hok hc (by rw [h]; exact hk))
            rw [if_neg this]
            exact hV _ _ _ _ (hst.val k d hk hl) hb
      · cases hod : o.dst with
        | none => exact hst.out t ht
        | some c =>
          have hc : dstOf ops i = some c := by unfold dstOf; rw [ho]; exact hod
          have hcs : c < a.tmps.size := by rw [hst.size]; exact okOps_lt hok (dstOf_mem hc)
          rw [getD_put _ _ _ _ hcs, if_neg (fun h => ?_)]
          · exact hst.out t ht
          · subst h; have := dstOf_mem hc; simp at ht; exact ht this
      · rw [getD_listed _ _ _ (by rw [hst.lsize]; exact hlt)] at hl ⊢
        by_cases e1 : i = e.on
        · rw [if_pos e1]
        · rw [if_neg e1]
          by_cases e2 : i = k
          · subst e2; rw [ho] at hk; cases hk; exact hall e he hbn
          · rw [if_neg e2] at hl; exact hst.closed k o' hk hl e he hbn
      · rw [getD_listed _ _ _ (by rw [hst.lsize]; exact hlt)] at hl
        by_cases e1 : i = k
        · rw [if_pos e1] at hl; cases hl
        · rw [if_neg e1] at hl
          cases hod : o.dst with
          | none => exact hst.old k d hk hl
          | some c =>
            have hc : dstOf ops i = some c := by unfold dstOf; rw [ho]; exact hod
            have hcs : c < a.tmps.size := by rw [hst.size]; exact okOps_lt hok (dstOf_mem hc)
            rw [getD_put _ _ _ _ hcs, if_neg (fun h => ?_)]
            · exact hst.old k d hk hl
            · subst h; exact e1 (okOps_inj hok hc hk)
    unfold wpOp
    simp only [ho]
    cases hs : sk i with
    | false =>
      rw [hs] at hw hstp
      rw [if_pos (show Region.wanted o (yielded ops a.tmps) = true from hw)]
      exact .inl (Oper.wp_mono hcont hstp)
    | true =>
      rw [hs] at hw hstp
      rw [if_neg (by rw [hw]; decide)]
      exact hcont _ _ hstp

/-- The law: whatever the order. -/
theorem region_specsG {id : Nat} {a0 : Act} {w : World} (hm : P.follows .mixedOrders = true) (V : Tmp → Value → World → Prop) (Inv : (Nat → Bool) → World → Prop) (Rel : World → World → Prop) (sk : Nat → Bool) (hok : okOps a0.tmps.size ops = true)
    (hV : ∀ t v w w', V t v w → Rel w w' → V t v w')
    (hg : ∀ i o, ops[i]? = some o → (o.guard = none → sk i = false) ∧ ∀ j b, o.guard = some (j, b) → ∀ d, dstOf ops j = some d → ∀ v w, V d v w → (sk i = false → v = .bool b) ∧ (sk i = true → v ≠ .bool b))
    (h0 : Inv (fun _ => false) w.drew)
    (hstep : StepsG P ops Q V Inv Rel a0 sk 0 ops.toList)
    (hend : ∀ (a : Act) (w : World), a.tmps.size = a0.tmps.size → a.defers = a0.defers → Inv (fun j => decide (j < ops.size)) w → (∀ t, (dsts ops).contains t = true → V t (a.tmps.getD t undef) w) →
      (∀ t, (dsts ops).contains t = false → a.tmps.getD t undef = a0.tmps.getD t undef) → Q .normal a w) :
    (Code.region id ops true).wp P Q a0 w :=
  wp_region_any hm (wpAny_specsG V Inv Rel a0 sk hok hV hg hstep hend _ _ _ _ (by rw [left_all]; exact Nat.le_refl _)
    ⟨rfl, rfl, by rw [show (fun j => (Array.replicate ops.size false).getD j false) = fun _ => false from funext fun j => by simp [Array.getD_eq_getD_getElem?, Array.getElem?_replicate]; split <;> rfl]; exact h0, by simp, fun i d _ h => by
      rw [Array.getD_eq_getD_getElem?] at h
      by_cases hi : i < ops.size
      · simp [hi] at h
      · simp [Array.getElem?_eq_none (by simpa using hi : (Array.replicate ops.size false).size ≤ i)] at h, fun _ _ => rfl, fun i o _ h => by
      rw [Array.getD_eq_getD_getElem?] at h
      by_cases hi : i < ops.size
      · simp [hi] at h
      · simp [Array.getElem?_eq_none (by simpa using hi : (Array.replicate ops.size false).size ≤ i)] at h, fun _ _ _ _ => rfl⟩)


end
/-- the operations of L aren't run, all others are: told by what is known of the slots that the guards look at -/
def guardsG (S : List (Tmp × Value)) (L : List Nat) (ops : Array Oper) : Bool := (List.range ops.size).all fun i => match ops[i]? with
  | none => true
  | some o => match o.guard with
    | none => !L.contains i
    | some (j, b) => match dstOf ops j with
      | none => false
      | some d => match S.lookup d with
        | none => false
        | some x => if L.contains i then (match x with | .bool c => c != b | _ => true) else (match x with | .bool c => c == b | _ => false)
section
variable {P : Program} {ops : Array Oper} {Q : Exit → Act → World → Prop}
/-- The law: whatever the order, the slots are filled so. -/
theorem region_valsG {id : Nat} {a0 : Act} {w : World} (hm : P.follows .mixedOrders = true) (S : List (Tmp × Value)) (Inv : (Nat → Bool) → World → Prop)
    (hok : okOps a0.tmps.size ops = true) (hkeys : (S.map (·.1)) = dsts ops) (L : List Nat) (hg : guardsG S L ops = true)
    (h0 : Inv (fun _ => false) w.drew)
    (hstep : StepsG P ops Q (VV S) Inv (fun _ _ => True) a0 (fun i => L.contains i) 0 ops.toList)
    (hend : ∀ w, Inv (fun j => decide (j < ops.size)) w → Q .normal { tmps := fill S a0.tmps, defers := a0.defers } w) :
    (Code.region id ops true).wp P Q a0 w := by
  refine region_specsG hm (VV S) Inv (fun _ _ => True) (fun i => L.contains i) hok (fun _ _ _ _ h _ => h) ?_ h0 hstep ?_
  · intro i o ho
    have hi : i ∈ List.range ops.size := List.mem_range.2 (Array.getElem?_eq_some_iff.1 ho).1
    have h := List.all_eq_true.1 hg i hi
    simp only [ho] at h
    refine ⟨fun hn => ?_, fun j b hb d hd v w hv => ?_⟩
    · rw [hn] at h; simpa using h
    · rw [hb] at h
      simp only [hd] at h
      unfold VV at hv
      cases hl : S.lookup d with
      | none => rw [hl] at h; cases h
      | some x =>
        rw [hl] at h hv
        simp only at hv
        subst hv
        cases hx : L.contains i with
        | false =>
          rw [hx] at h
          simp only [if_false, Bool.false_eq_true] at h
          refine ⟨fun _ => ?_, fun e => by cases e⟩
          cases v <;> simp_all
        | true =>
          rw [hx] at h
          simp only [if_true] at h
          refine ⟨fun e => (by cases e), fun _ e => ?_⟩
          rw [e] at h
          simp at h
  · intro a w hsz hdf hI hd ho
    have hnd : (S.map (·.1)).Nodup := by
      rw [hkeys]
      unfold okOps at hok
      simp only [Bool.and_eq_true] at hok
      simpa using hok.2
    have e : a = { tmps := fill S a0.tmps, defers := a0.defers } := by
      obtain ⟨tm, df⟩ := a
      simp only at hsz hdf hd ho
      subst hdf
      congr 1
      apply Array.ext_getElem?
      intro i
      by_cases hi : i < a0.tmps.size
      · rw [fill_get S _ i hnd hi]
        have hti : tm[i]? = some (tm.getD i undef) := by
          rw [Array.getD_eq_getD_getElem?, Array.getElem?_eq_getElem (by omega)]; rfl
        cases hc : (dsts ops).contains i with
        | true =>
          have hm' : i ∈ S.map (·.1) := by rw [hkeys]; simpa using hc
          obtain ⟨x, hx⟩ := lookup_mem S i hm'
          have hv := hd i hc
          unfold VV at hv
          rw [hx] at hv ⊢
          rw [hti, hv]
        | false =>
          have hl : S.lookup i = none := by
            rw [List.lookup_eq_none_iff]
            intro q hq
            have : ¬ i ∈ S.map (·.1) := by rw [hkeys]; simpa using hc
            simp; intro e'; exact this (List.mem_map.2 ⟨q, hq, e'.symm⟩)
          rw [hl, hti, ho i hc, Array.getD_eq_getD_getElem?, Array.getElem?_eq_getElem hi]; rfl
      · rw [Array.getElem?_eq_none (by omega), Array.getElem?_eq_none (by rw [fill_size]; omega)]
    rw [e]
    exact hend w hI
end
theorem stepG_skip {V : Tmp → Value → World → Prop} {Inv : (Nat → Bool) → World → Prop} {Rel : World → World → Prop} {o : Oper} {a : Act} {w : World} {l : Nat → Bool} {i : Nat} (hv : VO V o.dst undef w) (hI : Inv (lset l i) w) (hR : Rel w w) :
    Did V Inv Rel l i o a w (a.put o.dst undef) w := ⟨undef, rfl, hv.all, hI, hR⟩
end Go.Proofs.Ytfclecbhfamomaa.Reg
