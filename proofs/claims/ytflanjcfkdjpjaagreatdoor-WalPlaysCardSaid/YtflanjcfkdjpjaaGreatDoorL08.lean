/- Layers' contracts, bundled: RegionG, RemC, RemD. -/
import Derived.Test.YtflanjcfkdjpjaaGreatDoorL07
/- A region that draws its order, with guards that don't hold: each operation is looked at once, whatever the order; those that aren't run leave undef. -/
namespace Go.Proofs.YtflanjcfkdjpjaaGreatDoor.Reg
open Go Go.RowKit
section
variable {P : Program} {ops : Array Oper} {Q : Exit → Act → World → Prop}
/-- what is to be shown of one operation; of one that isn't run that its slot may hold undef -/
def StepG (P : Program) (ops : Array Oper) (Q : Exit → Act → World → Prop) (V : Tmp → Value → World → Prop) (Inv : (Nat → Bool) → World → Prop) (Rel : World → World → Prop) (a0 : Act) (sk : Bool) (i : Nat) (o : Oper) : Prop :=
  ∀ (a : Act) (w : World) (l : Nat → Bool), Inv l w → l i = false → (∀ j, Region.waitsFor .any ops i j = true → l j = true) →
    (∀ j, Region.waitsFor .any ops j i = true → l j = false) → (∀ j d, dstOf ops j = some d → l j = false → a.tmps.getD d undef = a0.tmps.getD d undef) →
    (∀ t, (deps ops o).contains t = true → V t (a.tmps.getD t undef) w) → (∀ t, (dsts ops).contains t = false → a.tmps.getD t undef = a0.tmps.getD t undef) →
    match sk with | true => Did V Inv Rel l i o a w (a.put o.dst undef) w | false => Oper.wp P o a w (Did V Inv Rel l i o a w) Q
def StepsG (P : Program) (ops : Array Oper) (Q : Exit → Act → World → Prop) (V : Tmp → Value → World → Prop) (Inv : (Nat → Bool) → World → Prop) (Rel : World → World → Prop) (a0 : Act) (sk : Nat → Bool) : Nat → List Oper → Prop
  | _, [] => True
  | i, o :: l => StepG P ops Q V Inv Rel a0 (sk i) i o ∧ StepsG P ops Q V Inv Rel a0 sk (i + 1) l
theorem StepsG.at {V : Tmp → Value → World → Prop} {Inv : (Nat → Bool) → World → Prop} {Rel : World → World → Prop} {a0 : Act} {sk : Nat → Bool} {l : List Oper} : ∀ {k : Nat}, StepsG P ops Q V Inv Rel a0 sk k l → ∀ i o, l[i]? = some o → StepG P ops Q V Inv Rel a0 (sk (k + i)) (k + i) o := by
  induction l with
  | nil => intro k _ i o ho; simp at ho
  | cons x l ih =>
    intro k h i o ho
    cases i with
    | zero => simp at ho; subst ho; exact h.1
    | succ i => have := ih h.2 i o (by simpa using ho); rwa [show k + 1 + i = k + (i + 1) by omega] at this

theorem wpAny_specsG (V : Tmp → Value → World → Prop) (Inv : (Nat → Bool) → World → Prop) (Rel : World → World → Prop) (a0 : Act) (sk : Nat → Bool) (hok : okOps a0.tmps.size ops = true)
    (hV : ∀ t v w w', V t v w → Rel w w' → V t v w')
    (hg : ∀ i o, ops[i]? = some o → (o.guard = none → sk i = false) ∧ ∀ j b, o.guard = some (j, b) → ∀ d, dstOf ops j = some d → ∀ v w, V d v w → (sk i = false → v = .bool b) ∧ (sk i = true → v ≠ .bool b))
    (hstep : StepsG P ops Q V Inv Rel a0 sk 0 ops.toList)
    (hend : ∀ (a : Act) (w : World), a.tmps.size = a0.tmps.size → a.defers = a0.defers → Inv (fun j => decide (j < ops.size)) w → (∀ t, (dsts ops).contains t = true → V t (a.tmps.getD t undef) w) →
      (∀ t, (dsts ops).contains t = false → a.tmps.getD t undef = a0.tmps.getD t undef) → Q .normal a w) :
    ∀ (fuel : Nat) (listed : Array Bool) (a : Act) (w : World), left listed ≤ fuel → St2 ops V Inv a0 listed a w → wpAny P .any ops Q fuel listed a w := by
  have hfin : ∀ (listed : Array Bool) (a : Act) (w : World), St2 ops V Inv a0 listed a w → Region.ready .any ops listed = [] → Q .normal a w := by
    intro listed a w hst hr
    have hall := ready_nil hok hst.lsize hr
    have hinv := hst.inv
    rw [show (fun j => listed.getD j false) = fun j => decide (j < ops.size) from funext fun j => by
      by_cases hj : j < ops.size
      · simp only [hj, decide_true]; exact hall j hj
      · rw [Array.getD_eq_getD_getElem?, Array.getElem?_eq_none (by rw [hst.lsize]; omega)]; simp [hj]] at hinv
    refine hend a w hst.size hst.defers hinv (fun t ht => ?_) hst.out
    have hm : t ∈ dsts ops := by simpa using ht
    obtain ⟨o, ho, hod⟩ := List.mem_filterMap.1 hm
    obtain ⟨i, hi, hio⟩ := List.mem_iff_getElem.1 ho
    have hio' : ops[i]? = some o := by rw [Array.getElem?_eq_getElem (by simpa using hi)]; simpa using hio
    exact hst.val i t (by unfold dstOf; rw [hio']; exact hod) (ready_nil hok hst.lsize hr i (by simpa using hi))
  intro fuel
  induction fuel with
  | zero =>
    intro listed a w hf hst
    have hr : Region.ready .any ops listed = [] := by
      cases h : Region.ready .any ops listed with
      | nil => rfl
      | cons i l =>
        have hi : i ∈ Region.ready .any ops listed := by rw [h]; exact List.mem_cons_self
        have := left_set listed i (mem_ready.1 hi).1
        omega
    exact ⟨hr, hfin listed a w hst hr⟩
  | succ fuel ih =>
    intro listed a w hf hst
    refine ⟨hfin listed a w hst, fun i hi => ?_⟩
    obtain ⟨hun, o, ho, hall⟩ := mem_ready.1 hi
    have hlt : i < ops.size := (Array.getElem?_eq_some_iff.1 ho).1
    have hmem : o ∈ ops.toList := by have := Array.mem_of_getElem? ho; simpa using this
    have hdep : ∀ t, (deps ops o).contains t = true → V t (a.tmps.getD t undef) w := by
      intro t ht
      have hm : t ∈ deps ops o := by simpa using ht
      obtain ⟨e, he, het⟩ := List.mem_filterMap.1 hm
      by_cases hbn : Region.binds .any e = true
      · rw [if_pos hbn] at het
        exact hst.val e.on t het (hall e (by simpa using he) hbn)
      · rw [if_neg hbn] at het; cases het
    have hw : Region.wanted o (yielded ops a.tmps) = !sk i := by
      unfold Region.wanted
      cases hgd : o.guard with
      | none => rw [(hg i o ho).1 hgd]; rfl
      | some p =>
        obtain ⟨j, b⟩ := p
        obtain ⟨d, hd, hdc, hdn⟩ := (okOps_back hok ho).2 j b hgd
        have hv := (hg i o ho).2 j b hgd d hd _ _ (hdep d hdc)
        have hsz : d < a.tmps.size := by rw [hst.size]; exact hdn
        have e1 : a.tmps[d]? = some (a.tmps.getD d undef) := by
          rw [Array.getD_eq_getD_getElem?, Array.getElem?_eq_getElem hsz]; rfl
        have hd2 : (ops[j]?).bind (·.dst) = some d := hd
        show (yielded ops a.tmps j == some b) = !sk i
        unfold yielded
        rw [hd2, Option.bind_some, e1]
        cases hs : sk i with
        | false => rw [hv.1 hs]; simp
        | true =>
          have := hv.2 hs
          generalize a.tmps.getD d undef = x at this
          have hn : ∀ z : Option Bool, z ≠ some b → (z == some b) = !true := fun z hz => by
            rcases z with _ | c
            · rfl
            · cases c <;> cases b <;> first | rfl | exact absurd rfl hz
          refine hn _ fun e => this ?_
          split at e
          · rename_i c hc
            cases e; exact Option.some.inj hc
          · cases e
    have hunf : listed.getD i false = false := by
      have hlt' : i < listed.size := by rw [hst.lsize]; exact hlt
      rw [Array.getD_eq_getD_getElem?, Array.getElem?_eq_getElem hlt'] at hun ⊢
      simpa using hun
    have hstp := hstep.at i o (by simpa using ho)
    rw [Nat.zero_add] at hstp
    have hstp := hstp a w (fun j => listed.getD j false) hst.inv hunf (fun j hj => by
      obtain ⟨oj, hoj, e, he, hb, hei⟩ := Region.waitsFor_spec hj
      rw [ho] at hoj; cases hoj
      rw [← hei]; exact hall e he hb) (fun j hj => by
      obtain ⟨o', hoj, e, he, hb, hei⟩ := Region.waitsFor_spec hj
      cases hlj : listed.getD j false with
      | false => rfl
      | true => have := hst.closed j o' hoj hlj e he hb; rw [hei, hunf] at this; cases this) hst.old hdep hst.out
    have hcont : ∀ a' w', Did V Inv Rel (fun j => listed.getD j false) i o a w a' w' → wpAny P .any ops Q fuel (listed.setIfInBounds i true) a' w' := by
      intro a' w' hk
      obtain ⟨v, rfl, hv, hinv, hb⟩ := hk
      refine ih _ _ _ (by have := left_set listed i hun; omega) ⟨by rw [size_put]; exact hst.size, by rw [defers_put]; exact hst.defers, by rw [show (fun j => (listed.setIfInBounds i true).getD j false) = lset (fun j => listed.getD j false) i from funext fun j => getD_listed _ _ _ (by rw [hst.lsize]; exact hlt)]; exact hinv, by simpa using hst.lsize, fun k d hk hl => ?_, fun t ht => ?_, fun k o' hk hl e he hbn => ?_, fun k d hk hl => ?_⟩
      · rw [getD_listed _ _ _ (by rw [hst.lsize]; exact hlt)] at hl
        cases hod : o.dst with
        | none =>
          by_cases e : i = k
          · subst e; unfold dstOf at hk; rw [ho] at hk; simp [hod] at hk
          · rw [if_neg e] at hl; exact hV _ _ _ _ (hst.val k d hk hl) hb
        | some c =>
          have hc : dstOf ops i = some c := by unfold dstOf; rw [ho]; exact hod
          have hcs : c < a.tmps.size := by rw [hst.size]; exact okOps_lt hok (dstOf_mem hc)
          rw [getD_put _ _ _ _ hcs]
          by_cases e : i = k
          · subst e
            rw [hc] at hk; cases hk
            rw [if_pos rfl]; exact hv _ hod
          · rw [if_neg e] at hl
            have : ¬ c = d := fun h => e (okOps_inj hok hc (by rw [h]; exact hk))
            rw [if_neg this]
            exact hV _ _ _ _ (hst.val k d hk hl) hb
      · cases hod : o.dst with
        | none => exact hst.out t ht
        | some c =>
          have hc : dstOf ops i = some c := by unfold dstOf; rw [ho]; exact hod
          have hcs : c < a.tmps.size := by rw [hst.size]; exact okOps_lt hok (dstOf_mem hc)
          rw [getD_put _ _ _ _ hcs, if_neg (fun h => ?_)]
          · exact hst.out t ht
          · subst h; have := dstOf_mem hc; simp at ht; exact ht this
      · rw [getD_listed _ _ _ (by rw [hst.lsize]; exact hlt)] at hl ⊢
        by_cases e1 : i = e.on
        · rw [if_pos e1]
        · rw [if_neg e1]
          by_cases e2 : i = k
          · subst e2; rw [ho] at hk; cases hk; exact hall e he hbn
          · rw [if_neg e2] at hl; exact hst.closed k o' hk hl e he hbn
      · rw [getD_listed _ _ _ (by rw [hst.lsize]; exact hlt)] at hl
        by_cases e1 : i = k
        · rw [if_pos e1] at hl; cases hl
        · rw [if_neg e1] at hl
          cases hod : o.dst with
          | none => exact hst.old k d hk hl
          | some c =>
            have hc : dstOf ops i = some c := by unfold dstOf; rw [ho]; exact hod
            have hcs : c < a.tmps.size := by rw [hst.size]; exact okOps_lt hok (dstOf_mem hc)
            rw [getD_put _ _ _ _ hcs, if_neg (fun h => ?_)]
            · exact hst.old k d hk hl
            · subst h; exact e1 (okOps_inj hok hc hk)
    unfold wpOp
    simp only [ho]
    cases hs : sk i with
    | false =>
      rw [hs] at hw hstp
      rw [if_pos (show Region.wanted o (yielded ops a.tmps) = true from hw)]
      exact .inl (Oper.wp_mono hcont hstp)
    | true =>
      rw [hs] at hw hstp
      rw [if_neg (by rw [hw]; decide)]
      exact hcont _ _ hstp

/-- The law: whatever the order. -/
theorem region_specsG {id : Nat} {a0 : Act} {w : World} (hm : P.follows .mixedOrders = true) (V : Tmp → Value → World → Prop) (Inv : (Nat → Bool) → World → Prop) (Rel : World → World → Prop) (sk : Nat → Bool) (hok : okOps a0.tmps.size ops = true)
    (hV : ∀ t v w w', V t v w → Rel w w' → V t v w')
    (hg : ∀ i o, ops[i]? = some o → (o.guard = none → sk i = false) ∧ ∀ j b, o.guard = some (j, b) → ∀ d, dstOf ops j = some d → ∀ v w, V d v w → (sk i = false → v = .bool b) ∧ (sk i = true → v ≠ .bool b))
    (h0 : Inv (fun _ => false) w.drew)
    (hstep : StepsG P ops Q V Inv Rel a0 sk 0 ops.toList)
    (hend : ∀ (a : Act) (w : World), a.tmps.size = a0.tmps.size → a.defers = a0.defers → Inv (fun j => decide (j < ops.size)) w → (∀ t, (dsts ops).contains t = true → V t (a.tmps.getD t undef) w) →
      (∀ t, (dsts ops).contains t = false → a.tmps.getD t undef = a0.tmps.getD t undef) → Q .normal a w) :
    (Code.region id ops true).wp P Q a0 w :=
  wp_region_any hm (wpAny_specsG V Inv Rel a0 sk hok hV hg hstep hend _ _ _ _ (by rw [left_all]; exact Nat.le_refl _)
    ⟨rfl, rfl, by rw [show (fun j => (Array.replicate ops.size false).getD j false) = fun _ => false from funext fun j => by simp [Array.getD_eq_getD_getElem?, Array.getElem?_replicate]; split <;> rfl]; exact h0, by simp, fun i d _ h => by
      rw [Array.getD_eq_getD_getElem?] at h
      by_cases hi : i < ops.size
      · simp [hi] at h
      · simp [Array.getElem?_eq_none (by simpa using hi : (Array.replicate ops.size false).size ≤ i)] at h, fun _ _ => rfl, fun i o _ h => by
      rw [Array.getD_eq_getD_getElem?] at h
      by_cases hi : i < ops.size
      · simp [hi] at h
      · simp [Array.getElem?_eq_none (by simpa using hi : (Array.replicate ops.size false).size ≤ i)] at h, fun _ _ _ _ => rfl⟩)


end
/-- the operations of L aren't run, all others are: told by what is known of the slots that the guards look at -/
def guardsG (S : List (Tmp × Value)) (L : List Nat) (ops : Array Oper) : Bool := (List.range ops.size).all fun i => match ops[i]? with
  | none => true
  | some o => match o.guard with
    | none => !L.contains i
    | some (j, b) => match dstOf ops j with
      | none => false
      | some d => match S.lookup d with
        | none => false
        | some x => if L.contains i then (match x with | .bool c => c != b | _ => true) else (match x with | .bool c => c == b | _ => false)
section
variable {P : Program} {ops : Array Oper} {Q : Exit → Act → World → Prop}
/-- The law: whatever the order, the slots are filled so. -/
theorem region_valsG {id : Nat} {a0 : Act} {w : World} (hm : P.follows .mixedOrders = true) (S : List (Tmp × Value)) (Inv : (Nat → Bool) → World → Prop)
    (hok : okOps a0.tmps.size ops = true) (hkeys : (S.map (·.1)) = dsts ops) (L : List Nat) (hg : guardsG S L ops = true)
    (h0 : Inv (fun _ => false) w.drew)
    (hstep : StepsG P ops Q (VV S) Inv (fun _ _ => True) a0 (fun i => L.contains i) 0 ops.toList)
    (hend : ∀ w, Inv (fun j => decide (j < ops.size)) w → Q .normal { tmps := fill S a0.tmps, defers := a0.defers } w) :
    (Code.region id ops true).wp P Q a0 w := by
  refine region_specsG hm (VV S) Inv (fun _ _ => True) (fun i => L.contains i) hok (fun _ _ _ _ h _ => h) ?_ h0 hstep ?_
  · intro i o ho
    have hi : i ∈ List.range ops.size := List.mem_range.2 (Array.getElem?_eq_some_iff.1 ho).1
    have h := List.all_eq_true.1 hg i hi
    simp only [ho] at h
    refine ⟨fun hn => ?_, fun j b hb d hd v w hv => ?_⟩
    · rw [hn] at h; simpa using h
    · rw [hb] at h
      simp only [hd] at h
      unfold VV at hv
      cases hl : S.lookup d with
      | none => rw [hl] at h; cases h
      | some x =>
        rw [hl] at h hv
        simp only at hv
        subst hv
        cases hx : L.contains i with
        | false =>
          rw [hx] at h
          simp only [if_false, Bool.false_eq_true] at h
          refine ⟨fun _ => ?_, fun e => by cases e⟩
          cases v <;> simp_all
        | true =>
          rw [hx] at h
          simp only [if_true] at h
          refine ⟨fun e => (by cases e), fun _ e => ?_⟩
          rw [e] at h
          simp at h
  · intro a w hsz hdf hI hd ho
    have hnd : (S.map (·.1)).Nodup := by
      rw [hkeys]
      unfold okOps at hok
      simp only [Bool.and_eq_true] at hok
      simpa using hok.2
    have e : a = { tmps := fill S a0.tmps, defers := a0.defers } := by
      obtain ⟨tm, df⟩ := a
      simp only at hsz hdf hd ho
      subst hdf
      congr 1
      apply Array.ext_getElem?
      intro i
      by_cases hi : i < a0.tmps.size
      · rw [fill_get S _ i hnd hi]
        have hti : tm[i]? = some (tm.getD i undef) := by
          rw [Array.getD_eq_getD_getElem?, Array.getElem?_eq_getElem (by omega)]; rfl
        cases hc : (dsts ops).contains i with
        | true =>
          have hm' : i ∈ S.map (·.1) := by rw [hkeys]; simpa using hc
          obtain ⟨x, hx⟩ := lookup_mem S i hm'
          have hv := hd i hc
          unfold VV at hv
          rw [hx] at hv ⊢
          rw [hti, hv]
        | false =>
          have hl : S.lookup i = none := by
            rw [List.lookup_eq_none_iff]
            intro q hq
            have : ¬ i ∈ S.map (·.1) := by rw [hkeys]; simpa using hc
            simp; intro e'; exact this (List.mem_map.2 ⟨q, hq, e'.symm⟩)
          rw [hl, hti, ho i hc, Array.getD_eq_getD_getElem?, Array.getElem?_eq_getElem hi]; rfl
      · rw [Array.getElem?_eq_none (by omega), Array.getElem?_eq_none (by rw [fill_size]; omega)]
    rw [e]
    exact hend w hI
end
theorem stepG_skip {V : Tmp → Value → World → Prop} {Inv : (Nat → Bool) → World → Prop} {Rel : World → World → Prop} {o : Oper} {a : Act} {w : World} {l : Nat → Bool} {i : Nat} (hv : VO V o.dst undef w) (hI : Inv (lset l i) w) (hR : Rel w w) :
    Did V Inv Rel l i o a w (a.put o.dst undef) w := ⟨undef, rfl, hv.all, hI, hR⟩
end Go.Proofs.YtflanjcfkdjpjaaGreatDoor.Reg


/- Layer 7 (remap): opened, newest. -/
namespace Go.Proofs.YtflanjcfkdjpjaaGreatDoor.Rem
open Go Go.RowKit Go.Proofs.YtflanjcfkdjpjaaGreatDoor Dev Tab
set_option linter.unusedVariables false

/-- the bytes of an image's payload, and what Parse makes of them -/
def pyL (t : ByteArray) : List UInt8 := (Env.oP t.data.toList).data.toList
def opN (t : ByteArray) : Int := psN (pyL t) 16 4
def opK (t : ByteArray) : Int := psK (pyL t) 16 4
def opM (t : ByteArray) : List Int := paM (pyL t) 16 4
def opn (s : Nat) (t : ByteArray) : Option (List Int) := opT s t.data.toList
/-- what a result of opened is -/
def IsOp (s : Nat) (t : ByteArray) (x y : Int) (M : List Int) (b : Bool) : Prop := b = (opn s t).isSome ∧ ∀ l, opn s t = some l → x = 16 ∧ y = 4 ∧ M = l
theorem isOp_no {s : Nat} {t : ByteArray} (h : Env.opE t.data.toList ≠ 0) (x y : Int) (M : List Int) : IsOp s t x y M false := by
  have : opn s t = none := by unfold opn opT; rw [if_neg (fun e => h e.1)]
  exact ⟨by rw [this]; rfl, fun l h => by rw [this] at h; cases h⟩
theorem isOp_pa {s : Nat} {t : ByteArray} (h : paE (pyL t) 16 4 ≠ 0) (x y : Int) (M : List Int) : IsOp s t x y M false := by
  have : opn s t = none := by unfold opn opT; rw [if_neg (fun e => h e.2.2.2.1)]
  exact ⟨by rw [this]; rfl, fun l h => by rw [this] at h; cases h⟩
theorem isOp_yes {s : Nat} {t : ByteArray} (h0 : Env.opE t.data.toList = 0) (h : paE (pyL t) 16 4 = 0) {b : Bool} (hb : b = true ↔ (Env.oK t.data.toList = 2 ∧ Env.oA t.data.toList = (s : Nat) ∧ Env.oG t.data.toList = ((opM t).length : Int))) : IsOp s t (opN t) (opK t) (opM t) b := by
  have hM : opM t = paL (pyL t) := by unfold opM paM; rw [if_pos h]
  obtain ⟨p1, p2⟩ := ps_ok h
  have hc : opn s t = if b = true then some (opM t) else none := by
    unfold opn opT
    by_cases e : b = true
    · obtain ⟨e1, e2, e3⟩ := hb.1 e
      rw [hM] at e3
      rw [if_pos e, if_pos ⟨h0, e1, e2, h, e3⟩, hM]; rfl
    · rw [if_neg e, if_neg (fun x => e (hb.2 ⟨x.2.1, x.2.2.1, by rw [hM]; exact x.2.2.2.2⟩))]
  refine ⟨by rw [hc]; cases b <;> rfl, fun l hl => ?_⟩
  rw [hc] at hl
  cases b with
  | true => exact ⟨p1, p2, by simpa using hl⟩
  | false => simp at hl
theorem oP_size (t : ByteArray) : (Env.oP t.data.toList).size ≤ t.size := by
  unfold Env.oP
  split
  · show (Env.opP t.data.toList).length ≤ t.data.size
    unfold Env.opP
    rw [List.length_take, List.length_drop]
    have : t.data.toList.length = t.data.size := by simp
    omega
  · exact Nat.zero_le _
theorem opM_len (t : ByteArray) : (opM t).length ≤ 32 := by
  unfold opM paM
  split
  · rename_i h
    have h2 := (paE_zero h).2
    unfold paB paF at h2
    simp only [Bool.and_eq_true, decide_eq_true_eq] at h2
    rw [paL_length]; omega
  · exact Nat.zero_le _
/-- the last region of opened: its block of results is written at its end -/
def Op5 (w0 : World) (g h p : Nat) (x y : Int) (M : List Int) (hd : List Value) (l : Nat → Bool) (w : World) : Prop :=
  Below w0.heap.size w0 w ∧ TAt w g x y M ∧ Has w h 113 hd ∧ (l 10 = false → TAt w p 0 0 []) ∧ (l 10 = true → TAt w p x y M)
section
variable {w0 w w' : World} {g h p : Nat} {x y : Int} {M : List Int} {hd : List Value} {l : Nat → Bool}
theorem Op5.keep (hI : Op5 w0 g h p x y M hd l w) {i : Nat} (hi : i ≠ 10) (hb : Below w.heap.size w w') : Op5 w0 g h p x y M hd (Reg.lset l i) w' := by
  obtain ⟨a, b, c, d, e⟩ := hI
  refine ⟨a.trans (hb.mono a.size), b.on hb, Has.below c hb c.lt, fun hl => ?_, fun hl => ?_⟩
  · rw [lset_ne hi] at hl; exact (d hl).on hb
  · rw [lset_ne hi] at hl; exact (e hl).on hb
theorem Op5.rd (hI : Op5 w0 g h p x y M hd l w) {i : Nat} (hi : i ≠ 10) : Op5 w0 g h p x y M hd (Reg.lset l i) w := hI.keep hi (Below.refl _ _)
theorem Op5.st (hI : Op5 w0 g h p x y M hd l w) (hl : l 10 = false) (hg : g ≠ p) (hh : h ≠ p) (hp : w0.heap.size ≤ p) : Op5 w0 g h p x y M hd (Reg.lset l 10) (w.setRow p (ta x y M)) := by
  obtain ⟨a, b, c, d, e⟩ := hI
  refine ⟨b_row a hp _, b.putOther hg _, ?_, fun h => ?_, fun _ => (d hl).put _ _ _⟩
  · show (w.setRow p (ta x y M)).heap[h]? = _
    rw [setRow_other _ _ _ _ hh]; exact c
  · rw [lset_eq] at h; cases h
end
set_option maxHeartbeats 1000000 in
set_option maxRecDepth 100000 in
theorem opened_any (b : Nat) (t : ByteArray) (s : Nat) (w : World) (ht : Sum.IsTab w b) (hts : t.size ≤ 1000000) : Calls Tryz.prog 101 #[.pointer (some ⟨b, 0, none⟩), .string t, .int .i64 (s : Nat), .agg (ta 16 4 [])] w fun e w' => (∃ x y M f, e = .returned (.tuple #[.agg (ta x y M), .bool f]) ∧ IsOp s t x y M f ∧ M.length ≤ 32) ∧ Below w.heap.size w w' := by
  have hb1 := b_new w (.cells (ta 16 4 []) 88)
  have HT := Lib.hid (tab_later ht (b_nw hb1 (.cells (ta 0 0 []) 88)))
  have HF := Lib.hid ((TAt.made w 16 4 []).new (.cells (ta 0 0 []) 88))
  have HR := Lib.hid (TAt.made (w.alloc (.cells (ta 16 4 []) 88)) 0 0 [])
  have HB := Lib.hid (b_nw hb1 (.cells (ta 0 0 []) 88))
  obtain ⟨p, hp⟩ : ∃ p, p = w.heap.size := ⟨_, rfl⟩
  have hq : (w.alloc (.cells (ta 16 4 []) 88)).heap.size = p + 1 := by simp [hp]
  rw [hq] at HR
  rw [← hp] at HF
  have HP := Lib.hid hp
  clear hb1 hq ht
  go_enter Tryz.func101, Tryz.ntmps101
  go_wp2_with (first | with_reducible refine wl_alloc ?_)
  rw [← hp]
  refine (Env.open_any b t _ HT.out hts).mono ?_
  rintro e w1 ⟨rfl, hb⟩
  have HF1 := Lib.hid (HF.out.on hb)
  have HR1 := Lib.hid (HR.out.on hb)
  have HB1 := Lib.hid (b_on HB.out hb)
  clear hb HF HR HB HT hp
  obtain ⟨E, hE⟩ : ∃ E, E = Env.opE t.data.toList := ⟨_, rfl⟩
  have HE := Lib.hid hE
  unfold Env.open3V
  rw [← hE]
  obtain ⟨k0, hk0⟩ : ∃ k0, k0 = Env.oK t.data.toList := ⟨_, rfl⟩
  obtain ⟨a0, ha0⟩ : ∃ a0, a0 = Env.oA t.data.toList := ⟨_, rfl⟩
  obtain ⟨g0, hg0⟩ : ∃ g0, g0 = Env.oG t.data.toList := ⟨_, rfl⟩
  rw [← hk0, ← ha0, ← hg0]
  have HKAG := Lib.hid (And.intro hk0 (And.intro ha0 hg0))
  clear hE hk0 ha0 hg0
  obtain ⟨h, hh⟩ : ∃ h, h = w1.heap.size := ⟨_, rfl⟩
  have hH0 := Has.new w1 [.int .u8 k0, .int .i64 a0, .int .u64 g0] 113
  rw [← hh] at hH0
  have HH := Lib.hid hH0
  have HF2 := Lib.hid (HF1.out.new (.cells #[.int .u8 k0, .int .i64 a0, .int .u64 g0] 113))
  have HR2 := Lib.hid (HR1.out.new (.cells #[.int .u8 k0, .int .i64 a0, .int .u64 g0] 113))
  have HB2 := Lib.hid (b_nw HB1.out (.cells #[.int .u8 k0, .int .i64 a0, .int .u64 g0] 113))
  have hpw : w.heap.size ≤ p + 1 := by have := HP.out; omega
  clear HF1 HR1 HB1 hH0
  obtain ⟨w2, hw2⟩ : ∃ w2, w2 = w1.alloc (.cells #[.int .u8 k0, .int .i64 a0, .int .u64 g0] 113) := ⟨_, rfl⟩
  by_cases h0 : E = 0
  · subst h0
    have HPS := Lib.hid (Nat.le_trans (oP_size t) hts)
    go_wp2_with fail
    rw [← hw2] at HH HF2 HR2 HB2 ⊢
    clear hw2
    refine Reg.region_vals3 (by kernel_rfl) [(25, .string (Env.oP t.data.toList)), (26, .agg (ta 16 4 [])), (27, .int .i64 16), (28, .agg (ta 16 4 [])), (29, .int .i64 4), (30, .tuple #[.agg (ta (opN t) (opK t) (opM t)), .int .i64 (paE (pyL t) 16 4)]), (24, .tuple #[.agg (ta (opN t) (opK t) (opM t)), .int .i64 (paE (pyL t) 16 4)]), (31, .agg (ta (opN t) (opK t) (opM t))), (32, .int .i64 (paE (pyL t) 16 4)), (12, .int .i64 (paE (pyL t) 16 4))] [13] (Uno w2 13 9 10 88 (tl 0 0 []) (tl (opN t) (opK t) (opM t))) ?a1 ?a2 ?a3 ?a4 ?a5 ?a6 ?a7 ?hend
    case a1 => kernel_rfl
    case a2 => kernel_rfl
    case a3 => kernel_rfl
    case a4 => kernel_rfl
    case a5 => kernel_rfl
    case a6 => exact Uno.start _
    case a7 =>
      refine ⟨?_, ?_, ?_, ?_, ?_, ?_, ?_, ?_, ?_, ?_, ?_, ?_, trivial⟩
      · skip
        intro aq wq lq hz hI hl hdone hlater hold hd ho
        have h11 : aq.tmps.getD 11 undef = .string (Env.oP t.data.toList) := ho 11 (by kernel_rfl)
        clear hd ho hdone hlater hold
        have hc : 25 < aq.tmps.size := by have hz' : aq.tmps.size = 43 := hz; omega
        exact Reg.step3_move (.tmp 11) rfl h11 (hI.keep _ (Below.refl _ _) (by decide) (by decide) (by decide) hc) trivial
      · skip
        intro aq wq lq hz hI hl hdone hlater hold hd ho
        have h7 : aq.tmps.getD 7 undef = .pointer (some ⟨p, 0, none⟩) := ho 7 (by kernel_rfl)
        clear hd ho hdone hlater hold
        rw [Array.getD_eq_getD_getElem?] at h7
        have hc : 26 < aq.tmps.size := by have hz' : aq.tmps.size = 43 := hz; omega
        have hld := (HF2.out.on hI.1).ld
        refine Reg.step3_val (.agg (ta 16 4 [])) ?_ rfl (hI.keep _ (Below.refl _ _) (by decide) (by decide) (by decide) hc) trivial
        clear hz hc hI
        go_simp
      · skip
        intro aq wq lq hz hI hl hdone hlater hold hd ho
        have h26 : aq.tmps.getD 26 undef = .agg (ta 16 4 []) := hd 26 (by kernel_rfl)
        clear hd ho hdone hlater hold
        rw [Array.getD_eq_getD_getElem?] at h26
        have hc : 27 < aq.tmps.size := by have hz' : aq.tmps.size = 43 := hz; omega
        refine Reg.step3_call 32 #[.agg (ta 16 4 [])] ?_ ((blocks_any 16 4 [] wq).mono ?_)
        · clear hz hc hI
          simp [execOp]
          go_simp
        · rintro e w' ⟨rfl, hb⟩
          refine ⟨_, rfl, ?_, (hI.keep _ hb (by decide) (by decide) (by decide) hc), trivial⟩
          rfl
      · skip
        intro aq wq lq hz hI hl hdone hlater hold hd ho
        have h7 : aq.tmps.getD 7 undef = .pointer (some ⟨p, 0, none⟩) := ho 7 (by kernel_rfl)
        clear hd ho hdone hlater hold
        rw [Array.getD_eq_getD_getElem?] at h7
        have hc : 28 < aq.tmps.size := by have hz' : aq.tmps.size = 43 := hz; omega
        have hld := (HF2.out.on hI.1).ld
        refine Reg.step3_val (.agg (ta 16 4 [])) ?_ rfl (hI.keep _ (Below.refl _ _) (by decide) (by decide) (by decide) hc) trivial
        clear hz hc hI
        go_simp
      · skip
        intro aq wq lq hz hI hl hdone hlater hold hd ho
        have h28 : aq.tmps.getD 28 undef = .agg (ta 16 4 []) := hd 28 (by kernel_rfl)
        clear hd ho hdone hlater hold
        rw [Array.getD_eq_getD_getElem?] at h28
        have hc : 29 < aq.tmps.size := by have hz' : aq.tmps.size = 43 := hz; omega
        refine Reg.step3_call 130 #[.agg (ta 16 4 [])] ?_ ((left_any 16 4 [] wq (by omega) (by omega) (by simp)).mono ?_)
        · clear hz hc hI
          simp [execOp]
          go_simp
        · rintro e w' ⟨rfl, hb⟩
          refine ⟨_, rfl, ?_, (hI.keep _ hb (by decide) (by decide) (by decide) hc), trivial⟩
          rfl
      · skip
        intro aq wq lq hz hI hl hdone hlater hold hd ho
        have h25 : aq.tmps.getD 25 undef = .string (Env.oP t.data.toList) := hd 25 (by kernel_rfl)
        have h27 : aq.tmps.getD 27 undef = .int .i64 16 := hd 27 (by kernel_rfl)
        have h29 : aq.tmps.getD 29 undef = .int .i64 4 := hd 29 (by kernel_rfl)
        clear hd ho hdone hlater hold
        rw [Array.getD_eq_getD_getElem?] at h25 h27 h29
        have hc : 30 < aq.tmps.size := by have hz' : aq.tmps.size = 43 := hz; omega
        refine Reg.step3_call 129 #[.string (Env.oP t.data.toList), .int .i64 16, .int .i64 4] ?_ ((Tab.parse_any (Env.oP t.data.toList) 16 4 wq HPS.out).mono ?_)
        · clear hz hc hI
          simp [execOp]
          go_simp
        · rintro e w' ⟨rfl, hb⟩
          refine ⟨_, rfl, ?_, (hI.keep _ hb (by decide) (by decide) (by decide) hc), trivial⟩
          rfl
      · skip
        intro aq wq lq hz hI hl hdone hlater hold hd ho
        have h30 : aq.tmps.getD 30 undef = .tuple #[.agg (ta (opN t) (opK t) (opM t)), .int .i64 (paE (pyL t) 16 4)] := hd 30 (by kernel_rfl)
        clear hd ho hdone hlater hold
        have hc : 24 < aq.tmps.size := by have hz' : aq.tmps.size = 43 := hz; omega
        exact Reg.step3_move (.tmp 30) rfl h30 (hI.keep _ (Below.refl _ _) (by decide) (by decide) (by decide) hc) trivial
      · skip
        intro aq wq lq hz hI hl hdone hlater hold hd ho
        have h24 : aq.tmps.getD 24 undef = .tuple #[.agg (ta (opN t) (opK t) (opM t)), .int .i64 (paE (pyL t) 16 4)] := hd 24 (by kernel_rfl)
        clear hd ho hdone hlater hold
        rw [Array.getD_eq_getD_getElem?] at h24
        have hc : 31 < aq.tmps.size := by have hz' : aq.tmps.size = 43 := hz; omega
        refine Reg.step3_val (.agg (ta (opN t) (opK t) (opM t))) ?_ rfl (hI.keep _ (Below.refl _ _) (by decide) (by decide) (by decide) hc) trivial
        clear hz hc hI
        simp [execOp, Act.eval, h24]
        try go_simp
      · skip
        intro aq wq lq hz hI hl hdone hlater hold hd ho
        have h24 : aq.tmps.getD 24 undef = .tuple #[.agg (ta (opN t) (opK t) (opM t)), .int .i64 (paE (pyL t) 16 4)] := hd 24 (by kernel_rfl)
        clear hd ho hdone hlater hold
        rw [Array.getD_eq_getD_getElem?] at h24
        have hc : 32 < aq.tmps.size := by have hz' : aq.tmps.size = 43 := hz; omega
        refine Reg.step3_val (.int .i64 (paE (pyL t) 16 4)) ?_ rfl (hI.keep _ (Below.refl _ _) (by decide) (by decide) (by decide) hc) trivial
        clear hz hc hI
        simp [execOp, Act.eval, h24]
        try go_simp
      · skip
        intro aq wq lq hz hI hl hdone hlater hold hd ho
        have hst : lq 10 = false := hlater 10 (by kernel_rfl)
        clear hd ho hdone hlater hold
        have hc : 13 < aq.tmps.size := by have hz' : aq.tmps.size = 43 := hz; omega
        refine Reg.step3_do (.pointer (some ⟨wq.heap.size, 0, none⟩)) (wq.alloc (.cells (tl 0 0 []).toArray 88)) ?_ trivial (Uno.mk hI hst (by decide) hc) trivial
        clear hz hc hI
        simp [execOp, Instr.alloc, Result.andThen]
        rfl
      · skip
        intro aq wq lq hz hI hl hdone hlater hold hd ho
        have h31 : aq.tmps.getD 31 undef = .agg (ta (opN t) (opK t) (opM t)) := hd 31 (by kernel_rfl)
        have hia : lq 9 = true := hdone 9 (by kernel_rfl)
        clear hd ho hdone hlater hold
        rw [Array.getD_eq_getD_getElem?] at h31
        obtain ⟨gq, hgp, hge, hH, hBx, hU⟩ := hI.st hia hl (by decide)
        rw [Array.getD_eq_getD_getElem?] at hgp
        have st := TAt.st (hH : TAt wq gq 0 0 []) (opN t) (opK t) (opM t)
        refine Reg.step3_skip (wq.setRow gq (ta (opN t) (opK t) (opM t))) rfl ?_ (hU _ (TAt.put (hH : TAt wq gq 0 0 []) _ _ _) (b_row hBx hge _)) trivial
        clear hU hH hBx hI hz
        simp [execOp, Act.eval, h31, hgp]
        go_simp
      · skip
        intro aq wq lq hz hI hl hdone hlater hold hd ho
        have h32 : aq.tmps.getD 32 undef = .int .i64 (paE (pyL t) 16 4) := hd 32 (by kernel_rfl)
        clear hd ho hdone hlater hold
        have hc : 12 < aq.tmps.size := by have hz' : aq.tmps.size = 43 := hz; omega
        exact Reg.step3_assign (.tmp 32) rfl h32 (hI.keep _ (Below.refl _ _) (by decide) (by decide) (by decide) hc) trivial
    case hend =>
      intro wx v aq hv hI
      obtain ⟨gq, hgp, hge, hH, hBx⟩ := Uno.done hI (by decide) (by decide)
      rw [hv 13 (by decide)] at hgp
      clear hv hI
      simp only [Reg.fill, List.map_cons, List.map_nil, List.foldl_cons, List.foldl_nil, List.setIfInBounds_toArray, List.set_cons_zero, List.set_cons_succ]
      rw [hgp]
      clear hgp
      have HT3 := Lib.hid (show TAt wx gq (opN t) (opK t) (opM t) from hH)
      have HH3 := Lib.hid (Has.below HH.out hBx HH.out.lt)
      have HR3 := Lib.hid (HR2.out.on hBx)
      have HB4 := Lib.hid (b_on HB2.out hBx)
      have HGQ := Lib.hid (show gq ≠ p + 1 from fun e => by have := HR2.out.lt; omega)
      have HHQ := Lib.hid (show h ≠ p + 1 from fun e => by
        have := HR2.out.row; have h2 := HH.out; rw [e] at h2; rw [show w2.heap[p + 1]? = _ from h2] at this; simp at this)
      have HM := Lib.hid (opM_len t)
      obtain ⟨N, hN⟩ : ∃ N, N = opN t := ⟨_, rfl⟩
      obtain ⟨K, hK⟩ : ∃ K, K = opK t := ⟨_, rfl⟩
      obtain ⟨M, hM⟩ : ∃ M, M = opM t := ⟨_, rfl⟩
      obtain ⟨E2, hE2⟩ : ∃ E2, E2 = paE (pyL t) 16 4 := ⟨_, rfl⟩
      rw [← hM] at HM
      rw [← hN, ← hK, ← hM] at HT3
      rw [← hN, ← hK, ← hM, ← hE2]
      have HV := Lib.hid (And.intro hN (And.intro hK (And.intro hM hE2)))
      clear hN hK hM hE2 hH hBx hge HF2 HR2 HB2 HH hpw
      have hpw : w.heap.size ≤ p + 1 := by have := HP.out; omega
      rw [← hh]
      clear hh
      by_cases h2 : E2 = 0
      · subst h2
        obtain ⟨bb, hbb⟩ : ∃ bb : Bool, bb = decide (k0 = 2 ∧ a0 = (s : Int) ∧ g0 = (M.length : Int)) := ⟨_, rfl⟩
        obtain ⟨u, hu⟩ : ∃ u : Int, u = (M.length : Int) := ⟨_, rfl⟩
        have hO0 : Op5 w gq h (p + 1) N K M [.int .u8 k0, .int .i64 a0, .int .u64 g0] (fun _ => false) wx.drew := ⟨HB4.out.drew, HT3.out, HH3.out, fun _ => HR3.out, fun h => by cases h⟩
        go_wp2_with fail
        refine Reg.region_vals (by kernel_rfl) [(33, .agg (ta N K M)), (34, .int .i64 0), (35, .bool true), (36, .bool true), (37, .agg #[.int .u8 k0, .int .i64 a0, .int .u64 g0]), (38, .int .i64 (s : Nat)), (39, .agg (ta N K M)), (40, .agg #[.int .u8 2, .int .i64 (s : Nat), .int .u64 M.length]), (41, .bool bb), (42, .bool bb), (9, .bool bb)] (Op5 w gq h (p + 1) N K M [.int .u8 k0, .int .i64 a0, .int .u64 g0]) (by kernel_rfl) (by kernel_rfl) (by kernel_rfl) (hO0) ⟨?_, ?_, ?_, ?_, ?_, ?_, ?_, ?_, ?_, ?_, ?_, ?_, trivial⟩ ?hend
        · skip
          intro aq wq lq hI hl hdone hlater hold hd ho
          have h13 : aq.tmps.getD 13 undef = .pointer (some ⟨gq, 0, none⟩) := ho 13 (by kernel_rfl)
          clear hd ho hdone hlater hold
          rw [Array.getD_eq_getD_getElem?] at h13
          have hld := hI.2.1.ld
          refine Reg.step2_val (.agg (ta N K M)) ?_ rfl (hI.rd (by decide)) trivial
          go_simp
        · skip
          intro aq wq lq hI hl hdone hlater hold hd ho
          have h12 : aq.tmps.getD 12 undef = .int .i64 0 := ho 12 (by kernel_rfl)
          clear hd ho hdone hlater hold
          exact Reg.step2_move (.tmp 12) rfl h12 (hI.rd (by decide)) trivial
        · skip
          intro aq wq lq hI hl hdone hlater hold hd ho
          have h34 : aq.tmps.getD 34 undef = .int .i64 0 := hd 34 (by kernel_rfl)
          clear hd ho hdone hlater hold
          rw [Array.getD_eq_getD_getElem?] at h34
          refine Reg.step2_val (.bool true) ?_ rfl (hI.rd (by decide)) trivial
          simp [execOp, Act.eval, h34]
          try go_simp
        · skip
          intro aq wq lq hI hl hdone hlater hold hd ho
          have h35 : aq.tmps.getD 35 undef = .bool true := hd 35 (by kernel_rfl)
          clear hd ho hdone hlater hold
          exact Reg.step2_move (.tmp 35) rfl h35 (hI.rd (by decide)) trivial
        · skip
          intro aq wq lq hI hl hdone hlater hold hd ho
          have h10 : aq.tmps.getD 10 undef = .pointer (some ⟨h, 0, none⟩) := ho 10 (by kernel_rfl)
          clear hd ho hdone hlater hold
          rw [Array.getD_eq_getD_getElem?] at h10
          have c0 := hI.2.2.1.cell 0
          have c1 := hI.2.2.1.cell 1
          have c2 := hI.2.2.1.cell 2
          simp only [List.getElem?_cons_zero, List.getElem?_cons_succ] at c0 c1 c2
          refine Reg.step2_val (.agg #[.int .u8 k0, .int .i64 a0, .int .u64 g0]) ?_ rfl (hI.rd (by decide)) trivial
          go_simp
        · skip
          intro aq wq lq hI hl hdone hlater hold hd ho
          have h2 : aq.tmps.getD 2 undef = .int .i64 (s : Nat) := ho 2 (by kernel_rfl)
          clear hd ho hdone hlater hold
          exact Reg.step2_move (.tmp 2) rfl h2 (hI.rd (by decide)) trivial
        · skip
          intro aq wq lq hI hl hdone hlater hold hd ho
          have h13 : aq.tmps.getD 13 undef = .pointer (some ⟨gq, 0, none⟩) := ho 13 (by kernel_rfl)
          clear hd ho hdone hlater hold
          rw [Array.getD_eq_getD_getElem?] at h13
          have hld := hI.2.1.ld
          refine Reg.step2_val (.agg (ta N K M)) ?_ rfl (hI.rd (by decide)) trivial
          go_simp
        · skip
          intro aq wq lq hI hl hdone hlater hold hd ho
          have h38 : aq.tmps.getD 38 undef = .int .i64 (s : Nat) := hd 38 (by kernel_rfl)
          have h39 : aq.tmps.getD 39 undef = .agg (ta N K M) := hd 39 (by kernel_rfl)
          clear hd ho hdone hlater hold
          rw [Array.getD_eq_getD_getElem?] at h38 h39
          refine Reg.step2_call 117 #[.int .i64 (s : Nat), .agg (ta N K M)] ?_ ((headOf_any s N K M wq HM.out).mono ?_)
          · clear hI
            simp [execOp]
            go_simp
          · rintro e w2 ⟨rfl, hb⟩
            exact ⟨_, rfl, rfl, hI.keep (by decide) hb, trivial⟩
        · skip
          intro aq wq lq hI hl hdone hlater hold hd ho
          have h37 : aq.tmps.getD 37 undef = .agg #[.int .u8 k0, .int .i64 a0, .int .u64 g0] := hd 37 (by kernel_rfl)
          have h40 : aq.tmps.getD 40 undef = .agg #[.int .u8 2, .int .i64 (s : Nat), .int .u64 M.length] := hd 40 (by kernel_rfl)
          clear hd ho hdone hlater hold
          rw [Array.getD_eq_getD_getElem?] at h37 h40
          refine Reg.step2_val (.bool bb) ?_ rfl (hI.rd (by decide)) trivial
          clear hI
          simp [execOp, Act.eval, h37, h40]
          go_simp
          repeat' split
          all_goals simp_all
        · skip
          intro aq wq lq hI hl hdone hlater hold hd ho
          have h36 : aq.tmps.getD 36 undef = .bool true := hd 36 (by kernel_rfl)
          have h41 : aq.tmps.getD 41 undef = .bool bb := hd 41 (by kernel_rfl)
          clear hd ho hdone hlater hold
          rw [Array.getD_eq_getD_getElem?] at h36 h41
          refine Reg.step2_val (.bool bb) ?_ rfl (hI.rd (by decide)) trivial
          simp [execOp, Act.eval, h36, h41]
          try go_simp
        · skip
          intro aq wq lq hI hl hdone hlater hold hd ho
          have h8 : aq.tmps.getD 8 undef = .pointer (some ⟨p + 1, 0, none⟩) := ho 8 (by kernel_rfl)
          have h33 : aq.tmps.getD 33 undef = .agg (ta N K M) := hd 33 (by kernel_rfl)
          clear hd ho hdone hlater hold
          rw [Array.getD_eq_getD_getElem?] at h8 h33
          have st := (hI.2.2.2.1 hl).st N K M
          refine Reg.step2_skip (wq.setRow (p + 1) (ta N K M)) rfl ?_ (hI.st hl HGQ.out HHQ.out hpw) trivial
          clear hI
          simp [execOp, Act.eval, h8, h33]
          go_simp
        · skip
          intro aq wq lq hI hl hdone hlater hold hd ho
          have h42 : aq.tmps.getD 42 undef = .bool bb := hd 42 (by kernel_rfl)
          clear hd ho hdone hlater hold
          exact Reg.step2_assign (.tmp 42) rfl h42 (hI.rd (by decide)) trivial
        case hend =>
          intro wz hI
          simp only [Reg.fill, List.foldl_cons, List.foldl_nil, List.setIfInBounds_toArray, List.set_cons_zero, List.set_cons_succ]
          have z0 := (hI.2.2.2.2 rfl).ld
          have HZ := Lib.hid hI.1
          clear hI
          go_wp2_with fail
          refine bodyPost_ret (v := .tuple #[.agg (ta N K M), .bool bb]) (by simp [results, Tryz.results101, go_sem, z0]) rfl ⟨⟨N, K, M, bb, rfl, ?_, HM.out⟩, HZ.out⟩
          obtain ⟨v1, v2, v3, v4⟩ := HV.out
          obtain ⟨k1, k2, k3⟩ := HKAG.out
          subst v1; subst v2; subst v3
          refine isOp_yes HE.out.symm v4.symm ?_
          rw [hbb, decide_eq_true_eq, k1, k2, k3]
      · have hO0 : Op5 w gq h (p + 1) N K M [.int .u8 k0, .int .i64 a0, .int .u64 g0] (fun _ => false) wx.drew := ⟨HB4.out.drew, HT3.out, HH3.out, fun _ => HR3.out, fun h => by cases h⟩
        go_wp2_with fail
        refine Reg.region_valsG (by kernel_rfl) [(33, .agg (ta N K M)), (34, .int .i64 E2), (35, .bool false), (36, .bool false), (37, undef), (38, undef), (39, undef), (40, undef), (41, undef), (42, .bool false), (9, .bool false)] (Op5 w gq h (p + 1) N K M [.int .u8 k0, .int .i64 a0, .int .u64 g0]) (by kernel_rfl) (by kernel_rfl) [4, 5, 6, 7, 8] (by kernel_rfl) (hO0) ⟨?_, ?_, ?_, ?_, ?_, ?_, ?_, ?_, ?_, ?_, ?_, ?_, trivial⟩ ?hend
        · skip
          intro aq wq lq hI hl hdone hlater hold hd ho
          have h13 : aq.tmps.getD 13 undef = .pointer (some ⟨gq, 0, none⟩) := ho 13 (by kernel_rfl)
          clear hd ho hdone hlater hold
          rw [Array.getD_eq_getD_getElem?] at h13
          have hld := hI.2.1.ld
          refine Reg.step2_val (.agg (ta N K M)) ?_ rfl (hI.rd (by decide)) trivial
          go_simp
        · skip
          intro aq wq lq hI hl hdone hlater hold hd ho
          have h12 : aq.tmps.getD 12 undef = .int .i64 E2 := ho 12 (by kernel_rfl)
          clear hd ho hdone hlater hold
          exact Reg.step2_move (.tmp 12) rfl h12 (hI.rd (by decide)) trivial
        · skip
          intro aq wq lq hI hl hdone hlater hold hd ho
          have h34 : aq.tmps.getD 34 undef = .int .i64 E2 := hd 34 (by kernel_rfl)
          clear hd ho hdone hlater hold
          rw [Array.getD_eq_getD_getElem?] at h34
          refine Reg.step2_val (.bool false) ?_ rfl (hI.rd (by decide)) trivial
          simp [execOp, Act.eval, h34]
          try go_simp
        · skip
          intro aq wq lq hI hl hdone hlater hold hd ho
          have h35 : aq.tmps.getD 35 undef = .bool false := hd 35 (by kernel_rfl)
          clear hd ho hdone hlater hold
          exact Reg.step2_move (.tmp 35) rfl h35 (hI.rd (by decide)) trivial
        · skip
          intro aq wq lq hI hl hdone hlater hold hd ho
          exact Reg.stepG_skip rfl (hI.rd (by decide)) trivial
        · skip
          intro aq wq lq hI hl hdone hlater hold hd ho
          exact Reg.stepG_skip rfl (hI.rd (by decide)) trivial
        · skip
          intro aq wq lq hI hl hdone hlater hold hd ho
          exact Reg.stepG_skip rfl (hI.rd (by decide)) trivial
        · skip
          intro aq wq lq hI hl hdone hlater hold hd ho
          exact Reg.stepG_skip rfl (hI.rd (by decide)) trivial
        · skip
          intro aq wq lq hI hl hdone hlater hold hd ho
          exact Reg.stepG_skip rfl (hI.rd (by decide)) trivial
        · skip
          intro aq wq lq hI hl hdone hlater hold hd ho
          have h36 : aq.tmps.getD 36 undef = .bool false := hd 36 (by kernel_rfl)
          have h41 : aq.tmps.getD 41 undef = undef := hd 41 (by kernel_rfl)
          clear hd ho hdone hlater hold
          rw [Array.getD_eq_getD_getElem?] at h36 h41
          refine Reg.step2_val (.bool false) ?_ rfl (hI.rd (by decide)) trivial
          simp [execOp, Act.eval, h36, h41]
          try go_simp
        · skip
          intro aq wq lq hI hl hdone hlater hold hd ho
          have h8 : aq.tmps.getD 8 undef = .pointer (some ⟨p + 1, 0, none⟩) := ho 8 (by kernel_rfl)
          have h33 : aq.tmps.getD 33 undef = .agg (ta N K M) := hd 33 (by kernel_rfl)
          clear hd ho hdone hlater hold
          rw [Array.getD_eq_getD_getElem?] at h8 h33
          have st := (hI.2.2.2.1 hl).st N K M
          refine Reg.step2_skip (wq.setRow (p + 1) (ta N K M)) rfl ?_ (hI.st hl HGQ.out HHQ.out hpw) trivial
          clear hI
          simp [execOp, Act.eval, h8, h33]
          go_simp
        · skip
          intro aq wq lq hI hl hdone hlater hold hd ho
          have h42 : aq.tmps.getD 42 undef = .bool false := hd 42 (by kernel_rfl)
          clear hd ho hdone hlater hold
          exact Reg.step2_assign (.tmp 42) rfl h42 (hI.rd (by decide)) trivial
        case hend =>
          intro wz hI
          simp only [Reg.fill, List.foldl_cons, List.foldl_nil, List.setIfInBounds_toArray, List.set_cons_zero, List.set_cons_succ]
          have z0 := (hI.2.2.2.2 rfl).ld
          have HZ := Lib.hid hI.1
          clear hI
          go_wp2_with fail
          refine bodyPost_ret (v := .tuple #[.agg (ta N K M), .bool false]) (by simp [results, Tryz.results101, go_sem, z0]) rfl ⟨⟨N, K, M, false, rfl, ?_, HM.out⟩, HZ.out⟩
          obtain ⟨v1, v2, v3, v4⟩ := HV.out
          exact isOp_pa (by rw [← v4]; exact h2) _ _ _
  · have s0 := HR2.out.st 0 0 []
    have z0 := (HR2.out.put 0 0 []).ld
    have HB3 := Lib.hid (b_row HB2.out (p := p + 1) hpw (ta 0 0 []))
    go_wp2_with (first | with_reducible refine wl_alloc ?_ | with_reducible refine wl_build0 ?_)
    exact bodyPost_ret (v := .tuple #[.agg (ta 0 0 []), .bool false]) (by simp [results, Tryz.results101, go_sem, z0]) rfl ⟨⟨0, 0, [], false, rfl, isOp_no (by rw [← HE.out]; exact h0) 0 0 [], by simp⟩, HB3.out⟩
end Go.Proofs.YtflanjcfkdjpjaaGreatDoor.Rem


/- Layer 7 (remap): newest. -/
namespace Go.Proofs.YtflanjcfkdjpjaaGreatDoor.Rem
open Go Go.RowKit Go.Proofs.YtflanjcfkdjpjaaGreatDoor Dev Tab
set_option linter.unusedVariables false

/-- the same, but for how many reads there were -/
def EqR (D E : Nat → Dv) : Prop := ∀ t, ∃ n, E t = { D t with nr := n }
theorem EqR.refl (D : Nat → Dv) : EqR D D := fun t => ⟨(D t).nr, rfl⟩
theorem EqR.trans {D E F : Nat → Dv} (h : EqR D E) (k : EqR E F) : EqR D F := fun t => by
  obtain ⟨n, hn⟩ := h t
  obtain ⟨n', hn'⟩ := k t
  exact ⟨n', by rw [hn', hn]⟩
theorem EqR.read {D E : Nat → Dv} (h : EqR D E) (s : Nat) (i : Int) : EqR D (upd E s ((E s).readD i)) := by
  intro t
  by_cases e : t = s
  · subst e; rw [upd_same]; obtain ⟨n, hn⟩ := h t; rw [hn]; unfold Dv.readD
    split
    · exact ⟨_, rfl⟩
    · exact ⟨_, rfl⟩
  · rw [upd_ne _ _ e]; exact h t
theorem EqR.readT {D E : Nat → Dv} (h : EqR D E) (t : Nat) (i : Int) : (E t).readT i = (D t).readT i := by
  obtain ⟨n, hn⟩ := h t; rw [hn]; rfl
theorem EqR.cache {D E : Nat → Dv} (h : EqR D E) (t : Nat) : (E t).cache = (D t).cache := by
  obtain ⟨n, hn⟩ := h t; rw [hn]
/-- what the r-th slot reads that newest looks at -/
def rdT (D : Nat → Dv) (s r : Nat) : ByteArray := (D (kpP s (r / 2))).readT (r : Nat)
/-- the best table of the first r slots -/
def bst (D : Nat → Dv) (s : Nat) : Nat → Option (List Int)
  | 0 => none
  | r + 1 => best (bst D s r) (opn s (rdT D s r))
theorem bst_succ (D : Nat → Dv) (s r : Nat) : bst D s (r + 1) = best (bst D s r) (opn s (rdT D s r)) := rfl
theorem EqR.rdT {D E : Nat → Dv} (h : EqR D E) (s r : Nat) : rdT E s r = rdT D s r := h.readT _ _
theorem readT_size {D : Dv} (h : D.Ok) (i : Int) : (D.readT i).size ≤ 1024 := by
  have hz := h.s1024
  unfold Dv.readT
  split
  · unfold Dv.reads
    split
    · rename_i x hx
      have := h.text x (List.mem_reverse.1 (List.mem_of_find?_eq_some hx))
      omega
    · cases hs : D.secs[i.toNat]? with
      | none => exact Nat.zero_le _
      | some x =>
        have := h.media x (List.mem_of_getElem? hs)
        show x.1.size ≤ 1024
        omega
  · exact Nat.zero_le _
section
variable {w0 w w' : World} {X : List Nat} {q : Nat} {pd : Nat → Nat} {m : Nat → List Int} {D E : Nat → Dv} {s r : Nat}
theorem CPe.ok (h : CPe w0 X q pd m D w) (hs : s < 2) : (D s).Ok := by
  obtain ⟨sb, cv, hd, -⟩ := h.some_
  exact (hd s hs).ok
theorem kpP_lt (hs : s < 2) {k : Nat} : kpP s k < 2 := by unfold kpP; split <;> omega
theorem nw_read (h : CPe w0 X q pd m E w) (he : EqR D E) (hs : s < 2) (hl : ∀ t, t < 2 → (D t).cache.length ≤ 10000000) (p : Nat) (hp : p = pd (kpP s (r / 2))) (v : Int) (hv : v = (r : Nat)) :
    Calls Tryz.prog 100 #[.pointer (some ⟨p, 0, none⟩), .int .i64 v] w fun e w' => (∃ x, e = .returned (.tuple #[.string (rdT D s r), .int .i64 x])) ∧ ∃ E', EqR D E' ∧ CPe w0 X q pd m E' w' ∧ Same (q :: X) w w' := by
  subst hp; subst hv
  have hP : kpP s (r / 2) < 2 := kpP_lt hs
  refine (h.dev hP (G := fun F => F = (E (kpP s (r / 2))).readD (r : Nat)) (R := fun e => ∃ x, e = .returned (.tuple #[.string (rdT D s r), .int .i64 x])) fun sb cv hd => ?_).mono ?_
  · refine (read_any _ w hd (by rw [he.cache]; have := hl _ hP; omega)).mono ?_
    rintro e w' ⟨rfl, hch, hd'⟩
    exact ⟨⟨_, by rw [he.readT]; rfl⟩, _, rfl, .same hch hd'⟩
  · rintro e w' ⟨he', F, rfl, hc, hsm⟩
    exact ⟨he', _, he.read _ _, hc, hsm⟩
theorem chg_row {R : Nat → Prop} (w : World) (p : Nat) (cs : Array Value) (hp : R p) : Chg R w (w.setRow p cs) :=
  ⟨rfl, rfl, rfl, by simp, fun i _ hi => setRow_other w p i cs (fun e => hi (e ▸ hp))⟩
theorem CPe.add (h : CPe w0 X q pd m D w) (hb : Below w.heap.size w w') {b : Nat} (h1 : w.heap.size ≤ b) (h2 : b < w'.heap.size) : CPe w0 (b :: X) q pd m D w' := by
  have h' := h.later hb
  have hql := h.lt
  obtain ⟨⟨sb0, cv0, hd0, hf0, hff0⟩, hp0, hq0, hx0, hb0⟩ := h
  obtain ⟨⟨sb, cv, hd, hf, hff⟩, hp, hq, hx, hb'⟩ := h'
  refine ⟨⟨sb0, cv0, fun s hs => (hd0 s hs).below hb (Nat.le_refl _), fun s hs k hk => ⟨(hf0 s hs k hk).1, ?_, (hf0 s hs k hk).2.2⟩, hff0⟩, hp, ⟨hq.1, ?_⟩, ?_, hb'⟩
  · intro he
    rcases List.mem_cons.1 he with rfl | he
    · exact absurd ((hd0 s hs).lt _ hk) (by omega)
    · exact (hf0 s hs k hk).2.1 he
  · intro he
    rcases List.mem_cons.1 he with rfl | he
    · omega
    · exact hq.2 he
  · intro k hk
    rcases List.mem_cons.1 hk with rfl | hk
    · exact ⟨Nat.le_trans hb0.size h1, h2⟩
    · exact hx k hk
theorem same_below (h : CPe w0 X q pd m D w) (hb : Below w.heap.size w w') : Same (q :: X) w w' := fun k hk => by
  refine hb.block k ?_
  rcases List.mem_cons.1 hk with rfl | hk
  · exact h.lt
  · exact (h.x k hk).2
end
/-- in the middle of newest: a has the first table, c the results, d the newest one, b the sums -/
structure Nw (w0 w : World) (X : List Nat) (q : Nat) (pd : Nat → Nat) (m : Nat → List Int) (D : Nat → Dv) (s a b c d r : Nat) (x y : Int) (M : List Int) (wr : World) : Prop where
  pair : ∃ E, EqR D E ∧ CPe w0 (d :: b :: c :: a :: X) q pd m E wr
  ta_ : TAt wr a 16 4 []
  tc : TAt wr c 0 0 []
  td : TAt wr d x y M
  tb_ : Sum.IsTab wr b
  is : ∀ l, bst D s r = some l → x = 16 ∧ y = 4 ∧ M = l
  len : M.length ≤ 32
  same : Same (q :: X) w wr
  ne : d ≠ a ∧ d ≠ c ∧ d ≠ b ∧ d ∉ X ∧ c ∉ X
section
variable {w0 w wr w' : World} {X : List Nat} {q : Nat} {pd : Nat → Nat} {m : Nat → List Int} {D : Nat → Dv} {s a b c d r : Nat} {x y : Int} {M : List Int}
theorem tab_same {w w' : World} {b : Nat} (h : Sum.IsTab w b) (hk : w'.heap[b]? = w.heap[b]?) : Sum.IsTab w' b := fun j hj => by
  have := h j hj
  unfold World.cell? at this ⊢
  rw [hk]; exact this
theorem Nw.later (h : Nw w0 w X q pd m D s a b c d r x y M wr) (hb : Below wr.heap.size wr w') : Nw w0 w X q pd m D s a b c d r x y M w' := by
  obtain ⟨⟨E, hE, hc⟩, h1, h2, h3, h4, h5, h6, h7, h8⟩ := h
  exact ⟨⟨E, hE, hc.later hb⟩, h1.on hb, h2.on hb, h3.on hb, tab_later h4 hb, h5, h6, h7.trans (fun k hk => same_below hc hb k (by
    rcases List.mem_cons.1 hk with rfl | hk
    · simp
    · simp [hk])), h8⟩
theorem Nw.read (h : Nw w0 w X q pd m D s a b c d r x y M wr) (hs : s < 2) (hl : ∀ t, t < 2 → (D t).cache.length ≤ 10000000) (p : Nat) (hp : p = pd (kpP s (r / 2))) (v : Int) (hv : v = (r : Nat)) :
    Calls Tryz.prog 100 #[.pointer (some ⟨p, 0, none⟩), .int .i64 v] wr fun e w' => (∃ z, e = .returned (.tuple #[.string (rdT D s r), .int .i64 z])) ∧ Nw w0 w X q pd m D s a b c d r x y M w' := by
  obtain ⟨⟨E, hE, hc⟩, h1, h2, h3, h4, h5, h6, h7, h8⟩ := h
  refine (nw_read hc hE hs hl p hp v hv).mono ?_
  rintro e w' ⟨he, E', hE', hc', hsm⟩
  exact ⟨he, ⟨E', hE', hc'⟩, h1.same (hsm a (by simp)), h2.same (hsm c (by simp)), h3.same (hsm d (by simp)), tab_same h4 (hsm b (by simp)), h5, h6, h7.trans (fun k hk => hsm k (by
    rcases List.mem_cons.1 hk with rfl | hk
    · simp
    · simp [hk])), h8⟩
theorem Nw.next (h : Nw w0 w X q pd m D s a b c d r x y M wr) (hn : ∀ l, bst D s (r + 1) = some l → x = 16 ∧ y = 4 ∧ M = l) : Nw w0 w X q pd m D s a b c d (r + 1) x y M wr := by
  obtain ⟨h0, h1, h2, h3, h4, h5, h6, h7, h8⟩ := h
  exact ⟨h0, h1, h2, h3, h4, hn, h6, h7, h8⟩
theorem Nw.set (h : Nw w0 w X q pd m D s a b c d r x y M wr) (x' y' : Int) (M' : List Int) (hl : M'.length ≤ 32) (hn : ∀ l, bst D s (r + 1) = some l → x' = 16 ∧ y' = 4 ∧ M' = l) : Nw w0 w X q pd m D s a b c d (r + 1) x' y' M' (wr.setRow d (ta x' y' M')) := by
  obtain ⟨⟨E, hE, hc⟩, h1, h2, h3, h4, h5, h6, h7, h8⟩ := h
  refine ⟨⟨E, hE, hc.chg (chg_row _ _ _ (by simp))⟩, h1.putOther (Ne.symm h8.1) _, h2.putOther (Ne.symm h8.2.1) _, h3.put _ _ _, tab_same h4 (setRow_other _ _ _ _ (Ne.symm h8.2.2.1)), hn, hl, h7.trans (fun k hk => setRow_other _ _ _ _ fun e => ?_), h8⟩
  subst e
  rcases List.mem_cons.1 hk with rfl | hk
  · exact hc.q_.2 (by simp)
  · exact h8.2.2.2.1 hk
theorem Nw.size (h : Nw w0 w X q pd m D s a b c d r x y M wr) (hs : s < 2) : (rdT D s r).size ≤ 1000000 := by
  obtain ⟨E, hE, hc⟩ := h.pair
  rw [← hE.rdT]
  exact Nat.le_trans (readT_size (hc.ok (kpP_lt hs)) _) (by omega)
end
theorem best_no (a : Option (List Int)) : best a none = a := by cases a <;> rfl
theorem bst_skip {D : Nat → Dv} {s r : Nat} (h : opn s (rdT D s r) = none) : bst D s (r + 1) = bst D s r := by rw [bst_succ, h, best_no]
theorem bst_first {D : Nat → Dv} {s r : Nat} {l : List Int} (h : opn s (rdT D s r) = some l) (h0 : bst D s r = none) : bst D s (r + 1) = some l := by rw [bst_succ, h, h0]; rfl
theorem bst_both {D : Nat → Dv} {s r : Nat} {l n : List Int} (h : opn s (rdT D s r) = some l) (h0 : bst D s r = some n) : bst D s (r + 1) = if n.length < l.length then some l else some n := by rw [bst_succ, h, h0]; rfl
theorem opn_some {s : Nat} {T : ByteArray} {x y : Int} {M : List Int} (h : IsOp s T x y M true) : opn s T = some M ∧ x = 16 ∧ y = 4 := by
  obtain ⟨h1, h2⟩ := h
  cases ho : opn s T with
  | none => rw [ho] at h1; cases h1
  | some l => obtain ⟨a, b, c⟩ := h2 l ho; exact ⟨by rw [c], a, b⟩
theorem opn_none {s : Nat} {T : ByteArray} {x y : Int} {M : List Int} (h : IsOp s T x y M false) : opn s T = none := by
  cases ho : opn s T with
  | none => rfl
  | some l => have := h.1; rw [ho] at this; cases this
set_option maxHeartbeats 2000000 in
set_option maxRecDepth 100000 in
theorem newest_e {w0 w : World} {X : List Nat} {q : Nat} {pd : Nat → Nat} {m : Nat → List Int} {D : Nat → Dv} (h : CPe w0 X q pd m D w) {s : Nat} (hs : s < 2) (hl : ∀ t, t < 2 → (D t).cache.length ≤ 10000000) :
    Calls Tryz.prog 66 #[.pointer (some ⟨q, 0, none⟩), .int .i64 (s : Nat), .agg (ta 16 4 [])] w fun e w' => ∃ x y M E, e = .returned (.tuple #[.agg (ta x y M), .bool (bst D s 4).isSome]) ∧ (∀ l, bst D s 4 = some l → x = 16 ∧ y = 4 ∧ M = l) ∧ EqR D E ∧ CPe w0 X q pd m E w' ∧ Same (q :: X) w w' := by
  have HL := Lib.hid hl
  have hb1 := b_new w (.cells (ta 16 4 []) 88)
  have hb2 := b_nw hb1 (.cells (ta 0 0 []) 88)
  have HA := Lib.hid ((TAt.made w 16 4 []).new (.cells (ta 0 0 []) 88))
  have hc0 := TAt.made (w.alloc (.cells (ta 16 4 []) 88)) 0 0 []
  have HP := Lib.hid ((h.new (.cells (ta 16 4 []) 88)).new (.cells (ta 0 0 []) 88))
  have HS0 := Lib.hid (same_below h hb2)
  have hX := fun k hk => (h.x k hk).2
  obtain ⟨a, ha⟩ : ∃ a, a = w.heap.size := ⟨_, rfl⟩
  obtain ⟨c, hc⟩ : ∃ c, c = (w.alloc (.cells (ta 16 4 []) 88)).heap.size := ⟨_, rfl⟩
  have hac : c = a + 1 := by rw [hc, ha]; simp
  rw [← hc] at hc0 HP
  rw [← ha] at HA HP hX
  have HC := Lib.hid hc0
  have HXX := Lib.hid hX
  have HAC := Lib.hid hac
  have HQ := Lib.hid h.lt
  rw [← ha] at HQ
  clear hb1 hb2 hc0 hX hl h
  go_enter Tryz.func66, Tryz.ntmps66
  go_wp2_with (first | with_reducible refine wl_alloc ?_)
  rw [← ha, ← hac]
  refine (Sum.make_any _).mono ?_
  rintro e w1 ⟨b, rfl, hb1, ht, hb⟩
  have HA1 := Lib.hid (HA.out.on hb)
  have HC1 := Lib.hid (HC.out.on hb)
  have hbl : b < w1.heap.size := World.block_lt_of_cell? w1 _ (ht 0 (by omega))
  have HP1 := Lib.hid (HP.out.add hb hb1 hbl)
  have HS1 := Lib.hid (HS0.out.trans (fun k hk => same_below HP.out hb k (by
    rcases List.mem_cons.1 hk with rfl | hk
    · simp
    · simp [hk])) : Same (q :: X) w w1)
  have HT1 := Lib.hid ht
  have hsz : a + 2 ≤ w1.heap.size := by have := hb.size; simp at this; omega
  have HBL := Lib.hid hbl
  have hldA := HA1.out.ld
  clear ha hc hac hb1 ht hb hbl HA HC HP HS0
  obtain ⟨d, hd⟩ : ∃ d, d = w1.heap.size := ⟨_, rfl⟩
  have HN := Lib.hid (show Nw w0 w X q pd m D s a b c d 0 16 4 [] (w1.alloc (.cells (ta 16 4 []) 88)) from by
    refine ⟨⟨D, EqR.refl D, ?_⟩, HA1.out.new _, HC1.out.new _, ?_, tab_later HT1.out (b_new w1 _), fun l hl => (by cases hl), by simp, ?_, ?_⟩
    · rw [hd]; exact HP1.out.new _
    · rw [hd]; exact TAt.made _ _ _ _
    · exact HS1.out.trans fun k hk => same_below HP1.out (b_new w1 _) k (by
        rcases List.mem_cons.1 hk with rfl | hk
        · simp
        · simp [hk])
    · have := HBL.out; have := HAC.out
      exact ⟨by omega, by omega, by omega, fun hk => by have := HXX.out d hk; omega, fun hk => by have := HXX.out c hk; omega⟩)
  clear hsz HAC HXX HBL HS1 HT1 HP1 HA1 HC1 HQ
  go_wp2_with (first | with_reducible refine wl_alloc ?_)
  rw [← hd]
  clear hd hldA
  obtain ⟨E0, hE0, hc0⟩ := HN.out.pair
  refine (from_e hc0.pb hs).mono ?_
  rintro e w2 ⟨rfl, hb⟩
  have HN2 := Lib.hid (HN.out.later hb)
  clear hb hc0 HN hE0
  go_wp2_with fail
  go_loopw [23, 10] (fun i f wr => ∃ (k : Nat) (x y : Int) (M : List Int), k ≤ 2 ∧ i = .int .i64 k ∧ f = .bool (bst D s (2 * k)).isSome ∧ Nw w0 w X q pd m D s a b c d (2 * k) x y M wr) (fun i _ _ => 2 - (intOf i).toNat)
  case atStart => exact ⟨0, 16, 4, [], by omega, rfl, rfl, HN2.out⟩
  case round =>
    obtain ⟨k, x, y, M, hk, rfl, rfl, hn⟩ := hrel
    clear HN2
    have HN := Lib.hid hn
    clear hn
    by_cases h2 : k = 2
    · subst h2
      have l0 := HN.out.td.ld
      have s0 := HN.out.tc.st x y M
      have z0 := (HN.out.tc.put x y M).ld
      obtain ⟨E, hE, hc⟩ := HN.out.pair
      have HE := Lib.hid (show EqR D E from hE)
      have HCC := Lib.hid (show CPe w0 X q pd m E (wr.setRow c (ta x y M)) from (hc.chg (chg_row _ _ _ (by simp))).sub fun k hk => by simp [hk])
      have HSS := Lib.hid (show Same (q :: X) w (wr.setRow c (ta x y M)) from HN.out.same.trans fun k hk => setRow_other _ _ _ _ fun e => by
        subst e
        rcases List.mem_cons.1 hk with rfl | hk
        · exact hc.q_.2 (by simp)
        · exact HN.out.ne.2.2.2.2 hk)
      have HIS := Lib.hid HN.out.is
      clear hE hc HN hk
      obtain ⟨F, hF⟩ : ∃ F, F = (bst D s (2 * 2)).isSome := ⟨_, rfl⟩
      rw [← hF]
      go_wp2_with fail
      exact bodyPost_ret (v := .tuple #[.agg (ta x y M), .bool F]) (by simp [results, Tryz.results66, go_sem, z0]) rfl ⟨x, y, M, E, by rw [hF], HIS.out, HE.out, HCC.out, HSS.out⟩
    · have hk2 : k < 2 := by omega
      have hi0 : ∀ w : World, (Instr.index 26 (.agg #[.pointer (some ⟨pd s, 0, none⟩), .pointer (some ⟨pd (1 - s), 0, none⟩)]) (.int .i64 0)).run Tryz.prog w = .ok (.pointer (some ⟨pd s, 0, none⟩)) w := fun _ => by kernel_rfl
      have hi1 : ∀ w : World, (Instr.index 26 (.agg #[.pointer (some ⟨pd s, 0, none⟩), .pointer (some ⟨pd (1 - s), 0, none⟩)]) (.int .i64 1)).run Tryz.prog w = .ok (.pointer (some ⟨pd (1 - s), 0, none⟩)) w := fun _ => by kernel_rfl
      obtain ⟨kk, hkk⟩ : ∃ kk, kk = 2 * k := ⟨_, rfl⟩
      have HKK := Lib.hid hkk
      have HKL := Lib.hid hk2
      rw [← hkk] at HN ⊢
      clear hkk hk h2
      rcases (show k = 0 ∨ k = 1 by omega) with rfl | rfl
      all_goals
        clear hk2
        first
        | rw [show ((0 : Nat) : Int) = 0 from rfl]
        | rw [show ((1 : Nat) : Int) = 1 from rfl]
        go_wp2_with fail
        clear hi0 hi1
        go_loopw [27, 10] (fun i f wv => ∃ (j : Nat) (x y : Int) (M : List Int), j ≤ 2 ∧ i = .int .i64 j ∧ f = .bool (bst D s (kk + j)).isSome ∧ Nw w0 w X q pd m D s a b c d (kk + j) x y M wv) (fun i _ _ => 2 - (intOf i).toNat)
        case atStart => exact ⟨0, x, y, M, by omega, rfl, rfl, HN.out⟩
        case round =>
          obtain ⟨j, x, y, M, hj, rfl, rfl, hn⟩ := hrel
          clear HN
          have HN := Lib.hid hn
          clear hn
          obtain ⟨F, hF⟩ : ∃ F, F = (bst D s (kk + j)).isSome := ⟨_, rfl⟩
          rw [← hF]
          have HF := Lib.hid hF
          clear hF
          by_cases h2 : j = 2
          · subst h2
            go_wp2_with fail
            go_roundw
            case rel => first
              | exact ⟨0 + 1, x, y, M, by omega, by go_num, by rw [HF.out, HKK.out], by have := HN.out; rwa [HKK.out] at this⟩
              | exact ⟨1 + 1, x, y, M, by omega, by go_num, by rw [HF.out, HKK.out], by have := HN.out; rwa [HKK.out] at this⟩
            case measure => simp [intOf]
          · have hj2 : j < 2 := by omega
            clear h2 hj
            have HJ := Lib.hid hj2
            go_wp2_with fail
            refine (HN.out.read hs HL.out _ (by
              have h1 := HKK.out; have h2 := HJ.out; have h3 := HKL.out
              first
              | (rw [show (kk + j) / 2 = 0 by omega]; rfl)
              | (rw [show (kk + j) / 2 = 1 by omega]; rfl)) _ (by have h1 := HKK.out; omega)).mono ?_
            rintro e w3 ⟨⟨z, rfl⟩, hn⟩
            have hsz := hn.size hs
            obtain ⟨T, hT⟩ : ∃ T, T = rdT D s (kk + j) := ⟨_, rfl⟩
            rw [← hT] at hsz ⊢
            have HN3 := Lib.hid hn
            have HSZ := Lib.hid hsz
            have HTT := Lib.hid hT
            have hld := hn.ta_.ld
            clear hn hsz hT HN
            go_wp2_with fail
            refine (opened_any b T s _ HN3.out.tb_ HSZ.out).mono ?_
            rintro e w4 ⟨⟨x1, y1, M1, f, rfl, hop, hm1⟩, hb⟩
            have HOP := Lib.hid hop
            have HM1 := Lib.hid hm1
            have HM := Lib.hid HN3.out.len
            have HN4 := Lib.hid (HN3.out.later (hb.trans ((b_new w4 (.cells (ta x1 y1 M1) 88)).mono hb.size)))
            obtain ⟨g, hg⟩ : ∃ g, g = w4.heap.size := ⟨_, rfl⟩
            have hgt := TAt.made w4 x1 y1 M1
            rw [← hg] at hgt
            have HG := Lib.hid hgt
            clear hgt hop hm1 hb HN3 hld
            cases f with
            | false =>
              have hO0 : Nw w0 w X q pd m D s a b c d (kk + j) x y M (w4.alloc (.cells (ta x1 y1 M1) 88)) ∧ TAt (w4.alloc (.cells (ta x1 y1 M1) 88)) g x1 y1 M1 := ⟨HN4.out, HG.out⟩
              have hdr : Below (w4.alloc (.cells (ta x1 y1 M1) 88)).heap.size (w4.alloc (.cells (ta x1 y1 M1) 88)) (w4.alloc (.cells (ta x1 y1 M1) 88)).drew := (Below.refl _ _).drew
              go_wp2_with (first | with_reducible refine wl_alloc ?_)
              rw [← hg]
              clear hg
              refine Reg.region_valsG (by kernel_rfl) [(47, .bool false), (48, .bool false), (49, undef), (50, undef), (51, undef), (52, undef), (53, undef), (54, undef), (55, undef), (56, undef), (57, undef), (58, .bool false)] (fun _ wy => Nw w0 w X q pd m D s a b c d (kk + j) x y M wy ∧ TAt wy g x1 y1 M1) (by kernel_rfl) (by kernel_rfl) [2, 3, 4, 5, 6, 7, 8, 9, 10] (by kernel_rfl) (⟨hO0.1.later hdr, hO0.2.on hdr⟩) ⟨?_, ?_, ?_, ?_, ?_, ?_, ?_, ?_, ?_, ?_, ?_, ?_, trivial⟩ ?hend
              · skip
                intro aq wq lq hI hl hdone hlater hold hd ho
                have h17 : aq.tmps.getD 17 undef = .bool false := ho 17 (by kernel_rfl)
                clear hd ho hdone hlater hold
                exact Reg.step2_move (.tmp 17) rfl h17 hI trivial
              · skip
                intro aq wq lq hI hl hdone hlater hold hd ho
                have h47 : aq.tmps.getD 47 undef = .bool false := hd 47 (by kernel_rfl)
                clear hd ho hdone hlater hold
                exact Reg.step2_move (.tmp 47) rfl h47 hI trivial
              · skip
                intro aq wq lq hI hl hdone hlater hold hd ho
                exact Reg.stepG_skip rfl hI trivial
              · skip
                intro aq wq lq hI hl hdone hlater hold hd ho
                exact Reg.stepG_skip rfl hI trivial
              · skip
                intro aq wq lq hI hl hdone hlater hold hd ho
                exact Reg.stepG_skip rfl hI trivial
              · skip
                intro aq wq lq hI hl hdone hlater hold hd ho
                exact Reg.stepG_skip rfl hI trivial
              · skip
                intro aq wq lq hI hl hdone hlater hold hd ho
                exact Reg.stepG_skip rfl hI trivial
              · skip
                intro aq wq lq hI hl hdone hlater hold hd ho
                exact Reg.stepG_skip rfl hI trivial
              · skip
                intro aq wq lq hI hl hdone hlater hold hd ho
                exact Reg.stepG_skip rfl hI trivial
              · skip
                intro aq wq lq hI hl hdone hlater hold hd ho
                exact Reg.stepG_skip rfl hI trivial
              · skip
                intro aq wq lq hI hl hdone hlater hold hd ho
                exact Reg.stepG_skip rfl hI trivial
              · skip
                intro aq wq lq hI hl hdone hlater hold hd ho
                have h48 : aq.tmps.getD 48 undef = .bool false := hd 48 (by kernel_rfl)
                have h57 : aq.tmps.getD 57 undef = undef := hd 57 (by kernel_rfl)
                clear hd ho hdone hlater hold
                rw [Array.getD_eq_getD_getElem?] at h48 h57
                refine Reg.step2_val (.bool false) ?_ rfl hI trivial
                simp [execOp, Act.eval, h48, h57]
                try go_simp
              case hend =>
                intro wz hI
                simp only [Reg.fill, List.foldl_cons, List.foldl_nil, List.setIfInBounds_toArray, List.set_cons_zero, List.set_cons_succ]
                have hbs := bst_skip (r := kk + j) (by rw [← HTT.out]; exact opn_none HOP.out)
                have HN6 := Lib.hid (hI.1.next fun l hl => hI.1.is l (by rw [← hbs]; exact hl))
                have HF6 := Lib.hid (show F = (bst D s (kk + (j + 1))).isSome by rw [← Nat.add_assoc, hbs]; exact HF.out)
                clear hI hO0 hdr hbs HOP HN4 HG
                go_wp2_with fail
                go_roundw
                case rel => exact ⟨j + 1, x, y, M, by omega, by go_num, by rw [HF6.out], HN6.out⟩
                case measure => simp [intOf]; omega
            | true =>
              obtain ⟨ho, -, -⟩ := opn_some HOP.out
              have hx1 := (opn_some HOP.out).2.1
              have hy1 := (opn_some HOP.out).2.2
              have HO := Lib.hid (show opn s (rdT D s (kk + j)) = some M1 by rw [← HTT.out]; exact ho)
              have HXY := Lib.hid (And.intro hx1 hy1)
              clear ho hx1 hy1
              have hO0 : Nw w0 w X q pd m D s a b c d (kk + j) x y M (w4.alloc (.cells (ta x1 y1 M1) 88)) ∧ TAt (w4.alloc (.cells (ta x1 y1 M1) 88)) g x1 y1 M1 := ⟨HN4.out, HG.out⟩
              have hdr : Below (w4.alloc (.cells (ta x1 y1 M1) 88)).heap.size (w4.alloc (.cells (ta x1 y1 M1) 88)) (w4.alloc (.cells (ta x1 y1 M1) 88)).drew := (Below.refl _ _).drew
              go_wp2_with (first | with_reducible refine wl_alloc ?_)
              rw [← hg]
              clear hg
              cases F with
              | false =>
                refine Reg.region_valsG (by kernel_rfl) [(47, .bool true), (48, .bool true), (49, .bool false), (50, .bool true), (51, .bool true), (52, undef), (53, undef), (54, undef), (55, undef), (56, undef), (57, .bool true), (58, .bool true)] (fun _ wy => Nw w0 w X q pd m D s a b c d (kk + j) x y M wy ∧ TAt wy g x1 y1 M1) (by kernel_rfl) (by kernel_rfl) [5, 6, 7, 8, 9] (by kernel_rfl) (⟨hO0.1.later hdr, hO0.2.on hdr⟩) ⟨?_, ?_, ?_, ?_, ?_, ?_, ?_, ?_, ?_, ?_, ?_, ?_, trivial⟩ ?hend
                · skip
                  intro aq wq lq hI hl hdone hlater hold hd ho
                  have h17 : aq.tmps.getD 17 undef = .bool true := ho 17 (by kernel_rfl)
                  clear hd ho hdone hlater hold
                  exact Reg.step2_move (.tmp 17) rfl h17 hI trivial
                · skip
                  intro aq wq lq hI hl hdone hlater hold hd ho
                  have h47 : aq.tmps.getD 47 undef = .bool true := hd 47 (by kernel_rfl)
                  clear hd ho hdone hlater hold
                  exact Reg.step2_move (.tmp 47) rfl h47 hI trivial
                · skip
                  intro aq wq lq hI hl hdone hlater hold hd ho
                  have h10 : aq.tmps.getD 10 undef = .bool false := ho 10 (by kernel_rfl)
                  clear hd ho hdone hlater hold
                  exact Reg.step2_move (.tmp 10) rfl h10 hI trivial
                · skip
                  intro aq wq lq hI hl hdone hlater hold hd ho
                  have h49 : aq.tmps.getD 49 undef = .bool false := hd 49 (by kernel_rfl)
                  clear hd ho hdone hlater hold
                  rw [Array.getD_eq_getD_getElem?] at h49
                  refine Reg.step2_val (.bool true) ?_ rfl hI trivial
                  simp [execOp, Act.eval, h49]
                  try go_simp
                · skip
                  intro aq wq lq hI hl hdone hlater hold hd ho
                  have h50 : aq.tmps.getD 50 undef = .bool true := hd 50 (by kernel_rfl)
                  clear hd ho hdone hlater hold
                  exact Reg.step2_move (.tmp 50) rfl h50 hI trivial
                · skip
                  intro aq wq lq hI hl hdone hlater hold hd ho
                  exact Reg.stepG_skip rfl hI trivial
                · skip
                  intro aq wq lq hI hl hdone hlater hold hd ho
                  exact Reg.stepG_skip rfl hI trivial
                · skip
                  intro aq wq lq hI hl hdone hlater hold hd ho
                  exact Reg.stepG_skip rfl hI trivial
                · skip
                  intro aq wq lq hI hl hdone hlater hold hd ho
                  exact Reg.stepG_skip rfl hI trivial
                · skip
                  intro aq wq lq hI hl hdone hlater hold hd ho
                  exact Reg.stepG_skip rfl hI trivial
                · skip
                  intro aq wq lq hI hl hdone hlater hold hd ho
                  have h51 : aq.tmps.getD 51 undef = .bool true := hd 51 (by kernel_rfl)
                  have h56 : aq.tmps.getD 56 undef = undef := hd 56 (by kernel_rfl)
                  clear hd ho hdone hlater hold
                  rw [Array.getD_eq_getD_getElem?] at h51 h56
                  refine Reg.step2_val (.bool true) ?_ rfl hI trivial
                  simp [execOp, Act.eval, h51, h56]
                  try go_simp
                · skip
                  intro aq wq lq hI hl hdone hlater hold hd ho
                  have h48 : aq.tmps.getD 48 undef = .bool true := hd 48 (by kernel_rfl)
                  have h57 : aq.tmps.getD 57 undef = .bool true := hd 57 (by kernel_rfl)
                  clear hd ho hdone hlater hold
                  rw [Array.getD_eq_getD_getElem?] at h48 h57
                  refine Reg.step2_val (.bool true) ?_ rfl hI trivial
                  simp [execOp, Act.eval, h48, h57]
                  try go_simp
                case hend =>
                  intro wz hI
                  simp only [Reg.fill, List.foldl_cons, List.foldl_nil, List.setIfInBounds_toArray, List.set_cons_zero, List.set_cons_succ]
                  have hbs := bst_first HO.out (by
                    have := HF.out
                    cases hq : bst D s (kk + j) with
                    | none => rfl
                    | some l => rw [hq] at this; cases this)
                  have l0 := hI.2.ld
                  have s0 := hI.1.td.st x1 y1 M1
                  have HN6 := Lib.hid (hI.1.set x1 y1 M1 HM1.out fun l hl => by rw [hbs] at hl; cases hl; exact ⟨HXY.out.1, HXY.out.2, rfl⟩)
                  have HF6 := Lib.hid (show true = (bst D s (kk + (j + 1))).isSome by rw [← Nat.add_assoc, hbs]; rfl)
                  clear hI hO0 hdr hbs HOP HN4 HG
                  go_wp2_with fail
                  go_roundw
                  case rel => exact ⟨j + 1, x1, y1, M1, by omega, by go_num, by rw [HF6.out], HN6.out⟩
                  case measure => simp [intOf]; omega
              | true =>
                obtain ⟨n0, hn0⟩ : ∃ n, bst D s (kk + j) = some n := by
                  have := HF.out
                  cases hq : bst D s (kk + j) with
                  | none => rw [hq] at this; cases this
                  | some l => exact ⟨l, rfl⟩
                have hnm : M = n0 := (HN4.out.is n0 hn0).2.2
                have HN0 := Lib.hid (show bst D s (kk + j) = some M by rw [hn0, hnm])
                clear hn0 hnm
                obtain ⟨G, hG⟩ : ∃ G : Bool, G = decide ((M.length : Int) < (M1.length : Int)) := ⟨_, rfl⟩
                refine Reg.region_vals (by kernel_rfl) [(47, .bool true), (48, .bool true), (49, .bool true), (50, .bool false), (51, .bool false), (52, .agg (ta x1 y1 M1)), (53, .int .u64 M1.length), (54, .agg (ta x y M)), (55, .int .u64 M.length), (56, .bool G), (57, .bool G), (58, .bool G)] (fun _ wy => Nw w0 w X q pd m D s a b c d (kk + j) x y M wy ∧ TAt wy g x1 y1 M1) (by kernel_rfl) (by kernel_rfl) (by kernel_rfl) (⟨hO0.1.later hdr, hO0.2.on hdr⟩) ⟨?_, ?_, ?_, ?_, ?_, ?_, ?_, ?_, ?_, ?_, ?_, ?_, trivial⟩ ?hend
                · skip
                  intro aq wq lq hI hl hdone hlater hold hd ho
                  have h17 : aq.tmps.getD 17 undef = .bool true := ho 17 (by kernel_rfl)
                  clear hd ho hdone hlater hold
                  exact Reg.step2_move (.tmp 17) rfl h17 hI trivial
                · skip
                  intro aq wq lq hI hl hdone hlater hold hd ho
                  have h47 : aq.tmps.getD 47 undef = .bool true := hd 47 (by kernel_rfl)
                  clear hd ho hdone hlater hold
                  exact Reg.step2_move (.tmp 47) rfl h47 hI trivial
                · skip
                  intro aq wq lq hI hl hdone hlater hold hd ho
                  have h10 : aq.tmps.getD 10 undef = .bool true := ho 10 (by kernel_rfl)
                  clear hd ho hdone hlater hold
                  exact Reg.step2_move (.tmp 10) rfl h10 hI trivial
                · skip
                  intro aq wq lq hI hl hdone hlater hold hd ho
                  have h49 : aq.tmps.getD 49 undef = .bool true := hd 49 (by kernel_rfl)
                  clear hd ho hdone hlater hold
                  rw [Array.getD_eq_getD_getElem?] at h49
                  refine Reg.step2_val (.bool false) ?_ rfl hI trivial
                  simp [execOp, Act.eval, h49]
                  try go_simp
                · skip
                  intro aq wq lq hI hl hdone hlater hold hd ho
                  have h50 : aq.tmps.getD 50 undef = .bool false := hd 50 (by kernel_rfl)
                  clear hd ho hdone hlater hold
                  exact Reg.step2_move (.tmp 50) rfl h50 hI trivial
                · skip
                  intro aq wq lq hI hl hdone hlater hold hd ho
                  have h16 : aq.tmps.getD 16 undef = .pointer (some ⟨g, 0, none⟩) := ho 16 (by kernel_rfl)
                  clear hd ho hdone hlater hold
                  rw [Array.getD_eq_getD_getElem?] at h16
                  have hld := hI.2.ld
                  refine Reg.step2_val (.agg (ta x1 y1 M1)) ?_ rfl hI trivial
                  go_simp
                · skip
                  intro aq wq lq hI hl hdone hlater hold hd ho
                  have h52 : aq.tmps.getD 52 undef = .agg (ta x1 y1 M1) := hd 52 (by kernel_rfl)
                  clear hd ho hdone hlater hold
                  rw [Array.getD_eq_getD_getElem?] at h52
                  refine Reg.step2_call 102 #[.agg (ta x1 y1 M1)] ?_ ((gen_any x1 y1 M1 wq HM1.out).mono ?_)
                  · clear hI
                    simp [execOp]
                    go_simp
                  · rintro e w2 ⟨rfl, hb⟩
                    exact ⟨_, rfl, rfl, ⟨hI.1.later hb, hI.2.on hb⟩, trivial⟩
                · skip
                  intro aq wq lq hI hl hdone hlater hold hd ho
                  have h9 : aq.tmps.getD 9 undef = .pointer (some ⟨d, 0, none⟩) := ho 9 (by kernel_rfl)
                  clear hd ho hdone hlater hold
                  rw [Array.getD_eq_getD_getElem?] at h9
                  have hld := hI.1.td.ld
                  refine Reg.step2_val (.agg (ta x y M)) ?_ rfl hI trivial
                  go_simp
                · skip
                  intro aq wq lq hI hl hdone hlater hold hd ho
                  have h54 : aq.tmps.getD 54 undef = .agg (ta x y M) := hd 54 (by kernel_rfl)
                  clear hd ho hdone hlater hold
                  rw [Array.getD_eq_getD_getElem?] at h54
                  refine Reg.step2_call 102 #[.agg (ta x y M)] ?_ ((gen_any x y M wq HM.out).mono ?_)
                  · clear hI
                    simp [execOp]
                    go_simp
                  · rintro e w2 ⟨rfl, hb⟩
                    exact ⟨_, rfl, rfl, ⟨hI.1.later hb, hI.2.on hb⟩, trivial⟩
                · skip
                  intro aq wq lq hI hl hdone hlater hold hd ho
                  have h53 : aq.tmps.getD 53 undef = .int .u64 M1.length := hd 53 (by kernel_rfl)
                  have h55 : aq.tmps.getD 55 undef = .int .u64 M.length := hd 55 (by kernel_rfl)
                  clear hd ho hdone hlater hold
                  rw [Array.getD_eq_getD_getElem?] at h53 h55
                  refine Reg.step2_val (.bool G) ?_ rfl hI trivial
                  simp [execOp, Act.eval, h53, h55]
                  try go_simp
                · skip
                  intro aq wq lq hI hl hdone hlater hold hd ho
                  have h51 : aq.tmps.getD 51 undef = .bool false := hd 51 (by kernel_rfl)
                  have h56 : aq.tmps.getD 56 undef = .bool G := hd 56 (by kernel_rfl)
                  clear hd ho hdone hlater hold
                  rw [Array.getD_eq_getD_getElem?] at h51 h56
                  refine Reg.step2_val (.bool G) ?_ rfl hI trivial
                  simp [execOp, Act.eval, h51, h56]
                  try go_simp
                · skip
                  intro aq wq lq hI hl hdone hlater hold hd ho
                  have h48 : aq.tmps.getD 48 undef = .bool true := hd 48 (by kernel_rfl)
                  have h57 : aq.tmps.getD 57 undef = .bool G := hd 57 (by kernel_rfl)
                  clear hd ho hdone hlater hold
                  rw [Array.getD_eq_getD_getElem?] at h48 h57
                  refine Reg.step2_val (.bool G) ?_ rfl hI trivial
                  simp [execOp, Act.eval, h48, h57]
                  try go_simp
                case hend =>
                  intro wz hI
                  simp only [Reg.fill, List.foldl_cons, List.foldl_nil, List.setIfInBounds_toArray, List.set_cons_zero, List.set_cons_succ]
                  have hbs := bst_both HO.out HN0.out
                  cases G with
                  | false =>
                    have hlt : ¬ M.length < M1.length := by
                      have := of_decide_eq_false hG.symm; omega
                    rw [if_neg hlt] at hbs
                    have HN6 := Lib.hid (hI.1.next fun l hl => hI.1.is l (by rw [HN0.out]; rw [hbs] at hl; exact hl))
                    have HF6 := Lib.hid (show true = (bst D s (kk + (j + 1))).isSome by rw [← Nat.add_assoc, hbs]; rfl)
                    clear hI hO0 hdr hbs HOP HN4 HG hG hlt
                    go_wp2_with fail
                    go_roundw
                    case rel => exact ⟨j + 1, x, y, M, by omega, by go_num, by rw [HF6.out], HN6.out⟩
                    case measure => simp [intOf]; omega
                  | true =>
                    have hlt : M.length < M1.length := by
                      have := of_decide_eq_true hG.symm; omega
                    rw [if_pos hlt] at hbs
                    have l0 := hI.2.ld
                    have s0 := hI.1.td.st x1 y1 M1
                    have HN6 := Lib.hid (hI.1.set x1 y1 M1 HM1.out fun l hl => by rw [hbs] at hl; cases hl; exact ⟨HXY.out.1, HXY.out.2, rfl⟩)
                    have HF6 := Lib.hid (show true = (bst D s (kk + (j + 1))).isSome by rw [← Nat.add_assoc, hbs]; rfl)
                    clear hI hO0 hdr hbs HOP HN4 HG hG hlt
                    go_wp2_with fail
                    go_roundw
                    case rel => exact ⟨j + 1, x1, y1, M1, by omega, by go_num, by rw [HF6.out], HN6.out⟩
                    case measure => simp [intOf]; omega
end Go.Proofs.YtflanjcfkdjpjaaGreatDoor.Rem


