/- Layers' contracts, bundled: RegionV, Uno, RemA, RemB. -/
import Derived.Test.YtflanjcfkdjpjaaGreatDoorL01
import Derived.Test.YtflanjcfkdjpjaaGreatDoorL05
import Derived.Test.YtflanjcfkdjpjaaGreatDoorL04
import Derived.Test.YtflanjcfkdjpjaaGreatDoorL02
import Derived.Test.YtflanjcfkdjpjaaGreatDoorL06
import Derived.Outline
import Derived.Deep.DeepCutAuto
/- A region that draws its order, and whose operations may write, where what is kept speaks of the frame, too: for blocks whose address the order decides. -/
namespace Go.Proofs.YtflanjcfkdjpjaaGreatDoor.Reg
open Go Go.RowKit
section
variable {P : Program} {ops : Array Oper} {Q : Exit → Act → World → Prop}

structure St3 (ops : Array Oper) (V : Tmp → Value → World → Prop) (Inv : (Nat → Bool) → Act → World → Prop) (a0 : Act) (listed : Array Bool) (a : Act) (w : World) : Prop where
  size : a.tmps.size = a0.tmps.size
  defers : a.defers = a0.defers
  inv : Inv (fun j => listed.getD j false) a w
  lsize : listed.size = ops.size
  val : ∀ i d, dstOf ops i = some d → listed.getD i false = true → V d (a.tmps.getD d undef) w
  out : ∀ t, (dsts ops).contains t = false → a.tmps.getD t undef = a0.tmps.getD t undef
  closed : ∀ i o, ops[i]? = some o → listed.getD i false = true → ∀ e ∈ o.after, Region.binds .any e = true → listed.getD e.on false = true
  old : ∀ i d, dstOf ops i = some d → listed.getD i false = false → a.tmps.getD d undef = a0.tmps.getD d undef

def Did3 (V : Tmp → Value → World → Prop) (Inv : (Nat → Bool) → Act → World → Prop) (Rel : World → World → Prop) (l : Nat → Bool) (i : Nat) (o : Oper) (a : Act) (w : World) : Act → World → Prop :=
  fun a' w' => ∃ v, a' = a.put o.dst v ∧ (∀ d, o.dst = some d → V d v w') ∧ Inv (lset l i) (a.put o.dst v) w' ∧ Rel w w'
/-- what is to be shown of one operation: l tells which have come up; none that waits for this one has -/
def Step3 (P : Program) (ops : Array Oper) (Q : Exit → Act → World → Prop) (V : Tmp → Value → World → Prop) (Inv : (Nat → Bool) → Act → World → Prop) (Rel : World → World → Prop) (a0 : Act) (i : Nat) (o : Oper) : Prop :=
  ∀ (a : Act) (w : World) (l : Nat → Bool), a.tmps.size = a0.tmps.size → Inv l a w → l i = false → (∀ j, Region.waitsFor .any ops i j = true → l j = true) →
    (∀ j, Region.waitsFor .any ops j i = true → l j = false) → (∀ j d, dstOf ops j = some d → l j = false → a.tmps.getD d undef = a0.tmps.getD d undef) →
    (∀ t, (deps ops o).contains t = true → V t (a.tmps.getD t undef) w) → (∀ t, (dsts ops).contains t = false → a.tmps.getD t undef = a0.tmps.getD t undef) →
    Oper.wp P o a w (Did3 V Inv Rel l i o a w) Q
/-- of all of them, one by one -/
def Steps3 (P : Program) (ops : Array Oper) (Q : Exit → Act → World → Prop) (V : Tmp → Value → World → Prop) (Inv : (Nat → Bool) → Act → World → Prop) (Rel : World → World → Prop) (a0 : Act) : Nat → List Oper → Prop
  | _, [] => True
  | i, o :: l => Step3 P ops Q V Inv Rel a0 i o ∧ Steps3 P ops Q V Inv Rel a0 (i + 1) l
theorem Steps3.at {V : Tmp → Value → World → Prop} {Inv : (Nat → Bool) → Act → World → Prop} {Rel : World → World → Prop} {a0 : Act} {l : List Oper} : ∀ {k : Nat}, Steps3 P ops Q V Inv Rel a0 k l → ∀ i o, l[i]? = some o → Step3 P ops Q V Inv Rel a0 (k + i) o := by
  induction l with
  | nil => intro k _ i o ho; simp at ho
  | cons x l ih =>
    intro k h i o ho
    cases i with
    | zero => simp at ho; subst ho; exact h.1
    | succ i => have := ih h.2 i o (by simpa using ho); rwa [show k + 1 + i = k + (i + 1) by omega] at this

theorem wpAny_specs3 (V : Tmp → Value → World → Prop) (Inv : (Nat → Bool) → Act → World → Prop) (Rel : World → World → Prop) (a0 : Act) (hok : okOps a0.tmps.size ops = true)
    (hV : ∀ t v w w', V t v w → Rel w w' → V t v w')
    (hg : ∀ p ∈ guards ops, ∀ v w, V p.1 v w → v = .bool p.2)
    (hstep : Steps3 P ops Q V Inv Rel a0 0 ops.toList)
    (hend : ∀ (a : Act) (w : World), a.tmps.size = a0.tmps.size → a.defers = a0.defers → Inv (fun j => decide (j < ops.size)) a w → (∀ t, (dsts ops).contains t = true → V t (a.tmps.getD t undef) w) →
      (∀ t, (dsts ops).contains t = false → a.tmps.getD t undef = a0.tmps.getD t undef) → Q .normal a w) :
    ∀ (fuel : Nat) (listed : Array Bool) (a : Act) (w : World), left listed ≤ fuel → St3 ops V Inv a0 listed a w → wpAny P .any ops Q fuel listed a w := by
  have hfin : ∀ (listed : Array Bool) (a : Act) (w : World), St3 ops V Inv a0 listed a w → Region.ready .any ops listed = [] → Q .normal a w := by
    intro listed a w hst hr
    have hall := ready_nil hok hst.lsize hr
    have hinv := hst.inv
    rw [show (fun j => listed.getD j false) = fun j => decide (j < ops.size) from funext fun j => by
      by_cases hj : j < ops.size
      · simp only [hj, decide_true]; exact hall j hj
      · rw [Array.getD_eq_getD_getElem?, Array.getElem?_eq_none (by rw [hst.lsize]; omega)]; simp [hj]] at hinv
    refine hend a w hst.size hst.defers hinv (fun t ht => ?_) hst.out
    have hm : t ∈ dsts ops := by simpa using ht
    obtain ⟨o, ho, hod⟩ := List.mem_filterMap.1 hm
    obtain ⟨i, hi, hio⟩ := List.mem_iff_getElem.1 ho
    have hio' : ops[i]? = some o := by rw [Array.getElem?_eq_getElem (by simpa using hi)]; simpa using hio
    exact hst.val i t (by unfold dstOf; rw [hio']; exact hod) (ready_nil hok hst.lsize hr i (by simpa using hi))
  intro fuel
  induction fuel with
  | zero =>
    intro listed a w hf hst
    have hr : Region.ready .any ops listed = [] := by
      cases h : Region.ready .any ops listed with
      | nil => rfl
      | cons i l =>
        have hi : i ∈ Region.ready .any ops listed := by rw [h]; exact List.mem_cons_self
        have := left_set listed i (mem_ready.1 hi).1
        omega
    exact ⟨hr, hfin listed a w hst hr⟩
  | succ fuel ih =>
    intro listed a w hf hst
    refine ⟨hfin listed a w hst, fun i hi => ?_⟩
    obtain ⟨hun, o, ho, hall⟩ := mem_ready.1 hi
    have hlt : i < ops.size := (Array.getElem?_eq_some_iff.1 ho).1
    have hmem : o ∈ ops.toList := by have := Array.mem_of_getElem? ho; simpa using this
    have hdep : ∀ t, (deps ops o).contains t = true → V t (a.tmps.getD t undef) w := by
      intro t ht
      have hm : t ∈ deps ops o := by simpa using ht
      obtain ⟨e, he, het⟩ := List.mem_filterMap.1 hm
      by_cases hbn : Region.binds .any e = true
      · rw [if_pos hbn] at het
        exact hst.val e.on t het (hall e (by simpa using he) hbn)
      · rw [if_neg hbn] at het; cases het
    have hw : Region.wanted o (yielded ops a.tmps) = true := by
      unfold Region.wanted
      cases hgd : o.guard with
      | none => rfl
      | some p =>
        obtain ⟨j, b⟩ := p
        obtain ⟨d, hd, hdc, hdn⟩ := (okOps_back hok ho).2 j b hgd
        have hv := hg (d, b) (List.mem_filterMap.2 ⟨o, hmem, by rw [hgd]; simp [hd]⟩) _ _ (hdep d hdc)
        have hsz : d < a.tmps.size := by rw [hst.size]; exact hdn
        have hs : a.tmps[d]? = some (.bool b) := by
          rw [Array.getElem?_eq_getElem hsz]
          rw [Array.getD_eq_getD_getElem?, Array.getElem?_eq_getElem hsz] at hv
          simpa using hv
        unfold dstOf at hd
        simp [yielded, hd, hs]
    have hunf : listed.getD i false = false := by
      have hlt' : i < listed.size := by rw [hst.lsize]; exact hlt
      rw [Array.getD_eq_getD_getElem?, Array.getElem?_eq_getElem hlt'] at hun ⊢
      simpa using hun
    have hstp := hstep.at i o (by simpa using ho)
    rw [Nat.zero_add] at hstp
    have hstp := hstp a w (fun j => listed.getD j false) hst.size hst.inv hunf (fun j hj => by
      obtain ⟨oj, hoj, e, he, hb, hei⟩ := Region.waitsFor_spec hj
      rw [ho] at hoj; cases hoj
      rw [← hei]; exact hall e he hb) (fun j hj => by
      obtain ⟨o', hoj, e, he, hb, hei⟩ := Region.waitsFor_spec hj
      cases hlj : listed.getD j false with
      | false => rfl
      | true => have := hst.closed j o' hoj hlj e he hb; rw [hei, hunf] at this; cases this) hst.old hdep hst.out
    unfold wpOp
    simp only [ho]
    rw [if_pos hw]
    refine .inl (Oper.wp_mono (fun a' w' hk => ?_) hstp)
    obtain ⟨v, rfl, hv, hinv, hb⟩ := hk
    refine ih _ _ _ (by have := left_set listed i hun; omega) ⟨by rw [size_put]; exact hst.size, by rw [defers_put]; exact hst.defers, by rw [show (fun j => (listed.setIfInBounds i true).getD j false) = lset (fun j => listed.getD j false) i from funext fun j => getD_listed _ _ _ (by rw [hst.lsize]; exact hlt)]; exact hinv, by simpa using hst.lsize, fun k d hk hl => ?_, fun t ht => ?_, fun k o' hk hl e he hbn => ?_, fun k d hk hl => ?_⟩
    · rw [getD_listed _ _ _ (by rw [hst.lsize]; exact hlt)] at hl
      cases hod : o.dst with
      | none =>
        by_cases e : i = k
        · subst e; unfold dstOf at hk; rw [ho] at hk; simp [hod] at hk
        · rw [if_neg e] at hl; exact hV _ _ _ _ (hst.val k d hk hl) hb
      | some c =>
        have hc : dstOf ops i = some c := by unfold dstOf; rw [ho]; exact hod
        have hcs : c < a.tmps.size := by rw [hst.size]; exact okOps_lt hok (dstOf_mem hc)
        rw [getD_put _ _ _ _ hcs]
        by_cases e : i = k
        · subst e
          rw [hc] at hk; cases hk
          rw [if_pos rfl]; exact hv _ hod
        · rw [if_neg e] at hl
          have : ¬ c = d := fun h => e (okOps_inj hok hc (by rw [h]; exact hk))
          rw [if_neg this]
          exact hV _ _ _ _ (hst.val k d hk hl) hb
    · cases hod : o.dst with
      | none => exact hst.out t ht
      | some c =>
        have hc : dstOf ops i = some c := by unfold dstOf; rw [ho]; exact hod
        have hcs : c < a.tmps.size := by rw [hst.size]; exact okOps_lt hok (dstOf_mem hc)
        rw [getD_put _ _ _ _ hcs, if_neg (fun h => ?_)]
        · exact hst.out t ht
        · subst h; have := dstOf_mem hc; simp at ht; exact ht this
    · rw [getD_listed _ _ _ (by rw [hst.lsize]; exact hlt)] at hl ⊢
      by_cases e1 : i = e.on
      · rw [if_pos e1]
      · rw [if_neg e1]
        by_cases e2 : i = k
        · subst e2; rw [ho] at hk; cases hk; exact hall e he hbn
        · rw [if_neg e2] at hl; exact hst.closed k o' hk hl e he hbn
    · rw [getD_listed _ _ _ (by rw [hst.lsize]; exact hlt)] at hl
      by_cases e1 : i = k
      · rw [if_pos e1] at hl; cases hl
      · rw [if_neg e1] at hl
        cases hod : o.dst with
        | none => exact hst.old k d hk hl
        | some c =>
          have hc : dstOf ops i = some c := by unfold dstOf; rw [ho]; exact hod
          have hcs : c < a.tmps.size := by rw [hst.size]; exact okOps_lt hok (dstOf_mem hc)
          rw [getD_put _ _ _ _ hcs, if_neg (fun h => ?_)]
          · exact hst.old k d hk hl
          · subst h; exact e1 (okOps_inj hok hc hk)

/-- The law: whatever the order. -/
theorem region_specs3 {id : Nat} {a0 : Act} {w : World} (hm : P.follows .mixedOrders = true) (V : Tmp → Value → World → Prop) (Inv : (Nat → Bool) → Act → World → Prop) (Rel : World → World → Prop) (hok : okOps a0.tmps.size ops = true)
    (hV : ∀ t v w w', V t v w → Rel w w' → V t v w')
    (hg : ∀ p ∈ guards ops, ∀ v w, V p.1 v w → v = .bool p.2)
    (h0 : Inv (fun _ => false) a0 w.drew)
    (hstep : Steps3 P ops Q V Inv Rel a0 0 ops.toList)
    (hend : ∀ (a : Act) (w : World), a.tmps.size = a0.tmps.size → a.defers = a0.defers → Inv (fun j => decide (j < ops.size)) a w → (∀ t, (dsts ops).contains t = true → V t (a.tmps.getD t undef) w) →
      (∀ t, (dsts ops).contains t = false → a.tmps.getD t undef = a0.tmps.getD t undef) → Q .normal a w) :
    (Code.region id ops true).wp P Q a0 w :=
  wp_region_any hm (wpAny_specs3 V Inv Rel a0 hok hV hg hstep hend _ _ _ _ (by rw [left_all]; exact Nat.le_refl _)
    ⟨rfl, rfl, by rw [show (fun j => (Array.replicate ops.size false).getD j false) = fun _ => false from funext fun j => by simp [Array.getD_eq_getD_getElem?, Array.getElem?_replicate]; split <;> rfl]; exact h0, by simp, fun i d _ h => by
      rw [Array.getD_eq_getD_getElem?] at h
      by_cases hi : i < ops.size
      · simp [hi] at h
      · simp [Array.getElem?_eq_none (by simpa using hi : (Array.replicate ops.size false).size ≤ i)] at h, fun _ _ => rfl, fun i o _ h => by
      rw [Array.getD_eq_getD_getElem?] at h
      by_cases hi : i < ops.size
      · simp [hi] at h
      · simp [Array.getElem?_eq_none (by simpa using hi : (Array.replicate ops.size false).size ≤ i)] at h, fun _ _ _ _ => rfl⟩)


section
variable {V : Tmp → Value → World → Prop} {Inv : (Nat → Bool) → Act → World → Prop} {Rel : World → World → Prop} {o : Oper} {a : Act} {w : World} {l : Nat → Bool} {i : Nat}
theorem step3_val (v : Value) (hr : (execOp a.eval o).run P w = .ok (.value v) w) (hv : VO V o.dst v w) (hI : Inv (lset l i) (a.put o.dst v) w) (hR : Rel w w) :
    Oper.wp P o a w (Did3 V Inv Rel l i o a w) Q := by
  unfold Oper.wp; rw [hr]; exact ⟨v, rfl, hv.all, hI, hR⟩
theorem step3_move (x : Operand) (ho : o.op = .move x) (hv : VO V o.dst (a.eval x) w) (hI : Inv (lset l i) (a.put o.dst (a.eval x)) w) (hR : Rel w w) :
    Oper.wp P o a w (Did3 V Inv Rel l i o a w) Q :=
  step3_val (a.eval x) (by unfold execOp; rw [ho]; rfl) hv hI hR
theorem step3_assign (x : Operand) (ho : o.op = .assign x) (hv : VO V o.dst (a.eval x) w) (hI : Inv (lset l i) (a.put o.dst (a.eval x)) w) (hR : Rel w w) :
    Oper.wp P o a w (Did3 V Inv Rel l i o a w) Q :=
  step3_val (a.eval x) (by unfold execOp; rw [ho]; rfl) hv hI hR
theorem step3_do (v : Value) (w2 : World) (hr : (execOp a.eval o).run P w = .ok (.value v) w2) (hv : VO V o.dst v w2) (hI : Inv (lset l i) (a.put o.dst v) w2) (hR : Rel w w2) :
    Oper.wp P o a w (Did3 V Inv Rel l i o a w) Q := by
  unfold Oper.wp; rw [hr]; exact ⟨v, rfl, hv.all, hI, hR⟩
theorem step3_skip (w2 : World) (ho : o.dst = none) (hr : (execOp a.eval o).run P w = .ok .skip w2) (hI : Inv (lset l i) a w2) (hR : Rel w w2) :
    Oper.wp P o a w (Did3 V Inv Rel l i o a w) Q := by
  unfold Oper.wp; rw [hr]
  exact ⟨undef, by rw [ho], (fun d hd => by rw [ho] at hd; cases hd), by rw [ho]; exact hI, hR⟩
theorem step3_call (f : FuncId) (args : Array Value) (hr : (execOp a.eval o).run P w = .ok (.enter f args) w)
    (hc : Calls P f args w fun e w' => ∃ v, e = .returned v ∧ VO V o.dst v w' ∧ Inv (lset l i) (a.put o.dst v) w' ∧ Rel w w') :
    Oper.wp P o a w (Did3 V Inv Rel l i o a w) Q := by
  unfold Oper.wp; rw [hr]
  refine hc.mono ?_
  rintro e w' ⟨v, rfl, hv, hI, hR⟩
  exact ⟨v, rfl, hv.all, hI, hR⟩
end
end

theorem step2_skip {P : Program} {Q : Exit → Act → World → Prop} {V : Tmp → Value → World → Prop} {Inv : (Nat → Bool) → World → Prop} {Rel : World → World → Prop} {o : Oper} {a : Act} {w : World} {l : Nat → Bool} {i : Nat}
    (w2 : World) (ho : o.dst = none) (hr : (execOp a.eval o).run P w = .ok .skip w2) (hI : Inv (lset l i) w2) (hR : Rel w w2) :
    Oper.wp P o a w (Did V Inv Rel l i o a w) Q := by
  unfold Oper.wp; rw [hr]
  exact ⟨undef, by rw [ho], (fun d hd => by rw [ho] at hd; cases hd), hI, hR⟩
/-- The law: the slots of S are filled so, those of D by somewhat of which Inv tells. -/
theorem region_vals3 {P : Program} {ops : Array Oper} {Q : Exit → Act → World → Prop} {id : Nat} {a0 : Act} {w : World} (hm : P.follows .mixedOrders = true) (S : List (Tmp × Value)) (D : List Tmp) (Inv : (Nat → Bool) → Act → World → Prop)
    (hok : okOps a0.tmps.size ops = true) (hkeys : decide (S.map (·.1)).Nodup = true) (hdn : decide D.Nodup = true) (hcov : (dsts ops).all (fun t => (S.map (·.1)).contains t != D.contains t) && (S.map (·.1)).all (fun t => (dsts ops).contains t) && D.all (fun t => (dsts ops).contains t) = true) (hg : guardsV S (guards ops) = true)
    (h0 : Inv (fun _ => false) a0 w.drew)
    (hstep : Steps3 P ops Q (VV S) Inv (fun _ _ => True) a0 0 ops.toList)
    (hend : ∀ w (v : Tmp → Value) (a : Act), (∀ d, D.contains d = true → a.tmps.getD d undef = v d) → Inv (fun j => decide (j < ops.size)) a w → Q .normal { tmps := fill (D.map fun d => (d, v d)) (fill S a0.tmps), defers := a0.defers } w) :
    (Code.region id ops true).wp P Q a0 w := by
  refine region_specs3 hm (VV S) Inv (fun _ _ => True) hok (fun _ _ _ _ h _ => h) ?_ h0 hstep ?_
  · intro p hp v w hv
    have := List.all_eq_true.1 hg p hp
    unfold VV at hv
    split at this
    · rename_i b hl
      rw [hl] at hv
      rw [hv, eq_of_beq this]
    · cases this
  · intro a w hsz hdf hI hd ho
    have hnd : (S.map (·.1)).Nodup := by simpa using hkeys
    have hnD : ((D.map fun d => (d, a.tmps.getD d undef)).map (·.1)).Nodup := by
      rw [List.map_map]
      have : (D.map ((fun x => x.1) ∘ fun d => (d, a.tmps.getD d undef))) = D := by
        conv => rhs; rw [← List.map_id D]
        rfl
      rw [this]; simpa using hdn
    have hlD : ∀ (L : List Tmp) (i : Tmp), (L.map fun d => (d, a.tmps.getD d undef)).lookup i = if L.contains i then some (a.tmps.getD i undef) else none := by
      intro L i
      induction L with
      | nil => rfl
      | cons x L ih =>
        simp only [List.map_cons, List.lookup_cons]
        by_cases e : i = x
        · subst e; simp
        · have hb : (i == x) = false := by simpa using e
          simp only [hb, ih, List.contains_cons, Bool.false_or]
    simp only [Bool.and_eq_true, List.all_eq_true] at hcov
    obtain ⟨⟨hc1, hc2⟩, hc3⟩ := hcov
    have e : a = { tmps := fill (D.map fun d => (d, a.tmps.getD d undef)) (fill S a0.tmps), defers := a0.defers } := by
      obtain ⟨tm, df⟩ := a
      simp only at hsz hdf hd ho hnD hlD
      subst hdf
      congr 1
      apply Array.ext_getElem?
      intro i
      by_cases hi : i < a0.tmps.size
      · rw [fill_get _ _ i hnD (by rw [fill_size]; exact hi), hlD D i]
        have hti : tm[i]? = some (tm.getD i undef) := by
          rw [Array.getD_eq_getD_getElem?, Array.getElem?_eq_getElem (by omega)]; rfl
        cases hD : D.contains i with
        | true => simp only [if_true]; exact hti
        | false =>
          simp only [Bool.false_eq_true, if_false]
          rw [fill_get S _ i hnd hi]
          cases hc : (dsts ops).contains i with
          | true =>
            have h1 := hc1 i (by simpa using hc)
            rw [hD] at h1
            have hm' : i ∈ S.map (·.1) := by simpa using h1
            obtain ⟨x, hx⟩ := lookup_mem S i hm'
            have hv := hd i hc
            unfold VV at hv
            rw [hx] at hv ⊢
            rw [hti, hv]
          | false =>
            have hl : S.lookup i = none := by
              rw [List.lookup_eq_none_iff]
              intro q hq
              have : ¬ i ∈ S.map (·.1) := fun hh => by have := hc2 i hh; rw [hc] at this; cases this
              simp; intro e'; exact this (List.mem_map.2 ⟨q, hq, e'.symm⟩)
            rw [hl, hti, ho i hc, Array.getD_eq_getD_getElem?, Array.getElem?_eq_getElem hi]; rfl
      · rw [Array.getElem?_eq_none (by omega), Array.getElem?_eq_none (by rw [fill_size, fill_size]; omega)]
    have := hend w (fun d => a.tmps.getD d undef)
    have := this a (fun _ _ => rfl) hI
    rwa [← e] at this
end Go.Proofs.YtflanjcfkdjpjaaGreatDoor.Reg


/- A drawn region with one new block, whose place the order decides, and that is filled at its end. -/
namespace Go.Proofs.YtflanjcfkdjpjaaGreatDoor
open Go Go.RowKit

def Uno (w0 : World) (d ia js : Nat) (t : TypeId) (zs cs : List Value) (l : Nat → Bool) (a : Act) (w : World) : Prop :=
  Below w0.heap.size w0 w ∧ (l ia = true → ∃ g, a.tmps.getD d undef = .pointer (some ⟨g, 0, none⟩) ∧ w0.heap.size ≤ g ∧ Has w g t (if l js = true then cs else zs))
section
variable {w0 w : World} {d ia js : Nat} {t : TypeId} {zs cs : List Value} {l : Nat → Bool} {a : Act}
theorem Uno.start (a : Act) : Uno w0 d ia js t zs cs (fun _ => false) a w0.drew := ⟨(Below.refl _ _).drew, fun h => by cases h⟩
theorem lset_ne {i k : Nat} (h : i ≠ k) : Reg.lset l i k = l k := by unfold Reg.lset; rw [if_neg h]
theorem lset_eq {i : Nat} : Reg.lset l i i = true := by unfold Reg.lset; rw [if_pos rfl]
theorem Uno.keep (h : Uno w0 d ia js t zs cs l a w) {i c : Nat} (v : Value) {w' : World} (hb : Below w.heap.size w w') (h1 : i ≠ ia) (h2 : i ≠ js) (h5 : c ≠ d) (hc : c < a.tmps.size) :
    Uno w0 d ia js t zs cs (Reg.lset l i) (a.put (some c) v) w' := by
  refine ⟨h.1.trans (hb.mono h.1.size), fun hl => ?_⟩
  rw [lset_ne h1] at hl
  obtain ⟨g, e1, e2, e3⟩ := h.2 hl
  refine ⟨g, by rw [Reg.getD_put _ _ _ _ hc, if_neg h5]; exact e1, e2, ?_⟩
  rw [lset_ne h2]; exact e3.below hb e3.lt
theorem Uno.mk (h : Uno w0 d ia js t zs cs l a w) (hl : l js = false) (hn : ia ≠ js) (hc : d < a.tmps.size) :
    Uno w0 d ia js t zs cs (Reg.lset l ia) (a.put (some d) (.pointer (some ⟨w.heap.size, 0, none⟩))) (w.alloc (.cells zs.toArray t)) := by
  refine ⟨h.1.alloc h.1.size _, fun _ => ⟨w.heap.size, by rw [Reg.getD_put _ _ _ _ hc, if_pos rfl], h.1.size, ?_⟩⟩
  rw [lset_ne hn, hl]; exact Has.new _ _ _
theorem Uno.st (h : Uno w0 d ia js t zs cs l a w) (h1 : l ia = true) (hl : l js = false) (_ : js ≠ ia) :
    ∃ g, a.tmps.getD d undef = .pointer (some ⟨g, 0, none⟩) ∧ w0.heap.size ≤ g ∧ Has w g t zs ∧ Below w0.heap.size w0 w ∧ ∀ w2, Has w2 g t cs → Below w0.heap.size w0 w2 → Uno w0 d ia js t zs cs (Reg.lset l js) a w2 := by
  obtain ⟨g, e1, e2, e3⟩ := h.2 h1
  rw [hl] at e3
  refine ⟨g, e1, e2, e3, h.1, fun w2 hh hb => ⟨hb, fun _ => ⟨g, e1, e2, ?_⟩⟩⟩
  rw [lset_eq]; exact hh
theorem Uno.done {n : Nat} (h : Uno w0 d ia js t zs cs (fun j => decide (j < n)) a w) (h1 : ia < n) (h2 : js < n) :
    ∃ g, a.tmps.getD d undef = .pointer (some ⟨g, 0, none⟩) ∧ w0.heap.size ≤ g ∧ Has w g t cs ∧ Below w0.heap.size w0 w := by
  obtain ⟨g, e1, e2, e3⟩ := h.2 (by simpa using h1)
  simp only [show decide (js < n) = true from decide_eq_true h2, if_true] at e3
  exact ⟨g, e1, e2, e3, h.1⟩
end
end Go.Proofs.YtflanjcfkdjpjaaGreatDoor


/- Layer 7 (remap): a pair in memory, its devices as plain data; contracts of its small functions. -/
namespace Go.Proofs.YtflanjcfkdjpjaaGreatDoor.Rem
open Go Go.RowKit Go.Proofs.YtflanjcfkdjpjaaGreatDoor Dev Tab
set_option linter.unusedVariables false

/-- the pair's own block -/
def PB (w : World) (q : Nat) (pd : Nat → Nat) (m : Nat → List Int) : Prop :=
  Has w q 140 ([.pointer (some ⟨pd 0, 0, none⟩), .pointer (some ⟨pd 1, 0, none⟩)] ++ tl 16 4 (m 0) ++ tl 16 4 (m 1))
theorem PB.same {w w' : World} {q : Nat} {pd : Nat → Nat} {m : Nat → List Int} (h : PB w q pd m) (hk : w'.heap[q]? = w.heap[q]?) : PB w' q pd m := Has.same h hk
theorem PB.lt {w : World} {q : Nat} {pd : Nat → Nat} {m : Nat → List Int} (h : PB w q pd m) : q < w.heap.size := Has.lt h
theorem PB.later {w w' : World} {q : Nat} {pd : Nat → Nat} {m : Nat → List Int} (h : PB w q pd m) (hb : Below w.heap.size w w') : PB w' q pd m := h.same (hb.block q h.lt)
theorem PB.dev {w : World} {q : Nat} {pd : Nat → Nat} {m : Nat → List Int} (h : PB w q pd m) {s : Nat} (hs : s < 2) : w.cell? ⟨q, s, none⟩ = some (.pointer (some ⟨pd s, 0, none⟩)) := by
  rcases (show s = 0 ∨ s = 1 by omega) with rfl | rfl <;> exact (Has.cell h _).trans rfl
theorem PB.tab {w : World} {q : Nat} {pd : Nat → Nat} {m : Nat → List Int} (h : PB w q pd m) {s : Nat} (hs : s < 2) (j : Nat) (v : Value) (hv : (tl 16 4 (m s))[j]? = some v) : w.cell? ⟨q, 2 + 35 * s + j, none⟩ = some v := by
  have hj : j < 35 := by have := (List.getElem?_eq_some_iff.1 hv).1; rwa [tl_length] at this
  refine (Has.cell h _).trans ?_
  rcases (show s = 0 ∨ s = 1 by omega) with rfl | rfl
  · rw [List.getElem?_append_left (by simp only [List.length_append, List.length_cons, List.length_nil, tl_length]; omega), List.getElem?_append_right (by simp)]
    simpa using hv
  · rw [List.getElem?_append_right (by simp only [List.length_append, List.length_cons, List.length_nil, tl_length]; omega)]
    simp only [List.length_append, List.length_cons, List.length_nil, tl_length]
    rw [show 2 + 35 * 1 + j - (0 + 1 + 1 + 35) = j by omega]; exact hv
/-- a side's table is loaded whole -/
theorem PB.ld {w : World} {q : Nat} {pd : Nat → Nat} {m : Nat → List Int} (h : PB w q pd m) {s : Nat} (hs : s < 2) : (ldT ⟨q, 2 + 35 * s, none⟩).run Tryz.prog w = .ok (ta 16 4 (m s)) w := by
  have := run_loadCells_list (P := Tryz.prog) w ⟨q, 2 + 35 * s, none⟩ (tl 16 4 (m s)) (fun j v hv => by
    have hadd : (⟨q, 2 + 35 * s, none⟩ : Addr).add j = ⟨q, 2 + 35 * s + j, none⟩ := by unfold Addr.add; split <;> simp_all
    rw [hadd]; exact h.tab hs j v hv)
  rw [tl_length] at this
  exact this

/-- the pair at q, its devices D at pd 0 and pd 1; all that they have lies from w0's end on, and none of it in X; X lies there, too -/
structure CPe (w0 : World) (X : List Nat) (q : Nat) (pd : Nat → Nat) (m : Nat → List Int) (D : Nat → Dv) (w : World) : Prop where
  some_ : ∃ (sb : Nat → Nat) (cv : Nat → Value), (∀ s, s < 2 → DevAt w (pd s) (sb s) (cv s) (D s)) ∧
    (∀ s, s < 2 → ∀ k, foot (pd s) (sb s) (cv s) k → w0.heap.size ≤ k ∧ k ∉ X ∧ k ≠ q) ∧ (∀ k, foot (pd 0) (sb 0) (cv 0) k → ¬ foot (pd 1) (sb 1) (cv 1) k)
  pb : PB w q pd m
  q_ : w0.heap.size ≤ q ∧ q ∉ X
  x : ∀ k ∈ X, w0.heap.size ≤ k ∧ k < w.heap.size
  below : Below w0.heap.size w0 w
def Same (X : List Nat) (w w' : World) : Prop := ∀ k ∈ X, w'.heap[k]? = w.heap[k]?
theorem Same.refl (X : List Nat) (w : World) : Same X w w := fun _ _ => rfl
theorem Same.trans {X : List Nat} {w1 w2 w3 : World} (h : Same X w1 w2) (k : Same X w2 w3) : Same X w1 w3 := fun j hj => (k j hj).trans (h j hj)
section
variable {w0 w w' : World} {X Y : List Nat} {q : Nat} {pd : Nat → Nat} {m m' : Nat → List Int} {D D' : Nat → Dv}
theorem CPe.chg (h : CPe w0 X q pd m D w) (hc : Chg (fun k => k ∈ X) w w') : CPe w0 X q pd m D w' := by
  obtain ⟨⟨sb, cv, hd, hf, hff⟩, hp, hq, hx, hb⟩ := h
  exact ⟨⟨sb, cv, fun s h2 => (hd s h2).chg hc fun k hk => (hf s h2 k hk).2.1, hf, hff⟩, hp.same (hc.block q hp.lt hq.2), hq, fun k hk => ⟨(hx k hk).1, Nat.lt_of_lt_of_le (hx k hk).2 hc.size⟩, hb.trans (hc.below hb.size fun k hk => (hx k hk).1)⟩
theorem CPe.later (h : CPe w0 X q pd m D w) (hb : Below w.heap.size w w') : CPe w0 X q pd m D w' := h.chg (Chg.of_below hb (Nat.le_refl _))
theorem CPe.cong (h : CPe w0 X q pd m D w) (hm : ∀ s, s < 2 → m' s = m s) (hD : ∀ s, s < 2 → D' s = D s) : CPe w0 X q pd m' D' w := by
  obtain ⟨⟨sb, cv, hd, hf, hff⟩, hp, hq, hx, hb⟩ := h
  refine ⟨⟨sb, cv, fun s h2 => by rw [hD s h2]; exact hd s h2, hf, hff⟩, ?_, hq, hx, hb⟩
  unfold PB at hp ⊢; rw [hm 0 (by omega), hm 1 (by omega)]; exact hp
theorem CPe.sub (h : CPe w0 X q pd m D w) (hY : ∀ k ∈ Y, k ∈ X) : CPe w0 Y q pd m D w := by
  obtain ⟨⟨sb, cv, hd, hf, hff⟩, hp, hq, hx, hb⟩ := h
  exact ⟨⟨sb, cv, hd, fun s h2 k hk => ⟨(hf s h2 k hk).1, fun e => (hf s h2 k hk).2.1 (hY k e), (hf s h2 k hk).2.2⟩, hff⟩, hp, ⟨hq.1, fun e => hq.2 (hY _ e)⟩, fun k hk => hx k (hY k hk), hb⟩
theorem CPe.lt (h : CPe w0 X q pd m D w) : q < w.heap.size := h.pb.lt
theorem CPe.new (h : CPe w0 X q pd m D w) (o : Obj) : CPe w0 (w.heap.size :: X) q pd m D (w.alloc o) := by
  have hb := (Below.refl _ w).alloc (Nat.le_refl _) o
  have hql := h.lt
  obtain ⟨⟨sb, cv, hd, hf, hff⟩, hp, hq, hx, hb0⟩ := h
  refine ⟨⟨sb, cv, fun s h2 => (hd s h2).alloc o, fun s h2 k hk => ⟨(hf s h2 k hk).1, ?_, (hf s h2 k hk).2.2⟩, hff⟩, hp.later hb, ⟨hq.1, ?_⟩, ?_, hb0.trans (hb.mono hb0.size)⟩
  · intro he
    rcases List.mem_cons.1 he with rfl | he
    · exact absurd ((hd s h2).lt _ hk) (Nat.lt_irrefl _)
    · exact (hf s h2 k hk).2.1 he
  · intro he
    rcases List.mem_cons.1 he with rfl | he
    · exact absurd hql (Nat.lt_irrefl _)
    · exact hq.2 he
  · intro k hk
    rcases List.mem_cons.1 hk with rfl | hk
    · exact ⟨hb0.size, by simp⟩
    · have := hx k hk; simp; omega
/-- a call of one of its devices -/
theorem CPe.dev {f : FuncId} {args : Array Value} {R : Ending → Prop} {s : Nat} {G : Dv → Prop} (h : CPe w0 X q pd m D w) (hs : s < 2)
    (call : ∀ sb cv, DevAt w (pd s) sb cv (D s) → Calls Tryz.prog f args w fun e w' => R e ∧ ∃ E, G E ∧ Now (pd s) sb cv w E w') :
    Calls Tryz.prog f args w fun e w' => R e ∧ ∃ E, G E ∧ CPe w0 X q pd m (upd D s E) w' ∧ Same (q :: X) w w' := by
  have hql := h.lt
  obtain ⟨⟨sb, cv, hdv, hf, hff⟩, hp, hq, hx, hb⟩ := h
  refine (call (sb s) (cv s) (hdv s hs)).mono ?_
  rintro e w' ⟨hr, E, hG, cv', hch, hd', hf'⟩
  have hfs := hf s hs
  have hlow : ∀ k, w.heap.size ≤ k → w0.heap.size ≤ k ∧ k ∉ X ∧ k ≠ q := fun k hk => ⟨Nat.le_trans hb.size hk, fun e => by have := (hx k e).2; omega, fun e => by omega⟩
  have hnew : ∀ k, foot (pd s) (sb s) cv' k → w0.heap.size ≤ k ∧ k ∉ X ∧ k ≠ q := fun k hk => by
    rcases hf' k hk with h | h
    · exact hfs k h
    · exact hlow k h
  have hqs : w'.heap[q]? = w.heap[q]? := hch.block q hql fun e => (hfs q e).2.2 rfl
  have hsame : Same (q :: X) w w' := fun k hk => by
    rcases List.mem_cons.1 hk with rfl | hk
    · exact hqs
    · exact hch.block k (hx k hk).2 fun e => (hfs k e).2.1 hk
  refine ⟨hr, E, hG, ⟨⟨sb, fun t => if t = s then cv' else cv t, ?_, ?_, ?_⟩, hp.same hqs, hq, fun k hk => ⟨(hx k hk).1, Nat.lt_of_lt_of_le (hx k hk).2 hch.size⟩, hb.trans (hch.below hb.size fun k hk => (hfs k hk).1)⟩, hsame⟩
  · intro t ht
    by_cases e : t = s
    · subst e; simp only [if_pos]; rw [upd_same]; exact hd'
    · simp only [if_neg e]; rw [upd_ne _ _ e]
      refine (hdv t ht).chg hch fun k hk hk2 => ?_
      rcases (show (t = 0 ∧ s = 1) ∨ (t = 1 ∧ s = 0) by omega) with ⟨rfl, rfl⟩ | ⟨rfl, rfl⟩
      · exact hff k hk hk2
      · exact hff k hk2 hk
  · intro t ht k hk
    by_cases e : t = s
    · subst e; simp only [if_pos] at hk; exact hnew k hk
    · simp only [if_neg e] at hk; exact hf t ht k hk
  · intro k hk hk2
    rcases (show s = 0 ∨ s = 1 by omega) with rfl | rfl
    · simp only [if_pos] at hk
      simp only [if_neg (show ¬ (1 : Nat) = 0 by omega)] at hk2
      rcases hf' k hk with h | h
      · exact hff k h hk2
      · have := (hdv 1 (by omega)).lt k hk2; omega
    · simp only [if_pos] at hk2
      simp only [if_neg (show ¬ (0 : Nat) = 1 by omega)] at hk
      rcases hf' k hk2 with h | h
      · exact hff k hk h
      · have := (hdv 0 (by omega)).lt k hk; omega
end

/-! ### small ones -/
def sideB (s : Int) : Bool := decide (0 ≤ s ∧ s < 2)
theorem hasR_any (s : Int) (w : World) : Calls Tryz.prog 91 #[.int .i64 s] w fun e w' => e = .returned (.bool (sideB s)) ∧ w = w' := by
  have HK := Lib.hid (show sideB s = decide (0 ≤ s ∧ s < 2) from rfl)
  go_enter Tryz.func91, Tryz.ntmps91
  go_wp2
  all_goals
    go_ret
    refine ⟨ret_b ?_, rfl⟩
    rw [HK.out, Bool.eq_iff_iff]
    simp
    try omega
def refR (s : Int) : Int := if sideB s = true then 0 else 2
theorem refusal_any (q : Nat) (s : Int) (w : World) : Calls Tryz.prog 58 #[.pointer (some ⟨q, 0, none⟩), .int .i64 s] w fun e w' => e = .returned (.int .i64 (refR s)) ∧ w = w' := by
  cases h : sideB s with
  | true =>
    have HK := Lib.hid h
    have HR := Lib.hid (show refR s = 0 by unfold refR; rw [if_pos h])
    clear h
    go_enter Tryz.func58, Tryz.ntmps58
    go_wp2_with fail
    refine (hasR_any s _).mono ?_
    rintro e w' ⟨rfl, rfl⟩
    rw [HK.out]
    go_wp2
    go_ret
    exact ⟨by rw [HR.out]; rfl, rfl⟩
  | false =>
    have HK := Lib.hid h
    have HR := Lib.hid (show refR s = 2 by unfold refR; rw [if_neg (by rw [h]; decide)])
    clear h
    go_enter Tryz.func58, Tryz.ntmps58
    go_wp2_with fail
    refine (hasR_any s _).mono ?_
    rintro e w' ⟨rfl, rfl⟩
    rw [HK.out]
    go_wp2
    go_ret
    exact ⟨by rw [HR.out]; rfl, rfl⟩
theorem shape_d {p sb : Nat} {cv : Value} {D : Dv} (w : World) (h : DevAt w p sb cv D) :
    Calls Tryz.prog 78 #[.pointer (some ⟨p, 0, none⟩)] w fun e w' => e = .returned (.agg #[.int .i64 D.n, .int .i64 D.size]) ∧ Below w.heap.size w w' := by
  have h' := h.alloc (.cells #[.int .i64 0, .int .i64 0] 79)
  have c0 := h'.c0
  have c1 := h'.c1
  obtain ⟨n, hn⟩ : ∃ n, n = D.n := ⟨_, rfl⟩
  obtain ⟨z, hz⟩ : ∃ z, z = D.size := ⟨_, rfl⟩
  rw [← hn] at c0
  rw [← hz] at c1
  rw [← hn, ← hz]
  clear h h' hn hz
  go_enter Tryz.func78, Tryz.ntmps78
  go_wp2
  exact bodyPost_ret (v := .agg #[.int .i64 n, .int .i64 z]) (by simp [results, Tryz.results78, go_sem]) rfl ⟨rfl, (Below.refl _ _).alloc (Nat.le_refl _) _⟩
theorem headOf_any (s : Int) (n k : Int) (m : List Int) (w : World) (hl : m.length ≤ 32) : Calls Tryz.prog 117 #[.int .i64 s, .agg (ta n k m)] w fun e w' => e = .returned (.agg #[.int .u8 2, .int .i64 s, .int .u64 m.length]) ∧ Below w.heap.size w w' := by
  have h1 := ((TAt.made w n k m).new (.cells #[.int .u8 0, .int .i64 0, .int .u64 0] 113)).ld
  have HB := Lib.hid (b_nw (b_new w (.cells (ta n k m) 88)) (.cells #[.int .u8 0, .int .i64 0, .int .u64 0] 113))
  have hnw := Has.new (w.alloc (.cells (ta n k m) 88)) [.int .u8 0, .int .i64 0, .int .u64 0] 113
  rw [show (w.alloc (.cells (ta n k m) 88)).heap.size = w.heap.size + 1 by simp] at hnw
  have HN := Lib.hid hnw
  clear hnw
  go_enter Tryz.func117, Tryz.ntmps117
  go_wp2_with fail
  refine (gen_any n k m _ hl).mono ?_
  rintro e w1 ⟨rfl, hb⟩
  have hn := HN.out.below hb HN.out.lt
  have c0 := hn.cell 0
  have c1 := hn.cell 1
  have c2 := hn.cell 2
  have fz := hn.frozen
  simp only [List.getElem?_cons_zero, List.getElem?_cons_succ] at c0 c1 c2
  have hge : w.heap.size ≤ w.heap.size + 1 := by omega
  have hB := b_on HB.out hb
  have HB2 := Lib.hid (b_st0 (b_st0 (b_st0 hB (p := ⟨w.heap.size + 1, 0, none⟩) hge (.int .u8 2)) (p := ⟨w.heap.size + 1, 1, none⟩) hge (.int .i64 s)) (p := ⟨w.heap.size + 1, 2, none⟩) hge (.int .u64 m.length))
  have HN2 := (((hn.set 0 (.int .u8 2)).set 1 (.int .i64 s)).set 2 (.int .u64 m.length))
  have d0 := HN2.cell 0
  have d1 := HN2.cell 1
  have d2 := HN2.cell 2
  simp only [List.set_cons_zero, List.set_cons_succ, List.getElem?_cons_zero, List.getElem?_cons_succ] at d0 d1 d2
  clear HN2 hB hb h1 hge hn
  obtain ⟨u, hu⟩ : ∃ u, u = m.length := ⟨_, rfl⟩
  rw [← hu]
  go_wp2
  exact bodyPost_ret (v := .agg #[.int .u8 2, .int .i64 s, .int .u64 m.length]) (by simp [results, Tryz.results117, go_sem, d0, d1, d2]) rfl ⟨rfl, HB2.out⟩
section
variable {w : World} {q : Nat} {pd : Nat → Nat} {m : Nat → List Int}
set_option maxRecDepth 100000 in
theorem sector_e (h : PB w q pd m) {s : Nat} (hs : s < 2) (hg : Tab.Good 16 4 (m s)) (b : Int) : Calls Tryz.prog 131 #[.pointer (some ⟨q, 0, none⟩), .int .i64 (s : Nat), .int .i64 b] w fun e w' => e = .returned (.tuple #[.int .i64 (4 + atN 16 (m s) b), .int .i64 (atE 16 b)]) ∧ Below w.heap.size w w' := by
  have HG := Lib.hid hg
  have hld := h.ld hs
  have hbd : 0 ≤ atN 16 (m s) b ∧ atN 16 (m s) b ≤ 20 := by
    by_cases hb : 0 ≤ b ∧ b < 16
    · have := plc_bd (n := 16) (m := m s) hb.1 hb.2
      have hl := hg.len
      rw [(at_yes (m := m s) hb.1 hb.2).2.2]; omega
    · rw [(at_no (m := m s) (b := b) (n := 16) (by omega)).2.2]; omega
  obtain ⟨x, hx⟩ : ∃ x, x = atN 16 (m s) b := ⟨_, rfl⟩
  rw [← hx] at hbd
  have HX := Lib.hid hx
  obtain ⟨h0, h1⟩ := hbd
  clear hx hg h
  rcases (show s = 0 ∨ s = 1 by omega) with rfl | rfl
  all_goals
    clear hs
    go_enter Tryz.func131, Tryz.ntmps131
    go_wp2_with fail
    refine (refusal_any q _ _).mono ?_
    rintro e w' ⟨rfl, rfl⟩
    rw [show refR _ = 0 from rfl]
    go_wp2_with fail
    refine (Tab.at_any 16 4 b _ _ HG.out).mono ?_
    rintro e w' ⟨rfl, hb⟩
    rw [← HX.out]
    go_wp2
    go_ret2
    exact ⟨by rw [HX.out]; rfl, hb⟩
set_option maxRecDepth 100000 in
theorem from_e (h : PB w q pd m) {s : Nat} (hs : s < 2) : Calls Tryz.prog 99 #[.pointer (some ⟨q, 0, none⟩), .int .i64 (s : Nat)] w fun e w' => e = .returned (.agg #[.pointer (some ⟨pd s, 0, none⟩), .pointer (some ⟨pd (1 - s), 0, none⟩)]) ∧ Below w.heap.size w w' := by
  have hq := h.later (b_new w (.cells #[.pointer none, .pointer none] 26))
  have c0 := hq.dev (s := 0) (by omega)
  have c1 := hq.dev (s := 1) (by omega)
  have hn := Has.new w [.pointer none, .pointer none] 26
  have e0 := hn.cell 0
  have e1 := hn.cell 1
  have fz := hn.frozen
  simp only [List.getElem?_cons_zero, List.getElem?_cons_succ] at e0 e1
  have W1 : IntKind.i64.wrap 1 = 1 := by decide
  have W0 : IntKind.i64.wrap 0 = 0 := by decide
  clear h hq hn
  rcases (show s = 0 ∨ s = 1 by omega) with rfl | rfl
  all_goals
    clear hs
    go_enter Tryz.func99, Tryz.ntmps99
    go_wp2_with fail
    refine Reg.still_tail 14 (by kernel_rfl) (by kernel_rfl) ?_
    simp only [List.take_succ_cons, List.take_zero, List.drop_succ_cons, List.drop_zero]
    repeat still_step
    try refine wpStill_nil ?_
    go_wp2
    first
    | exact bodyPost_ret (v := .agg #[.pointer (some ⟨pd 0, 0, none⟩), .pointer (some ⟨pd 1, 0, none⟩)]) (by simp [results, Tryz.results99, go_sem]) rfl ⟨rfl, (b_new w _).drew⟩
    | exact bodyPost_ret (v := .agg #[.pointer (some ⟨pd 1, 0, none⟩), .pointer (some ⟨pd 0, 0, none⟩)]) (by simp [results, Tryz.results99, go_sem]) rfl ⟨rfl, (b_new w _).drew⟩
end
/-! ### put -/
def putE (D : Dv) (i : Int) (t : ByteArray) : Int := if D.dead = true then 8 else if D.writeE i t ≠ 0 then D.writeE i t else (D.writeD i t).flushE
def putD (D : Dv) (i : Int) (t : ByteArray) : Dv := if D.dead = true then D else if D.writeE i t ≠ 0 then D.writeD i t else (D.writeD i t).flushD
theorem putW_len (D : Dv) (i : Int) (t : ByteArray) : (D.writeD i t).cache.length ≤ D.cache.length + 1 := by
  unfold Dv.writeD
  repeat' split
  all_goals
    first
    | exact Nat.le_succ _
    | (simp only [Dv.push, Dv.blow, Dv.counted, Dv.struck, List.length_append, List.length_cons, List.length_nil]; omega)
theorem put_any {p sb : Nat} {cv : Value} {D : Dv} (i : Int) (t : ByteArray) (w : World) (h : DevAt w p sb cv D) (hl : D.cache.length ≤ 100000000) (ht : t.size ≤ 1000000000) :
    Calls Tryz.prog 119 #[.pointer (some ⟨p, 0, none⟩), .int .i64 i, .string t] w fun e w' => e = .returned (.int .i64 (putE D i t)) ∧ Now p sb cv w (putD D i t) w' := by
  have HD := Lib.hid h
  cases hdead : D.dead with
  | true =>
    have HE := Lib.hid (show putE D i t = 8 ∧ putD D i t = D from ⟨by unfold putE; rw [if_pos hdead], by unfold putD; rw [if_pos hdead]⟩)
    have HX := Lib.hid hdead
    clear h hdead
    go_enter Tryz.func119, Tryz.ntmps119
    go_wp2_with fail
    refine (dead_any _ HD.out).mono ?_
    rintro e w' ⟨rfl, rfl⟩
    rw [HX.out]
    go_wp2
    go_ret
    exact ⟨by rw [HE.out.1]; rfl, by rw [HE.out.2]; exact .same (Chg.refl _ _) HD.out⟩
  | false =>
    have HX := Lib.hid hdead
    by_cases hw : D.writeE i t = 0
    · have HE := Lib.hid (show putE D i t = (D.writeD i t).flushE ∧ putD D i t = (D.writeD i t).flushD from ⟨by unfold putE; rw [if_neg (by rw [hdead]; decide), if_neg (by omega)], by unfold putD; rw [if_neg (by rw [hdead]; decide), if_neg (by omega)]⟩)
      have HW := Lib.hid hw
      have HT := Lib.hid ht
      have HL := Lib.hid (show (D.writeD i t).cache.length ≤ 1000000000 by have := putW_len D i t; omega)
      have HL0 := Lib.hid hl
      clear h hdead hw ht hl
      go_enter Tryz.func119, Tryz.ntmps119
      go_wp2_with fail
      refine (dead_any _ HD.out).mono ?_
      rintro e w' ⟨rfl, rfl⟩
      rw [HX.out]
      go_wp2_with fail
      refine (write_any i t _ HD.out (by have := HL0.out; omega) HT.out).mono ?_
      rintro e w1 ⟨rfl, hn⟩
      rw [HW.out]
      obtain ⟨cv1, hc1, hd1, hf1⟩ := hn
      have HN := Lib.hid (And.intro hc1 (And.intro hd1 hf1))
      clear hc1 hd1 hf1
      go_wp2_with fail
      refine (flush_any _ HN.out.2.1 HL.out).mono ?_
      rintro e w2 ⟨rfl, hn⟩
      obtain ⟨cv2, hc2, hd2, hf2⟩ := hn
      have HM := Lib.hid (And.intro hc2 (And.intro hd2 hf2))
      clear hc2 hd2 hf2
      go_wp2
      go_ret
      refine ⟨by rw [HE.out.1]; rfl, ?_⟩
      rw [HE.out.2]
      refine ⟨cv2, HN.out.1.trans HM.out.1 (fun k hk hf => ?_), HM.out.2.1, fun k hk => ?_⟩
      · rcases HN.out.2.2 k hf with h | h
        · exact h
        · omega
      · rcases HM.out.2.2 k hk with h | h
        · exact HN.out.2.2 k h
        · exact .inr (Nat.le_trans HN.out.1.size h)
    · have HE := Lib.hid (show putE D i t = D.writeE i t ∧ putD D i t = D.writeD i t from ⟨by unfold putE; rw [if_neg (by rw [hdead]; decide), if_pos hw], by unfold putD; rw [if_neg (by rw [hdead]; decide), if_pos hw]⟩)
      obtain ⟨x, hx⟩ : ∃ x, x = D.writeE i t := ⟨_, rfl⟩
      have hx0 : x ≠ 0 := by rw [hx]; exact hw
      have HW := Lib.hid hx
      have HT := Lib.hid ht
      have HL0 := Lib.hid hl
      clear h hdead hw ht hl hx
      go_enter Tryz.func119, Tryz.ntmps119
      go_wp2_with fail
      refine (dead_any _ HD.out).mono ?_
      rintro e w' ⟨rfl, rfl⟩
      rw [HX.out]
      go_wp2_with fail
      refine (write_any i t _ HD.out (by have := HL0.out; omega) HT.out).mono ?_
      rintro e w1 ⟨rfl, hn⟩
      rw [← HW.out]
      have HN := Lib.hid hn
      clear hn
      go_wp2
      go_ret
      exact ⟨by rw [HE.out.1, ← HW.out]; rfl, by rw [HE.out.2]; exact HN.out⟩
end Go.Proofs.YtflanjcfkdjpjaaGreatDoor.Rem


/- Layer 7 (remap): keep and keepBoth, over devices as plain data. -/
namespace Go.Proofs.YtflanjcfkdjpjaaGreatDoor.Rem
open Go Go.RowKit Go.Proofs.YtflanjcfkdjpjaaGreatDoor Dev Tab
set_option linter.unusedVariables false

/-! ### a region with a new block and a table of sums that a call makes -/
def Uno2 (w0 : World) (d ia js : Nat) (t : TypeId) (zs cs : List Value) (td ti : Nat) (l : Nat → Bool) (a : Act) (w : World) : Prop :=
  Uno w0 d ia js t zs cs l a w ∧ (l ti = true → ∃ b, a.tmps.getD td undef = .pointer (some ⟨b, 0, none⟩) ∧ Sum.IsTab w b)
section
variable {w0 w : World} {d ia js td ti : Nat} {t : TypeId} {zs cs : List Value} {l : Nat → Bool} {a : Act}
theorem Uno2.start (a : Act) : Uno2 w0 d ia js t zs cs td ti (fun _ => false) a w0.drew := ⟨Uno.start a, fun h => by cases h⟩
theorem tab_later {w w' : World} {b : Nat} (h : Sum.IsTab w b) (hb : Below w.heap.size w w') : Sum.IsTab w' b := h.below hb (Nat.le_refl _)
theorem Uno2.keep (h : Uno2 w0 d ia js t zs cs td ti l a w) {i c : Nat} (v : Value) {w' : World} (hb : Below w.heap.size w w') (h1 : i ≠ ia) (h2 : i ≠ js) (h5 : c ≠ d) (h3 : i ≠ ti) (h4 : c ≠ td) (hc : c < a.tmps.size) :
    Uno2 w0 d ia js t zs cs td ti (Reg.lset l i) (a.put (some c) v) w' := by
  refine ⟨h.1.keep v hb h1 h2 h5 hc, fun hl => ?_⟩
  rw [lset_ne h3] at hl
  obtain ⟨b, e1, e2⟩ := h.2 hl
  exact ⟨b, by rw [Reg.getD_put _ _ _ _ hc, if_neg h4]; exact e1, tab_later e2 hb⟩
theorem Uno2.make (h : Uno2 w0 d ia js t zs cs td ti l a w) {b : Nat} {w' : World} (hb : Below w.heap.size w w') (ht : Sum.IsTab w' b) (h1 : ti ≠ ia) (h2 : ti ≠ js) (h5 : td ≠ d) (hc : td < a.tmps.size) :
    Uno2 w0 d ia js t zs cs td ti (Reg.lset l ti) (a.put (some td) (.pointer (some ⟨b, 0, none⟩))) w' :=
  ⟨h.1.keep _ hb h1 h2 h5 hc, fun _ => ⟨b, by rw [Reg.getD_put _ _ _ _ hc, if_pos rfl], ht⟩⟩
theorem Uno2.mk (h : Uno2 w0 d ia js t zs cs td ti l a w) (hl : l js = false) (hn : ia ≠ js) (h3 : ia ≠ ti) (h4 : d ≠ td) (hc : d < a.tmps.size) :
    Uno2 w0 d ia js t zs cs td ti (Reg.lset l ia) (a.put (some d) (.pointer (some ⟨w.heap.size, 0, none⟩))) (w.alloc (.cells zs.toArray t)) := by
  refine ⟨h.1.mk hl hn hc, fun hx => ?_⟩
  rw [lset_ne h3] at hx
  obtain ⟨b, e1, e2⟩ := h.2 hx
  exact ⟨b, by rw [Reg.getD_put _ _ _ _ hc, if_neg h4]; exact e1, tab_later e2 ((Below.refl _ _).alloc (Nat.le_refl _) _)⟩
theorem Uno2.st (h : Uno2 w0 d ia js t zs cs td ti l a w) (h1 : l ia = true) (hl : l js = false) (hn : js ≠ ia) (h3 : js ≠ ti ∧ zs.length < 256) :
    ∃ g, a.tmps.getD d undef = .pointer (some ⟨g, 0, none⟩) ∧ w0.heap.size ≤ g ∧ Has w g t zs ∧ Below w0.heap.size w0 w ∧ ∀ w2, Has w2 g t cs → Below w0.heap.size w0 w2 → (∀ k, k ≠ g → w2.heap[k]? = w.heap[k]?) → Uno2 w0 d ia js t zs cs td ti (Reg.lset l js) a w2 := by
  obtain ⟨g, e1, e2, e3, e4, e5⟩ := h.1.st h1 hl hn
  refine ⟨g, e1, e2, e3, e4, fun w2 hh hb hk => ⟨e5 w2 hh hb, fun hx => ?_⟩⟩
  rw [lset_ne h3.1] at hx
  obtain ⟨b, f1, f2⟩ := h.2 hx
  refine ⟨b, f1, fun j hj => ?_⟩
  have hne : b ≠ g := by
    rintro rfl
    have := f2 255 (by omega)
    rw [e3.cell 255, List.getElem?_eq_none (by omega)] at this; cases this
  have := f2 j hj
  unfold World.cell? at this ⊢
  rw [hk b hne]; exact this
theorem Uno2.tab (h : Uno2 w0 d ia js t zs cs td ti l a w) (hl : l ti = true) : ∃ b, a.tmps.getD td undef = .pointer (some ⟨b, 0, none⟩) ∧ Sum.IsTab w b := h.2 hl
theorem Uno2.done {n : Nat} (h : Uno2 w0 d ia js t zs cs td ti (fun j => decide (j < n)) a w) (h1 : ia < n) (h2 : js < n) (h3 : ti < n) :
    ∃ g b, a.tmps.getD d undef = .pointer (some ⟨g, 0, none⟩) ∧ w0.heap.size ≤ g ∧ Has w g t cs ∧ Below w0.heap.size w0 w ∧ a.tmps.getD td undef = .pointer (some ⟨b, 0, none⟩) ∧ Sum.IsTab w b := by
  obtain ⟨g, e1, e2, e3, e4⟩ := h.1.done h1 h2
  obtain ⟨b, f1, f2⟩ := h.2 (by simpa using h3)
  exact ⟨g, b, e1, e2, e3, e4, f1, f2⟩
end

/-! ### keep -/
section
variable (D : Nat → Dv) (s : Nat) (l : List Int)
/-- the first slot, on the side's own device; the second one, on the other -/
def kpE0 : Int := putE (D s) ((l.length % 2 : Nat) : Int) (imgT s l)
def kpD0 : Dv := putD (D s) ((l.length % 2 : Nat) : Int) (imgT s l)
def kpE1 : Int := putE (D (1 - s)) ((2 + l.length % 2 : Nat) : Int) (imgT s l)
def kpD1 : Dv := putD (D (1 - s)) ((2 + l.length % 2 : Nat) : Int) (imgT s l)
def kpE : Int := if kpE0 D s l = 6 then 6 else if kpE1 D s l = 6 then 6 else if kpE0 D s l = 0 ∨ kpE1 D s l = 0 then 0 else 8
def kpD : Nat → Dv := if kpE0 D s l = 6 then upd D s (kpD0 D s l) else upd (upd D s (kpD0 D s l)) (1 - s) (kpD1 D s l)
end
section
variable (D : Nat → Dv) (s : Nat) (l : List Int)
/-- behind r slots -/
def kpAt (r : Nat) : Nat → Dv := if r = 0 then D else if r = 1 then upd D s (kpD0 D s l) else upd (upd D s (kpD0 D s l)) (1 - s) (kpD1 D s l)
def kpK (r : Nat) : Bool := decide (1 ≤ r ∧ kpE0 D s l = 0 ∨ r = 2 ∧ kpE1 D s l = 0)
def kpN (r : Nat) : Prop := (1 ≤ r → kpE0 D s l ≠ 6) ∧ (r = 2 → kpE1 D s l ≠ 6)
/-- the device of the round r -/
def kpP (s r : Nat) : Nat := if r = 0 then s else 1 - s
def kpX (r : Nat) : Int := if r = 0 then kpE0 D s l else kpE1 D s l
def kpY (r : Nat) : Dv := if r = 0 then kpD0 D s l else kpD1 D s l
end
theorem kp_put {D : Nat → Dv} {s : Nat} {l : List Int} (hs : s < 2) {r : Nat} (hr : r < 2) : putE (kpAt D s l r (kpP s r)) ((2 * r + l.length % 2 : Nat) : Int) (imgT s l) = kpX D s l r ∧ putD (kpAt D s l r (kpP s r)) ((2 * r + l.length % 2 : Nat) : Int) (imgT s l) = kpY D s l r := by
  rcases (show r = 0 ∨ r = 1 by omega) with rfl | rfl
  · simp only [kpAt, kpP, kpX, kpY, if_true, Nat.mul_zero, Nat.zero_add]; exact ⟨rfl, rfl⟩
  · have hne : 1 - s ≠ s := by omega
    simp only [kpAt, kpP, kpX, kpY, show ¬ (1 : Nat) = 0 by omega, if_false, if_true, upd_ne _ _ hne, Nat.mul_one]; exact ⟨rfl, rfl⟩
theorem kp_next {D : Nat → Dv} {s : Nat} {l : List Int} {r : Nat} (hr : r < 2) : upd (kpAt D s l r) (kpP s r) (kpY D s l r) = kpAt D s l (r + 1) := by
  rcases (show r = 0 ∨ r = 1 by omega) with rfl | rfl
  · simp only [kpAt, kpP, kpY, if_true, show ¬ (0 + 1 : Nat) = 0 by omega, if_false]
  · simp only [kpAt, kpP, kpY, show ¬ (1 : Nat) = 0 by omega, if_false, if_true, show ¬ (1 + 1 : Nat) = 0 by omega, show ¬ (1 + 1 : Nat) = 1 by omega]
theorem kp_none {D : Nat → Dv} {s : Nat} {l : List Int} : kpAt D s l 0 = D ∧ kpK D s l 0 = false ∧ kpN D s l 0 := ⟨rfl, by simp [kpK], fun h => by omega, fun h => by omega⟩
theorem kp_more {D : Nat → Dv} {s : Nat} {l : List Int} {r : Nat} (hr : r < 2) (hn : kpN D s l r) (h6 : kpX D s l r ≠ 6) : kpN D s l (r + 1) ∧ (kpX D s l r = 0 → kpK D s l (r + 1) = true) ∧ (kpX D s l r ≠ 0 → kpK D s l (r + 1) = kpK D s l r) := by
  unfold kpN kpX kpK at *
  rcases (show r = 0 ∨ r = 1 by omega) with rfl | rfl
  · simp only [if_true] at h6 ⊢
    refine ⟨⟨fun _ => h6, fun h => by omega⟩, fun h => by simp [h], fun h => by simp [h]⟩
  · simp only [show ¬ (1 : Nat) = 0 by omega, if_false] at h6 ⊢
    refine ⟨⟨fun _ => hn.1 (by omega), fun _ => h6⟩, fun h => by simp [h], fun h => by simp [h]⟩
theorem kp_six {D : Nat → Dv} {s : Nat} {l : List Int} {r : Nat} (hr : r < 2) (hn : kpN D s l r) (h6 : kpX D s l r = 6) : kpE D s l = 6 ∧ kpAt D s l (r + 1) = kpD D s l := by
  unfold kpN kpX kpE kpAt kpD at *
  rcases (show r = 0 ∨ r = 1 by omega) with rfl | rfl
  · simp only [if_true] at h6
    simp [h6]
  · simp only [show ¬ (1 : Nat) = 0 by omega, if_false] at h6
    have := hn.1 (by omega)
    simp [h6, this]
theorem kp_all {D : Nat → Dv} {s : Nat} {l : List Int} (hn : kpN D s l 2) : kpAt D s l 2 = kpD D s l ∧ kpE D s l = (if kpK D s l 2 = true then 0 else 8) := by
  have h0 := hn.1 (by omega)
  have h1 := hn.2 rfl
  unfold kpAt kpD kpE kpK
  simp [h0, h1]
theorem seal_img {s : Nat} (hs : s < 2) {l : List Int} (hg : Tab.Good 16 4 l) : ∃ c : Int, Env.sealV 192 2 s l.length (txL l) = .tuple #[.string (imgT s l), .agg #[.int .i64 s, .int .u64 l.length, .int .u32 c], .int .i64 0] := by
  have hl : (txL l).length ≤ 168 := by have := hg.bd; rw [txL_length]; omega
  have hb : Env.hdB 2 (s : Int) = true := by
    rcases (show s = 0 ∨ s = 1 by omega) with rfl | rfl <;> decide
  exact ⟨_, Env.sealV_yes (Env.sealE_ok (by decide) hb (by omega))⟩
theorem imgT_size (s : Nat) (l : List Int) (hg : Tab.Good 16 4 l) : (imgT s l).size = 192 := by
  have hl : (txL l).length ≤ 168 := by have := hg.bd; rw [txL_length]; omega
  show (Env.imgL 2 s l.length 168 (txL l)).length = 192
  rw [Env.imgL_length _ _ _ _ _ hl]
theorem kp_dev {D : Nat → Dv} {s : Nat} {l : List Int} (hs : s < 2) {r : Nat} (hr : r < 2) : kpAt D s l r (kpP s r) = D (kpP s r) := by
  rcases (show r = 0 ∨ r = 1 by omega) with rfl | rfl
  · rfl
  · have hne : 1 - s ≠ s := by omega
    simp only [kpAt, kpP, show ¬ (1 : Nat) = 0 by omega, if_false, if_true, upd_ne _ _ hne]
theorem kp_call {w0 w : World} {X : List Nat} {q : Nat} {pd : Nat → Nat} {m : Nat → List Int} {D : Nat → Dv} {s r : Nat} {l : List Int} (h : CPe w0 X q pd m (kpAt D s l r) w) (hs : s < 2) (hr : r < 2) (hl : ∀ t, t < 2 → (D t).cache.length ≤ 10000000) {I : ByteArray} (hI : I = imgT s l) (hz : I.size = 192) (v : Int) (hv : v = ((2 * r + l.length % 2 : Nat) : Int)) (p : Nat) (hp : p = pd (kpP s r)) :
    Calls Tryz.prog 119 #[.pointer (some ⟨p, 0, none⟩), .int .i64 v, .string I] w fun e w' => e = .returned (.int .i64 (kpX D s l r)) ∧ CPe w0 X q pd m (kpAt D s l (r + 1)) w' ∧ Same (q :: X) w w' := by
  subst hp; subst hv
  have hP : kpP s r < 2 := by unfold kpP; split <;> omega
  refine (h.dev hP (G := fun E => E = kpY D s l r) (R := fun e => e = .returned (.int .i64 (kpX D s l r))) fun sb cv hd => ?_).mono ?_
  · refine (put_any _ I w hd (by rw [kp_dev hs hr]; have := hl _ hP; omega) (by omega)).mono ?_
    rintro e w' ⟨rfl, hn⟩
    obtain ⟨e1, e2⟩ := kp_put (D := D) (l := l) hs hr
    rw [← hI] at e1 e2
    exact ⟨by rw [e1], _, e2, hn⟩
  · rintro e w' ⟨he, E, rfl, hc, hsm⟩
    rw [kp_next hr] at hc
    exact ⟨he, hc, hsm⟩
set_option maxHeartbeats 1000000 in
set_option maxRecDepth 100000 in
theorem keep_e {w0 w : World} {X : List Nat} {q : Nat} {pd : Nat → Nat} {m : Nat → List Int} {D : Nat → Dv} (h : CPe w0 X q pd m D w) {s : Nat} (hs : s < 2) {l : List Int} (hg : Tab.Good 16 4 l) (hz : (D s).size = 192) (hl : ∀ t, t < 2 → (D t).cache.length ≤ 10000000) :
    Calls Tryz.prog 90 #[.pointer (some ⟨q, 0, none⟩), .int .i64 (s : Nat), .agg (ta 16 4 l)] w fun e w' => e = .returned (.int .i64 (kpE D s l)) ∧ CPe w0 X q pd m (kpD D s l) w' ∧ Same (q :: X) w w' := by
  have HC := Lib.hid (h.new (.cells (ta 16 4 l) 88))
  have HT := Lib.hid (TAt.made w 16 4 l)
  have HG := Lib.hid hg
  have HL := Lib.hid hl
  have HLL := Lib.hid (show l.length ≤ 4 by have := hg.len; omega)
  have HS0 := Lib.hid (show Same (q :: X) w (w.alloc (.cells (ta 16 4 l) 88)) from fun k hk => by
    refine Below.heap_alloc _ _ _ ?_
    rcases List.mem_cons.1 hk with rfl | hk
    · exact h.lt
    · exact (h.x k hk).2)
  obtain ⟨c, hc⟩ := seal_img hs hg
  obtain ⟨I, hI⟩ : ∃ I, I = imgT s l := ⟨_, rfl⟩
  rw [← hI] at hc
  have HSEAL := Lib.hid hc
  have HSZ := Lib.hid (show I.size = 192 by rw [hI]; exact imgT_size s l hg)
  have HI := Lib.hid hI
  have hpb := HC.out.pb.dev hs
  have hld := HT.out.ld
  have HZ := Lib.hid hz
  obtain ⟨p, hp⟩ : ∃ p, p = w.heap.size := ⟨_, rfl⟩
  rw [← hp] at HC HT hld
  have hs0 : 0 ≤ (s : Int) := by omega
  have hs2 : (s : Int) < 2 := by omega
  clear h hg hl hc hI hz
  go_enter Tryz.func90, Tryz.ntmps90
  go_wp2_with fail
  rw [← hp]
  clear hp
  obtain ⟨sb, cv, hd, -⟩ := HC.out.some_
  refine (shape_d _ (hd s hs)).mono ?_
  rintro e w1 ⟨rfl, hb⟩
  rw [HZ.out]
  generalize ((D s).n : Int) = nn
  have HC1 := Lib.hid (HC.out.later hb)
  have HT1 := Lib.hid (HT.out.on hb)
  have hsm : Same (q :: X) w w1 := HS0.out.trans fun k hk => by
    refine hb.block k ?_
    rcases List.mem_cons.1 hk with rfl | hk
    · exact HC.out.lt
    · exact (HC.out.x k (List.mem_cons_of_mem _ hk)).2
  have HS1 := Lib.hid hsm
  clear hsm hb hd HC HT HS0 hpb hld HZ
  have hfd : ∀ w : World, (Instr.field 79 (.agg #[.int .i64 nn, .int .i64 192]) 1).run Tryz.prog w = .ok (.int .i64 192) w := fun _ => by kernel_rfl
  go_wp2_with fail
  refine Reg.region_vals3 (by kernel_rfl) [(24, .int .i64 192), (25, .int .i64 (s : Nat)), (26, .agg (ta 16 4 l)), (27, .agg #[.int .u8 2, .int .i64 (s : Nat), .int .u64 l.length]), (28, .agg (ta 16 4 l)), (29, .string (txS l)), (30, .tuple #[.string I, .agg #[.int .i64 (s : Nat), .int .u64 l.length, .int .u32 c], .int .i64 0]), (22, .tuple #[.string I, .agg #[.int .i64 (s : Nat), .int .u64 l.length, .int .u32 c], .int .i64 0]), (31, .string I), (32, .agg #[.int .i64 (s : Nat), .int .u64 l.length, .int .u32 c]), (33, .int .i64 0), (8, .string I), (10, .int .i64 0)] [9, 23] (Uno2 w1 9 12 14 108 [.int .i64 0, .int .u64 0, .int .u32 0] [.int .i64 (s : Nat), .int .u64 l.length, .int .u32 c] 23 0) ?a1 ?a2 ?a3 ?a4 ?a5 ?a6 ?a7 ?hend
  case a1 => kernel_rfl
  case a2 => kernel_rfl
  case a3 => kernel_rfl
  case a4 => kernel_rfl
  case a5 => kernel_rfl
  case a6 => exact Uno2.start _
  case a7 =>
    refine ⟨?_, ?_, ?_, ?_, ?_, ?_, ?_, ?_, ?_, ?_, ?_, ?_, ?_, ?_, ?_, ?_, trivial⟩
    · skip
      intro aq wq lq hz hI hl hdone hlater hold hd ho
      clear hd ho hdone hlater hold
      have hc : 23 < aq.tmps.size := by have hz' : aq.tmps.size = 58 := hz; omega
      refine Reg.step3_call 11 #[] ?_ ((Sum.make_any wq).mono ?_)
      · clear hz hc hI
        simp [execOp]
        go_simp
      · rintro e w' ⟨b, rfl, hb1, ht, hb⟩
        exact ⟨_, rfl, trivial, hI.make hb ht (by decide) (by decide) (by decide) hc, trivial⟩
    · skip
      intro aq wq lq hz hI hl hdone hlater hold hd ho
      have h7 : aq.tmps.getD 7 undef = .int .i64 192 := ho 7 (by kernel_rfl)
      clear hd ho hdone hlater hold
      have hc : 24 < aq.tmps.size := by have hz' : aq.tmps.size = 58 := hz; omega
      exact Reg.step3_move (.tmp 7) rfl h7 (hI.keep _ (Below.refl _ _) (by decide) (by decide) (by decide) (by decide) (by decide) hc) trivial
    · skip
      intro aq wq lq hz hI hl hdone hlater hold hd ho
      have h1 : aq.tmps.getD 1 undef = .int .i64 (s : Nat) := ho 1 (by kernel_rfl)
      clear hd ho hdone hlater hold
      have hc : 25 < aq.tmps.size := by have hz' : aq.tmps.size = 58 := hz; omega
      exact Reg.step3_move (.tmp 1) rfl h1 (hI.keep _ (Below.refl _ _) (by decide) (by decide) (by decide) (by decide) (by decide) hc) trivial
    · skip
      intro aq wq lq hz hI hl hdone hlater hold hd ho
      have h5 : aq.tmps.getD 5 undef = .pointer (some ⟨p, 0, none⟩) := ho 5 (by kernel_rfl)
      clear hd ho hdone hlater hold
      rw [Array.getD_eq_getD_getElem?] at h5
      have hc : 26 < aq.tmps.size := by have hz' : aq.tmps.size = 58 := hz; omega
      have hld := (HT1.out.on hI.1.1).ld
      refine Reg.step3_val (.agg (ta 16 4 l)) ?_ rfl (hI.keep _ (Below.refl _ _) (by decide) (by decide) (by decide) (by decide) (by decide) hc) trivial
      clear hz hc hI
      go_simp
    · skip
      intro aq wq lq hz hI hl hdone hlater hold hd ho
      have h25 : aq.tmps.getD 25 undef = .int .i64 (s : Nat) := hd 25 (by kernel_rfl)
      have h26 : aq.tmps.getD 26 undef = .agg (ta 16 4 l) := hd 26 (by kernel_rfl)
      clear hd ho hdone hlater hold
      rw [Array.getD_eq_getD_getElem?] at h25 h26
      have hc : 27 < aq.tmps.size := by have hz' : aq.tmps.size = 58 := hz; omega
      refine Reg.step3_call 117 #[.int .i64 (s : Nat), .agg (ta 16 4 l)] ?_ ((headOf_any s 16 4 l wq (by have := HLL.out; omega)).mono ?_)
      · clear hz hc hI
        simp [execOp]
        go_simp
      · rintro e w' ⟨rfl, hb⟩
        refine ⟨_, rfl, ?_, (hI.keep _ hb (by decide) (by decide) (by decide) (by decide) (by decide) hc), trivial⟩
        rfl
    · skip
      intro aq wq lq hz hI hl hdone hlater hold hd ho
      have h5 : aq.tmps.getD 5 undef = .pointer (some ⟨p, 0, none⟩) := ho 5 (by kernel_rfl)
      clear hd ho hdone hlater hold
      rw [Array.getD_eq_getD_getElem?] at h5
      have hc : 28 < aq.tmps.size := by have hz' : aq.tmps.size = 58 := hz; omega
      have hld := (HT1.out.on hI.1.1).ld
      refine Reg.step3_val (.agg (ta 16 4 l)) ?_ rfl (hI.keep _ (Below.refl _ _) (by decide) (by decide) (by decide) (by decide) (by decide) hc) trivial
      clear hz hc hI
      go_simp
    · skip
      intro aq wq lq hz hI hl hdone hlater hold hd ho
      have h28 : aq.tmps.getD 28 undef = .agg (ta 16 4 l) := hd 28 (by kernel_rfl)
      clear hd ho hdone hlater hold
      rw [Array.getD_eq_getD_getElem?] at h28
      have hc : 29 < aq.tmps.size := by have hz' : aq.tmps.size = 58 := hz; omega
      refine Reg.step3_call 118 #[.agg (ta 16 4 l)] ?_ ((Tab.text_any 16 4 l wq HG.out).mono ?_)
      · clear hz hc hI
        simp [execOp]
        go_simp
      · rintro e w' ⟨rfl, hb⟩
        refine ⟨_, rfl, ?_, (hI.keep _ hb (by decide) (by decide) (by decide) (by decide) (by decide) hc), trivial⟩
        rfl
    · skip
      intro aq wq lq hz hI hl hdone hlater hold hd ho
      have h24 : aq.tmps.getD 24 undef = .int .i64 192 := hd 24 (by kernel_rfl)
      have h27 : aq.tmps.getD 27 undef = .agg #[.int .u8 2, .int .i64 (s : Nat), .int .u64 l.length] := hd 27 (by kernel_rfl)
      have h29 : aq.tmps.getD 29 undef = .string (txS l) := hd 29 (by kernel_rfl)
      obtain ⟨bb, hbb, hbt⟩ := hI.tab (hdone 0 (by kernel_rfl))
      rw [Array.getD_eq_getD_getElem?] at hbb
      clear hd ho hdone hlater hold
      rw [Array.getD_eq_getD_getElem?] at h24 h27 h29
      have hc : 30 < aq.tmps.size := by have hz' : aq.tmps.size = 58 := hz; omega
      refine Reg.step3_call 40 #[.pointer (some ⟨bb, 0, none⟩), .int .i64 192, .agg #[.int .u8 2, .int .i64 (s : Nat), .int .u64 l.length], .string (txS l)] ?_ ((Env.seal_any bb 192 2 s l.length (txS l) wq hbt (by omega) (by have := HLL.out; omega) (by have := HLL.out; show (txL l).length ≤ _; rw [txL_length]; omega)).mono ?_)
      · clear hz hc hI
        simp [execOp]
        go_simp
      · rintro e w' ⟨rfl, hb⟩
        refine ⟨_, rfl, ?_, (hI.keep _ hb (by decide) (by decide) (by decide) (by decide) (by decide) hc), trivial⟩
        show Env.sealV _ _ _ _ _ = _
        exact HSEAL.out
    · skip
      intro aq wq lq hz hI hl hdone hlater hold hd ho
      have h30 : aq.tmps.getD 30 undef = .tuple #[.string I, .agg #[.int .i64 (s : Nat), .int .u64 l.length, .int .u32 c], .int .i64 0] := hd 30 (by kernel_rfl)
      clear hd ho hdone hlater hold
      have hc : 22 < aq.tmps.size := by have hz' : aq.tmps.size = 58 := hz; omega
      exact Reg.step3_move (.tmp 30) rfl h30 (hI.keep _ (Below.refl _ _) (by decide) (by decide) (by decide) (by decide) (by decide) hc) trivial
    · skip
      intro aq wq lq hz hI hl hdone hlater hold hd ho
      have h22 : aq.tmps.getD 22 undef = .tuple #[.string I, .agg #[.int .i64 (s : Nat), .int .u64 l.length, .int .u32 c], .int .i64 0] := hd 22 (by kernel_rfl)
      clear hd ho hdone hlater hold
      rw [Array.getD_eq_getD_getElem?] at h22
      have hc : 31 < aq.tmps.size := by have hz' : aq.tmps.size = 58 := hz; omega
      refine Reg.step3_val (.string I) ?_ rfl (hI.keep _ (Below.refl _ _) (by decide) (by decide) (by decide) (by decide) (by decide) hc) trivial
      clear hz hc hI
      simp [execOp, Act.eval, h22]
      try go_simp
    · skip
      intro aq wq lq hz hI hl hdone hlater hold hd ho
      have h22 : aq.tmps.getD 22 undef = .tuple #[.string I, .agg #[.int .i64 (s : Nat), .int .u64 l.length, .int .u32 c], .int .i64 0] := hd 22 (by kernel_rfl)
      clear hd ho hdone hlater hold
      rw [Array.getD_eq_getD_getElem?] at h22
      have hc : 32 < aq.tmps.size := by have hz' : aq.tmps.size = 58 := hz; omega
      refine Reg.step3_val (.agg #[.int .i64 (s : Nat), .int .u64 l.length, .int .u32 c]) ?_ rfl (hI.keep _ (Below.refl _ _) (by decide) (by decide) (by decide) (by decide) (by decide) hc) trivial
      clear hz hc hI
      simp [execOp, Act.eval, h22]
      try go_simp
    · skip
      intro aq wq lq hz hI hl hdone hlater hold hd ho
      have h22 : aq.tmps.getD 22 undef = .tuple #[.string I, .agg #[.int .i64 (s : Nat), .int .u64 l.length, .int .u32 c], .int .i64 0] := hd 22 (by kernel_rfl)
      clear hd ho hdone hlater hold
      rw [Array.getD_eq_getD_getElem?] at h22
      have hc : 33 < aq.tmps.size := by have hz' : aq.tmps.size = 58 := hz; omega
      refine Reg.step3_val (.int .i64 0) ?_ rfl (hI.keep _ (Below.refl _ _) (by decide) (by decide) (by decide) (by decide) (by decide) hc) trivial
      clear hz hc hI
      simp [execOp, Act.eval, h22]
      try go_simp
    · skip
      intro aq wq lq hz hI hl hdone hlater hold hd ho
      have hst : lq 14 = false := hlater 14 (by kernel_rfl)
      clear hd ho hdone hlater hold
      have hc : 9 < aq.tmps.size := by have hz' : aq.tmps.size = 58 := hz; omega
      refine Reg.step3_do (.pointer (some ⟨wq.heap.size, 0, none⟩)) (wq.alloc (.cells #[.int .i64 0, .int .u64 0, .int .u32 0] 108)) ?_ trivial (Uno2.mk hI hst (by decide) (by decide) (by decide) hc) trivial
      clear hz hc hI
      simp [execOp]
      go_simp
    · skip
      intro aq wq lq hz hI hl hdone hlater hold hd ho
      have h31 : aq.tmps.getD 31 undef = .string I := hd 31 (by kernel_rfl)
      clear hd ho hdone hlater hold
      have hc : 8 < aq.tmps.size := by have hz' : aq.tmps.size = 58 := hz; omega
      exact Reg.step3_assign (.tmp 31) rfl h31 (hI.keep _ (Below.refl _ _) (by decide) (by decide) (by decide) (by decide) (by decide) hc) trivial
    · skip
      intro aq wq lq hz hI hl hdone hlater hold hd ho
      have h32 : aq.tmps.getD 32 undef = .agg #[.int .i64 (s : Nat), .int .u64 l.length, .int .u32 c] := hd 32 (by kernel_rfl)
      have hia : lq 12 = true := hdone 12 (by kernel_rfl)
      clear hd ho hdone hlater hold
      rw [Array.getD_eq_getD_getElem?] at h32
      obtain ⟨gq, hgp, hge, hH, hBx, hU⟩ := hI.st hia hl (by decide) (by decide)
      rw [Array.getD_eq_getD_getElem?] at hgp
      have e0 : wq.cell? ⟨gq, 0, none⟩ = some (.int .i64 0) := hH.cell 0
      have e1 : wq.cell? ⟨gq, 1, none⟩ = some (.int .u64 0) := hH.cell 1
      have e2 : wq.cell? ⟨gq, 2, none⟩ = some (.int .u32 0) := hH.cell 2
      have fz := hH.frozen
      refine Reg.step3_skip (((wq.setCell ⟨gq, 0, none⟩ (.int .i64 (s : Nat))).setCell ⟨gq, 1, none⟩ (.int .u64 l.length)).setCell ⟨gq, 2, none⟩ (.int .u32 c)) rfl ?_ (hU _ (Has.set (Has.set (Has.set hH 0 (.int .i64 (s : Nat))) 1 (.int .u64 l.length)) 2 (.int .u32 c)) (Below.setCell (Below.setCell (Below.setCell hBx (by exact hge) _) (by exact hge) _) (by exact hge) _) (fun kk hk => by rw [Below.heap_setCell _ _ _ _ hk]; rw [Below.heap_setCell _ _ _ _ hk]; rw [Below.heap_setCell _ _ _ _ hk])) trivial
      clear hU hH hBx hI hz
      simp [execOp]
      go_simp
    · skip
      intro aq wq lq hz hI hl hdone hlater hold hd ho
      have h33 : aq.tmps.getD 33 undef = .int .i64 0 := hd 33 (by kernel_rfl)
      clear hd ho hdone hlater hold
      have hc : 10 < aq.tmps.size := by have hz' : aq.tmps.size = 58 := hz; omega
      exact Reg.step3_assign (.tmp 33) rfl h33 (hI.keep _ (Below.refl _ _) (by decide) (by decide) (by decide) (by decide) (by decide) hc) trivial
  case hend =>
    intro wx v aq hv hI
    obtain ⟨gq, bq, hgp, hge, hH, hBx, hbp, hbt⟩ := Uno2.done hI (by decide) (by decide) (by decide)
    rw [hv 9 (by decide)] at hgp
    rw [hv 23 (by decide)] at hbp
    clear hv hI
    simp only [Reg.fill, List.map_cons, List.map_nil, List.foldl_cons, List.foldl_nil, List.setIfInBounds_toArray, List.set_cons_zero, List.set_cons_succ]
    rw [hgp, hbp]
    clear hgp hbp
    have HC2 := Lib.hid (HC1.out.later hBx)
    have HT2 := Lib.hid (HT1.out.on hBx)
    have HS2 := Lib.hid (HS1.out.trans (fun k hk => hBx.block k (by
      rcases List.mem_cons.1 hk with rfl | hk
      · exact HC1.out.lt
      · exact (HC1.out.x k (List.mem_cons_of_mem _ hk)).2) : Same (q :: X) w1 wx))
    clear hBx hH hge HC1 HT1 HS1 hbt
    go_wp2_with fail
    refine (from_e HC2.out.pb hs).mono ?_
    rintro e w3 ⟨rfl, hb⟩
    have HC3 := Lib.hid (HC2.out.later hb)
    have HT3 := Lib.hid (HT2.out.on hb)
    have HS3 := Lib.hid (HS2.out.trans (fun k hk => hb.block k (by
      rcases List.mem_cons.1 hk with rfl | hk
      · exact HC2.out.lt
      · exact (HC2.out.x k (List.mem_cons_of_mem _ hk)).2) : Same (q :: X) wx w3))
    clear hb HC2 HT2 HS2
    go_wp2_with fail
    go_loopw [37, 11] (fun i k wr => ∃ r : Nat, r ≤ 2 ∧ i = .int .i64 r ∧ k = .bool (kpK D s l r) ∧ kpN D s l r ∧ CPe w0 (p :: X) q pd m (kpAt D s l r) wr ∧ TAt wr p 16 4 l ∧ Same (q :: X) w wr) (fun i _ _ => 2 - (intOf i).toNat)
    case atStart => exact ⟨0, by omega, rfl, by rw [kp_none.2.1], kp_none.2.2, by rw [kp_none.1]; exact HC3.out, HT3.out, HS3.out⟩
    case round =>
      obtain ⟨r, hr, rfl, rfl, hn, hc, ht, hsm⟩ := hrel
      clear HC3 HT3 HS3
      have HN := Lib.hid hn
      have HC := Lib.hid hc
      have HT := Lib.hid ht
      have HS := Lib.hid hsm
      have hgl := HLL.out
      clear hn hc ht hsm
      by_cases h2 : r = 2
      · subst h2
        obtain ⟨e1, e2⟩ := kp_all HN.out
        have HC' := Lib.hid (show CPe w0 X q pd m (kpD D s l) wr by rw [← e1]; exact HC.out.sub fun k hk => List.mem_cons_of_mem _ hk)
        cases hk : kpK D s l 2 with
        | true =>
          have HE := Lib.hid (show kpE D s l = 0 by rw [e2, hk]; rfl)
          clear e1 e2 hk HC HN
          go_wp2_with fail
          go_ret
          exact ⟨by rw [HE.out]; rfl, HC'.out, HS.out⟩
        | false =>
          have HE := Lib.hid (show kpE D s l = 8 by rw [e2, hk]; rfl)
          clear e1 e2 hk HC HN
          go_wp2_with fail
          go_ret
          exact ⟨by rw [HE.out]; rfl, HC'.out, HS.out⟩
      · have hr2 : r < 2 := by omega
        obtain ⟨x, hx⟩ : ∃ x, x = kpX D s l r := ⟨_, rfl⟩
        obtain ⟨K, hK⟩ : ∃ K, K = kpK D s l r := ⟨_, rfl⟩
        rw [← hK]
        have HX := Lib.hid hx
        have HK := Lib.hid hK
        have hld := HT.out.ld
        have ht1 : Int.tmod (l.length : Int) 2 = ((l.length % 2 : Nat) : Int) := by rw [Int.tmod_eq_emod_of_nonneg (by omega)]; omega
        have ht2 : (l.length : Int) % 2 = ((l.length % 2 : Nat) : Int) := by omega
        obtain ⟨y, hy⟩ : ∃ y, y = l.length % 2 := ⟨_, rfl⟩
        have hy2 : y < 2 := by omega
        rw [← hy] at ht1 ht2
        have HY := Lib.hid hy
        have hyw : IntKind.u64.wrap (y : Int) = y := by rw [IntKind.wrap_u64]; omega
        have hi0 : ∀ w : World, (Instr.index 26 (.agg #[.pointer (some ⟨pd s, 0, none⟩), .pointer (some ⟨pd (1 - s), 0, none⟩)]) (.int .i64 0)).run Tryz.prog w = .ok (.pointer (some ⟨pd s, 0, none⟩)) w := fun _ => by kernel_rfl
        have hi1 : ∀ w : World, (Instr.index 26 (.agg #[.pointer (some ⟨pd s, 0, none⟩), .pointer (some ⟨pd (1 - s), 0, none⟩)]) (.int .i64 1)).run Tryz.prog w = .ok (.pointer (some ⟨pd (1 - s), 0, none⟩)) w := fun _ => by kernel_rfl
        clear hx hK hr h2 hy
        rcases (show r = 0 ∨ r = 1 by omega) with rfl | rfl
        all_goals
          clear hr2
          go_wp2_with fail
          refine (gen_any 16 4 l _ (by omega)).mono ?_
          rintro e w4 ⟨rfl, hb⟩
          have HC4 := Lib.hid (HC.out.later hb)
          have HT4 := Lib.hid (HT.out.on hb)
          have HS4 := Lib.hid (HS.out.trans (fun k hk => hb.block k (by
            rcases List.mem_cons.1 hk with rfl | hk
            · exact HC.out.lt
            · exact (HC.out.x k (List.mem_cons_of_mem _ hk)).2) : Same (q :: X) wr w4))
          clear hb HC HT HS hld
          go_wp2_with fail
          refine (kp_call HC4.out hs (by omega) HL.out HI.out HSZ.out _ (by rw [← HY.out]; omega) _ rfl).mono ?_
          rintro e w5 ⟨rfl, hc, hsm⟩
          rw [← HX.out]
          have HC5 := Lib.hid hc
          have HT5 := Lib.hid (show TAt w5 p 16 4 l from Has.same HT4.out (hsm p (by simp)))
          have HS5 := Lib.hid (HS4.out.trans (fun k hk => hsm k (by
            rcases List.mem_cons.1 hk with rfl | hk
            · simp
            · simp [hk]) : Same (q :: X) w4 w5))
          clear hc hsm HC4 HT4 HS4
          by_cases hx0 : x = 0
          · obtain ⟨n1, n2, -⟩ := kp_more (by omega) HN.out (by rw [← HX.out, hx0]; decide)
            have HN1 := Lib.hid n1
            have HK1 := Lib.hid (n2 (by rw [← HX.out, hx0]))
            clear n1 n2 HX HN
            subst hx0
            go_wp2_with fail
            go_roundw
            case rel => exact ⟨_, by omega, by go_num, by rw [HK1.out], HN1.out, HC5.out, HT5.out, HS5.out⟩
            case measure => simp [intOf]
          by_cases hx6 : x = 6
          · obtain ⟨n1, n2⟩ := kp_six (by omega) HN.out (by rw [← HX.out, hx6])
            have HN1 := Lib.hid n1
            have HC6 := Lib.hid (show CPe w0 X q pd m (kpD D s l) w5 by rw [← n2]; exact HC5.out.sub fun k hk => List.mem_cons_of_mem _ hk)
            clear n1 n2 HX HN HC5
            subst hx6
            go_wp2_with fail
            go_ret
            exact ⟨by rw [HN1.out]; rfl, HC6.out, HS5.out⟩
          · obtain ⟨n1, -, n2⟩ := kp_more (by omega) HN.out (by rw [← HX.out]; exact hx6)
            have HN1 := Lib.hid n1
            have HK1 := Lib.hid (n2 (by rw [← HX.out]; exact hx0))
            clear n1 n2 HX HN
            go_wp2_with fail
            go_roundw
            case rel => exact ⟨_, by omega, by go_num, by rw [HK1.out, HK.out], HN1.out, HC5.out, HT5.out, HS5.out⟩
            case measure => simp [intOf]
/-! ### keepBoth -/
theorem putD_size (D : Dv) (i : Int) (t : ByteArray) : (putD D i t).size = D.size := by
  have hw : (D.writeD i t).size = D.size := by
    unfold Dv.writeD
    repeat' split
    all_goals rfl
  have hf : ∀ E : Dv, E.flushD.size = E.size := fun E => by
    unfold Dv.flushD
    split
    · rfl
    · split
      · rfl
      · exact Dv.puts_size _ _
  unfold putD
  split
  · rfl
  · split
    · exact hw
    · rw [hf, hw]
theorem putD_len (D : Dv) (i : Int) (t : ByteArray) : (putD D i t).cache.length ≤ D.cache.length + 1 := by
  have hw := putW_len D i t
  have hf : ∀ E : Dv, E.flushD.cache.length ≤ E.cache.length := fun E => by
    unfold Dv.flushD
    split
    · exact Nat.le_refl _
    · split
      · exact Nat.le_refl _
      · exact Nat.zero_le _
  unfold putD
  split
  · omega
  · split
    · exact hw
    · exact Nat.le_trans (hf _) hw
theorem kpD_all (D : Nat → Dv) {s : Nat} (hs : s < 2) (l : List Int) {t : Nat} (ht : t < 2) : (kpD D s l t).size = (D t).size ∧ (kpD D s l t).cache.length ≤ (D t).cache.length + 1 := by
  have h0 : (kpD0 D s l).size = (D s).size ∧ (kpD0 D s l).cache.length ≤ (D s).cache.length + 1 := ⟨putD_size _ _ _, putD_len _ _ _⟩
  have h1 : (kpD1 D s l).size = (D (1 - s)).size ∧ (kpD1 D s l).cache.length ≤ (D (1 - s)).cache.length + 1 := ⟨putD_size _ _ _, putD_len _ _ _⟩
  unfold kpD
  by_cases e : t = s
  · subst e
    split
    · rw [upd_same]; exact h0
    · rw [upd_ne _ _ (show t ≠ 1 - t by omega), upd_same]; exact h0
  · have e1 : t = 1 - s := by omega
    subst e1
    split
    · rw [upd_ne _ _ e]; exact ⟨rfl, Nat.le_succ _⟩
    · rw [upd_same]; exact h1
section
variable (D : Nat → Dv) (m : Nat → List Int)
def kbX (r : Nat) : Int := if r = 0 then kpE D 0 (m 0) else kpE (kpD D 0 (m 0)) 1 (m 1)
def kbAt (r : Nat) : Nat → Dv := if r = 0 then D else if r = 1 then kpD D 0 (m 0) else kpD (kpD D 0 (m 0)) 1 (m 1)
def kbN (r : Nat) : Prop := (1 ≤ r → kbX D m 0 = 0) ∧ (r = 2 → kbX D m 1 = 0)
def kbE : Int := if kbX D m 0 ≠ 0 then kbX D m 0 else kbX D m 1
def kbD : Nat → Dv := if kbX D m 0 ≠ 0 then kbAt D m 1 else kbAt D m 2
end
theorem kb_next {D : Nat → Dv} {m : Nat → List Int} {r : Nat} (hr : r < 2) : kpE (kbAt D m r) r (m r) = kbX D m r ∧ kpD (kbAt D m r) r (m r) = kbAt D m (r + 1) := by
  rcases (show r = 0 ∨ r = 1 by omega) with rfl | rfl <;> exact ⟨rfl, rfl⟩
theorem kb_size {D : Nat → Dv} {m : Nat → List Int} (r : Nat) {t : Nat} (ht : t < 2) : (kbAt D m r t).size = (D t).size ∧ (kbAt D m r t).cache.length ≤ (D t).cache.length + 2 := by
  obtain ⟨a1, a2⟩ := kpD_all D (s := 0) (by omega) (m 0) ht
  obtain ⟨b1, b2⟩ := kpD_all (kpD D 0 (m 0)) (s := 1) (by omega) (m 1) ht
  unfold kbAt
  split
  · exact ⟨rfl, by omega⟩
  · split
    · exact ⟨a1, by omega⟩
    · exact ⟨b1.trans a1, by omega⟩
theorem kb_fail {D : Nat → Dv} {m : Nat → List Int} {r : Nat} (hr : r < 2) (hn : kbN D m r) (h : kbX D m r ≠ 0) : kbE D m = kbX D m r ∧ kbD D m = kbAt D m (r + 1) := by
  unfold kbE kbD
  rcases (show r = 0 ∨ r = 1 by omega) with rfl | rfl
  · rw [if_pos h, if_pos h]; exact ⟨rfl, rfl⟩
  · have := hn.1 (by omega)
    rw [if_neg (by omega), if_neg (by omega)]; exact ⟨rfl, rfl⟩
theorem kb_all {D : Nat → Dv} {m : Nat → List Int} (hn : kbN D m 2) : kbE D m = 0 ∧ kbD D m = kbAt D m 2 := by
  have h0 := hn.1 (by omega)
  have h1 := hn.2 rfl
  unfold kbE kbD
  rw [if_neg (by omega), if_neg (by omega)]; exact ⟨h1, rfl⟩
theorem kb_more {D : Nat → Dv} {m : Nat → List Int} {r : Nat} (hr : r < 2) (hn : kbN D m r) (h : kbX D m r = 0) : kbN D m (r + 1) := by
  rcases (show r = 0 ∨ r = 1 by omega) with rfl | rfl
  · exact ⟨fun _ => h, fun h => by omega⟩
  · exact ⟨fun _ => hn.1 (by omega), fun _ => h⟩
/-- both tables' cells -/
def tb (x y : List Int) : Array Value := (tl 16 4 x ++ tl 16 4 y).toArray
def ldTT (a : Addr) : Sem (Array Value) := loadCells a 70
@[simp ↓ high, go_sem ↓ high] theorem load_from2 (a : Addr) : loadCellsFrom a 0 70 #[] = ldTT a := rfl
@[simp] theorem tb_size (x y : List Int) : (tb x y).size = 70 := by simp [tb, tl_length]
@[simp] theorem tb_ne (x y : List Int) : tb x y ≠ #[] := by intro h; have := congrArg Array.size h; simp at this
theorem tb_0 (x y : List Int) : (tb x y).extract 0 35 = ta 16 4 x := by
  unfold tb ta
  rw [List.extract_toArray]
  congr 1
theorem tb_1 (x y : List Int) : (tb x y).extract 35 70 = ta 16 4 y := by
  unfold tb ta
  rw [List.extract_toArray]
  congr 1
theorem ix_0 (x y : List Int) (w : World) : (Instr.index 138 (.agg (tb x y)) (.int .i64 0)).run Tryz.prog w = .ok (.agg (ta 16 4 x)) w := by
  have : ∀ cs, (Instr.index 138 (.agg cs) (.int .i64 0)).run Tryz.prog w = .ok (.agg (cs.extract 0 35)) w := fun cs => by kernel_rfl
  rw [this, tb_0]
theorem ix_1 (x y : List Int) (w : World) : (Instr.index 138 (.agg (tb x y)) (.int .i64 1)).run Tryz.prog w = .ok (.agg (ta 16 4 y)) w := by
  have : ∀ cs, (Instr.index 138 (.agg cs) (.int .i64 1)).run Tryz.prog w = .ok (.agg (cs.extract 35 70)) w := fun cs => by kernel_rfl
  rw [this, tb_1]
theorem PB.ldd {w : World} {q : Nat} {pd : Nat → Nat} {m : Nat → List Int} (h : PB w q pd m) : (ldTT ⟨q, 2, none⟩).run Tryz.prog w = .ok (tb (m 0) (m 1)) w := by
  have := run_loadCells_list (P := Tryz.prog) w ⟨q, 2, none⟩ (tl 16 4 (m 0) ++ tl 16 4 (m 1)) (fun j v hv => by
    have hadd : (⟨q, 2, none⟩ : Addr).add j = ⟨q, 2 + j, none⟩ := by unfold Addr.add; split <;> simp_all
    rw [hadd, Has.cell h (2 + j)]
    show (_ :: _ :: (tl 16 4 (m 0) ++ tl 16 4 (m 1)))[2 + j]? = _
    rw [show 2 + j = j + 1 + 1 by omega, List.getElem?_cons_succ, List.getElem?_cons_succ]; exact hv)
  rw [List.length_append, tl_length, tl_length] at this
  exact this
set_option maxHeartbeats 1000000 in
set_option maxRecDepth 100000 in
theorem keepBoth_e {w0 w : World} {X : List Nat} {q : Nat} {pd : Nat → Nat} {m : Nat → List Int} {D : Nat → Dv} (h : CPe w0 X q pd m D w) (hg : ∀ s, s < 2 → Tab.Good 16 4 (m s)) (hz : ∀ s, s < 2 → (D s).size = 192) (hl : ∀ t, t < 2 → (D t).cache.length ≤ 1000000) :
    Calls Tryz.prog 57 #[.pointer (some ⟨q, 0, none⟩)] w fun e w' => e = .returned (.int .i64 (kbE D m)) ∧ CPe w0 X q pd m (kbD D m) w' ∧ Same (q :: X) w w' := by
  have HC := Lib.hid h
  have HG := Lib.hid hg
  have HL := Lib.hid hl
  have HZ := Lib.hid hz
  have hld := h.pb.ldd
  clear h hg hz hl
  go_enter Tryz.func57, Tryz.ntmps57
  go_wp2_with fail
  clear hld
  go_loopw [10] (fun i wr => ∃ r : Nat, r ≤ 2 ∧ i = .int .i64 r ∧ kbN D m r ∧ CPe w0 X q pd m (kbAt D m r) wr ∧ Same (q :: X) w wr) (fun i _ => 2 - (intOf i).toNat)
  case atStart => exact ⟨0, by omega, rfl, ⟨fun h => by omega, fun h => by omega⟩, HC.out, Same.refl _ _⟩
  case round =>
    obtain ⟨r, hr, rfl, hn, hc, hsm⟩ := hrel
    clear HC
    have HC := Lib.hid hc
    have HN := Lib.hid hn
    have HS := Lib.hid hsm
    clear hc hn hsm
    by_cases h2 : r = 2
    · subst h2
      obtain ⟨e1, e2⟩ := kb_all HN.out
      have HE := Lib.hid e1
      have HC' := Lib.hid (show CPe w0 X q pd m (kbD D m) wr by rw [e2]; exact HC.out)
      clear e1 e2
      go_wp2_with fail
      go_ret
      exact ⟨by rw [HE.out]; rfl, HC'.out, HS.out⟩
    · have hr2 : r < 2 := by omega
      have HR := Lib.hid hr2
      have hi0 := ix_0 (m 0) (m 1)
      have hi1 := ix_1 (m 0) (m 1)
      clear hr h2
      have hgr := HG.out r hr2
      have l0 := (TAt.made wr 16 4 (m 0)).ld
      have l1 := (TAt.made wr 16 4 (m 1)).ld
      have hsm : ∀ o : Obj, Same (q :: X) wr (wr.alloc o) := fun o k hk => by
        refine Below.heap_alloc _ _ _ ?_
        rcases List.mem_cons.1 hk with rfl | hk
        · exact HC.out.lt
        · exact (HC.out.x k hk).2
      have HSM := Lib.hid hsm
      obtain ⟨x, hx⟩ : ∃ x, x = kbX D m r := ⟨_, rfl⟩
      have HX := Lib.hid hx
      clear hsm hx
      rcases (show r = 0 ∨ r = 1 by omega) with rfl | rfl
      all_goals
        clear hr2
        go_wp2_with (first | with_reducible refine wl_alloc ?_)
        refine (keep_e (HC.out.later (b_new _ _)) HR.out hgr (by rw [(kb_size _ HR.out).1]; exact HZ.out _ HR.out) (fun t ht => Nat.le_trans (kb_size (D := D) (m := m) _ ht).2 (by have := HL.out t ht; omega))).mono ?_
        rintro e w2 ⟨rfl, hc, hsm⟩
        obtain ⟨y1, y2⟩ := kb_next (D := D) (m := m) HR.out
        rw [y1, ← HX.out]
        rw [y2] at hc
        have HC2 := Lib.hid hc
        have HS2 := Lib.hid ((HS.out.trans (HSM.out _)).trans hsm)
        clear hc hsm y1 y2 l0 l1 HSM
        by_cases hx0 : x = 0
        · have HN2 := Lib.hid (kb_more HR.out HN.out (by rw [← HX.out, hx0]))
          clear HX HN
          subst hx0
          go_wp2_with fail
          go_roundw
          case rel => exact ⟨_, by omega, by go_num, HN2.out, HC2.out, HS2.out⟩
          case measure => simp [intOf]
        · obtain ⟨n1, n2⟩ := kb_fail HR.out HN.out (by rw [← HX.out]; exact hx0)
          have HE := Lib.hid n1
          have HC3 := Lib.hid (show CPe w0 X q pd m (kbD D m) w2 by rw [n2]; exact HC2.out)
          clear n1 n2 HN HC2
          go_wp2_with fail
          go_ret
          exact ⟨by rw [HE.out, ← HX.out]; rfl, HC3.out, HS2.out⟩
end Go.Proofs.YtflanjcfkdjpjaaGreatDoor.Rem


