/- Layer 16 (leaf): for the law LeafOrder: updates of unlike keys, in whatever order. -/
import Derived.Test.YtfmbjepjmjcgeaaLeX
import Derived.Test.YtfmbjepjmjcgeaaMapS
namespace Go.Proofs.Ytfmbjepjmjcgeaa.Leaf
open Go Go.RowKit Go.Proofs.Ytfmbjepjmjcgeaa Go.Proofs.Ytfmbjepjmjcgeaa.Lend Go.Proofs.Ytfmbjepjmjcgeaa.Rec Go.Proofs.Ytfmbjepjmjcgeaa.Msg Go.Proofs.Ytfmbjepjmjcgeaa.Buf
set_option linter.unusedVariables false

theorem rev_ind {α : Type} {P : List α → Prop} (h0 : P []) (h1 : ∀ l a, P l → P (l ++ [a])) : ∀ l, P l := by
  intro l
  rw [← List.reverse_reverse l]
  induction l.reverse with
  | nil => exact h0
  | cons x r ih => rw [List.reverse_cons]; exact h1 _ _ ih
/-- of unlike keys: no two are of one key -/
def Unl (l : List Up) : Prop := (l.map Up.key).Nodup
theorem unl_snoc {l : List Up} {u : Up} : Unl (l ++ [u]) ↔ Unl l ∧ ∀ x ∈ l, x.key ≠ u.key := by
  unfold Unl
  rw [List.map_append, List.nodup_append]
  simp only [List.map_cons, List.map_nil, List.nodup_cons, List.not_mem_nil, not_false_eq_true, List.nodup_nil, and_true, true_and, List.mem_map, List.mem_singleton]
  constructor
  · rintro ⟨h1, h2⟩; exact ⟨h1, fun x hx => h2 _ ⟨x, hx, rfl⟩ _ rfl⟩
  · rintro ⟨h1, h2⟩; exact ⟨h1, by rintro a ⟨x, hx, rfl⟩ b rfl; exact h2 x hx⟩
theorem unl_take {l : List Up} (h : Unl l) (k : Nat) : Unl (l.take k) := by
  unfold Unl at h ⊢
  rw [List.map_take]
  exact h.sublist (List.take_sublist _ _)
/-- lists by rising keys that have the same ones are the same -/
theorem srt_ext : ∀ {a b : List Up}, Srt a → Srt b → (∀ x, x ∈ a ↔ x ∈ b) → a = b
  | [], [], _, _, _ => rfl
  | [], y :: b, _, _, h => absurd ((h y).2 (by simp)) (by simp)
  | x :: a, [], _, _, h => absurd ((h x).1 (by simp)) (by simp)
  | x :: a, y :: b, ha, hb, h => by
    have ha' := srt_cons.1 ha
    have hb' := srt_cons.1 hb
    have hxy : x = y := by
      rcases List.mem_cons.1 ((h x).1 (by simp)) with e | hx
      · exact e
      · rcases List.mem_cons.1 ((h y).2 (by simp)) with e | hy
        · exact e.symm
        · have h1 := hb'.1 x hx
          have h2 := ha'.1 y hy
          have := kLt_trans h1 h2
          rw [kLt_irr] at this; cases this
    subst hxy
    rw [srt_ext ha'.2 hb'.2 fun z => ?_]
    constructor
    · intro hz
      rcases List.mem_cons.1 ((h z).1 (by simp [hz])) with e | hz'
      · subst e
        have := ha'.1 z hz
        rw [kLt_irr] at this; cases this
      · exact hz'
    · intro hz
      rcases List.mem_cons.1 ((h z).2 (by simp [hz])) with e | hz'
      · subst e
        have := hb'.1 z hz
        rw [kLt_irr] at this; cases this
      · exact hz'
/-- from a place on, and round -/
def rotL (l : List Up) (t : Nat) : List Up := (List.range l.length).map fun i => (l[(i + t) % l.length]?).getD ⟨0, [], [], 0⟩
theorem rot_len (l : List Up) (t : Nat) : (rotL l t).length = l.length := by simp [rotL]
theorem rot_at {l : List Up} {t i : Nat} (h : i < l.length) : (rotL l t)[i]'(by rw [rot_len]; exact h) = l[(i + t) % l.length]'(Nat.mod_lt _ (by omega)) := by
  unfold rotL
  rw [List.getElem_map, List.getElem_range, List.getElem?_eq_getElem (Nat.mod_lt _ (by omega))]; rfl
theorem rot_inj {n t i j : Nat} (hi : i < n) (hj : j < n) (h : (i + t) % n = (j + t) % n) : i = j := by
  have e1 := Nat.div_add_mod (i + t) n
  have e2 := Nat.div_add_mod (j + t) n
  rw [h] at e1
  rcases Nat.lt_trichotomy ((i + t) / n) ((j + t) / n) with g | g | g
  · have := Nat.mul_le_mul_left n (Nat.succ_le_of_lt g)
    rw [Nat.mul_succ] at this
    omega
  · rw [g] at e1
    omega
  · have := Nat.mul_le_mul_left n (Nat.succ_le_of_lt g)
    rw [Nat.mul_succ] at this
    omega
theorem rot_mem (l : List Up) (t : Nat) (x : Up) : x ∈ rotL l t ↔ x ∈ l := by
  constructor
  · intro h
    obtain ⟨i, hi, rfl⟩ := List.mem_iff_getElem.1 h
    rw [rot_len] at hi
    rw [rot_at hi]
    exact List.getElem_mem _
  · intro h
    obtain ⟨i, hi, rfl⟩ := List.mem_iff_getElem.1 h
    have hn : 0 < l.length := by omega
    have ht := Nat.mod_lt t hn
    refine List.mem_iff_getElem.2 ⟨(i + (l.length - t % l.length)) % l.length, by rw [rot_len]; exact Nat.mod_lt _ hn, ?_⟩
    rw [rot_at (Nat.mod_lt _ hn)]
    congr 1
    rw [Nat.add_mod, Nat.mod_mod, ← Nat.add_mod]
    have e : i + (l.length - t % l.length) + t = i + l.length + l.length * (t / l.length) := by
      have := Nat.div_add_mod t l.length
      omega
    rw [e, Nat.add_mul_mod_self_left, Nat.add_mod_right, Nat.mod_eq_of_lt hi]
theorem rot_unl {l : List Up} (h : Unl l) (t : Nat) : Unl (rotL l t) := by
  unfold Unl at h ⊢
  rw [List.nodup_iff_pairwise_ne] at h ⊢
  rw [List.pairwise_iff_getElem] at h ⊢
  intro i j hi hj hij
  rw [List.length_map, rot_len] at hi hj
  rw [List.getElem_map, List.getElem_map, rot_at hi, rot_at hj]
  have h0 : 0 < l.length := by omega
  have hne : (i + t) % l.length ≠ (j + t) % l.length := fun e => by have := rot_inj hi hj e; omega
  rcases Nat.lt_or_gt_of_ne hne with hlt | hlt
  · have := h _ _ (by rw [List.length_map]; exact Nat.mod_lt _ h0) (by rw [List.length_map]; exact Nat.mod_lt _ h0) hlt
    rwa [List.getElem_map, List.getElem_map] at this
  · have := h _ _ (by rw [List.length_map]; exact Nat.mod_lt _ h0) (by rw [List.length_map]; exact Nat.mod_lt _ h0) hlt
    rw [List.getElem_map, List.getElem_map] at this
    exact this.symm
/-- which keys were there -/
def mkE (A : List Up) : List Mp.Ent := A.reverse.map fun u => (u.key, .bool true)
theorem mkE_snoc (A : List Up) (u : Up) : mkE (A ++ [u]) = (u.key, .bool true) :: mkE A := by simp [mkE]
theorem mkE_len (A : List Up) : (mkE A).length = A.length := by simp [mkE]
theorem mkE_mem {A : List Up} {e : Mp.Ent} : e ∈ mkE A ↔ ∃ u ∈ A, e = (u.key, .bool true) := by
  unfold mkE
  rw [List.mem_map]
  constructor
  · rintro ⟨u, h, rfl⟩; exact ⟨u, by simpa using h, rfl⟩
  · rintro ⟨u, h, rfl⟩; exact ⟨u, by simpa using h, rfl⟩
theorem mkE_upd {A : List Up} {u : Up} (h : ∀ x ∈ A, x.key ≠ u.key) : Mp.upd (mkE A) u.key (.bool true) = mkE (A ++ [u]) := by
  rw [mkE_snoc]
  unfold Mp.upd
  congr 1
  refine List.filter_eq_self.2 fun e he => ?_
  obtain ⟨x, hx, rfl⟩ := mkE_mem.1 he
  simpa using h x hx
theorem und_sb : Try.prog.underlying 69 = some (.map 9 4) := Try.underlying69
theorem zero_bool (w : World) : (zeroValue 4).run Try.prog w = .ok (.bool false) w := by kernel_rfl
/-- all that came, once each -/
structure Ao (A : List Up) (k : Nat) : Prop where
  unl : Unl A
  wf : ∀ u ∈ A, WfU u
  len : A.length ≤ k
theorem ao_nil : Ao [] 0 := ⟨List.nodup_nil, (fun u h => by cases h), Nat.le_refl _⟩
theorem Ao.snoc {A : List Up} {k : Nat} {u : Up} (h : Ao A k) (hu : WfU u) (hn : ∀ x ∈ A, x.key ≠ u.key) : Ao (A ++ [u]) (k + 1) :=
  ⟨unl_snoc.2 ⟨h.unl, hn⟩, fun x hx => by
    rcases List.mem_append.1 hx with hx | hx
    · exact h.wf x hx
    · rw [List.mem_singleton] at hx; rw [hx]; exact hu, by rw [List.length_append]; have := h.len; simp only [List.length_cons, List.length_nil]; omega⟩
theorem ofF_key (u : Up) : (ofF u).key.length ≤ 20 := by
  show (u.key.take 20).length ≤ 20
  rw [List.length_take]; omega
/-- what is of a key counts, no more -/
theorem nwK_congr {L L' : List Up} {u : Up} (hs : Srt L) (hs' : Srt L') (h : ∀ x, x.key = u.key → (x ∈ L ↔ x ∈ L')) : nwK L u = nwK L' u := by
  have e : getO L u.key = getO L' u.key := by
    apply Option.ext
    intro x
    have i1 := getO_iff hs u.key x
    have i2 := getO_iff hs' u.key x
    constructor
    · intro g
      obtain ⟨g1, g2⟩ := i1.1 g
      exact i2.2 ⟨(h x g2).1 g1, g2⟩
    · intro g
      obtain ⟨g1, g2⟩ := i2.1 g
      exact i1.2 ⟨(h x g2).2 g1, g2⟩
  unfold nwK svK
  rw [e]
theorem onL_srt {L : List Up} (hs : Srt L) (us : List Up) : Srt (onL L us) := by
  induction us generalizing L with
  | nil => exact hs
  | cons u us ih => rw [onL_cons]; exact ih (upE_srt hs u)
/-- what is there, once updates of unlike keys were put -/
theorem onL_mem {L : List Up} (hs : Srt L) {us : List Up} (hu : Unl us) : ∀ x, x ∈ onL L us ↔ (∃ u ∈ us, chkU u = 0 ∧ x ∈ nwK L u) ∨ (x ∈ L ∧ ∀ u ∈ us, chkU u = 0 → x.key ≠ u.key) := by
  induction us using rev_ind with
  | h0 =>
    intro x
    constructor
    · intro h; exact .inr ⟨h, fun u hu => by cases hu⟩
    · rintro (⟨u, hu, _⟩ | ⟨h, _⟩)
      · cases hu
      · exact h
  | h1 l u ih =>
    intro x
    obtain ⟨h1, h2⟩ := unl_snoc.1 hu
    have ih := ih h1
    rw [onL_snoc]
    by_cases hc : chkU u = 0
    · rw [upE_yes hc, putE_mem (onL_srt hs l)]
      have e : nwK (onL L l) u = nwK L u := nwK_congr (onL_srt hs l) hs fun y hy => by
        rw [ih y]
        constructor
        · rintro (⟨v, hv, _, hm⟩ | ⟨h, _⟩)
          · exact absurd ((nwK_key hm).symm.trans hy) (h2 v hv)
          · exact h
        · intro h
          exact .inr ⟨h, fun v hv _ e => h2 v hv (e.symm.trans hy)⟩
      rw [e, ih x]
      constructor
      · rintro (h | ⟨⟨v, hv, hcv, hm⟩ | ⟨h, hn⟩, hk⟩)
        · exact .inl ⟨u, by simp, hc, h⟩
        · exact .inl ⟨v, by simp [hv], hcv, hm⟩
        · refine .inr ⟨h, fun v hv hcv => ?_⟩
          rcases List.mem_append.1 hv with hv | hv
          · exact hn v hv hcv
          · rw [List.mem_singleton] at hv; rw [hv]; exact hk
      · rintro (⟨v, hv, hcv, hm⟩ | ⟨h, hn⟩)
        · rcases List.mem_append.1 hv with hv | hv
          · exact .inr ⟨.inl ⟨v, hv, hcv, hm⟩, by rw [nwK_key hm]; exact h2 v hv⟩
          · rw [List.mem_singleton] at hv; subst hv; exact .inl hm
        · exact .inr ⟨.inr ⟨h, fun v hv hcv => hn v (by simp [hv]) hcv⟩, hn u (by simp) hc⟩
    · rw [upE_no hc, ih x]
      constructor
      · rintro (⟨v, hv, hcv, hm⟩ | ⟨h, hn⟩)
        · exact .inl ⟨v, by simp [hv], hcv, hm⟩
        · refine .inr ⟨h, fun v hv hcv => ?_⟩
          rcases List.mem_append.1 hv with hv | hv
          · exact hn v hv hcv
          · rw [List.mem_singleton] at hv; subst hv; exact absurd hcv hc
      · rintro (⟨v, hv, hcv, hm⟩ | ⟨h, hn⟩)
        · rcases List.mem_append.1 hv with hv | hv
          · exact .inl ⟨v, hv, hcv, hm⟩
          · rw [List.mem_singleton] at hv; subst hv; exact absurd hcv hc
        · exact .inr ⟨h, fun v hv hcv => hn v (by simp [hv]) hcv⟩
theorem onL_rot {L : List Up} (hs : Srt L) {us : List Up} (hu : Unl us) (t : Nat) : onL L (rotL us t) = onL L us := by
  refine srt_ext (onL_srt hs _) (onL_srt hs _) fun x => ?_
  rw [onL_mem hs (rot_unl hu t), onL_mem hs hu]
  constructor
  · rintro (⟨v, hv, h⟩ | ⟨h, hn⟩)
    · exact .inl ⟨v, (rot_mem us t v).1 hv, h⟩
    · exact .inr ⟨h, fun v hv => hn v ((rot_mem us t v).2 hv)⟩
  · rintro (⟨v, hv, h⟩ | ⟨h, hn⟩)
    · exact .inl ⟨v, (rot_mem us t v).2 hv, h⟩
    · exact .inr ⟨h, fun v hv => hn v ((rot_mem us t v).1 hv)⟩
theorem onL_take {L A : List Up} {j : Nat} (h : j < A.length) : onL (onL L (A.take j)) [A[j]] = onL L (A.take (j + 1)) := by
  rw [onL_one, ← onL_snoc, List.take_append_getElem h]
/-- the two that are there at the start -/
def va0 : Up := ⟨1, [97], [49], 0⟩
def vc0 : Up := ⟨1, [99], [49, 50, 51, 52, 53, 54, 55, 56], 0⟩
def L0 : List Up := [enU [97] [49], enU [99] [49, 50, 51, 52, 53, 54, 55, 56]]
theorem l0_on : onL [] [va0, vc0] = L0 := rfl
theorem l0_ge : Ge L0 2 := ⟨(ris_iff _).1 rfl, fun x hx => by
  simp only [L0, List.mem_cons, List.mem_nil_iff, or_false] at hx
  rcases hx with rfl | rfl <;> exact ⟨by simp [enU], by simp [enU], by simp [enU]⟩, Nat.le_refl _⟩
/-- a row's block is not one of another type -/
theorem has_ne {w : World} {b B : Nat} {T T' : TypeId} {cs : List Value} {s n : Nat} {v : Value} {xs : List Value} (hT : T ≠ T') (h : Has w b T cs) (h' : w.ownsRow B T' s v n xs) : ∀ k, v.ownBlock = some k → k ≠ b := by
  intro k hk e
  subst e
  rcases h'.2 with ⟨rfl, _⟩ | ⟨g', cap', cur', rfl, hb', hg', _⟩
  · cases hk
  · have e2 : g' = k := by simpa [Value.ownBlock] using hk
    unfold Has at h
    rw [e2, h] at hg'
    simp only [Option.some.injEq, Obj.cells.injEq] at hg'
    exact hT hg'.2.1
theorem ent_set {w : World} {b B : Nat} {T T' : TypeId} {cs : List Value} {s n : Nat} {v : Value} {xs : List Value} (hT : T ≠ T') (h : Has w b T cs) (h' : w.ownsRow B T' s v n xs) (x : Value) : (w.setCell ⟨b, 0, none⟩ x).ownsRow B T' s v n xs :=
  owns_same h' fun k e => Below.heap_setCell _ _ _ _ (has_ne hT h h' k e)
/-- both leaves in their blocks -/
structure Dl (w0 : World) (G : Nat) (va vb : Value) (La Lb : List Up) (w : World) : Prop where
  a : Has w G 25 [va]
  b : Has w (G + 1) 25 [vb]
  ra : EA w 0 va La
  rb : EA w 0 vb Lb
  bel : Below w0.heap.size w0 w
section
variable {w0 w w' : World} {G : Nat} {va vb cv : Value} {La Lb L' : List Up}
theorem Dl.on (h : Dl w0 G va vb La Lb w) (hb : Below w.heap.size w w') : Dl w0 G va vb La Lb w' := ⟨h.a.below hb h.a.lt, h.b.below hb h.b.lt, own_bel h.ra hb, own_bel h.rb hb, below_on h.bel hb⟩
theorem Dl.setA (h : Dl w0 G va vb La Lb w) (hG : w0.heap.size = G) (hc : EA w 0 cv L') : Dl w0 G cv vb L' Lb (w.setCell ⟨G, 0, none⟩ cv) :=
  ⟨h.a.set 0 cv, h.b.setOther (Nat.ne_of_lt (Nat.lt_succ_self _)) cv, ent_set tne h.a hc _, ent_set tne h.a h.rb _, h.bel.setCell (Nat.le_of_eq hG) _⟩
theorem Dl.setB (h : Dl w0 G va vb La Lb w) (hG : w0.heap.size = G) (hc : EA w 0 cv L') : Dl w0 G va cv La L' (w.setCell ⟨G + 1, 0, none⟩ cv) :=
  ⟨h.a.setOther (Nat.ne_of_gt (Nat.lt_succ_self _)) cv, h.b.set 0 cv, ent_set tne h.b h.ra _, ent_set tne h.b hc _, h.bel.setCell (by show w0.heap.size ≤ G + 1; omega) _⟩
theorem Dl.new {w : World} {v : Value} {L : List Up} (h : EA w 0 v L) : Dl w w.heap.size v v L L ((w.alloc (.cells #[v] 25)).alloc (.cells #[v] 25)) := by
  have h2 := Has.new (w.alloc (.cells #[v] 25)) [v] 25
  simp only [World.size_alloc] at h2
  have hb : Below w.heap.size w ((w.alloc (.cells #[v] 25)).alloc (.cells #[v] 25)) := below_nw (below_new w _) _
  exact ⟨(Has.new w [v] _).alloc _, h2, own_bel h hb, own_bel h hb, hb⟩
end
/-- a region that looks, makes a block, calls, and stores what the call answers -/
structure Iv (W0 : World) (ob : Obj) (ia d : Nat) (T : List Up) (X Y : World → Prop) (l : Nat → Bool) (a : Act) (w : World) : Prop where
  o1 : l (ia + 1) = true → l ia = true
  o2 : l (ia + 2) = true → l (ia + 1) = true
  w0 : l ia = false → w = W0.drew
  w1 : l ia = true → l (ia + 1) = false → w = (W0.alloc ob).drew
  w2 : l (ia + 1) = true → l (ia + 2) = false → X w ∧ ∃ v, a.tmps.getD d undef = .agg #[v] ∧ EA w 0 v T
  w3 : l (ia + 2) = true → Y w
section
variable {W0 w w' : World} {ob : Obj} {ia d : Nat} {T : List Up} {X Y : World → Prop} {l : Nat → Bool} {a : Act}
theorem Iv.start (a : Act) (W0 : World) : Iv W0 ob ia d T X Y (fun _ => false) a W0.drew := ⟨(fun e => by cases e), (fun e => by cases e), (fun _ => rfl), (fun e => by cases e), (fun e => by cases e), (fun e => by cases e)⟩
theorem Iv.no1 (h : Iv W0 ob ia d T X Y l a w) (hl : l ia = false) : l (ia + 1) = false := by
  cases e : l (ia + 1) with
  | false => rfl
  | true => rw [h.o1 e] at hl; cases hl
theorem Iv.no2 (h : Iv W0 ob ia d T X Y l a w) (hl : l (ia + 1) = false) : l (ia + 2) = false := by
  cases e : l (ia + 2) with
  | false => rfl
  | true => rw [h.o2 e] at hl; cases hl
theorem Iv.bel (h : Iv W0 ob ia d T X Y l a w) (hl : l (ia + 1) = false) : Below W0.heap.size W0 w := by
  cases e : l ia with
  | false => rw [h.w0 e]; exact (Below.refl _ _).drew
  | true => rw [h.w1 e hl]; exact (below_new _ _).drew
theorem lset_ne {l : Nat → Bool} {k j : Nat} (h : k ≠ j) : Reg.lset l k j = l j := by unfold Reg.lset; rw [if_neg h]
theorem lset_eq {l : Nat → Bool} {k : Nat} : Reg.lset l k k = true := by unfold Reg.lset; rw [if_pos rfl]
theorem Iv.still (h : Iv W0 ob ia d T X Y l a w) {k t : Nat} (v : Value) (hk : k < ia) (ht : t ≠ d) (hs : t < a.tmps.size) : Iv W0 ob ia d T X Y (Reg.lset l k) (a.put (some t) v) w := by
  have e0 : Reg.lset l k ia = l ia := lset_ne (by omega)
  have e1 : Reg.lset l k (ia + 1) = l (ia + 1) := lset_ne (by omega)
  have e2 : Reg.lset l k (ia + 2) = l (ia + 2) := lset_ne (by omega)
  refine ⟨?_, ?_, ?_, ?_, ?_, ?_⟩
  · rw [e0, e1]; exact h.o1
  · rw [e1, e2]; exact h.o2
  · rw [e0]; exact h.w0
  · rw [e0, e1]; exact h.w1
  · rw [e1, e2, Reg.getD_put _ _ _ _ hs, if_neg ht]; exact h.w2
  · rw [e2]; exact h.w3
theorem Iv.new (h : Iv W0 ob ia d T X Y l a w) (hl : l ia = false) {t : Nat} (v : Value) (hw : w' = (W0.alloc ob).drew) : Iv W0 ob ia d T X Y (Reg.lset l ia) (a.put (some t) v) w' := by
  have n1 := h.no1 hl
  have n2 := h.no2 n1
  have e0 : Reg.lset l ia ia = true := lset_eq
  have e1 : Reg.lset l ia (ia + 1) = false := by rw [lset_ne (by omega)]; exact n1
  have e2 : Reg.lset l ia (ia + 2) = false := by rw [lset_ne (by omega)]; exact n2
  exact ⟨(fun e => by rw [e1] at e; cases e), (fun e => by rw [e2] at e; cases e), (fun e => by rw [e0] at e; cases e), fun _ _ => hw, (fun e => by rw [e1] at e; cases e), (fun e => by rw [e2] at e; cases e)⟩
theorem Iv.called (h : Iv W0 ob ia d T X Y l a w) (h0 : l ia = true) (hl : l (ia + 1) = false) {v : Value} (hs : d < a.tmps.size) (hx : X w') (hv : EA w' 0 v T) : Iv W0 ob ia d T X Y (Reg.lset l (ia + 1)) (a.put (some d) (.agg #[v])) w' := by
  have n2 := h.no2 hl
  have e0 : Reg.lset l (ia + 1) ia = true := by rw [lset_ne (by omega)]; exact h0
  have e1 : Reg.lset l (ia + 1) (ia + 1) = true := lset_eq
  have e2 : Reg.lset l (ia + 1) (ia + 2) = false := by rw [lset_ne (by omega)]; exact n2
  exact ⟨fun _ => e0, (fun e => by rw [e2] at e; cases e), (fun e => by rw [e0] at e; cases e), (fun _ e => by rw [e1] at e; cases e), fun _ _ => ⟨hx, v, by rw [Reg.getD_put _ _ _ _ hs, if_pos rfl], hv⟩, (fun e => by rw [e2] at e; cases e)⟩
theorem Iv.stored (h : Iv W0 ob ia d T X Y l a w) (h1 : l (ia + 1) = true) (hy : Y w') : Iv W0 ob ia d T X Y (Reg.lset l (ia + 2)) a w' := by
  have h0 := h.o1 h1
  have e0 : Reg.lset l (ia + 2) ia = true := by rw [lset_ne (by omega)]; exact h0
  have e1 : Reg.lset l (ia + 2) (ia + 1) = true := by rw [lset_ne (by omega)]; exact h1
  have e2 : Reg.lset l (ia + 2) (ia + 2) = true := lset_eq
  exact ⟨fun _ => e0, fun _ => e1, (fun e => by rw [e0] at e; cases e), (fun _ e => by rw [e1] at e; cases e), (fun _ e => by rw [e2] at e; cases e), fun _ => hy⟩
theorem Iv.done {n : Nat} (h : Iv W0 ob ia d T X Y (fun j => decide (j < n)) a w) (hn : ia + 2 < n) : Y w := h.w3 (by simpa using hn)
end
theorem srt_at {L : List Up} (h : Srt L) {t : Nat} (ht : t + 1 < L.length) : kLt (L[t]'(by omega)).key L[t + 1].key = true :=
  List.pairwise_iff_getElem.1 h t (t + 1) (by omega) ht (Nat.lt_succ_self _)
end Go.Proofs.Ytfmbjepjmjcgeaa.Leaf
