/- Layer 15 (buf): for the law BufOrder: messages of unlike keys, in whatever order. -/
import Derived.Test.YtfmbjepjmjcgeaaBufX
import Derived.Test.YtfmbjepjmjcgeaaMapS
import Derived.Lib.MinMaxS
namespace Go.Proofs.Ytfmbjepjmjcgeaa.Buf
open Go Go.RowKit Go.Proofs.Ytfmbjepjmjcgeaa Go.Proofs.Ytfmbjepjmjcgeaa.Lend Go.Proofs.Ytfmbjepjmjcgeaa.Rec Go.Proofs.Ytfmbjepjmjcgeaa.Msg
set_option linter.unusedVariables false

theorem rev_ind {α : Type} {P : List α → Prop} (h0 : P []) (h1 : ∀ l a, P l → P (l ++ [a])) : ∀ l, P l := by
  intro l
  rw [← List.reverse_reverse l]
  induction l.reverse with
  | nil => exact h0
  | cons x r ih => rw [List.reverse_cons]; exact h1 _ _ ih
/-- put one by one -/
def foldW (l : List Up) : List Up := l.foldl withU []
theorem foldW_snoc (l : List Up) (u : Up) : foldW (l ++ [u]) = withU (foldW l) u := by unfold foldW; rw [List.foldl_append]; rfl
theorem foldW_gd {l : List Up} (h : ∀ u ∈ l, Tm u ∧ u.key ≠ []) : Gd (foldW l) l.length := by
  induction l using rev_ind with
  | h0 => exact gd_nil
  | h1 l u ih =>
    rw [foldW_snoc, List.length_append]
    have hu := h u (by simp)
    exact (ih (fun x hx => h x (by simp [hx]))).with hu.1 hu.2
/-- of unlike keys: no two are of one key -/
def Unl (l : List Up) : Prop := (l.map Up.key).Nodup
theorem unl_snoc {l : List Up} {u : Up} : Unl (l ++ [u]) ↔ Unl l ∧ ∀ x ∈ l, x.key ≠ u.key := by
  unfold Unl
  rw [List.map_append, List.nodup_append]
  simp only [List.map_cons, List.map_nil, List.nodup_cons, List.not_mem_nil, not_false_eq_true, List.nodup_nil, and_true, true_and, List.mem_map, List.mem_singleton]
  constructor
  · rintro ⟨h1, h2⟩; exact ⟨h1, fun x hx => h2 _ ⟨x, hx, rfl⟩ _ rfl⟩
  · rintro ⟨h1, h2⟩; exact ⟨h1, by rintro a ⟨x, hx, rfl⟩ b rfl; exact h2 x hx⟩
theorem unl_take {l : List Up} (h : Unl l) (k : Nat) : Unl (l.take k) := by
  unfold Unl at h ⊢
  rw [List.map_take]
  exact h.sublist (List.take_sublist _ _)
/-- what waits then: just these -/
theorem foldW_mem {l : List Up} (h : ∀ u ∈ l, Tm u ∧ u.key ≠ []) (hu : Unl l) : (∀ x, x ∈ foldW l ↔ x ∈ l) ∧ (foldW l).length = l.length := by
  induction l using rev_ind with
  | h0 => exact ⟨fun x => Iff.rfl, rfl⟩
  | h1 l u ih =>
    obtain ⟨h1, h2⟩ := unl_snoc.1 hu
    obtain ⟨i1, i2⟩ := ih (fun x hx => h x (by simp [hx])) h1
    have hs := (foldW_gd (fun x hx => h x (by simp [hx]) : ∀ x ∈ l, Tm x ∧ x.key ≠ [])).srt
    have ht : thK (foldW l) u.key = false := by
      cases g : thK (foldW l) u.key with
      | false => rfl
      | true =>
        obtain ⟨y, hy, hk⟩ := (thK_iff hs _).1 g
        exact absurd hk (h2 y ((i1 y).1 hy))
    rw [foldW_snoc, with_len_no hs ht, List.length_append, i2]
    refine ⟨fun x => ?_, rfl⟩
    rw [with_no hs ht, List.mem_append, List.mem_append, List.mem_cons, List.mem_singleton, ← i1]
    have e : x ∈ foldW l ↔ x ∈ (foldW l).take (plK (foldW l) u.key) ∨ x ∈ (foldW l).drop (plK (foldW l) u.key) := by
      rw [← List.mem_append, List.take_append_drop]
    rw [e]
    constructor
    · rintro (h | h | h)
      · exact .inl (.inl h)
      · exact .inr h
      · exact .inl (.inr h)
    · rintro ((h | h) | h)
      · exact .inl h
      · exact .inr (.inr h)
      · exact .inr (.inl h)
/-- lists by rising keys that have the same ones are the same -/
theorem srt_ext : ∀ {a b : List Up}, Srt a → Srt b → (∀ x, x ∈ a ↔ x ∈ b) → a = b
  | [], [], _, _, _ => rfl
  | [], y :: b, _, _, h => absurd ((h y).2 (by simp)) (by simp)
  | x :: a, [], _, _, h => absurd ((h x).1 (by simp)) (by simp)
  | x :: a, y :: b, ha, hb, h => by
    have ha' := srt_cons.1 ha
    have hb' := srt_cons.1 hb
    have hxy : x = y := by
      rcases List.mem_cons.1 ((h x).1 (by simp)) with e | hx
      · exact e
      · rcases List.mem_cons.1 ((h y).2 (by simp)) with e | hy
        · exact e.symm
        · have h1 := hb'.1 x hx
          have h2 := ha'.1 y hy
          have := kLt_trans h1 h2
          rw [kLt_irr] at this; cases this
    subst hxy
    rw [srt_ext ha'.2 hb'.2 fun z => ?_]
    constructor
    · intro hz
      rcases List.mem_cons.1 ((h z).1 (by simp [hz])) with e | hz'
      · subst e
        have := ha'.1 z hz
        rw [kLt_irr] at this; cases this
      · exact hz'
    · intro hz
      rcases List.mem_cons.1 ((h z).2 (by simp [hz])) with e | hz'
      · subst e
        have := hb'.1 z hz
        rw [kLt_irr] at this; cases this
      · exact hz'
/-- from a place on, and round -/
def rotL (l : List Up) (t : Nat) : List Up := (List.range l.length).map fun i => (l[(i + t) % l.length]?).getD ⟨0, [], [], 0⟩
theorem rot_len (l : List Up) (t : Nat) : (rotL l t).length = l.length := by simp [rotL]
theorem rot_at {l : List Up} {t i : Nat} (h : i < l.length) : (rotL l t)[i]'(by rw [rot_len]; exact h) = l[(i + t) % l.length]'(Nat.mod_lt _ (by omega)) := by
  unfold rotL
  rw [List.getElem_map, List.getElem_range, List.getElem?_eq_getElem (Nat.mod_lt _ (by omega))]; rfl
theorem rot_inj {n t i j : Nat} (hi : i < n) (hj : j < n) (h : (i + t) % n = (j + t) % n) : i = j := by
  have e1 := Nat.div_add_mod (i + t) n
  have e2 := Nat.div_add_mod (j + t) n
  rw [h] at e1
  rcases Nat.lt_trichotomy ((i + t) / n) ((j + t) / n) with g | g | g
  · have := Nat.mul_le_mul_left n (Nat.succ_le_of_lt g)
    rw [Nat.mul_succ] at this
    omega
  · rw [g] at e1
    omega
  · have := Nat.mul_le_mul_left n (Nat.succ_le_of_lt g)
    rw [Nat.mul_succ] at this
    omega
theorem rot_mem (l : List Up) (t : Nat) (x : Up) : x ∈ rotL l t ↔ x ∈ l := by
  constructor
  · intro h
    obtain ⟨i, hi, rfl⟩ := List.mem_iff_getElem.1 h
    rw [rot_len] at hi
    rw [rot_at hi]
    exact List.getElem_mem _
  · intro h
    obtain ⟨i, hi, rfl⟩ := List.mem_iff_getElem.1 h
    have hn : 0 < l.length := by omega
    have ht := Nat.mod_lt t hn
    refine List.mem_iff_getElem.2 ⟨(i + (l.length - t % l.length)) % l.length, by rw [rot_len]; exact Nat.mod_lt _ hn, ?_⟩
    rw [rot_at (Nat.mod_lt _ hn)]
    congr 1
    rw [Nat.add_mod, Nat.mod_mod, ← Nat.add_mod]
    have e : i + (l.length - t % l.length) + t = i + l.length + l.length * (t / l.length) := by
      have := Nat.div_add_mod t l.length
      omega
    rw [e, Nat.add_mul_mod_self_left, Nat.add_mod_right, Nat.mod_eq_of_lt hi]
theorem rot_unl {l : List Up} (h : Unl l) (t : Nat) : Unl (rotL l t) := by
  unfold Unl at h ⊢
  rw [List.nodup_iff_pairwise_ne] at h ⊢
  rw [List.pairwise_iff_getElem] at h ⊢
  intro i j hi hj hij
  rw [List.length_map, rot_len] at hi hj
  rw [List.getElem_map, List.getElem_map, rot_at hi, rot_at hj]
  have h0 : 0 < l.length := by omega
  have hne : (i + t) % l.length ≠ (j + t) % l.length := fun e => by have := rot_inj hi hj e; omega
  rcases Nat.lt_or_gt_of_ne hne with hlt | hlt
  · have := h _ _ (by rw [List.length_map]; exact Nat.mod_lt _ h0) (by rw [List.length_map]; exact Nat.mod_lt _ h0) hlt
    rwa [List.getElem_map, List.getElem_map] at this
  · have := h _ _ (by rw [List.length_map]; exact Nat.mod_lt _ h0) (by rw [List.length_map]; exact Nat.mod_lt _ h0) hlt
    rw [List.getElem_map, List.getElem_map] at this
    exact this.symm
theorem foldW_rot {l : List Up} (h : ∀ u ∈ l, Tm u ∧ u.key ≠ []) (hu : Unl l) (t : Nat) : foldW (rotL l t) = foldW l := by
  have h2 : ∀ u ∈ rotL l t, Tm u ∧ u.key ≠ [] := fun u hu => h u ((rot_mem l t u).1 hu)
  refine srt_ext (foldW_gd h2).srt (foldW_gd h).srt fun x => ?_
  rw [(foldW_mem h2 (rot_unl hu t)).1, (foldW_mem h hu).1, rot_mem]
/-- cut in two places -/
theorem cut_three {L : List Up} {low high : List UInt8} (hs : Srt L) (h0 : low ≠ []) (h : kLt high low = false) :
    cutI [] low L ++ cutI low high (cutO [] low L) ++ cutO low high (cutO [] low L) = L := by
  have hh : high ≠ [] := by
    rintro rfl
    cases low with
    | nil => exact h0 rfl
    | cons x y => cases h
  have e1 : cutI [] low L = L.take (plK L low) := by
    rw [← below_take low hs]
    unfold cutI
    congr 1
    funext u
    unfold inB
    rw [kLt_nil, show (low == []) = false by simpa using h0]; simp
  have e2 : cutO [] low L = L.drop (plK L low) := by
    rw [← above_drop low hs]
    unfold cutO
    congr 1
    funext u
    unfold inB
    rw [kLt_nil, show (low == []) = false by simpa using h0]; simp
  have hsd : Srt (L.drop (plK L low)) := List.Pairwise.sublist (List.drop_sublist _ _) hs
  have hge : ∀ u ∈ L.drop (plK L low), kLt u.key low = false := by
    intro u hu
    rw [← above_drop low hs] at hu
    simpa using (List.mem_filter.1 hu).2
  rw [e1, e2]
  have e3 : cutI low high (L.drop (plK L low)) = (L.drop (plK L low)).take (plK (L.drop (plK L low)) high) := by
    rw [← below_take high hsd]
    unfold cutI
    apply List.filter_congr
    intro u hu
    unfold inB
    rw [hge u hu, show (high == []) = false by simpa using hh]; simp
  have e4 : cutO low high (L.drop (plK L low)) = (L.drop (plK L low)).drop (plK (L.drop (plK L low)) high) := by
    rw [← above_drop high hsd]
    unfold cutO
    apply List.filter_congr
    intro u hu
    unfold inB
    rw [hge u hu, show (high == []) = false by simpa using hh]; simp
  rw [e3, e4, List.append_assoc, List.take_append_drop, List.take_append_drop]
/-- nothing is within one place -/
theorem cut_same {low : List UInt8} (h0 : low ≠ []) (L : List Up) : cutI low low L = [] ∧ cutO low low L = L := by
  have e : ∀ k, inB low low k = false := fun k => by
    unfold inB
    rw [show (low == []) = false by simpa using h0]
    cases kLt k low <;> rfl
  constructor
  · unfold cutI
    rw [List.filter_eq_nil_iff]
    intro u _
    rw [e]; simp
  · unfold cutO
    rw [List.filter_eq_self]
    intro u _
    rw [e]; rfl
/-- which keys were there -/
def mkE (A : List Up) : List Mp.Ent := A.reverse.map fun u => (u.key, .bool true)
theorem mkE_snoc (A : List Up) (u : Up) : mkE (A ++ [u]) = (u.key, .bool true) :: mkE A := by simp [mkE]
theorem mkE_len (A : List Up) : (mkE A).length = A.length := by simp [mkE]
theorem mkE_mem {A : List Up} {e : Mp.Ent} : e ∈ mkE A ↔ ∃ u ∈ A, e = (u.key, .bool true) := by
  unfold mkE
  rw [List.mem_map]
  constructor
  · rintro ⟨u, h, rfl⟩; exact ⟨u, by simpa using h, rfl⟩
  · rintro ⟨u, h, rfl⟩; exact ⟨u, by simpa using h, rfl⟩
theorem mkE_upd {A : List Up} {u : Up} (h : ∀ x ∈ A, x.key ≠ u.key) : Mp.upd (mkE A) u.key (.bool true) = mkE (A ++ [u]) := by
  rw [mkE_snoc]
  unfold Mp.upd
  congr 1
  refine List.filter_eq_self.2 fun e he => ?_
  obtain ⟨x, hx, rfl⟩ := mkE_mem.1 he
  simpa using h x hx
/-- all that came, once each -/
structure Aok (A : List Up) (k : Nat) : Prop where
  unl : Unl A
  tm : ∀ u ∈ A, Tm u ∧ u.key ≠ []
  len : A.length ≤ k
theorem aok_nil : Aok [] 0 := ⟨List.nodup_nil, (fun u h => by cases h), Nat.le_refl _⟩
theorem Aok.snoc {A : List Up} {k : Nat} {u : Up} (h : Aok A k) (hu : Tm u) (hk : u.key ≠ []) (hn : ∀ x ∈ A, x.key ≠ u.key) : Aok (A ++ [u]) (k + 1) :=
  ⟨unl_snoc.2 ⟨h.unl, hn⟩, fun x hx => by
    rcases List.mem_append.1 hx with hx | hx
    · exact h.tm x hx
    · rw [List.mem_singleton] at hx; rw [hx]; exact ⟨hu, hk⟩, by rw [List.length_append]; have := h.len; simp only [List.length_cons, List.length_nil]; omega⟩
theorem tmU_key3 (u : Up) : (tmU u).key.length ≤ 3 := by
  show ((u.key ++ [107]).take 3).length ≤ 3
  rw [List.length_take]; omega
theorem und_sb : Try.prog.underlying 69 = some (.map 9 4) := Try.underlying69
theorem zero_bool (w : World) : (zeroValue 4).run Try.prog w = .ok (.bool false) w := by kernel_rfl
end Go.Proofs.Ytfmbjepjmjcgeaa.Buf
