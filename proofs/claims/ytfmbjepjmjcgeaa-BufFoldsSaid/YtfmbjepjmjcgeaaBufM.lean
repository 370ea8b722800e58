/- What waits for a key is what all that were put of it make together; in one of both parts. -/
import Derived.Test.YtfmbjepjmjcgeaaBufO
namespace Go.Proofs.Ytfmbjepjmjcgeaa.Buf
open Go Go.RowKit Go.Proofs.Ytfmbjepjmjcgeaa Go.Proofs.Ytfmbjepjmjcgeaa.Lend Go.Proofs.Ytfmbjepjmjcgeaa.Rec Go.Proofs.Ytfmbjepjmjcgeaa.Msg
set_option linter.unusedVariables false

theorem with_mem_no {l : List Up} {u x : Up} (h : ∀ v ∈ l, v.key ≠ u.key) : x ∈ withU l u ↔ x = u ∨ x ∈ l := by
  induction l with
  | nil => simp [withU]
  | cons y l ih =>
    unfold withU
    rw [if_neg (h y (by simp))]
    split
    · rw [List.mem_cons]
    · rw [List.mem_cons, ih (fun v hv => h v (by simp [hv])), List.mem_cons]; exact or_left_comm
theorem with_mem_yes {l : List Up} {u v x : Up} (hs : Srt l) (hv : v ∈ l) (hk : v.key = u.key) : x ∈ withU l u ↔ x = joU v u ∨ (x ∈ l ∧ x.key ≠ u.key) := by
  induction l with
  | nil => cases hv
  | cons y l ih =>
    obtain ⟨hy, hl⟩ := srt_cons.1 hs
    rcases List.mem_cons.1 hv with rfl | hv
    · unfold withU
      rw [if_pos hk, List.mem_cons, List.mem_cons]
      constructor
      · rintro (h | h)
        · exact .inl h
        · exact .inr ⟨.inr h, fun e => kLt_ne (hy x h) (by rw [hk, e])⟩
      · rintro (h | ⟨h | h, hn⟩)
        · exact .inl h
        · exact absurd (by rw [h, hk]) hn
        · exact .inr h
    · have hyv := hy v hv
      rw [hk] at hyv
      unfold withU
      rw [if_neg (kLt_ne hyv), if_neg (by rw [kLt_asym hyv]; simp), List.mem_cons, ih hl hv, List.mem_cons]
      constructor
      · rintro (h | h | ⟨h, hn⟩)
        · exact .inr ⟨.inl h, by rw [h]; exact kLt_ne hyv⟩
        · exact .inl h
        · exact .inr ⟨.inr h, hn⟩
      · rintro (h | ⟨h | h, hn⟩)
        · exact .inr (.inl h)
        · exact .inl h
        · exact .inr (.inr ⟨h, hn⟩)
/-- all that were put of a key -/
def grp (A : List Up) (k : List UInt8) : List Up := A.filter fun u => u.key == k
theorem grp_snoc (A : List Up) (a : Up) (k : List UInt8) : grp (A ++ [a]) k = if a.key = k then grp A k ++ [a] else grp A k := by
  unfold grp
  rw [List.filter_append]
  by_cases h : a.key = k
  · rw [if_pos h, List.filter_cons_of_pos (by simpa using h), List.filter_nil]
  · rw [if_neg h, List.filter_cons_of_neg (by simpa using h), List.filter_nil, List.append_nil]
theorem grp_key {A : List Up} {k : List UInt8} {u : Up} (h : u ∈ grp A k) : u ∈ A ∧ u.key = k := by
  unfold grp at h
  rw [List.mem_filter] at h
  exact ⟨h.1, by simpa using h.2⟩
theorem jl_snoc (u : Up) (r : List Up) (a : Up) : jlU u (r ++ [a]) = joU (jlU u r) a := by unfold jlU; rw [List.foldl_append]; rfl
theorem jl_key (u : Up) (k : List UInt8) (hu : u.key = k) : ∀ r : List Up, (∀ x ∈ r, x.key = k) → (jlU u r).key = k := by
  intro r
  induction r using rev_ind with
  | h0 => intro _; exact hu
  | h1 r a _ => intro h; rw [jl_snoc, jo_key]; exact h a (by simp)
theorem grp_jl {A : List Up} {k : List UInt8} {u : Up} {r : List Up} (h : grp A k = u :: r) : (jlU u r).key = k :=
  jl_key u k (grp_key (A := A) (by rw [h]; simp)).2 r fun x hx => (grp_key (A := A) (by rw [h]; simp [hx])).2
/-- what waits -/
theorem foldW_grp {A : List Up} (h : ∀ u ∈ A, Tm u ∧ u.key ≠ []) : ∀ x, x ∈ foldW A ↔ ∃ u r, grp A x.key = u :: r ∧ x = jlU u r := by
  induction A using rev_ind with
  | h0 =>
    intro x
    constructor
    · intro hx; cases hx
    · rintro ⟨u, r, hg, _⟩; cases hg
  | h1 A a ih =>
    have hA : ∀ u ∈ A, Tm u ∧ u.key ≠ [] := fun u hu => h u (by simp [hu])
    have ih := ih hA
    have hs := (foldW_gd hA).srt
    intro x
    rw [foldW_snoc]
    by_cases hc : ∃ v ∈ foldW A, v.key = a.key
    · obtain ⟨v, hv, hk⟩ := hc
      obtain ⟨u, r, hg, hve⟩ := (ih v).1 hv
      rw [hk] at hg
      rw [with_mem_yes hs hv hk]
      constructor
      · rintro (rfl | ⟨hx, hn⟩)
        · refine ⟨u, r ++ [a], ?_, ?_⟩
          · rw [jo_key, grp_snoc, if_pos rfl, hg]; rfl
          · rw [jl_snoc, ← hve]
        · obtain ⟨u', r', hg', he⟩ := (ih x).1 hx
          exact ⟨u', r', by rw [grp_snoc, if_neg (fun e => hn e.symm)]; exact hg', he⟩
      · rintro ⟨u', r', hg', he⟩
        by_cases hx : x.key = a.key
        · rw [hx, grp_snoc, if_pos rfl, hg, List.cons_append] at hg'
          injection hg' with e1 e2
          left
          rw [he, ← e1, ← e2, jl_snoc, ← hve]
        · rw [grp_snoc, if_neg (fun e => hx e.symm)] at hg'
          exact .inr ⟨(ih x).2 ⟨u', r', hg', he⟩, hx⟩
    · have hno : ∀ v ∈ foldW A, v.key ≠ a.key := fun v hv hk => hc ⟨v, hv, hk⟩
      have hg0 : grp A a.key = [] := by
        cases hg : grp A a.key with
        | nil => rfl
        | cons u r => exact absurd (grp_jl hg) (hno _ ((ih (jlU u r)).2 ⟨u, r, by rw [grp_jl hg]; exact hg, rfl⟩))
      rw [with_mem_no hno]
      constructor
      · rintro (rfl | hx)
        · exact ⟨x, [], by rw [grp_snoc, if_pos rfl, hg0]; rfl, rfl⟩
        · obtain ⟨u', r', hg', he⟩ := (ih x).1 hx
          exact ⟨u', r', by rw [grp_snoc, if_neg (fun e => hno x hx e.symm)]; exact hg', he⟩
      · rintro ⟨u', r', hg', he⟩
        by_cases hx : x.key = a.key
        · rw [hx, grp_snoc, if_pos rfl, hg0, List.nil_append] at hg'
          injection hg' with e1 e2
          left
          rw [he, ← e1, ← e2]; rfl
        · rw [grp_snoc, if_neg (fun e => hx e.symm)] at hg'
          exact .inr ((ih x).2 ⟨u', r', hg', he⟩)
/-- what Get of it tells -/
theorem foldW_get {A : List Up} (h : ∀ u ∈ A, Tm u ∧ u.key ≠ []) {k : List UInt8} {u : Up} {r : List Up} (hg : grp A k = u :: r) : getO (foldW A) k = some (jlU u r) :=
  (getO_iff (foldW_gd h).srt _ _).2 ⟨(foldW_grp h _).2 ⟨u, r, by rw [grp_jl hg]; exact hg, rfl⟩, grp_jl hg⟩
theorem cutI_get {L : List Up} (hs : Srt L) (low high k : List UInt8) : getO (cutI low high L) k = if inB low high k = true then getO L k else none := by
  by_cases hb : inB low high k = true
  · rw [if_pos hb]
    cases hg : getO L k with
    | none =>
      rw [getO_none (cutI_srt hs _ _)]
      intro u hu
      unfold cutI at hu
      exact (getO_none hs k).1 hg u (List.mem_filter.1 hu).1
    | some u =>
      obtain ⟨h1, h2⟩ := (getO_iff hs k u).1 hg
      rw [getO_iff (cutI_srt hs _ _)]
      exact ⟨by unfold cutI; rw [List.mem_filter]; exact ⟨h1, by rw [h2]; exact hb⟩, h2⟩
  · rw [if_neg hb, getO_none (cutI_srt hs _ _)]
    intro u hu hk
    unfold cutI at hu
    exact hb (by rw [← hk]; exact (List.mem_filter.1 hu).2)
theorem cutO_get {L : List Up} (hs : Srt L) (low high k : List UInt8) : getO (cutO low high L) k = if inB low high k = true then none else getO L k := by
  by_cases hb : inB low high k = true
  · rw [if_pos hb, getO_none (cutO_srt hs _ _)]
    intro u hu hk
    unfold cutO at hu
    have := (List.mem_filter.1 hu).2
    rw [hk, hb] at this
    cases this
  · rw [if_neg hb]
    cases hg : getO L k with
    | none =>
      rw [getO_none (cutO_srt hs _ _)]
      intro u hu
      unfold cutO at hu
      exact (getO_none hs k).1 hg u (List.mem_filter.1 hu).1
    | some u =>
      obtain ⟨h1, h2⟩ := (getO_iff hs k u).1 hg
      rw [getO_iff (cutO_srt hs _ _)]
      exact ⟨by unfold cutO; rw [List.mem_filter]; exact ⟨h1, by rw [h2]; simpa using hb⟩, h2⟩
/-- what it makes of a value is what they all make of it, in order -/
theorem on_grp (s : Sv) {A : List Up} (h : ∀ u ∈ A, Tm u ∧ u.key ≠ []) {k : List UInt8} {u : Up} {r : List Up} (hg : grp A k = u :: r) : onU s (jlU u r) = allU s (u :: r) := by
  have hm : ∀ x ∈ u :: r, Tm x := fun x hx => (h x (grp_key (A := A) (k := k) (by rw [hg]; exact hx)).1).1
  rw [on_jl s (hm u (by simp)) (fun x hx => hm x (by simp [hx])), all_cons]
theorem srt_keys {L : List Up} (hs : Srt L) : (L.map Up.key).Nodup := by
  unfold Srt at hs
  rw [List.Nodup, List.pairwise_map]
  exact hs.imp fun h => kLt_ne h
/-- as many as there are keys -/
theorem foldW_len {A : List Up} (h : ∀ u ∈ A, Tm u ∧ u.key ≠ []) {ks : List (List UInt8)} (hn : ks.Nodup) (hk : ∀ k, k ∈ ks ↔ ∃ u ∈ A, u.key = k) : (foldW A).length = ks.length := by
  have hs := (foldW_gd h).srt
  have hm : ∀ k, k ∈ (foldW A).map Up.key ↔ k ∈ ks := by
    intro k
    rw [hk, List.mem_map]
    constructor
    · rintro ⟨x, hx, rfl⟩
      obtain ⟨u, r, hg, _⟩ := (foldW_grp h x).1 hx
      have := grp_key (A := A) (k := x.key) (u := u) (by rw [hg]; simp)
      exact ⟨u, this.1, this.2⟩
    · rintro ⟨u, hu, rfl⟩
      cases hg : grp A u.key with
      | nil =>
        have : u ∈ grp A u.key := by unfold grp; rw [List.mem_filter]; exact ⟨hu, by simp⟩
        rw [hg] at this; cases this
      | cons v r => exact ⟨jlU v r, (foldW_grp h _).2 ⟨v, r, by rw [grp_jl hg]; exact hg, rfl⟩, grp_jl hg⟩
  have := (List.perm_ext_iff_of_nodup (srt_keys hs) hn).2 hm
  have := this.length_eq
  rwa [List.length_map] at this
theorem und_su : Try.prog.underlying 76 = some (.map 9 28) := Try.underlying76
theorem zero_su (w : World) : (zeroValue 28).run Try.prog w = .ok (.slice none 0 0) w := by kernel_rfl
/-- the map of all that were put, by keys: each key's in a row of its own -/
structure Gm (w : World) (base mb : Nat) (es : List Mp.Ent) (A : List Up) : Prop where
  mm : Mp.MM w mb es
  rows : ∀ e ∈ es, RA w base e.2 (grp A e.1) ∧ grp A e.1 ≠ []
  all : ∀ u ∈ A, ∃ e ∈ es, e.1 = u.key
  apart : ∀ e ∈ es, ∀ e' ∈ es, e.1 ≠ e'.1 → ∀ k, e.2.ownBlock = some k → e'.2.ownBlock ≠ some k
section
variable {w w' : World} {base mb : Nat} {es : List Mp.Ent} {A : List Up}
theorem Gm.new {base : Nat} (w : World) : Gm (w.alloc (.map #[] 0)) base w.heap.size [] [] :=
  ⟨Mp.MM.made w, (fun e he => by cases he), (fun u hu => by cases hu), (fun e he => by cases he)⟩
theorem Gm.on (h : Gm w base mb es A) (hb : Below w.heap.size w w') : Gm w' base mb es A :=
  ⟨h.mm.on hb, fun e he => ⟨own_bel (h.rows e he).1 hb, (h.rows e he).2⟩, h.all, h.apart⟩
theorem Gm.far (h : Gm w base mb es A) {B : Nat} {T : TypeId} {cs : List Value} (hx : Has w B T cs) (hB : B < base) (v : Value) : Gm (w.setCell ⟨B, 0, none⟩ v) base mb es A :=
  ⟨h.mm.same (Below.heap_setCell _ _ _ _ (fun e => h.mm.ne hx e.symm)), fun e he => ⟨ro_far (h.rows e he).1 hB v, (h.rows e he).2⟩, h.all, h.apart⟩
theorem Gm.keys (h : Gm w base mb es A) (k : List UInt8) : k ∈ es.map Prod.fst ↔ ∃ u ∈ A, u.key = k := by
  rw [List.mem_map]
  constructor
  · rintro ⟨e, he, rfl⟩
    obtain ⟨h1, h2⟩ := h.rows e he
    obtain ⟨u, r, hg⟩ := List.exists_cons_of_ne_nil h2
    have := grp_key (A := A) (k := e.1) (u := u) (by rw [hg]; simp)
    exact ⟨u, this.1, this.2⟩
  · rintro ⟨u, hu, rfl⟩
    obtain ⟨e, he, hk⟩ := h.all u hu
    exact ⟨e, he, hk⟩
theorem Gm.len (h : Gm w base mb es A) (hA : ∀ u ∈ A, Tm u ∧ u.key ≠ []) : (foldW A).length = es.length := by
  have := foldW_len hA h.mm.nodup h.keys
  rwa [List.length_map] at this
/-- what the lookup tells, wherever the map stands: the row of the key, apart from all others -/
theorem Gm.look (h : Gm w base mb es A) {s : ByteArray} (hs : s.size ≤ 1000000) :
    ∃ v, (∀ w', Gm w' base mb es A → (Instr.lookup 76 (.map (some mb)) (.string s) false).run Try.prog w' = .ok v w' ∧ RA w' base v (grp A s.data.toList)) ∧ (∀ e ∈ es, e.1 ≠ s.data.toList → ∀ k, v.ownBlock = some k → e.2.ownBlock ≠ some k) := by
  by_cases hx : ∃ e ∈ es, e.1 = s.data.toList
  · obtain ⟨e, he, hk⟩ := hx
    refine ⟨e.2, fun w' h' => ⟨(h'.mm.look und_su (zero_su w') hs).1 e he hk, by rw [← hk]; exact (h'.rows e he).1⟩, fun e' he' hn => h.apart e he e' he' (by rw [hk]; exact fun e'' => hn e''.symm)⟩
  · have hno : ∀ e ∈ es, e.1 ≠ s.data.toList := fun e he hk => hx ⟨e, he, hk⟩
    have hg : grp A s.data.toList = [] := by
      cases hg : grp A s.data.toList with
      | nil => rfl
      | cons u r =>
        have hu := grp_key (A := A) (k := s.data.toList) (u := u) (by rw [hg]; simp)
        obtain ⟨e, he, hk⟩ := h.all u hu.1
        exact absurd (hk.trans hu.2) (hno e he)
    refine ⟨.slice none 0 0, fun w' h' => ⟨(h'.mm.look und_su (zero_su w') hs).2 hno, by rw [hg]; exact World.ownsRow_nil _ _ _ _⟩, fun e he _ k hk => by cases hk⟩
/-- one more is put: the key's row has grown, and is written to the map -/
theorem Gm.put (h : Gm w base mb es A) (hl : es.length ≤ 4096) {x : Up} {s : ByteArray} (hsx : s.data.toList = x.key) (hs : s.size ≤ 1000000) {v v' : Value} {w6 : World}
    (hap : ∀ e ∈ es, e.1 ≠ x.key → ∀ k, v.ownBlock = some k → e.2.ownBlock ≠ some k) (hrow : RA w base v (grp A x.key)) (hr : RA w6 base v' (grp A x.key ++ [x])) (hg : w.grownBy w6 v.ownBlock)
    (hp : ∀ k, v'.ownBlock = some k → v.ownBlock = some k ∨ w.heap.size ≤ k) :
    ∃ w7, (Instr.mapUpdate 76 (.map (some mb)) (.string s) v').run Try.prog w6 = .ok () w7 ∧ Gm w7 base mb (Mp.upd es x.key v') (A ++ [x]) ∧ w6.grownBy w7 (some mb) := by
  have hmv := h.mm.ne_row hrow
  have hm6 : Mp.MM w6 mb es := h.mm.same (hg.block _ h.mm.lt (fun e => hmv mb e.symm rfl))
  have hrest : ∀ e ∈ es, e.1 ≠ x.key → RA w6 base e.2 (grp A e.1) := fun e he hn => (h.rows e he).1.kept hg (by
    cases hv : e.2.ownBlock with
    | none => exact .inl rfl
    | some q => exact .inr fun e' => hap e he hn q e'.symm hv)
  obtain ⟨w7, hup, hm7, hg7⟩ := hm6.put und_su hl hs v'
  rw [hsx] at hm7
  have hk7 : ∀ {u : Value} {l : List Up}, RA w6 base u l → RA w7 base u l := fun {u l} hu => hu.kept hg7 (by
    have := hm6.ne_row hu
    cases hv : u.ownBlock with
    | none => exact .inl rfl
    | some q => exact .inr fun e' => this q hv (by injection e'))
  have hgo : ∀ k, x.key ≠ k → grp (A ++ [x]) k = grp A k := fun k hk => by rw [grp_snoc, if_neg hk]
  refine ⟨w7, hup, ⟨hm7, fun e he => ?_, fun u hu => ?_, fun e he e' he' hne k hk hk' => ?_⟩, hg7⟩
  · rcases Mp.upd_mem.1 he with rfl | ⟨h1, h2⟩
    · show RA w7 base v' (grp (A ++ [x]) x.key) ∧ grp (A ++ [x]) x.key ≠ []
      rw [grp_snoc, if_pos rfl]
      exact ⟨hk7 hr, by simp⟩
    · rw [hgo e.1 (fun e' => h2 e'.symm)]
      exact ⟨hk7 (hrest e h1 h2), (h.rows e h1).2⟩
  · by_cases hu' : u.key = x.key
    · exact ⟨(x.key, v'), Mp.upd_mem.2 (.inl rfl), hu'.symm⟩
    · rcases List.mem_append.1 hu with hu | hu
      · obtain ⟨e, he, hk⟩ := h.all u hu
        exact ⟨e, Mp.upd_mem.2 (.inr ⟨he, by rw [hk]; exact hu'⟩), hk⟩
      · rw [List.mem_singleton] at hu
        exact absurd (by rw [hu]) hu'
  · rcases Mp.upd_mem.1 he with rfl | ⟨h1, h2⟩ <;> rcases Mp.upd_mem.1 he' with rfl | ⟨h3, h4⟩
    · exact hne rfl
    · rcases hp k hk with h5 | h5
      · exact hap e' h3 h4 k h5 hk'
      · have := ((h.rows e' h3).1.lt k hk').2
        omega
    · rcases hp k hk' with h5 | h5
      · exact hap e h1 h2 k h5 hk
      · have := ((h.rows e h1).1.lt k hk).2
        omega
    · exact h.apart e h1 e' h3 hne k hk hk'
end
/-- how far the statement 'all[u.Key] = append(all[u.Key], u)' has come -/
structure Gp (W0 : World) (base mb G X : Nat) (es : List Mp.Ent) (A : List Up) (x : Up) (v cv : Value) (l : Nat → Bool) (a : Act) (w : World) : Prop where
  bel : Below W0.heap.size W0 w
  b : Has w G 75 [cv]
  ra : RA w base cv (foldW (A ++ [x]))
  hx : Has w X 34 (encU x)
  g0 : l 9 = false → Gm w base mb es A
  g8 : l 8 = true → l 9 = false → ∃ g, a.tmps.getD 68 undef = .slice (some ⟨g, 0, none⟩) 1 1 ∧ UR w (.slice (some ⟨g, 0, none⟩) 1 1) [x]
  g9 : l 9 = true → l 10 = false → ∃ wa, Gm wa base mb es A ∧ RA wa base v (grp A x.key) ∧ RA w base (a.tmps.getD 69 undef) (grp A x.key ++ [x]) ∧ wa.grownBy w v.ownBlock ∧ ∀ k, (a.tmps.getD 69 undef).ownBlock = some k → v.ownBlock = some k ∨ wa.heap.size ≤ k
  d : l 10 = true → ∃ es', Gm w base mb es' (A ++ [x]) ∧ es'.length ≤ es.length + 1
section
variable {W0 w w' : World} {base mb G X : Nat} {es : List Mp.Ent} {A : List Up} {x : Up} {v cv : Value} {l : Nat → Bool} {a : Act}
theorem Gp.start (a : Act) (h0 : Below W0.heap.size W0 w) (h1 : Has w G 75 [cv]) (h2 : RA w base cv (foldW (A ++ [x]))) (h3 : Has w X 34 (encU x)) (h4 : Gm w base mb es A) : Gp W0 base mb G X es A x v cv (fun _ => false) a w.drew := by
  have hb : Below w.heap.size w w.drew := (Below.refl _ _).drew
  exact ⟨below_on h0 hb, h1.below hb h1.lt, own_bel h2 hb, h3.below hb h3.lt, fun _ => h4.on hb, (fun e => by cases e), (fun e => by cases e), (fun e => by cases e)⟩
theorem Gp.keep (h : Gp W0 base mb G X es A x v cv l a w) {i c : Nat} (u : Value) (hi : i < 8) (hc : c < 68) (hs : c < a.tmps.size) : Gp W0 base mb G X es A x v cv (Reg.lset l i) (a.put (some c) u) w := by
  have hl : ∀ {j : Nat}, 8 ≤ j → Reg.lset l i j = l j := fun e => lset_ne (by omega)
  have hg : ∀ {d : Nat}, 68 ≤ d → (a.put (some c) u).tmps.getD d undef = a.tmps.getD d undef := fun {d} e => by
    have hne : ¬ c = d := by omega
    rw [Reg.getD_put _ _ _ _ hs, if_neg hne]
  obtain ⟨f1, f2, f3, f4, f5, f6, f7, f8⟩ := h
  refine ⟨f1, f2, f3, f4, ?_, ?_, ?_, ?_⟩
  · rw [hl (by omega)]; exact f5
  · rw [hl (by omega), hl (by omega), hg (by omega)]; exact f6
  · rw [hl (by omega), hl (by omega), hg (by omega)]; exact f7
  · rw [hl (by omega)]; exact f8
theorem Gp.b8 (h : Gp W0 base mb G X es A x v cv l a w) (h9 : l 9 = false) (h10 : l 10 = false) (hs : 68 < a.tmps.size) : Gp W0 base mb G X es A x v cv (Reg.lset l 8) (a.put (some 68) (.slice (some ⟨w.heap.size, 0, none⟩) 1 1)) (w.alloc (.cells (encU x).toArray 34)) := by
  have hb := below_new w (.cells (encU x).toArray 34)
  have hn := Has.new w (encU x) 34
  obtain ⟨f1, f2, f3, f4, f5, f6, f7, f8⟩ := h
  refine ⟨below_on f1 hb, f2.below hb f2.lt, own_bel f3 hb, f4.below hb f4.lt, fun _ => (f5 h9).on hb, fun _ _ => ⟨w.heap.size, by rw [Reg.getD_put _ _ _ _ hs, if_pos rfl], ?_⟩, fun e => ?_, fun e => ?_⟩
  · refine ⟨_, 1, rfl, fun _ => ⟨w.heap.size, 0, rfl, fun i hi j hj => ?_⟩⟩
    have : i = 0 := by simp at hi; exact hi
    subst this
    rw [show 0 + 0 * 4 + j = j by omega]
    exact hn.cell j
  · rw [lset_ne (by omega), h9] at e; cases e
  · rw [lset_ne (by omega), h10] at e; cases e
theorem Gp.a9 (ty : TypeId) (h : Gp W0 base mb G X es A x v cv l a w) (h8 : l 8 = true) (h9 : l 9 = false) (h10 : l 10 = false) (hs : 69 < a.tmps.size)
    (hv : ∀ w', Gm w' base mb es A → RA w' base v (grp A x.key)) (hB : W0.heap.size ≤ base) (hG : G < base) (hcv : ∀ k, v.ownBlock = some k → cv.ownBlock ≠ some k) (hX : ∀ k, v.ownBlock = some k → k ≠ X) (hbw : base ≤ w.heap.size) (hn : A.length ≤ 1000000) :
    ∃ v' w', (Builtin.append_ #[28, 28] ty #[v, a.tmps.getD 68 undef]).run Try.prog w = .ok v' w' ∧ Gp W0 base mb G X es A x v cv (Reg.lset l 9) (a.put (some 69) v') w' := by
  obtain ⟨f1, f2, f3, f4, f5, f6, f7, f8⟩ := h
  have hgm := f5 h9
  have hrv := hv w hgm
  obtain ⟨g, hg68, hur⟩ := f6 h8 h9
  have hln : (grp A x.key).length ≤ A.length := List.length_filter_le _ _
  obtain ⟨v', w', hrun, ho, hg, hp⟩ := app_own und_up isU_up ty hrv hur hbw (by simp; omega)
  refine ⟨v', w', by rw [hg68]; exact hrun, f1.grown hg f1.size (fun k hk => Nat.le_trans hB (hrv.lt k hk).1), f2.same (hg.block G f2.lt (fun e => ?_)), f3.kept hg ?_, f4.same (hg.block X f4.lt (fun e => hX X e.symm rfl)), fun e => ?_, fun _ e => ?_, fun _ _ => ?_, fun e => ?_⟩
  · have := (hrv.lt G e.symm).1; omega
  · cases hc : cv.ownBlock with
    | none => exact .inl rfl
    | some q => exact .inr fun e => hcv q e.symm hc
  · rw [lset_eq] at e; cases e
  · rw [lset_eq] at e; cases e
  · rw [Reg.getD_put _ _ _ _ hs, if_pos rfl]
    refine ⟨w, hgm, hrv, ho, hg, fun k hk => ?_⟩
    rcases hp k hk with h1 | ⟨h1, _⟩
    · exact .inl h1
    · exact .inr h1
  · rw [lset_ne (by omega), h10] at e; cases e
theorem Gp.u10 (h : Gp W0 base mb G X es A x v cv l a w) (h9 : l 9 = true) (h10 : l 10 = false) (hl : es.length ≤ 4096) {s : ByteArray} (hsx : s.data.toList = x.key) (hs : s.size ≤ 1000000) (hW : W0.heap.size ≤ mb)
    (hap : ∀ e ∈ es, e.1 ≠ x.key → ∀ k, v.ownBlock = some k → e.2.ownBlock ≠ some k) :
    ∃ w', (Instr.mapUpdate 76 (.map (some mb)) (.string s) (a.tmps.getD 69 undef)).run Try.prog w = .ok () w' ∧ Gp W0 base mb G X es A x v cv (Reg.lset l 10) a w' := by
  obtain ⟨f1, f2, f3, f4, f5, f6, f7, f8⟩ := h
  obtain ⟨wa, hgm, hrv, hr, hg, hp⟩ := f7 h9 h10
  have hm : Mp.MM w mb es := hgm.mm.same (hg.block _ hgm.mm.lt (fun e => hgm.mm.ne_row hrv mb e.symm rfl))
  obtain ⟨w', hrun, hgm', hg'⟩ := hgm.put hl hsx hs hap hrv hr hg hp
  refine ⟨w', hrun, f1.grown hg' f1.size (fun k hk => by injection hk with e; rw [← e]; exact hW), f2.same (hg'.block G f2.lt (fun e => hm.ne f2 (by injection e))), f3.kept hg' ?_, f4.same (hg'.block X f4.lt (fun e => hm.ne f4 (by injection e))), fun e => ?_, fun _ e => ?_, fun _ e => ?_, fun _ => ⟨_, hgm', ?_⟩⟩
  · have := hm.ne_row f3
    cases hc : cv.ownBlock with
    | none => exact .inl rfl
    | some q => exact .inr fun e => this q hc (by injection e)
  · rw [lset_ne (by omega), h9] at e; cases e
  · rw [lset_ne (by omega), h9] at e; cases e
  · rw [lset_eq] at e; cases e
  · unfold Mp.upd
    rw [List.length_cons]
    have : (es.filter fun e => !(e.1 == x.key)).length ≤ es.length := List.length_filter_le _ _
    omega
end
end Go.Proofs.Ytfmbjepjmjcgeaa.Buf
