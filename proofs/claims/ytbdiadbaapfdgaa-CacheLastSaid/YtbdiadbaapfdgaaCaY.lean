/- Layer 11's laws CacheHits and CacheLast: maps beside a cache. -/
import Derived.Test.YtbdiadbaapfdgaaCaX
import Derived.Maps.OwnOps
namespace Go.Proofs.Ytbdiadbaapfdgaa.Ca
open Go Go.RowKit Go.Proofs.Ytbdiadbaapfdgaa Go.Maps
set_option linter.unusedVariables false

/-- D's keys are the numbers of ks -/
structure KM (D : DataW Unit) (ks : List Int) : Prop where
  tidy : Tidy D
  has_ : ∀ x : Int, has D (.int .i64 x) = decide (x ∈ ks)
  size : Maps.size D = ks.length
theorem KM.empty : KM (.map []) [] := ⟨tidy_empty, fun _ => rfl, rfl⟩
theorem KM.put {D : DataW Unit} {ks : List Int} (h : KM D ks) {x : Int} (hx : x ∉ ks) (d : DataW Unit) : KM (D.put (.int .i64 x) d) (x :: ks) := by
  refine ⟨h.tidy.put kl _, fun y => ?_, ?_⟩
  · by_cases e : y = x
    · subst e; rw [has_put_same h.tidy.isMap kl]; simp
    · rw [has_put_other (key_ne e), h.has_]; simp [e]
  · rw [size_put h.tidy, h.has_, decide_eq_false hx, h.size]; rfl
/-- the map of bools at b: its keys are those of ks -/
def SM (w : World) (b : Nat) (ks : List Int) : Prop := ∃ D, w.ownsMap Try.prog 3 (plainElem (H := Unit) Try.prog 4) b ks.length D ∧ KM D ks
section
variable {w w' : World} {b : Nat} {ks : List Int}
theorem SM.lt (h : SM w b ks) : b < w.heap.size := by obtain ⟨D, h1, _⟩ := h; exact h1.lt
theorem SM.same (h : SM w b ks) (hk : w'.heap[b]? = w.heap[b]?) : SM w' b ks := by
  obtain ⟨D, ⟨es, clock, hb, F, hs, hD⟩, h2⟩ := h
  exact ⟨D, ⟨es, clock, hk.trans hb, F, hs, hD⟩, h2⟩
theorem SM.made (w : World) : SM (w.alloc (.map #[] 0)) w.heap.size [] := ⟨_, World.ownsMap_made w _ _ _, KM.empty⟩
theorem SM.len (h : SM w b ks) (ty : TypeId) : (Builtin.len_ #[56] ty #[.map (some b)]).run Try.prog w = .ok (.int .i64 ks.length) w := by
  obtain ⟨D, hown, hk⟩ := h
  rw [← hk.size]
  exact hown.len Try.underlying56 ty
theorem SM.update (h : SM w b ks) {x : Int} (hx : x ∉ ks) (hl : ks.length ≤ 4096) (h0 : in64 x) : ∃ w', (Instr.mapUpdate 56 (.map (some b)) (.int .i64 x) (.bool true)).run Try.prog w = .ok () w' ∧ SM w' b (x :: ks) ∧ w.grownBy w' (some b) := by
  obtain ⟨D, hown, hk⟩ := h
  obtain ⟨w', hrun, ho, hg⟩ := hown.update (int_keyed Try.underlying3) Try.underlying56 (by unfold maxLen; omega) (keyOf_int_mk Try.underlying3 (int_wf h0.1 h0.2)) (val := .bool true) (d := .lit (.bool true)) (ps := []) (plainElem_bool Try.underlying4 true)
  have hk2 := hk.put hx (.lit (.bool true))
  refine ⟨w', hrun, ⟨_, ?_, hk2⟩, hg⟩
  have := owns_size ho
  rwa [hk2.size] at this
end
section
variable {w0 w w' : World} {K : Nat → Prop} {p n : Nat} {es : List En} {c f m b : Nat}
/-- a map beside the cache is written -/
theorem Tw.grown (h : Tw w0 K p n es [] (.slice none 0 0) c f m w) (hb : K b) (hb0 : w0.heap.size ≤ b) (hg : w.grownBy w' (some b)) : Tw w0 K p n es [] (.slice none 0 0) c f m w' := by
  obtain ⟨R, o, r, a⟩ := h
  have hch : Chg (fun k => k = b) w w' := (Chg.refl _ w).grown hg fun k _ e => (Option.some.inj e).symm
  refine ⟨R, ⟨o.at_.same fun k hk => hch.block k (o.at_.lt hk) (fun e => (a b (.inr hb)).2 (e ▸ hk)), o.ge, o.bel.trans (hch.below o.bel.size (fun i e => e ▸ hb0))⟩, World.ownsRow_nil _ _ _ _, fun k hk => ⟨Nat.lt_of_lt_of_le (a k hk).1 hch.size, (a k hk).2⟩⟩
theorem Tw.keep (h : Tw w0 K p n es [] (.slice none 0 0) c f m w) (hb : K b) : b < w.heap.size := by obtain ⟨R, o, r, a⟩ := h; exact (a b (.inr hb)).1
end
/-- so many numbers below n, no two of them the same, are no more than n; without one that isn't among them, fewer -/
theorem few {n : Nat} : ∀ (l : List Int), l.Nodup → (∀ x ∈ l, 0 ≤ x ∧ x < n) → l.length ≤ n := by
  induction n with
  | zero => intro l _ h; cases l with
    | nil => exact Nat.le_refl _
    | cons x l => have := h x (List.mem_cons_self ..); omega
  | succ n ih =>
    intro l hn h
    by_cases hm : (n : Int) ∈ l
    · have h2 := ih (l.erase (n : Int)) (hn.erase _) (fun x hx => by
        have h3 := h x (List.mem_of_mem_erase hx)
        have h4 : x ≠ n := fun e => by subst e; exact (List.Nodup.not_mem_erase hn) hx
        omega)
      have := List.length_erase_of_mem hm
      omega
    · have := ih l hn (fun x hx => by
        have h3 := h x hx
        have h4 : x ≠ n := fun e => hm (e ▸ hx)
        omega)
      omega
theorem fewer {n : Nat} {l : List Int} (hn : l.Nodup) (h : ∀ x ∈ l, 0 ≤ x ∧ x < n) {a : Int} (ha : a ∉ l) (h0 : 0 ≤ a) (h1 : a < n) : l.length < n := by
  have := few (n := n) (a :: l) (List.nodup_cons.2 ⟨ha, hn⟩) (fun x hx => by
    rcases List.mem_cons.1 hx with rfl | hx
    · exact ⟨h0, h1⟩
    · exact h x hx)
  have h5 : l.length + 1 ≤ n := by simpa using this
  omega
theorem SM.perm {w : World} {b : Nat} {ks ks' : List Int} (h : SM w b ks) (hp : ks.Perm ks') : SM w b ks' := by
  obtain ⟨D, h1, h2⟩ := h
  exact ⟨D, by rw [← hp.length_eq]; exact h1, h2.tidy, fun x => by rw [h2.has_]; exact decide_eq_decide.2 hp.mem_iff, by rw [h2.size, hp.length_eq]⟩
/-- what a cache keeps that was asked for numbers below n -/
def Hit (n : Nat) (es : List En) : Prop := ∀ e ∈ es, 0 ≤ e.addr ∧ e.addr < n ∧ e.gen = 7 ∧ e.sum = 0 ∧ e.pay = Utf8.encode (97 + e.addr)
theorem Hit.again {n : Nat} {es : List En} (h : Hit n es) {t : En} (ht : t ∈ es) : Hit n (t :: rmE es t.addr) := fun e he => by
  rcases List.mem_cons.1 he with rfl | he
  · exact h e ht
  · exact h e (by unfold rmE at he; exact (List.mem_filter.1 he).1)
theorem again_perm {es : List En} (hn : (es.map En.addr).Nodup) {t : En} (ht : t ∈ es) : ((t :: rmE es t.addr).map En.addr).Perm (es.map En.addr) := by
  have : ∀ (l : List En), (l.map En.addr).Nodup → t ∈ l → (t :: rmE l t.addr).Perm l := fun l => by
    induction l with
    | nil => intro _ h; cases h
    | cons x l ih =>
      intro h ht
      rw [List.map_cons, List.nodup_cons] at h
      rcases List.mem_cons.1 ht with rfl | ht
      · have e : rmE (t :: l) t.addr = l := by
          unfold rmE
          rw [List.filter_cons_of_neg (by simp)]
          exact List.filter_eq_self.2 fun s hs => by simpa using fun e : s.addr = t.addr => h.1 (e ▸ List.mem_map_of_mem hs)
        rw [e]
      · have hne : x.addr ≠ t.addr := fun e => h.1 (e ▸ List.mem_map_of_mem ht)
        have e : rmE (x :: l) t.addr = x :: rmE l t.addr := by
          unfold rmE
          rw [List.filter_cons_of_pos (by simpa using hne)]
        rw [e]
        exact (List.Perm.swap x t _).trans ((ih h.2 ht).cons x)
  exact (this es hn ht).map _
theorem gtE_none {es : List En} {a : Int} (h : gtE es a = none) : a ∉ es.map En.addr := fun hm => by
  obtain ⟨e, he, rfl⟩ := List.mem_map.1 hm
  have := List.find?_eq_none.1 h e he
  simp at this
theorem put_new {n : Nat} {es : List En} {e : En} (h : e.addr ∉ es.map En.addr) (hl : es.length < n) : putE n es e = e :: es := by
  unfold putE
  have h1 : rmE es e.addr = es := List.filter_eq_self.2 fun s hs => by simpa using fun c : s.addr = e.addr => h (c ▸ List.mem_map_of_mem hs)
  rw [h1, List.take_of_length_le (by omega)]
end Go.Proofs.Ytbdiadbaapfdgaa.Ca
