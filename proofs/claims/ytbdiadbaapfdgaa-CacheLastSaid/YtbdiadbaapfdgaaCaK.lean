/- Layer 11 (cache): what the map of slots holds. -/
import Derived.Test.YtbdiadbaapfdgaaCaG
import Derived.Maps.Views
import Derived.Maps.OwnSet
import Derived.Maps.OwnOps
import Derived.Maps.Keyed
namespace Go.Proofs.Ytbdiadbaapfdgaa.Ca
open Go Go.RowKit Go.Proofs.Ytbdiadbaapfdgaa Go.Maps
set_option linter.unusedVariables false

def rmv (l : List Sl) (a : Int) : List Sl := l.filter fun s => !(s.addr == a)
def fnd (l : List Sl) (a : Int) : Option Sl := l.find? fun s => s.addr == a
section
variable {l l' : List Sl} {s s' : Sl} {a x : Int}
theorem rmv_mem : s ∈ rmv l a ↔ s ∈ l ∧ s.addr ≠ a := by unfold rmv; rw [List.mem_filter]; simp
theorem rmv_none (h : ∀ s ∈ l, s.addr ≠ a) : rmv l a = l := List.filter_eq_self.2 fun s hs => by simpa using h s hs
theorem fnd_some (h : fnd l a = some s) : s ∈ l ∧ s.addr = a := ⟨List.mem_of_find?_eq_some h, by simpa using List.find?_some h⟩
theorem fnd_none (h : fnd l a = none) : ∀ s ∈ l, s.addr ≠ a := fun s hs => by simpa using List.find?_eq_none.1 h s hs
theorem rmv_nodup (h : (l.map Sl.addr).Nodup) : ((rmv l a).map Sl.addr).Nodup := h.sublist (List.Sublist.map _ List.filter_sublist)
theorem rmv_perm (h : (l.map Sl.addr).Nodup) (hs : s ∈ l) : (s :: rmv l s.addr).Perm l := by
  induction l with
  | nil => cases hs
  | cons t l ih =>
    rw [List.map_cons, List.nodup_cons] at h
    rcases List.mem_cons.1 hs with rfl | hs
    · have e : rmv (s :: l) s.addr = l := by
        unfold rmv
        rw [List.filter_cons_of_neg (by simp)]
        exact rmv_none fun t ht e => h.1 (e ▸ List.mem_map_of_mem ht)
      rw [e]
    · have hne : t.addr ≠ s.addr := fun e => h.1 (e ▸ List.mem_map_of_mem hs)
      have e : rmv (t :: l) s.addr = t :: rmv l s.addr := by
        unfold rmv
        rw [List.filter_cons_of_pos (by simpa using hne)]
      rw [e]
      exact (List.Perm.swap t s _).trans ((ih h.2 hs).cons t)
theorem fnd_mem (h : (l.map Sl.addr).Nodup) (hs : s ∈ l) : fnd l s.addr = some s := by
  induction l with
  | nil => cases hs
  | cons t l ih =>
    rw [List.map_cons, List.nodup_cons] at h
    unfold fnd
    rcases List.mem_cons.1 hs with rfl | hs
    · rw [List.find?_cons_of_pos (by simp)]
    · have hne : t.addr ≠ s.addr := fun e => h.1 (e ▸ List.mem_map_of_mem hs)
      rw [List.find?_cons_of_neg (by simpa using hne)]
      exact ih h.2 hs
theorem any_iff : (l.any fun s => s.addr == x) = true ↔ ∃ s ∈ l, s.addr = x := by rw [List.any_eq_true]; simp
end
theorem bool_ext {a b : Bool} (h : a = true ↔ b = true) : a = b := by cases a <;> cases b <;> simp_all
theorem kl {x : Int} : WideAt.IsKeyLit (.int .i64 x) := trivial
theorem key_ne {x y : Int} (h : x ≠ y) : (Lit.int .i64 x) ≠ (Lit.int .i64 y) := by intro e; injection e with _ e; exact h e
/-- D holds the slots of l by their addresses -/
structure KS (D : DataW Unit) (l : List Sl) : Prop where
  tidy : Tidy D
  nodup : (l.map Sl.addr).Nodup
  has_ : ∀ x : Int, has D (.int .i64 x) = l.any fun s => s.addr == x
  at_ : ∀ s ∈ l, ∀ z, D.atKey (.int .i64 s.addr) z = .lit (.int .i64 s.blk)
  size : Maps.size D = l.length
section
variable {D : DataW Unit} {l l' : List Sl} {s s' : Sl} {a : Int}
theorem KS.empty : KS (.map []) [] := ⟨tidy_empty, List.nodup_nil, fun _ => rfl, (fun s h => by cases h), rfl⟩
theorem KS.perm (h : KS D l) (hp : l.Perm l') : KS D l' :=
  ⟨h.tidy, (hp.map _).nodup_iff.1 h.nodup, fun x => by rw [h.has_]; exact bool_ext (by rw [any_iff, any_iff]; exact ⟨fun ⟨s, h1, h2⟩ => ⟨s, hp.mem_iff.1 h1, h2⟩, fun ⟨s, h1, h2⟩ => ⟨s, hp.mem_iff.2 h1, h2⟩⟩), fun s hs z => h.at_ s (hp.mem_iff.2 hs) z, by rw [h.size, hp.length_eq]⟩
theorem KS.turn (h : KS D (s :: l)) (ha : s'.addr = s.addr) (hb : s'.blk = s.blk) : KS D (s' :: l) := by
  refine ⟨h.tidy, by have := h.nodup; rw [List.map_cons] at this ⊢; rw [ha]; exact this, fun x => by rw [h.has_, List.any_cons, List.any_cons, ha], fun t ht z => ?_, by rw [h.size]; rfl⟩
  rcases List.mem_cons.1 ht with rfl | ht
  · rw [ha, hb]; exact h.at_ s (List.mem_cons_self ..) z
  · exact h.at_ t (List.mem_cons_of_mem _ ht) z
theorem KS.put (h : KS D l) (hs : ∀ t ∈ l, t.addr ≠ s.addr) : KS (D.put (.int .i64 s.addr) (.lit (.int .i64 s.blk))) (s :: l) := by
  have hno : has D (.int .i64 s.addr) = false := by
    rw [h.has_]
    cases e : (l.any fun t => t.addr == s.addr) with
    | false => rfl
    | true => obtain ⟨t, h1, h2⟩ := any_iff.1 e; exact absurd h2 (hs t h1)
  refine ⟨h.tidy.put kl _, ?_, fun x => ?_, fun t ht z => ?_, ?_⟩
  · rw [List.map_cons, List.nodup_cons]
    exact ⟨fun hm => by obtain ⟨t, h1, h2⟩ := List.mem_map.1 hm; exact hs t h1 h2, h.nodup⟩
  · rw [List.any_cons]
    by_cases e : s.addr = x
    · subst e; rw [has_put_same h.tidy.isMap kl]; simp
    · rw [has_put_other (key_ne (Ne.symm e)), h.has_]; simp [e]
  · rcases List.mem_cons.1 ht with rfl | ht
    · exact atKey_put_same h.tidy.isMap kl _ _
    · rw [atKey_put_other (key_ne (hs t ht))]; exact h.at_ t ht z
  · rw [size_put h.tidy, hno, h.size]; rfl
theorem KS.del (h : KS D (s :: l)) : KS (D.del (.int .i64 s.addr)) l := by
  have hn := h.nodup
  rw [List.map_cons, List.nodup_cons] at hn
  have hne : ∀ t ∈ l, t.addr ≠ s.addr := fun t ht e => hn.1 (e ▸ List.mem_map_of_mem ht)
  refine ⟨h.tidy.del _, hn.2, fun x => ?_, fun t ht z => ?_, ?_⟩
  · by_cases e : x = s.addr
    · subst e
      rw [has_del_same]
      cases e : (l.any fun t => t.addr == s.addr) with
      | false => rfl
      | true => obtain ⟨t, h1, h2⟩ := any_iff.1 e; exact absurd h2 (hne t h1)
    · rw [has_del_other (key_ne e), h.has_, List.any_cons]
      have : (s.addr == x) = false := by simpa using Ne.symm e
      rw [this]; rfl
  · rw [atKey_del_other (key_ne (hne t ht))]; exact h.at_ t (List.mem_cons_of_mem _ ht) z
  · have e1 := size_del (k := .int .i64 s.addr) h.tidy
    rw [h.has_, h.size, List.any_cons] at e1
    simp at e1
    exact e1
end
/-- how an element is read: by its block's number -/
def rdP : Value → Option (DataW Unit × List MemPlace)
  | .pointer none => some (.lit (.int .i64 (-1)), [])
  | .pointer (some ⟨b, 0, none⟩) => some (.lit (.int .i64 (b : Int)), [])
  | _ => none
theorem rdP_nil {v : Value} {ps : List MemPlace} (h : rdP v = some (.lit (.int .i64 (-1)), ps)) : v = .pointer none := by
  unfold rdP at h
  split at h
  · rfl
  · injection h with h; injection h with h _; injection h with h; injection h with _ h; omega
  · cases h
theorem rdP_ptr {v : Value} {ps : List MemPlace} {b : Nat} (h : rdP v = some (.lit (.int .i64 (b : Int)), ps)) : v = .pointer (some ⟨b, 0, none⟩) := by
  unfold rdP at h
  split at h
  · injection h with h; injection h with h _; injection h with h; injection h with _ h; omega
  · injection h with h; injection h with h _; injection h with h; injection h with _ h
    have : _ = b := Int.ofNat.inj h
    rw [this]
  · cases h
abbrev mapsP (w : World) (b m : Nat) (D : DataW Unit) : Prop := w.ownsMap Try.prog 3 rdP b m D
/-- the map at b holds the slots of l -/
def MS (w : World) (b : Nat) (l : List Sl) : Prop := ∃ D, mapsP w b l.length D ∧ KS D l
def lkV : Option Sl → Value
  | some s => ptr s
  | none => .pointer none
theorem int_wf {x : Int} (h0 : -9223372036854775808 ≤ x) (h1 : x ≤ 9223372036854775807) : (Lit.int .i64 x).wf = true := by
  simp only [Lit.wf, Bool.and_eq_true, decide_eq_true_eq, show IntKind.i64.min = -9223372036854775808 from rfl, show IntKind.i64.max = 9223372036854775807 from rfl]
  omega
theorem zero_ptr (w : World) : (zeroValue 65).run Try.prog w = .ok (.pointer none) w := by kernel_rfl
section
variable {w w' : World} {b : Nat} {l l' : List Sl} {s s' : Sl} {a : Int}
theorem owns_size {P : Program} {k : TypeId} {R : Value → Option (DataW Unit × List MemPlace)} {n : Nat} {D : DataW Unit} (h : w.ownsMap P k R b n D) : w.ownsMap P k R b (Maps.size D) D := by
  obtain ⟨es, clock, hb, F, hs, rfl⟩ := h
  refine ⟨es, clock, hb, F, ?_, rfl⟩
  simp [Maps.size, length_sorted]
theorem MS.lt (h : MS w b l) : b < w.heap.size := by obtain ⟨D, h1, _⟩ := h; exact h1.lt
theorem MS.same (h : MS w b l) (hk : w'.heap[b]? = w.heap[b]?) : MS w' b l := by
  obtain ⟨D, ⟨es, clock, hb, F, hs, hD⟩, h2⟩ := h
  exact ⟨D, ⟨es, clock, hk.trans hb, F, hs, hD⟩, h2⟩
theorem MS.perm (h : MS w b l) (hp : l.Perm l') : MS w b l' := by
  obtain ⟨D, h1, h2⟩ := h
  exact ⟨D, by rw [← hp.length_eq]; exact h1, h2.perm hp⟩
theorem MS.turn (h : MS w b (s :: l)) (ha : s'.addr = s.addr) (hb : s'.blk = s.blk) : MS w b (s' :: l) := by
  obtain ⟨D, h1, h2⟩ := h
  exact ⟨D, h1, h2.turn ha hb⟩
theorem MS.nodup (h : MS w b l) : (l.map Sl.addr).Nodup := by obtain ⟨D, _, h2⟩ := h; exact h2.nodup
theorem MS.ne (h : MS w b l) {k : Nat} {t : TypeId} {cs : List Value} (hk : Has w k t cs) : k ≠ b := fun e => by
  obtain ⟨D, ⟨es, clock, hb, _⟩, _⟩ := h
  unfold Has at hk
  rw [e, hb] at hk
  cases hk
theorem MS.look (h : MS w b l) {x : Int} (h0 : -9223372036854775808 ≤ x) (h1 : x ≤ 9223372036854775807) : (Instr.lookup 58 (.map (some b)) (.int .i64 x) false).run Try.prog w = .ok (lkV (fnd l x)) w := by
  obtain ⟨D, hown, hk⟩ := h
  obtain ⟨v, ps, hrun, hv⟩ := hown.lookup (int_keyed Try.underlying3) Try.underlying58 (zero_ptr w) (zd := .lit (.int .i64 (-1))) (zp := []) rfl (keyOf_int_mk Try.underlying3 (int_wf h0 h1))
  rw [hrun]
  cases e : fnd l x with
  | none =>
    have hno : has D (.int .i64 x) = false := by
      rw [hk.has_]
      cases e2 : (l.any fun t => t.addr == x) with
      | false => rfl
      | true => obtain ⟨t, h1, h2⟩ := any_iff.1 e2; exact absurd h2 (fnd_none e t h1)
    rw [atKey_of_not_has hno] at hv
    rw [rdP_nil hv]; rfl
  | some s =>
    obtain ⟨hs, rfl⟩ := fnd_some e
    rw [hk.at_ s hs] at hv
    rw [rdP_ptr hv]; rfl
theorem MS.len (h : MS w b l) (ty : TypeId) : (Builtin.len_ #[58] ty #[.map (some b)]).run Try.prog w = .ok (.int .i64 l.length) w := by
  obtain ⟨D, hown, hk⟩ := h
  rw [← hk.size]
  exact hown.len Try.underlying58 ty
theorem MS.made (w : World) : MS (w.alloc (.map #[] 0)) w.heap.size [] := ⟨_, World.ownsMap_made w _ _ _, KS.empty⟩
theorem MS.update (h : MS w b l) (hs : ∀ t ∈ l, t.addr ≠ s.addr) (hl : l.length ≤ 4096) (h0 : -9223372036854775808 ≤ s.addr) (h1 : s.addr ≤ 9223372036854775807) : ∃ w', (Instr.mapUpdate 58 (.map (some b)) (.int .i64 s.addr) (ptr s)).run Try.prog w = .ok () w' ∧ MS w' b (s :: l) ∧ w.grownBy w' (some b) := by
  obtain ⟨D, hown, hk⟩ := h
  obtain ⟨w', hrun, ho, hg⟩ := hown.update (int_keyed Try.underlying3) Try.underlying58 (by unfold maxLen; omega) (keyOf_int_mk Try.underlying3 (int_wf h0 h1)) (val := ptr s) (d := .lit (.int .i64 s.blk)) (ps := []) rfl
  have hk2 := hk.put hs
  refine ⟨w', hrun, ⟨_, ?_, hk2⟩, hg⟩
  have := owns_size ho
  rwa [hk2.size] at this
theorem MS.drop (h : MS w b (s :: l)) (h0 : -9223372036854775808 ≤ s.addr) (h1 : s.addr ≤ 9223372036854775807) (ty : TypeId) : ∃ w', (Builtin.delete_ #[58, 3] ty #[.map (some b), .int .i64 s.addr]).run Try.prog w = .ok (.tuple #[]) w' ∧ MS w' b l ∧ w.grownBy w' (some b) := by
  obtain ⟨D, hown, hk⟩ := h
  obtain ⟨w', hrun, ho, hg⟩ := hown.drop (int_keyed Try.underlying3) Try.underlying58 (keyOf_int_mk Try.underlying3 (int_wf h0 h1)) ty
  have hk2 := hk.del
  refine ⟨w', hrun, ⟨_, ?_, hk2⟩, hg.grown⟩
  have := owns_size ho
  rwa [hk2.size] at this
end
end Go.Proofs.Ytbdiadbaapfdgaa.Ca
