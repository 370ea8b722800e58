/- Layer 6's laws: the maps that they make. -/
import Derived.Test.YtonfafjacmifaaaTabL
import Derived.Test.YtonfafjacmifaaaArr
import Derived.Maps.Views
import Derived.Maps.OwnSet
namespace Go.Proofs.Ytonfafjacmifaaa.Tab
open Go Go.RowKit Go.Proofs.Ytonfafjacmifaaa Go.Proofs.Ytonfafjacmifaaa.Lend Go.Maps
set_option linter.unusedVariables false

theorem zero_bool (w : World) : (zeroValue 4).run Try.prog w = .ok (.bool false) w := by kernel_rfl
theorem zero_int (w : World) : (zeroValue 3).run Try.prog w = .ok (.int .i64 0) w := by kernel_rfl
theorem owns_map_same {w w' : World} {P : Program} {k : TypeId} {R : Value → Option (DataW Unit × List MemPlace)} {b n : Nat} {D : DataW Unit} (h : w.ownsMap P k R b n D) (hk : w'.heap[b]? = w.heap[b]?) : w'.ownsMap P k R b n D := by
  obtain ⟨es, clock, hb, F, hs, hD⟩ := h
  exact ⟨es, clock, hk.trans hb, F, hs, hD⟩
theorem owns_map_lt {w : World} {P : Program} {k : TypeId} {R : Value → Option (DataW Unit × List MemPlace)} {b n : Nat} {D : DataW Unit} (h : w.ownsMap P k R b n D) : b < w.heap.size := by
  obtain ⟨es, clock, hb, _⟩ := h
  exact (Array.getElem?_eq_some_iff.1 hb).1
theorem owns_map_on {w w' : World} {P : Program} {k : TypeId} {R : Value → Option (DataW Unit × List MemPlace)} {b n : Nat} {D : DataW Unit} (h : w.ownsMap P k R b n D) (hb : Below w.heap.size w w') : w'.ownsMap P k R b n D := owns_map_same h (hb.block _ (owns_map_lt h))
theorem plainElem_bool_inv {P : Program} {e : TypeId} (he : P.underlying e = some .bool) {v : Value} {z : DataW Unit × List MemPlace} (h : plainElem P e v = some z) : ∃ x, v = .bool x ∧ z = (.lit (.bool x), []) := by
  unfold plainElem at h
  rw [he] at h
  cases v <;> simp at h
  subst h
  exact ⟨_, rfl, rfl⟩
/-- 'm[k]' at bools -/
theorem lookup_bool {P : Program} {w : World} {t k e : TypeId} {b n : Nat} {D : DataW Unit} (h : w.ownsMap P k (plainElem P e) b n D) (K : Keyed P k) (ht : P.underlying t = some (.map k e)) (he : P.underlying e = some .bool) (hz : (zeroValue e).run P w = .ok (.bool false) w)
    {key : Value} {kl : Lit} (hkey : keyOf P k key = some kl) : ∃ c : Bool, (Instr.lookup t (.map (some b)) key false).run P w = .ok (.bool c) w ∧ D.atKey kl (.lit (.bool false)) = .lit (.bool c) := by
  obtain ⟨v, ps, hrun, hv⟩ := h.lookup K ht hz (plainElem_bool he false) hkey
  obtain ⟨c, rfl, hc⟩ := plainElem_bool_inv he hv
  simp only [Prod.mk.injEq] at hc
  exact ⟨c, hrun, hc.1⟩
theorem int_wf {x : Int} (h0 : -9223372036854775808 ≤ x) (h1 : x ≤ 9223372036854775807) : (Lit.int .i64 x).wf = true := by
  simp only [Lit.wf, Bool.and_eq_true, decide_eq_true_eq, show IntKind.i64.min = -9223372036854775808 from rfl, show IntKind.i64.max = 9223372036854775807 from rfl]
  omega
theorem map_ne {w : World} {P : Program} {k : TypeId} {R : Value → Option (DataW Unit × List MemPlace)} {mb n : Nat} {D : DataW Unit} (h : w.ownsMap P k R mb n D) {a : Addr} {v : Value} (hc : w.cell? a = some v) : a.block ≠ mb := by
  obtain ⟨es, clock, hb, _⟩ := h
  intro e
  unfold World.cell? at hc
  rw [e, hb] at hc
  cases hc
theorem Ints.map {w w' : World} {P : Program} {k : TypeId} {R : Value → Option (DataW Unit × List MemPlace)} {mb n : Nat} {D : DataW Unit} {ao : Option Addr} {len cap : Nat} {m : List Int} (h : Ints w ao len cap m) (hm : w.ownsMap P k R mb n D) (hg : w.grownBy w' (some mb)) : Ints w' ao len cap m := by
  refine ⟨⟨h.row.len_eq, fun hl => ?_⟩, h.le, h.nil⟩
  obtain ⟨b, off, hb, hc⟩ := h.row.at_ hl
  refine ⟨b, off, hb, fun i hi => ?_⟩
  have h1 := hc i hi
  have h2 := map_ne hm h1
  have h3 := World.block_lt_of_cell? w _ h1
  have h4 : w'.heap[b]? = w.heap[b]? := hg.block b h3 (fun e => h2 (Option.some.inj e))
  rw [← h1]
  unfold World.cell?
  simp only [h4]
theorem TAt.map {w w' : World} {P : Program} {k : TypeId} {R : Value → Option (DataW Unit × List MemPlace)} {mb n : Nat} {D : DataW Unit} {p : Nat} {N K : Int} {m : List Int} (h : TAt w p N K m) (hm : w.ownsMap P k R mb n D) (hg : w.grownBy w' (some mb)) : TAt w' p N K m := by
  refine Has.same h (hg.block p h.lt (fun e => ?_))
  exact map_ne hm h.c0 (Option.some.inj e)
theorem owns_map_row {w : World} {P : Program} {k : TypeId} {R : Value → Option (DataW Unit × List MemPlace)} {mb n : Nat} {D : DataW Unit} (h : w.ownsMap P k R mb n D) {p : Nat} (hp : mb ≠ p) (cs : Array Value) : (w.setRow p cs).ownsMap P k R mb n D := owns_map_same h (setRow_other _ _ _ _ hp)
/-- which places were seen -/
def Seen (M : List Int) (c : Nat) (D : DataW Unit) : Prop := IsMap D ∧ ∀ x : Int, has D (.int .i64 x) = true → ∃ j : Nat, j < c ∧ plc 15 M j = x
theorem Seen.start (M : List Int) : Seen M 0 (.map []) := ⟨isMap_empty, fun x h => by cases h⟩
theorem Seen.no {M : List Int} {c : Nat} {D : DataW Unit} (h : Seen M c D) (hc : c < 15) : has D (.int .i64 (plc 15 M c)) = false := by
  cases e : has D (.int .i64 (plc 15 M c)) with
  | false => rfl
  | true =>
    obtain ⟨j, hj, hp⟩ := h.2 _ e
    have := plc_inj (n := 15) (m := M) (b := (j : Int)) (c := (c : Int)) (by omega) (by omega) hp
    omega
theorem Seen.look {M : List Int} {c : Nat} {D : DataW Unit} (h : Seen M c D) (hc : c < 15) {b : Bool} (hb : D.atKey (.int .i64 (plc 15 M c)) (.lit (.bool false)) = .lit (.bool b)) : b = false := by
  rw [atKey_of_not_has (h.no hc)] at hb
  simpa using hb.symm
theorem Seen.push {M : List Int} {c : Nat} {D : DataW Unit} (h : Seen M c D) : Seen M (c + 1) (D.put (.int .i64 (plc 15 M c)) (.lit (.bool true))) := by
  refine ⟨h.1.put _ _, fun x hx => ?_⟩
  by_cases e : x = plc 15 M c
  · exact ⟨c, by omega, e.symm⟩
  · rw [has_put_other (by intro h; injection h with _ h; exact e h)] at hx
    obtain ⟨j, hj, hp⟩ := h.2 x hx
    exact ⟨j, by omega, hp⟩
/-- where the blocks are -/
structure Last (M : List Int) (D : DataW Unit) : Prop where
  map : IsMap D
  has : ∀ x : Int, has D (.int .i64 x) = decide (x ∈ M)
  at_ : ∀ x : Int, x ∈ M → D.atKey (.int .i64 x) (.lit (.int .i64 0)) = .lit (.int .i64 (plc 20 M x))
theorem Last.start : Last [] (.map []) := ⟨isMap_empty, fun x => by simp [has_eq], fun x h => by cases h⟩
theorem Last.push {M : List Int} {D : DataW Unit} (h : Last M D) (x : Int) : Last (M ++ [x]) (D.put (.int .i64 x) (.lit (.int .i64 (20 + M.length)))) := by
  refine ⟨h.map.put _ _, fun y => ?_, fun y hy => ?_⟩
  · by_cases e : y = x
    · rw [e, has_put_same h.map (show WideAt.IsKeyLit (.int .i64 x) from trivial)]; simp
    · rw [has_put_other (by intro h; injection h with _ h; exact e h), h.has]; simp [e]
  · rw [plc_snoc]
    by_cases e : y = x
    · rw [e, if_pos rfl, atKey_put_same h.map (show WideAt.IsKeyLit (.int .i64 x) from trivial)]
    · rw [if_neg (fun h => e h.symm), atKey_put_other (by intro h; injection h with _ h; exact e h)]
      exact h.at_ y (by simpa [e] using hy)
/-- 'v, ok := at[x]' -/
theorem Last.look {M : List Int} {D : DataW Unit} (L : Last M D) {w : World} {b n : Nat} (h : w.ownsMap Try.prog 3 (plainElem (H := Unit) Try.prog 3) b n D) {x : Int} (hw : (Lit.int .i64 x).wf = true) :
    ∃ c : Int, (Instr.lookup 48 (.map (some b)) (.int .i64 x) true).run Try.prog w = .ok (.tuple #[.int .i64 c, .bool (decide (x ∈ M))]) w ∧ (x ∈ M → c = plc 20 M x) := by
  have hw0 : (Lit.int .i64 0).wf = true := by decide
  obtain ⟨v, ps, hrun, hv⟩ := h.look_ok (int_keyed Try.underlying3) Try.underlying48 (zero_int w) (plainElem_int Try.underlying3 hw0) (keyOf_int_mk Try.underlying3 hw)
  obtain ⟨c, rfl, hc, _⟩ := plainElem_int_inv Try.underlying3 hv
  simp only [Prod.mk.injEq] at hc
  refine ⟨c, by rw [hrun, L.has], fun hx => ?_⟩
  have := hc.1
  rw [L.at_ x hx] at this
  simpa using this.symm
theorem mvd_push (x : Nat) (m : List Int) : ∀ j, (mvd j (m ++ [(x : Int)])).length = (mvd j m).length + (if x < j ∧ ¬ (x : Int) ∈ m then 1 else 0)
  | 0 => by simp [mvd]
  | j + 1 => by
    have ih := mvd_push x m j
    rw [mvd_succ, mvd_succ]
    by_cases hj : j = x
    · subst hj
      rw [if_pos (by simp)]
      by_cases hm : (j : Int) ∈ m
      · rw [if_pos hm]
        simp only [hm, not_true, and_false, if_false, List.length_append, List.length_cons, List.length_nil] at ih ⊢
        omega
      · rw [if_neg hm]
        simp only [hm, not_false_iff, and_true, Nat.lt_irrefl, if_false, List.length_append, List.length_cons, List.length_nil, Nat.lt_succ_self, if_true] at ih ⊢
        omega
    · have e1 : (j : Int) ∈ m ++ [(x : Int)] ↔ (j : Int) ∈ m := by
        simp only [List.mem_append, List.mem_cons, List.mem_nil_iff, or_false]
        constructor
        · rintro (h | h)
          · exact h
          · omega
        · exact Or.inl
      have e2 : (x < j + 1 ∧ ¬ (x : Int) ∈ m) ↔ (x < j ∧ ¬ (x : Int) ∈ m) := by
        constructor <;> rintro ⟨h1, h2⟩ <;> exact ⟨by omega, h2⟩
      simp only [e1, e2]
      by_cases hm : (j : Int) ∈ m
      · rw [if_pos hm, if_pos hm, List.length_append, List.length_append, ih]; simp; omega
      · rw [if_neg hm, if_neg hm, ih]
/-- how many of them there are -/
def Cnt (M : List Int) (D : DataW Unit) : Prop := Maps.size D = (mvd 20 M).length
theorem Cnt.start : Cnt [] (.map []) := by
  have : mvd 20 [] = [] := by unfold mvd; rw [List.filter_eq_nil_iff.2 (by simp)]; rfl
  unfold Cnt; rw [this]; rfl
theorem Cnt.push {M : List Int} {D : DataW Unit} (h : Cnt M D) (hl : Last M D) (ht : Tidy D) (x : Nat) (hx : x < 20) : Cnt (M ++ [(x : Int)]) (D.put (.int .i64 x) (.lit (.int .i64 (20 + M.length)))) := by
  unfold Cnt at h ⊢
  rw [size_put ht, hl.has, mvd_push, h]
  by_cases hm : (x : Int) ∈ M
  · simp [hm]
  · simp [hm, hx]
end Go.Proofs.Ytonfafjacmifaaa.Tab
