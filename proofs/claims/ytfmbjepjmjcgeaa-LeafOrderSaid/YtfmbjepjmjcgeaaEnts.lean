/- Rows of entries, for layer 16 on (two cells each). An entry is told as an update of which key and value alone count. -/
import Derived.Test.YtfmbjepjmjcgeaaUps
import Derived.Test.YtfmbjepjmjcgeaaBufMath
import Derived.Test.YtfmbjepjmjcgeaaAppF
import Derived.Lib.AppendZerosOnto
import Derived.Lib.SliceRun
namespace Go.Proofs.Ytfmbjepjmjcgeaa.Leaf
open Go Go.RowKit Go.Proofs.Ytfmbjepjmjcgeaa Go.Proofs.Ytfmbjepjmjcgeaa.Lend Go.Proofs.Ytfmbjepjmjcgeaa.Rec Go.Proofs.Ytfmbjepjmjcgeaa.Msg Go.Proofs.Ytfmbjepjmjcgeaa.Buf
set_option linter.unusedVariables false

/-- an entry's two cells -/
def encE (u : Up) : List Value := [.string (Lend.strOf u.key), .string (Lend.strOf u.val)]
/-- a slice that reads as the updates l -/
structure ER (w : World) (v : Value) (l : List Up) : Prop where
  form : ∃ a cap, v = .slice a l.length cap ∧ (0 < l.length → ∃ g off, a = some ⟨g, off, none⟩ ∧ ∀ i (hi : i < l.length) j, j < 2 → w.cell? ⟨g, off + i * 2 + j, none⟩ = (encE l[i])[j]?)
theorem ER.below {w w' : World} {v : Value} {l : List Up} (h : ER w v l) (hb : Below w.heap.size w w') : ER w' v l := by
  obtain ⟨a, cap, rfl, hx⟩ := h.form
  refine ⟨a, cap, rfl, fun h0 => ?_⟩
  obtain ⟨g, off, rfl, hc⟩ := hx h0
  refine ⟨g, off, rfl, fun i hi j hj => ?_⟩
  rw [← hc i hi j hj]
  have h1 := hc i hi j hj
  have h2 : (encE l[i])[j]? = some ((encE l[i])[j]'(by simpa [encE] using hj)) := List.getElem?_eq_getElem _
  rw [h2] at h1
  exact hb.cell (World.block_lt_of_cell? _ _ h1)
def flatE (l : List Up) : List Value := l.flatMap encE
theorem flatE_length (l : List Up) : (flatE l).length = l.length * 2 := by
  unfold flatE
  induction l with
  | nil => rfl
  | cons u l ih => rw [List.flatMap_cons, List.length_append, ih]; simp [encE]; omega
theorem flatE_snoc (l : List Up) (u : Up) : flatE (l ++ [u]) = flatE l ++ encE u := by unfold flatE; simp
theorem flatE_append (a b : List Up) : flatE (a ++ b) = flatE a ++ flatE b := List.flatMap_append
theorem flatE_get : ∀ (l : List Up) (i : Nat) (hi : i < l.length) (j : Nat), j < 2 → (flatE l)[i * 2 + j]? = (encE l[i])[j]?
  | [], i, hi, _, _ => by cases hi
  | u :: l, 0, _, j, hj => by
    unfold flatE
    rw [List.flatMap_cons, List.getElem?_append_left (by simp [encE]; omega)]
    simp
  | u :: l, i + 1, hi, j, hj => by
    have e : flatE (u :: l) = encE u ++ flatE l := by unfold flatE; simp
    rw [e, List.getElem?_append_right (by simp [encE]; omega), show (i + 1) * 2 + j - (encE u).length = i * 2 + j by simp [encE]; omega]
    exact flatE_get l i (by simpa using hi) j hj
theorem ER.of_own {w : World} {base : Nat} {e : TypeId} {v : Value} {l : List Up} (h : w.ownsRow base e 2 v l.length (flatE l)) : ER w v l := by
  rcases h.2 with ⟨hv, h0⟩ | ⟨g, cap, cur, hv, hb, hg, hn, hm, hs, ht⟩
  · exact ⟨none, 0, by rw [hv, h0], fun hp => by omega⟩
  · refine ⟨some ⟨g, 0, none⟩, cap, hv, fun _ => ⟨g, 0, rfl, fun i hi j hj => ?_⟩⟩
    rw [← flatE_get l i hi j hj, ← ht, List.getElem?_take, if_pos (by omega)]
    unfold World.cell?
    simp only [hg]
    simp
theorem ER.slice {w : World} {v : Value} {l : List Up} (h : ER w v l) : ∃ a cap, v = .slice a l.length cap := by obtain ⟨a, cap, hv, _⟩ := h.form; exact ⟨a, cap, hv⟩
theorem encE_one (u : Up) : ∀ x ∈ encE u, x.oneCell' = true := by
  intro x hx
  simp only [encE, List.mem_cons, List.mem_nil_iff, or_false] at hx
  rcases hx with rfl | rfl <;> rfl
theorem flatE_one (l : List Up) : ∀ u ∈ flatE l, u.oneCell' = true := by
  intro u hu
  obtain ⟨x, _, hx⟩ := List.mem_flatMap.1 hu
  exact encE_one x u hx
theorem er_of {w : World} {a : Option Addr} {len cap : Nat} (Q : Up → Prop) (h : 0 < len → ∃ b off, a = some ⟨b, off, none⟩ ∧ ∀ i, i < len → ∃ u : Up, Q u ∧ ∀ j, j < 2 → w.cell? ⟨b, off + i * 2 + j, none⟩ = (encE u)[j]?) :
    ∃ l, len = l.length ∧ ER w (.slice a len cap) l ∧ ∀ u ∈ l, Q u := by
  by_cases h0 : 0 < len
  · obtain ⟨b, off, rfl, hx⟩ := h h0
    obtain ⟨l, hl, hp⟩ := list_of len _ hx
    subst hl
    refine ⟨l, rfl, ⟨_, cap, rfl, fun _ => ⟨b, off, rfl, fun i hi => (hp i hi).2⟩⟩, fun u hu => ?_⟩
    obtain ⟨i, hi, rfl⟩ := List.mem_iff_getElem.1 hu
    exact (hp i hi).1
  · have : len = 0 := by omega
    subst this
    exact ⟨[], rfl, ⟨a, cap, rfl, fun h => by cases h⟩, fun u hu => by cases hu⟩
theorem ER.at_ {w : World} {ao : Option Addr} {n cap : Nat} {l : List Up} (h : ER w (.slice ao n cap) l) (h0 : 0 < l.length) : ∃ g off, ao = some ⟨g, off, none⟩ ∧ ∀ i (hi : i < l.length) j, j < 2 → w.cell? ⟨g, off + i * 2 + j, none⟩ = (encE l[i])[j]? := by
  obtain ⟨a, cap', he, hx⟩ := h.form
  obtain ⟨g, off, ha, hc⟩ := hx h0
  refine ⟨g, off, ?_, hc⟩
  simp at he
  rw [he.1, ha]
theorem ER.cap {w : World} {ao : Option Addr} {n c : Nat} {l : List Up} (h : ER w (.slice ao n c) l) (c' : Nat) : ER w (.slice ao n c') l := by
  obtain ⟨a, cap, he, hx⟩ := h.form
  simp at he
  obtain ⟨rfl, rfl, rfl⟩ := he
  exact ⟨_, c', rfl, hx⟩
theorem ER.nil (w : World) : ER w (.slice none 0 0) [] := ⟨none, 0, rfl, fun h => by cases h⟩
/-- a row of updates of one's own, of either type -/
abbrev EO (T : TypeId) (w : World) (base : Nat) (v : Value) (l : List Up) : Prop := w.ownsRow base T 2 v l.length (flatE l)
def IsE (T : TypeId) : Prop := (Try.prog.info? T).map (fun i => (i.zero, i.size, i.bytes)) = some (some (.agg #[.string ⟨#[]⟩, .string ⟨#[]⟩]), 2, 32)
theorem er_news {w : World} {g off m c : Nat} {l : List Up} (h : ER w (.slice (some ⟨g, off, none⟩) m c) l) : ∀ j u, (flatE l)[j]? = some u → w.cell? ((⟨g, off, none⟩ : Addr).add j) = some u := by
  intro j u hj
  rw [Addr.add_lit]
  have hl := (List.getElem?_eq_some_iff.1 hj).1
  rw [flatE_length] at hl
  have h0 : 0 < l.length := by omega
  obtain ⟨g', off', he, hc⟩ := ER.at_ h h0
  simp only [Option.some.injEq, Addr.mk.injEq, and_true] at he
  obtain ⟨rfl, rfl⟩ := he
  have hi : j / 2 < l.length := by omega
  have := hc (j / 2) hi (j % 2) (by omega)
  rw [← flatE_get l (j / 2) hi (j % 2) (by omega), show j / 2 * 2 + j % 2 = j by omega, hj] at this
  rw [← this]
  congr 2
  omega
theorem er_len {w : World} {a : Option Addr} {m c : Nat} {l : List Up} (h : ER w (.slice a m c) l) : m = l.length := by
  obtain ⟨a', c', he, _⟩ := h.form
  simp at he
  exact he.2.1
theorem er_some {w : World} {a : Option Addr} {m c : Nat} {l : List Up} (h : ER w (.slice a m c) l) (h0 : 0 < l.length) : ∃ g off, a = some ⟨g, off, none⟩ := by
  obtain ⟨g, off, he, _⟩ := ER.at_ h h0
  exact ⟨g, off, he⟩
/-- append(v, x...) -/
theorem eapp_own {T S : TypeId} (hS : Try.prog.underlying S = some (.slice T)) (hI : IsE T) (ty : TypeId) {w : World} {B : Nat} {v x : Value} {la lb : List Up} (ha : EO T w B v la) (hb : ER w x lb) (hB : B ≤ w.heap.size) (hn : la.length + lb.length ≤ 1000000000) :
    ∃ v' w', (Builtin.append_ #[S, S] ty #[v, x]).run Try.prog w = .ok v' w' ∧ EO T w' B v' (la ++ lb) ∧ w.grownBy w' v.ownBlock ∧ ∀ k, v'.ownBlock = some k → v.ownBlock = some k ∨ (w.heap.size ≤ k ∧ Below w.heap.size w w') := by
  obtain ⟨i0, hi, hz0, hz1, hz2⟩ := info_parts hI
  obtain ⟨a, cap, rfl, hx⟩ := hb.form
  by_cases h0 : 0 < lb.length
  · obtain ⟨g, off, rfl, hc⟩ := hx h0
    have hnews := er_news hb
    obtain ⟨v', w', hr, h2, h3, _⟩ := run_append_own (P := Try.prog) w B S ty T i0 _ 2 32 hS hi hz0 hz1 hz2 rfl (by decide) v la.length (flatE la) ha ⟨g, off, none⟩ lb.length cap (flatE lb) (flatE_length lb) hnews (flatE_one lb) (by unfold maxLen; omega) (by omega) hB
    refine ⟨v', w', hr, by unfold EO; rw [flatE_append, List.length_append]; exact h2, h3, ?_⟩
    exact append_place (P := Try.prog) w B S ty T i0 _ 2 32 hS hi hz0 hz1 hz2 rfl (by decide) v la.length (flatE la) ha ⟨g, off, none⟩ lb.length cap (flatE lb) (flatE_length lb) hnews (flatE_one lb) (by unfold maxLen; omega) (by omega) hr
  · have hl0 : lb.length = 0 := by omega
    have : lb = [] := List.eq_nil_of_length_eq_zero hl0
    subst this
    refine ⟨v, w, ?_, by unfold EO; rw [List.append_nil]; exact ha, World.grownBy.refl _ _, fun k hk => .inl hk⟩
    have hsz : i0.size = 2 := hz1
    rcases ha.2 with ⟨rfl, h1⟩ | ⟨g, cap', cur, rfl, hb', hg, hn', hm, hs, ht⟩
    · cases a <;> simp [Builtin.append_, run_underlying hS, sizeOf, typeInfo, hi, Builtin.lenOf, Builtin.firstCells, loadCells, loadCellsFrom]
    · cases a <;> simp [Builtin.append_, run_underlying hS, sizeOf, typeInfo, hi, Builtin.lenOf, Builtin.firstCells, loadCells, loadCellsFrom, hn', storeCells]
theorem eo_new {T : TypeId} (w : World) (cur : Array Value) (cap B : Nat) (hb : B ≤ w.heap.size) (hm : cap ≤ maxLen) (hs : cur.size = cap * 2) : EO T (w.alloc (.cells cur T)) B (.slice (some ⟨w.heap.size, 0, none⟩) 0 cap) [] := World.ownsRow_made w cur cap hb hm hs
theorem isE_p : IsE 53 := by unfold IsE; kernel_rfl
theorem isE_d : IsE 52 := by unfold IsE; kernel_rfl
theorem und_e : Try.prog.underlying 23 = some (.slice 53) := Try.underlying23
theorem und_d : Try.prog.underlying 26 = some (.slice 52) := Try.underlying26
/-- a row of the program's entries; of the document's -/
abbrev EA (w : World) (base : Nat) (v : Value) (l : List Up) : Prop := EO 53 w base v l
abbrev ED (w : World) (base : Nat) (v : Value) (l : List Up) : Prop := EO 52 w base v l
set_option maxRecDepth 100000 in
set_option maxHeartbeats 4000000 in
theorem eclone_any {v : Value} {l : List Up} {w : World} (h : ER w v l) (hl : l.length ≤ 1000000) : Calls Try.prog 39 #[v] w fun e w' => ∃ v', e = .returned v' ∧ EA w' w.heap.size v' l ∧ Below w.heap.size w w' := by
  obtain ⟨a, cap, rfl, hx⟩ := h.form
  have q22 : ∀ (w : World) (a : Option Addr) (n c n' c' : Nat), (binOp .eql 23 (.slice a n c) (.slice none n' c')).run Try.prog w = .ok (.bool a.isNone) w := fun w a n c n' c' => Lib.run_eql_slice_nil w _ _ a n c n' c' und_e
  have HX := Lib.hid hx
  have HU := Lib.hid h
  have HL := Lib.hid hl
  clear h hx hl
  cases a with
  | none =>
    have e0 : l = [] := by
      refine List.eq_nil_of_length_eq_zero ?_
      have := HX.out
      by_cases h0 : 0 < l.length
      · obtain ⟨g, off, h1, _⟩ := this h0; cases h1
      · omega
    subst e0
    go_enter Try.func39, Try.ntmps39
    go_wp2_with fail
    go_ret
    exact ⟨_, rfl, World.ownsRow_nil _ _ _ _, Below.refl _ _⟩
  | some ad =>
    have HB0 := Lib.hid (below_new w (.cells #[] 53))
    have HR0 : Hid (EA (w.alloc (.cells #[] 53)) w.heap.size (.slice (some ⟨w.heap.size, 0, none⟩) 0 0) []) := Lib.hid (eo_new w #[] 0 _ (Nat.le_refl _) (by unfold maxLen; omega) rfl)
    obtain ⟨v', w', hr, hro, hg, _⟩ := eapp_own und_e isE_p 23 HR0.out (HU.out.below HB0.out) HB0.out.size (by have := HL.out; simp only [List.length_nil]; omega)
    have HRO := Lib.hid hro
    have HB := Lib.hid (HB0.out.grown hg HB0.out.size (fun k hk => (HR0.out.lt k hk).1))
    have HR := Lib.hid hr
    clear hr hro hg
    go_enter Try.func39, Try.ntmps39
    go_wp2_with (at_builtin; refine wpList_append_run rfl _ _ _ _ rfl _ _ _ rfl rfl HR.out ?_)
    go_ret
    exact ⟨_, rfl, HRO.out, HB.out⟩
end Go.Proofs.Ytfmbjepjmjcgeaa.Leaf
