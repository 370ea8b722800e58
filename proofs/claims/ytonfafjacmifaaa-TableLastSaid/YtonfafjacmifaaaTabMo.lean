/- Contracts of layer 6 (table): Moved: slices.Clone, slices.Sort, slices.Compact. -/
import Derived.Test.YtonfafjacmifaaaTabN
import Derived.Test.YtonfafjacmifaaaShelf
import Derived.Sort.OwnSortedInts
import Derived.Lib.RowBridge
namespace Go.Proofs.Ytonfafjacmifaaa.Tab
open Go.RowKit Go.Sort Go.Lib Go.Proofs.Ytonfafjacmifaaa Go.Proofs.Ytonfafjacmifaaa.Lend
set_option linter.unusedVariables false

/-- two rising rows of the same numbers are one row -/
theorem strict_ext : ∀ (a b : List Int), a.Pairwise (· < ·) → b.Pairwise (· < ·) → (∀ x, x ∈ a ↔ x ∈ b) → a = b
  | [], [], _, _, _ => rfl
  | [], y :: b, _, _, h => absurd ((h y).2 (by simp)) (by simp)
  | x :: a, [], _, _, h => absurd ((h x).1 (by simp)) (by simp)
  | x :: a, y :: b, ha, hb, h => by
    rw [List.pairwise_cons] at ha hb
    have h1 := (h x).1 (by simp)
    have h2 := (h y).2 (by simp)
    have hxy : x = y := by
      rcases List.mem_cons.1 h1 with h1 | h1
      · exact h1
      · rcases List.mem_cons.1 h2 with h2 | h2
        · exact h2.symm
        · have := hb.1 x h1; have := ha.1 y h2; omega
    subst hxy
    congr 1
    refine strict_ext a b ha.2 hb.2 fun z => ⟨fun hz => ?_, fun hz => ?_⟩
    · rcases List.mem_cons.1 ((h z).1 (List.mem_cons_of_mem _ hz)) with e | e
      · have := ha.1 z hz; omega
      · exact e
    · rcases List.mem_cons.1 ((h z).2 (List.mem_cons_of_mem _ hz)) with e | e
      · have := hb.1 z hz; omega
      · exact e
theorem mvd_strict (j : Nat) (m : List Int) : (mvd j m).Pairwise (· < ·) := by
  unfold mvd
  rw [List.pairwise_map]
  refine List.Pairwise.imp ?_ (List.Pairwise.filter _ List.pairwise_lt_range)
  intro a b h; omega
theorem compactUpTo_sorted (d : Array Int) (hd : ∀ i j, i ≤ j → j < d.size → d[i]! ≤ d[j]!) : ∀ c, c ≤ d.size → (compactUpTo d c).Pairwise (· < ·) ∧ ∀ x, x ∈ compactUpTo d c ↔ ∃ i, i < c ∧ d[i]! = x := by
  intro c
  induction c with
  | zero => intro _; exact ⟨by simp [compactUpTo], fun x => by simp [compactUpTo]⟩
  | succ c ih =>
    intro hc
    obtain ⟨h1, h2⟩ := ih (by omega)
    rw [compactUpTo_succ]
    by_cases hk : keeps d c = true
    · rw [if_pos hk]
      refine ⟨?_, fun x => ?_⟩
      · rw [List.pairwise_append]
        refine ⟨h1, by simp, fun a ha b hb => ?_⟩
        obtain ⟨i, hi, rfl⟩ := (h2 a).1 ha
        have hb' : b = d[c]! := by simpa using hb
        subst hb'
        have hne : c = 0 ∨ d[c]! ≠ d[c - 1]! := by simpa [keeps] using hk
        have e1 := hd i (c - 1) (by omega) (by omega)
        have e2 := hd (c - 1) c (by omega) (by omega)
        rcases hne with e | e <;> omega
      · rw [List.mem_append, h2]
        constructor
        · rintro (⟨i, hi, e⟩ | e)
          · exact ⟨i, by omega, e⟩
          · exact ⟨c, by omega, by rw [List.mem_singleton.1 e]⟩
        · rintro ⟨i, hi, e⟩
          by_cases hic : i = c
          · subst hic; exact .inr (by simpa using e.symm)
          · exact .inl ⟨i, by omega, e⟩
    · rw [if_neg hk, List.append_nil]
      refine ⟨h1, fun x => ?_⟩
      rw [h2]
      have hne : ¬ (c = 0 ∨ d[c]! ≠ d[c - 1]!) := by simpa [keeps] using hk
      have h0 : c ≠ 0 := fun e => hne (.inl e)
      have he : d[c]! = d[c - 1]! := by
        by_cases e : d[c]! = d[c - 1]!
        · exact e
        · exact absurd (.inr e) hne
      constructor
      · rintro ⟨i, hi, e⟩; exact ⟨i, by omega, e⟩
      · rintro ⟨i, hi, e⟩
        by_cases hic : i = c
        · subst hic; exact ⟨i - 1, by omega, by rw [← he]; exact e⟩
        · exact ⟨i, by omega, e⟩
def sorted (m : List Int) : List Int := m.mergeSort fun x y => decide (x ≤ y)
theorem sorted_length (m : List Int) : (sorted m).length = m.length := List.length_mergeSort m
theorem compact_sorted {n k : Int} {m : List Int} (h : Good n k m) : compact (sorted m) = mvd n.toNat m := by
  have hs : (sorted m).Pairwise fun a b => decide (a ≤ b) = true := List.pairwise_mergeSort (fun a b c h1 h2 => by simp at *; omega) (fun a b => by simp; omega) m
  have hd : ∀ i j, i ≤ j → j < (sorted m).toArray.size → (sorted m).toArray[i]! ≤ (sorted m).toArray[j]! := by
    intro i j hij hj
    have hj' : j < (sorted m).length := by simpa using hj
    rw [getElem!_pos _ i (by simp; omega), getElem!_pos _ j (by simpa using hj)]
    by_cases e : i = j
    · subst e; exact Int.le_refl _
    · have := List.pairwise_iff_getElem.1 hs i j (by omega) hj' (by omega)
      simpa using this
  obtain ⟨h1, h2⟩ := compactUpTo_sorted (sorted m).toArray hd (sorted m).length (by simp)
  refine strict_ext _ _ h1 (mvd_strict _ _) fun x => ?_
  have hb := h.bd
  rw [show compact (sorted m) = compactUpTo (sorted m).toArray (sorted m).length from rfl, h2, mvd_mem]
  have hmem : (∃ i, i < (sorted m).length ∧ (sorted m).toArray[i]! = x) ↔ x ∈ sorted m := by
    rw [List.mem_iff_getElem]
    constructor
    · rintro ⟨i, hi, e⟩
      rw [getElem!_pos _ i (by simpa using hi)] at e
      exact ⟨i, hi, by simpa using e⟩
    · rintro ⟨i, hi, e⟩
      exact ⟨i, hi, by rw [getElem!_pos _ i (by simpa using hi)]; simpa using e⟩
  rw [hmem, show (x ∈ sorted m ↔ x ∈ m) from List.mem_mergeSort]
  constructor
  · intro hx; have := h.mem x hx; exact ⟨this.1, by omega, hx⟩
  · intro hx; exact hx.2.2

set_option maxRecDepth 100000 in
theorem moved_any (n k : Int) (m : List Int) (w : World) (hg : Good n k m) : Calls Try.prog 19 #[.agg (ta n k m)] w fun e w' => ∃ ao' len' cap', e = .returned (.slice ao' len' cap') ∧ Ints w' ao' len' cap' (mvd n.toNat m) ∧ NewA w.heap.size ao' ∧ Below w.heap.size w w' := by
  obtain ⟨g1, g2, g3, g4, g5⟩ := hg.bd
  have HG := Lib.hid hg
  have hT := Lib.hid (TAt.made w n k m)
  have hB := Lib.hid (b_new w (.cells (ta n k m) 25))
  have hsz : (w.alloc (.cells (ta n k m) 25)).heap.size = w.heap.size + 1 := by simp
  have e2 := hT.out.c2
  have hsl := slice_sp w.heap.size m.length g5
  obtain ⟨u, hu⟩ : ∃ u, u = m.length := ⟨_, rfl⟩
  have HU := Lib.hid hu
  have hu5 : u ≤ 32 := by omega
  rw [← hu] at e2 hsl
  clear hg hu g5
  go_enter Try.func19, Try.ntmps19
  go_wp2_with fail
  refine (Try.slices_Clone_int w.heap.size 3 u 32 m _ (by rw [HU.out]; exact Nat.le_refl _) (by omega) (fun j hj => hT.out.cm j (by rw [← HU.out] at hj; omega))).mono ?_
  rintro e w2 ⟨v', rfl, hown, hne, hb⟩
  rw [hsz] at hown
  obtain ⟨hx, hown⟩ := hown
  rcases hown with ⟨hv, _⟩ | ⟨g, cap, cur, rfl, hgB, hgg, h1, h2, h3, h4⟩
  · exact absurd hv hne
  have hB2 := Lib.hid (b_on hB.out hb)
  rw [HU.out, List.take_length, Nat.mul_one] at h4
  have hH := Lib.hid (holds_of_blockI hgg h4)
  have hlt : g < w2.heap.size := (Array.getElem?_eq_some_iff.1 hgg).1
  have HGG := Lib.hid hgg
  have H3 := Lib.hid h3
  clear hx hne hgg h3 h4 hb e2 hsl hB hT hsz
  go_wp2_with fail
  have hc1 := Try.slices_Sort_int g 0 cap m w2 hH.out hlt (by rw [← HU.out]; omega)
  rw [← HU.out] at hc1
  refine hc1.mono ?_
  clear hc1
  rintro e w3 ⟨rfl, q1, os, hw3⟩
  have hgg3 := heap_sortedI (n := q1) (os := os) (sorted m).toArray HGG.out
  have hgr3 := grownBy_sortedI (w := w2) (g := g) (n := q1) (os := os) (sorted m).toArray
  rw [show (grow (putRow (Value.int .i64) (Sort.ahead w2 q1) g 0 (sorted m).toArray) os) = w3 from hw3.symm] at hgg3 hgr3
  have hB3 := Lib.hid (hB2.out.grown hgr3 hB2.out.size (fun k hk => by cases hk; omega))
  have hsl : (sorted m).length = u := by rw [sorted_length, HU.out]
  have htk := take_putCellsI cur (sorted m) (by rw [hsl, H3.out]; omega)
  have hH3 := Lib.hid (holds_of_blockI hgg3 htk)
  have hlt3 : g < w3.heap.size := (Array.getElem?_eq_some_iff.1 hgg3).1
  have HG3 := Lib.hid hgg3
  have HSL := Lib.hid hsl
  clear hw3 hgg3 hgr3 htk hB2 hsl
  go_wp2_with fail
  have hc2 := Try.slices_Compact_int g 0 cap (sorted m) w3 hH3.out (by rw [HSL.out]; omega) (by rw [HSL.out]; exact h1)
  rw [HSL.out] at hc2
  refine hc2.mono ?_
  clear hc2
  rintro e w4 ⟨rfl, q2, hw4⟩
  have hle := compact_length_le (sorted m)
  rw [HSL.out] at hle
  have hown4 := ownsRow_sortedI (base := w.heap.size) (w := w3) (g := g) (cap := cap) (n := q2) (os := #[]) (ss := sorted m) (ts := compact (sorted m) ++ List.replicate (u - (compact (sorted m)).length) 0) (by simp [HSL.out]; omega) (by omega) HG3.out (by rw [HSL.out]; exact h1) h2 (by rw [show (putCells (Value.int .i64) 0 (sorted m).toArray cur).size = cur.size by simp [putCells]]; exact H3.out)
  have hgr4 := grownBy_sortedI (w := w3) (g := g) (n := q2) (os := #[]) (compact (sorted m) ++ List.replicate (u - (compact (sorted m)).length) 0).toArray
  rw [grow_empty, ← hw4] at hown4 hgr4
  have hB4 := Lib.hid (hB3.out.grown hgr4 hB3.out.size (fun k hk => by cases hk; omega))
  have hrow := (Row.own hown4).take (compact (sorted m)).length (by rw [HSL.out]; exact hle)
  rw [List.take_left, compact_sorted HG.out] at hrow
  have HI := Lib.hid (Ints.mk (cap := cap) hrow (by rw [← compact_sorted HG.out]; omega) (fun e => by cases e))
  rw [compact_sorted HG.out]
  clear hown4 hgr4 hrow hw4
  go_wp2_with fail
  go_ret
  exact ⟨_, _, _, rfl, HI.out, (fun a ha => by cases ha; show w.heap.size ≤ g; omega), hB4.out⟩
end Go.Proofs.Ytonfafjacmifaaa.Tab
