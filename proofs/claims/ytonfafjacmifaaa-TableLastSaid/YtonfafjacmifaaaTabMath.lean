/- Plain mathematics of layer 6 (table): where blocks are. -/
import Derived.Test.YtonfafjacmifaaaLendMath
import Derived.Test.YtonfafjacmifaaaLendBackMath
namespace Go.Proofs.Ytonfafjacmifaaa.Tab
open Go.RowKit Go.Proofs.Ytonfafjacmifaaa Go.Proofs.Ytonfafjacmifaaa.Lend

/-- may there be so many blocks and spares? -/
def mayB (n k : Int) : Bool := decide (1 ≤ n) && (decide (n ≤ 4096) && (decide (0 ≤ k) && decide (k ≤ 32)))
theorem mayB_parts {n k : Int} (h : mayB n k = true) : 1 ≤ n ∧ n ≤ 4096 ∧ 0 ≤ k ∧ k ≤ 32 := by
  simp only [mayB, Bool.and_eq_true, decide_eq_true_eq] at h; omega
theorem mayB_of {n k : Int} (h1 : 1 ≤ n) (h2 : n ≤ 4096) (h3 : 0 ≤ k) (h4 : k ≤ 32) : mayB n k = true := by simp [mayB, h1, h2, h3, h4]
theorem mayB_no {n k : Int} (h : n < 1 ∨ 4096 < n ∨ k < 0 ∨ 32 < k) : mayB n k = false := by
  simp only [mayB, Bool.and_eq_false_iff, decide_eq_false_iff_not]; omega

/-- the place of a block: that of the last spare it was moved to, or its own -/
def plcR (n b : Int) : List Int → Int
  | [] => b
  | x :: r => if x = b then n + r.length else plcR n b r
def plc (n : Int) (m : List Int) (b : Int) : Int := plcR n b m.reverse
theorem plc_nil (n b : Int) : plc n [] b = b := rfl
theorem plc_snoc (n : Int) (m : List Int) (x b : Int) : plc n (m ++ [x]) b = if x = b then n + m.length else plc n m b := by
  simp [plc, plcR]
theorem plc_take (n : Int) (m : List Int) (b : Int) (i : Nat) (hi : i < m.length) : plc n (m.take (i + 1)) b = if m.getD i 0 = b then n + i else plc n (m.take i) b := by
  rw [take_snoc' m i hi, plc_snoc]
  have : (m.take i).length = i := by rw [List.length_take]; omega
  rw [this]
/-- of a block that isn't among those behind the first i: the first i tell -/
theorem plc_back (n : Int) (m : List Int) (b : Int) (i : Nat) (h : ∀ j, i ≤ j → j < m.length → m.getD j 0 ≠ b) : plc n m b = plc n (m.take i) b := by
  have key : ∀ c, i + c ≤ m.length → plc n (m.take (i + c)) b = plc n (m.take i) b := by
    intro c
    induction c with
    | zero => intro _; rfl
    | succ c ih =>
      intro hc
      rw [← Nat.add_assoc, plc_take n m b (i + c) (by omega), if_neg (h _ (by omega) (by omega))]
      exact ih (by omega)
  by_cases hi : i ≤ m.length
  · have := key (m.length - i) (by omega)
    rw [show i + (m.length - i) = m.length by omega, List.take_length] at this
    exact this
  · rw [List.take_of_length_le (by omega)]
theorem plc_hit (n : Int) (m : List Int) (b : Int) (i : Nat) (hi : i < m.length) (hb : m.getD i 0 = b) (h : ∀ j, i < j → j < m.length → m.getD j 0 ≠ b) : plc n m b = n + i := by
  rw [plc_back n m b (i + 1) (fun j hj => h j (by omega)), plc_take n m b i hi, if_pos hb]
/-- either its own place, and it isn't among those that were moved, or a spare that it was moved to -/
theorem plc_cases (n : Int) (m : List Int) (b : Int) : (plc n m b = b ∧ b ∉ m) ∨ ∃ i, i < m.length ∧ plc n m b = n + i ∧ m.getD i 0 = b := by
  have key : ∀ c, c ≤ m.length → (plc n (m.take c) b = b ∧ b ∉ m.take c) ∨ ∃ i, i < c ∧ plc n (m.take c) b = n + i ∧ m.getD i 0 = b := by
    intro c
    induction c with
    | zero => intro _; exact .inl ⟨rfl, by simp⟩
    | succ c ih =>
      intro hc
      rw [plc_take n m b c (by omega)]
      by_cases hx : m.getD c 0 = b
      · rw [if_pos hx]; exact .inr ⟨c, by omega, rfl, hx⟩
      · rw [if_neg hx]
        rcases ih (by omega) with ⟨h1, h2⟩ | ⟨i, h1, h2, h3⟩
        · refine .inl ⟨h1, ?_⟩
          rw [take_snoc' m c (by omega)]
          simp only [List.mem_append, List.mem_cons, List.mem_nil_iff, or_false, not_or]
          exact ⟨h2, fun e => hx e.symm⟩
        · exact .inr ⟨i, by omega, h2, h3⟩
  have := key m.length (Nat.le_refl _)
  rwa [List.take_length] at this
theorem plc_moved {n : Int} {m : List Int} {b : Int} (hb : b < n) : plc n m b ≠ b ↔ b ∈ m := by
  rcases plc_cases n m b with ⟨h1, h2⟩ | ⟨i, h1, h2, h3⟩
  · exact ⟨fun h => absurd h1 h, fun h => absurd h h2⟩
  · refine ⟨fun _ => ?_, fun _ => by omega⟩
    rw [← h3, List.getD_eq_getElem?_getD, List.getElem?_eq_getElem h1]; exact List.getElem_mem _
theorem plc_bd {n : Int} {m : List Int} {b : Int} (h0 : 0 ≤ b) (hb : b < n) : 0 ≤ plc n m b ∧ plc n m b < n + m.length := by
  rcases plc_cases n m b with ⟨h1, _⟩ | ⟨i, h1, h2, _⟩ <;> omega
theorem plc_inj {n : Int} {m : List Int} {b c : Int} (hb : b < n) (hc : c < n) (h : plc n m b = plc n m c) : b = c := by
  rcases plc_cases n m b with ⟨h1, _⟩ | ⟨i, _, h2, h3⟩ <;> rcases plc_cases n m c with ⟨k1, _⟩ | ⟨j, _, k2, k3⟩
  · omega
  · omega
  · omega
  · obtain rfl : i = j := by omega
    rw [← h3, ← k3]

/-- what At answers -/
def atB (n b : Int) : Bool := decide (0 ≤ b) && decide (b < n)
def atE (n b : Int) : Int := if atB n b = true then 0 else 3
def atN (n : Int) (m : List Int) (b : Int) : Int := if atB n b = true then plc n m b else 0
theorem at_yes {n : Int} {m : List Int} {b : Int} (h0 : 0 ≤ b) (h1 : b < n) : atB n b = true ∧ atE n b = 0 ∧ atN n m b = plc n m b := by
  have : atB n b = true := by simp [atB, h0, h1]
  exact ⟨this, by rw [atE, if_pos this], by rw [atN, if_pos this]⟩
theorem at_no {n : Int} {m : List Int} {b : Int} (h : b < 0 ∨ n ≤ b) : atB n b = false ∧ atE n b = 3 ∧ atN n m b = 0 := by
  have : atB n b = false := by simp only [atB, Bool.and_eq_false_iff, decide_eq_false_iff_not]; omega
  exact ⟨this, by rw [atE, if_neg (by rw [this]; decide)], by rw [atN, if_neg (by rw [this]; decide)]⟩

/-- what Move answers: its error, and what was moved then -/
def mvE (n k : Int) (m : List Int) (b : Int) : Int := if atB n b = true then (if (m.length : Int) < k then 0 else 9) else 3
theorem mv_yes {n k : Int} {m : List Int} {b : Int} (h0 : 0 ≤ b) (h1 : b < n) (h2 : (m.length : Int) < k) : mvE n k m b = 0 := by
  rw [mvE, if_pos (at_yes (m := m) h0 h1).1, if_pos h2]
theorem mv_full {n k : Int} {m : List Int} {b : Int} (h0 : 0 ≤ b) (h1 : b < n) (h2 : k ≤ (m.length : Int)) : mvE n k m b = 9 := by
  rw [mvE, if_pos (at_yes (m := m) h0 h1).1, if_neg (by omega)]
theorem mv_no {n k : Int} {m : List Int} {b : Int} (h : b < 0 ∨ n ≤ b) : mvE n k m b = 3 := by
  rw [mvE, (at_no (m := m) h).1]; rfl
theorem mvE_vals (n k : Int) (m : List Int) (b : Int) : mvE n k m b = 0 ∨ mvE n k m b = 3 ∨ mvE n k m b = 9 := by
  unfold mvE; split
  · split
    · exact .inl rfl
    · exact .inr (.inr rfl)
  · exact .inr (.inl rfl)

/-- a table's list of moved blocks is right -/
structure Good (n k : Int) (m : List Int) : Prop where
  may : mayB n k = true
  len : (m.length : Int) ≤ k
  mem : ∀ x ∈ m, 0 ≤ x ∧ x < n
theorem Good.nil {n k : Int} (h : mayB n k = true) : Good n k [] := ⟨h, (mayB_parts h).2.2.1, fun x hx => by cases hx⟩
theorem Good.bd {n k : Int} {m : List Int} (h : Good n k m) : 1 ≤ n ∧ n ≤ 4096 ∧ 0 ≤ k ∧ k ≤ 32 ∧ m.length ≤ 32 := by
  have := mayB_parts h.may; have := h.len; omega
theorem Good.getD {n k : Int} {m : List Int} (h : Good n k m) (i : Nat) (hi : i < m.length) : 0 ≤ m.getD i 0 ∧ m.getD i 0 < n := by
  apply h.mem; rw [List.getD_eq_getElem?_getD, List.getElem?_eq_getElem hi]; exact List.getElem_mem _
theorem Good.push {n k : Int} {m : List Int} {b : Int} (h : Good n k m) (e : mvE n k m b = 0) : Good n k (m ++ [b]) ∧ 0 ≤ b ∧ b < n ∧ (m.length : Int) < k := by
  have hb : 0 ≤ b ∧ b < n := by
    by_cases hb : b < 0 ∨ n ≤ b
    · rw [mv_no hb] at e; cases e
    · omega
  have hk : (m.length : Int) < k := by
    by_cases hk : (m.length : Int) < k
    · exact hk
    · rw [mv_full hb.1 hb.2 (by omega)] at e; cases e
  refine ⟨⟨h.may, by simp; omega, fun x hx => ?_⟩, hb.1, hb.2, hk⟩
  rcases List.mem_append.1 hx with hx | hx
  · exact h.mem x hx
  · simp at hx; rw [hx]; exact hb

/-- the blocks that were moved, rising, each once -/
def mvd (j : Nat) (m : List Int) : List Int := ((List.range j).filter fun (b : Nat) => decide ((b : Int) ∈ m)).map fun (b : Nat) => (b : Int)
theorem mvd_zero (m : List Int) : mvd 0 m = [] := rfl
theorem mvd_succ (j : Nat) (m : List Int) : mvd (j + 1) m = if (j : Int) ∈ m then mvd j m ++ [(j : Int)] else mvd j m := by
  unfold mvd; rw [List.range_succ, List.filter_append, List.map_append]
  by_cases h : (j : Int) ∈ m <;> simp [h]
theorem mvd_length_le (j : Nat) (m : List Int) : (mvd j m).length ≤ j := by
  unfold mvd; rw [List.length_map]; exact Nat.le_trans (List.length_filter_le _ _) (by simp)
theorem mvd_mono (m : List Int) (j : Nat) : ∀ c, ∃ r, mvd (j + c) m = mvd j m ++ r
  | 0 => ⟨[], by simp⟩
  | c + 1 => by
    obtain ⟨r, hr⟩ := mvd_mono m j c
    rw [← Nat.add_assoc, mvd_succ]
    split
    · exact ⟨r ++ [((j + c : Nat) : Int)], by rw [hr, List.append_assoc]⟩
    · exact ⟨r, hr⟩
theorem mvd_at {m : List Int} {j N : Nat} (hj : j < N) (h : (j : Int) ∈ m) : (mvd j m).length < (mvd N m).length ∧ (mvd N m).getD (mvd j m).length 0 = j := by
  obtain ⟨r, hr⟩ := mvd_mono m (j + 1) (N - (j + 1))
  rw [show j + 1 + (N - (j + 1)) = N by omega, mvd_succ, if_pos h] at hr
  rw [hr]; simp
theorem mvd_len_le {m : List Int} {j N : Nat} (hj : j ≤ N) : (mvd j m).length ≤ (mvd N m).length := by
  obtain ⟨r, hr⟩ := mvd_mono m j (N - j)
  rw [show j + (N - j) = N by omega] at hr
  rw [hr]; simp
theorem mvd_mem {m : List Int} {N : Nat} {x : Int} : x ∈ mvd N m ↔ 0 ≤ x ∧ x < N ∧ x ∈ m := by
  unfold mvd
  simp only [List.mem_map, List.mem_filter, List.mem_range, decide_eq_true_eq]
  constructor
  · rintro ⟨b, ⟨h1, h2⟩, rfl⟩; exact ⟨by omega, by omega, h2⟩
  · rintro ⟨h1, h2, h3⟩; exact ⟨x.toNat, ⟨by omega, by rw [show ((x.toNat : Nat) : Int) = x by omega]; exact h3⟩, by omega⟩

/-- a table's bytes -/
def twos (k : Nat) : List Int := List.replicate k 2
def tabW (k : Nat) : List Int := 8 :: twos k
def txL (m : List Int) : List UInt8 := encL (tabW m.length) ((m.length : Int) :: m)
def txS (m : List Int) : ByteArray := strOf (txL m)
theorem twos_length (k : Nat) : (twos k).length = k := by simp [twos]
theorem twos_succ (k : Nat) : twos (k + 1) = twos k ++ [2] := List.replicate_succ'
theorem tabW_length (k : Nat) : (tabW k).length = k + 1 := by simp [tabW, twos]
theorem twos_ok (k : Nat) : okW (twos k) = true := by simp [okW, twos]
theorem tabW_ok (k : Nat) : okW (tabW k) = true := by
  have := twos_ok k
  simp only [okW, tabW, List.all_cons] at this ⊢; rw [this]; rfl
theorem twos_sum : ∀ k, sumW (twos k) = 2 * k
  | 0 => rfl
  | k + 1 => by rw [twos_succ, sumW_snoc, twos_sum k]; omega
theorem tabW_sum (k : Nat) : sumW (tabW k) = 8 + 2 * k := by
  have := twos_sum k; simp only [sumW, tabW, List.sum_cons] at this ⊢; omega
theorem txL_length (m : List Int) : (txL m).length = 8 + 2 * m.length := by
  have h1 : (tabW m.length).length = ((m.length : Int) :: m).length := by rw [tabW_length]; rfl
  have h2 := encL_length (tabW m.length) ((m.length : Int) :: m) (tabW_ok _) h1
  rw [tabW_sum] at h2
  unfold txL; omega
theorem fits2 : ∀ (m : List Int), (∀ x ∈ m, x < 65536) → fitsL (twos m.length) m = true
  | [], _ => rfl
  | x :: m, h => by
    have h1 : fitsB x 2 = true := by have := h x (by simp); simp [fitsB]; omega
    have h2 := fits2 m (fun y hy => h y (by simp [hy]))
    show fitsL (2 :: twos m.length) (x :: m) = true
    rw [fitsL, h1, h2]; rfl
theorem tab_fits {n k : Int} {m : List Int} (h : Good n k m) : fitsL (tabW m.length) ((m.length : Int) :: m) = true := by
  have hb := h.bd
  have h1 : fitsB (m.length : Int) 8 = true := fitsB_8 _ (by omega)
  have h2 := fits2 m (fun x hx => by have := h.mem x hx; omega)
  show fitsL (8 :: twos m.length) ((m.length : Int) :: m) = true
  rw [fitsL, h1, h2]; rfl
theorem tab_wr {n k : Int} {m : List Int} (h : Good n k m) : wrB (tabW m.length) ((m.length : Int) :: m) = true ∧ wrS (tabW m.length) ((m.length : Int) :: m) = txS m :=
  wr_ok (tabW_ok _) (by rw [tabW_length]; rfl) (tab_fits h)
theorem txL_snoc (m : List Int) (x : Int) : encL (tabW (m.length + 1)) (((m ++ [x]).length : Int) :: (m ++ [x])) = encN ((m.length + 1 : Nat) : Int) 8 ++ (encL (twos m.length) m ++ encN x 2) := by
  show encL (8 :: twos (m.length + 1)) _ = _
  rw [twos_succ, encL, encL_snoc _ _ _ _ (twos_length _)]; simp
theorem txL_eq (m : List Int) : txL m = encN (m.length : Int) 8 ++ encL (twos m.length) m := by
  show encL (8 :: twos m.length) _ = _; rw [encL]; simp
theorem enc2_take (m : List Int) (i : Nat) (hi : i < m.length) : encL (twos (i + 1)) (m.take (i + 1)) = encL (twos i) (m.take i) ++ encN (m.getD i 0) 2 := by
  rw [take_snoc' m i hi, twos_succ, encL_snoc _ _ _ _ (by rw [twos_length, List.length_take]; omega)]; rfl

/-- what Parse tells of bytes: how many, and which -/
def paN (l : List UInt8) : Nat := (l.length - 8) / 2
def paI (l : List UInt8) (i : Nat) : Int := (getL ((l.drop (8 + 2 * i)).take 2) : Nat)
def paL (l : List UInt8) : List Int := (List.range (paN l)).map (paI l)
/-- its length and its generation are right -/
def paF (l : List UInt8) (k : Int) : Bool := decide (8 ≤ l.length) && (decide (l.length % 2 = 0) && (decide ((paN l : Int) ≤ k) && decide (getL (l.take 8) = paN l)))
def paB (l : List UInt8) (n k : Int) : Bool := paF l k && (paL l).all fun x => decide (x < n)
def paE (l : List UInt8) (n k : Int) : Int := if mayB n k = true then (if paB l n k = true then 0 else 4) else 2
def paM (l : List UInt8) (n k : Int) : List Int := if paE l n k = 0 then paL l else []
theorem paL_length (l : List UInt8) : (paL l).length = paN l := by simp [paL]
theorem paL_getD (l : List UInt8) (i : Nat) (h : i < paN l) : (paL l).getD i 0 = paI l i := by
  rw [List.getD_eq_getElem?_getD]; simp [paL, h]
theorem paI_bd (l : List UInt8) (i : Nat) : 0 ≤ paI l i ∧ paI l i < 65536 := by
  have h1 := getL_bd ((l.drop (8 + 2 * i)).take 2)
  have h2 : ((l.drop (8 + 2 * i)).take 2).length ≤ 2 := by simp; omega
  have h3 : 2 ^ (8 * ((l.drop (8 + 2 * i)).take 2).length) ≤ 2 ^ 16 := Nat.pow_le_pow_right (by decide) (by omega)
  unfold paI; omega
theorem pa_may {l : List UInt8} {n k : Int} (h : mayB n k = false) : paE l n k = 2 := by rw [paE, if_neg (by rw [h]; decide)]
theorem pa_form {l : List UInt8} {n k : Int} (h : mayB n k = true) (h2 : paB l n k = false) : paE l n k = 4 := by rw [paE, if_pos h, if_neg (by rw [h2]; decide)]
theorem pa_ok {l : List UInt8} {n k : Int} (h : mayB n k = true) (h2 : paB l n k = true) : paE l n k = 0 := by rw [paE, if_pos h, if_pos h2]
theorem pa_good {l : List UInt8} {n k : Int} (h : mayB n k = true) (h2 : paB l n k = true) : Good n k (paL l) := by
  simp only [paB, paF, Bool.and_eq_true, decide_eq_true_eq, List.all_eq_true] at h2
  refine ⟨h, by rw [paL_length]; exact h2.1.2.2.1, fun x hx => ⟨?_, h2.2 x hx⟩⟩
  simp only [paL, List.mem_map, List.mem_range] at hx
  obtain ⟨i, _, rfl⟩ := hx
  exact (paI_bd l i).1
theorem paE_zero {l : List UInt8} {n k : Int} (h : paE l n k = 0) : mayB n k = true ∧ paB l n k = true := by
  cases h1 : mayB n k with
  | false => rw [pa_may h1] at h; cases h
  | true =>
    cases h2 : paB l n k with
    | false => rw [pa_form h1 h2] at h; cases h
    | true => exact ⟨rfl, rfl⟩
theorem paM_no {l : List UInt8} {n k : Int} (h : paE l n k ≠ 0) : paM l n k = [] := by rw [paM, if_neg h]
theorem paM_ok {l : List UInt8} {n k : Int} (h : paE l n k = 0) : paM l n k = paL l := by rw [paM, if_pos h]
/-- the first blocks of them, one by one -/
theorem paL_take (l : List UInt8) (i : Nat) (h : i < paN l) : (paL l).take (i + 1) = (paL l).take i ++ [paI l i] := by
  rw [take_snoc' _ i (by rw [paL_length]; exact h), paL_getD l i h]
theorem paB_bad {l : List UInt8} {n k : Int} {i : Nat} (hi : i < paN l) (h : n ≤ paI l i) : paB l n k = false := by
  have : ((paL l).all fun x => decide (x < n)) = false := by
    rw [List.all_eq_false]
    refine ⟨paI l i, ?_, by simp; omega⟩
    rw [← paL_getD l i hi, List.getD_eq_getElem?_getD, List.getElem?_eq_getElem (by rw [paL_length]; exact hi)]
    exact List.getElem_mem _
  rw [paB, this]; simp
theorem paB_all {l : List UInt8} {n k : Int} (hf : paF l k = true) (h : ∀ i, i < paN l → paI l i < n) : paB l n k = true := by
  have : ((paL l).all fun x => decide (x < n)) = true := by
    rw [List.all_eq_true]
    intro x hx
    simp only [paL, List.mem_map, List.mem_range] at hx
    obtain ⟨i, hi, rfl⟩ := hx
    simpa using h i hi
  rw [paB, hf, this]; rfl
/-- Parse of Text -/
theorem pa_tx {n k : Int} {m : List Int} (h : Good n k m) : paL (txL m) = m ∧ paB (txL m) n k = true ∧ paE (txL m) n k = 0 := by
  have hb := h.bd
  have hl := txL_length m
  have hN : paN (txL m) = m.length := by unfold paN; rw [hl]; omega
  have hr : rdL (tabW m.length) (txL m) = (m.length : Int) :: m := by
    have := rd_enc [] (tabW m.length) ((m.length : Int) :: m) (by rw [tabW_length]; rfl) (tabW_ok _) (tab_fits h) (fun x hx => by
      rcases List.mem_cons.1 hx with hx | hx
      · omega
      · exact (h.mem x hx).1)
    rwa [List.append_nil] at this
  have hr2 : ∀ (c : Nat) (l : List UInt8), rdL (twos c) l = (List.range c).map fun i => ((getL ((l.drop (2 * i)).take 2) : Nat) : Int) := by
    intro c
    induction c with
    | zero => intro l; rfl
    | succ c ih =>
      intro l
      show rdL (2 :: twos c) l = _
      rw [rdL, ih, List.range_succ_eq_map]
      simp only [List.map_cons, List.map_map]
      congr 1
      apply List.map_congr_left
      intro i _
      simp only [Function.comp, List.drop_drop]
      rw [show (2 : Int).toNat + 2 * i = 2 * (i + 1) by simp; omega]
  have hc : rdL (tabW m.length) (txL m) = ((getL ((txL m).take 8) : Nat) : Int) :: paL (txL m) := by
    show rdL (8 :: twos m.length) (txL m) = _
    rw [rdL, hr2]
    show _ = _ :: List.map (paI (txL m)) (List.range (paN (txL m)))
    rw [hN]
    congr 1
    apply List.map_congr_left
    intro i _
    simp only [List.drop_drop, paI]
    rfl
  rw [hr] at hc
  injection hc with h1 h2
  have hf : paF (txL m) k = true := by
    simp only [paF, Bool.and_eq_true, decide_eq_true_eq, hN, hl]
    have := h.len
    omega
  have hB : paB (txL m) n k = true := by
    refine paB_all hf fun i hi => ?_
    rw [← paL_getD _ i hi, ← h2]
    exact (h.getD i (by rw [← hN]; exact hi)).2
  exact ⟨h2.symm, hB, pa_ok h.may hB⟩
end Go.Proofs.Ytonfafjacmifaaa.Tab
