/- Layers' contracts, bundled: TabMath, Shelf, LendA, LendW, LendR, LendK, RefLendB. -/
import Derived.Test.YtflanjcfkdjpjaaGreatDoorK02
import Derived.Shelf.Strings.Builder1
import Derived.Shelf.Strings.Builder2
import Derived.Shelf.Strings.Trim
import Derived.Shelf.Small.Utf8
import Derived.Shelf.Small.Strs
import Derived.Shelf.Strings.BuilderF
import Derived.Shelf.Strings.BuilderK
import Derived.Shelf.Strings.Builder2Cap
import Derived.Shelf.Strings.Search1
import Derived.Shelf.Strings.Prefix
import Derived.Shelf.Bits.Mul64
import Derived.Shelf.Strings.Repeat
import Derived.Shelf.Unicode.DecodeSlow
import Derived.Shelf.Strings.BuilderCap
import Derived.Test.YtflanjcfkdjpjaaGreatDoorProg
import Derived.Test.YtflanjcfkdjpjaaGreatDoorChecked
import Derived.WalkKit
import Derived.WalkLawsBesides
import Derived.WalkSpells
import Derived.Lib.Hide
import Derived.Outline
import Derived.Deep.DeepCutAuto
import Derived.Deep.RegionWith
import Derived.OpenShut
import Derived.Deep.QuietTactic
import Derived.BigQuiet
/- Plain mathematics of layer 6 (table): where blocks are. -/
namespace Go.Proofs.YtflanjcfkdjpjaaGreatDoor.Tab
open Go.RowKit Go.Proofs.YtflanjcfkdjpjaaGreatDoor Go.Proofs.YtflanjcfkdjpjaaGreatDoor.Lend

/-- may there be so many blocks and spares? -/
def mayB (n k : Int) : Bool := decide (1 ≤ n) && (decide (n ≤ 4096) && (decide (0 ≤ k) && decide (k ≤ 32)))
theorem mayB_parts {n k : Int} (h : mayB n k = true) : 1 ≤ n ∧ n ≤ 4096 ∧ 0 ≤ k ∧ k ≤ 32 := by
  simp only [mayB, Bool.and_eq_true, decide_eq_true_eq] at h; omega
theorem mayB_of {n k : Int} (h1 : 1 ≤ n) (h2 : n ≤ 4096) (h3 : 0 ≤ k) (h4 : k ≤ 32) : mayB n k = true := by simp [mayB, h1, h2, h3, h4]
theorem mayB_no {n k : Int} (h : n < 1 ∨ 4096 < n ∨ k < 0 ∨ 32 < k) : mayB n k = false := by
  simp only [mayB, Bool.and_eq_false_iff, decide_eq_false_iff_not]; omega

/-- the place of a block: that of the last spare it was moved to, or its own -/
def plcR (n b : Int) : List Int → Int
  | [] => b
  | x :: r => if x = b then n + r.length else plcR n b r
def plc (n : Int) (m : List Int) (b : Int) : Int := plcR n b m.reverse
theorem plc_nil (n b : Int) : plc n [] b = b := rfl
theorem plc_snoc (n : Int) (m : List Int) (x b : Int) : plc n (m ++ [x]) b = if x = b then n + m.length else plc n m b := by
  simp [plc, plcR]
theorem plc_take (n : Int) (m : List Int) (b : Int) (i : Nat) (hi : i < m.length) : plc n (m.take (i + 1)) b = if m.getD i 0 = b then n + i else plc n (m.take i) b := by
  rw [take_snoc' m i hi, plc_snoc]
  have : (m.take i).length = i := by rw [List.length_take]; omega
  rw [this]
/-- of a block that isn't among those behind the first i: the first i tell -/
theorem plc_back (n : Int) (m : List Int) (b : Int) (i : Nat) (h : ∀ j, i ≤ j → j < m.length → m.getD j 0 ≠ b) : plc n m b = plc n (m.take i) b := by
  have key : ∀ c, i + c ≤ m.length → plc n (m.take (i + c)) b = plc n (m.take i) b := by
    intro c
    induction c with
    | zero => intro _; rfl
    | succ c ih =>
      intro hc
      rw [← Nat.add_assoc, plc_take n m b (i + c) (by omega), if_neg (h _ (by omega) (by omega))]
      exact ih (by omega)
  by_cases hi : i ≤ m.length
  · have := key (m.length - i) (by omega)
    rw [show i + (m.length - i) = m.length by omega, List.take_length] at this
    exact this
  · rw [List.take_of_length_le (by omega)]
theorem plc_hit (n : Int) (m : List Int) (b : Int) (i : Nat) (hi : i < m.length) (hb : m.getD i 0 = b) (h : ∀ j, i < j → j < m.length → m.getD j 0 ≠ b) : plc n m b = n + i := by
  rw [plc_back n m b (i + 1) (fun j hj => h j (by omega)), plc_take n m b i hi, if_pos hb]
/-- either its own place, and it isn't among those that were moved, or a spare that it was moved to -/
theorem plc_cases (n : Int) (m : List Int) (b : Int) : (plc n m b = b ∧ b ∉ m) ∨ ∃ i, i < m.length ∧ plc n m b = n + i ∧ m.getD i 0 = b := by
  have key : ∀ c, c ≤ m.length → (plc n (m.take c) b = b ∧ b ∉ m.take c) ∨ ∃ i, i < c ∧ plc n (m.take c) b = n + i ∧ m.getD i 0 = b := by
    intro c
    induction c with
    | zero => intro _; exact .inl ⟨rfl, by simp⟩
    | succ c ih =>
      intro hc
      rw [plc_take n m b c (by omega)]
      by_cases hx : m.getD c 0 = b
      · rw [if_pos hx]; exact .inr ⟨c, by omega, rfl, hx⟩
      · rw [if_neg hx]
        rcases ih (by omega) with ⟨h1, h2⟩ | ⟨i, h1, h2, h3⟩
        · refine .inl ⟨h1, ?_⟩
          rw [take_snoc' m c (by omega)]
          simp only [List.mem_append, List.mem_cons, List.mem_nil_iff, or_false, not_or]
          exact ⟨h2, fun e => hx e.symm⟩
        · exact .inr ⟨i, by omega, h2, h3⟩
  have := key m.length (Nat.le_refl _)
  rwa [List.take_length] at this
theorem plc_moved {n : Int} {m : List Int} {b : Int} (hb : b < n) : plc n m b ≠ b ↔ b ∈ m := by
  rcases plc_cases n m b with ⟨h1, h2⟩ | ⟨i, h1, h2, h3⟩
  · exact ⟨fun h => absurd h1 h, fun h => absurd h h2⟩
  · refine ⟨fun _ => ?_, fun _ => by omega⟩
    rw [← h3, List.getD_eq_getElem?_getD, List.getElem?_eq_getElem h1]; exact List.getElem_mem _
theorem plc_bd {n : Int} {m : List Int} {b : Int} (h0 : 0 ≤ b) (hb : b < n) : 0 ≤ plc n m b ∧ plc n m b < n + m.length := by
  rcases plc_cases n m b with ⟨h1, _⟩ | ⟨i, h1, h2, _⟩ <;> omega
theorem plc_inj {n : Int} {m : List Int} {b c : Int} (hb : b < n) (hc : c < n) (h : plc n m b = plc n m c) : b = c := by
  rcases plc_cases n m b with ⟨h1, _⟩ | ⟨i, _, h2, h3⟩ <;> rcases plc_cases n m c with ⟨k1, _⟩ | ⟨j, _, k2, k3⟩
  · omega
  · omega
  · omega
  · obtain rfl : i = j := by omega
    rw [← h3, ← k3]

/-- what At answers -/
def atB (n b : Int) : Bool := decide (0 ≤ b) && decide (b < n)
def atE (n b : Int) : Int := if atB n b = true then 0 else 3
def atN (n : Int) (m : List Int) (b : Int) : Int := if atB n b = true then plc n m b else 0
theorem at_yes {n : Int} {m : List Int} {b : Int} (h0 : 0 ≤ b) (h1 : b < n) : atB n b = true ∧ atE n b = 0 ∧ atN n m b = plc n m b := by
  have : atB n b = true := by simp [atB, h0, h1]
  exact ⟨this, by rw [atE, if_pos this], by rw [atN, if_pos this]⟩
theorem at_no {n : Int} {m : List Int} {b : Int} (h : b < 0 ∨ n ≤ b) : atB n b = false ∧ atE n b = 3 ∧ atN n m b = 0 := by
  have : atB n b = false := by simp only [atB, Bool.and_eq_false_iff, decide_eq_false_iff_not]; omega
  exact ⟨this, by rw [atE, if_neg (by rw [this]; decide)], by rw [atN, if_neg (by rw [this]; decide)]⟩

/-- what Move answers: its error, and what was moved then -/
def mvE (n k : Int) (m : List Int) (b : Int) : Int := if atB n b = true then (if (m.length : Int) < k then 0 else 9) else 3
theorem mv_yes {n k : Int} {m : List Int} {b : Int} (h0 : 0 ≤ b) (h1 : b < n) (h2 : (m.length : Int) < k) : mvE n k m b = 0 := by
  rw [mvE, if_pos (at_yes (m := m) h0 h1).1, if_pos h2]
theorem mv_full {n k : Int} {m : List Int} {b : Int} (h0 : 0 ≤ b) (h1 : b < n) (h2 : k ≤ (m.length : Int)) : mvE n k m b = 9 := by
  rw [mvE, if_pos (at_yes (m := m) h0 h1).1, if_neg (by omega)]
theorem mv_no {n k : Int} {m : List Int} {b : Int} (h : b < 0 ∨ n ≤ b) : mvE n k m b = 3 := by
  rw [mvE, (at_no (m := m) h).1]; rfl
theorem mvE_vals (n k : Int) (m : List Int) (b : Int) : mvE n k m b = 0 ∨ mvE n k m b = 3 ∨ mvE n k m b = 9 := by
  unfold mvE; split
  · split
    · exact .inl rfl
    · exact .inr (.inr rfl)
  · exact .inr (.inl rfl)

/-- a table's list of moved blocks is right -/
structure Good (n k : Int) (m : List Int) : Prop where
  may : mayB n k = true
  len : (m.length : Int) ≤ k
  mem : ∀ x ∈ m, 0 ≤ x ∧ x < n
theorem Good.nil {n k : Int} (h : mayB n k = true) : Good n k [] := ⟨h, (mayB_parts h).2.2.1, fun x hx => by cases hx⟩
theorem Good.bd {n k : Int} {m : List Int} (h : Good n k m) : 1 ≤ n ∧ n ≤ 4096 ∧ 0 ≤ k ∧ k ≤ 32 ∧ m.length ≤ 32 := by
  have := mayB_parts h.may; have := h.len; omega
theorem Good.getD {n k : Int} {m : List Int} (h : Good n k m) (i : Nat) (hi : i < m.length) : 0 ≤ m.getD i 0 ∧ m.getD i 0 < n := by
  apply h.mem; rw [List.getD_eq_getElem?_getD, List.getElem?_eq_getElem hi]; exact List.getElem_mem _
theorem Good.push {n k : Int} {m : List Int} {b : Int} (h : Good n k m) (e : mvE n k m b = 0) : Good n k (m ++ [b]) ∧ 0 ≤ b ∧ b < n ∧ (m.length : Int) < k := by
  have hb : 0 ≤ b ∧ b < n := by
    by_cases hb : b < 0 ∨ n ≤ b
    · rw [mv_no hb] at e; cases e
    · omega
  have hk : (m.length : Int) < k := by
    by_cases hk : (m.length : Int) < k
    · exact hk
    · rw [mv_full hb.1 hb.2 (by omega)] at e; cases e
  refine ⟨⟨h.may, by simp; omega, fun x hx => ?_⟩, hb.1, hb.2, hk⟩
  rcases List.mem_append.1 hx with hx | hx
  · exact h.mem x hx
  · simp at hx; rw [hx]; exact hb

/-- the blocks that were moved, rising, each once -/
def mvd (j : Nat) (m : List Int) : List Int := ((List.range j).filter fun (b : Nat) => decide ((b : Int) ∈ m)).map fun (b : Nat) => (b : Int)
theorem mvd_zero (m : List Int) : mvd 0 m = [] := rfl
theorem mvd_succ (j : Nat) (m : List Int) : mvd (j + 1) m = if (j : Int) ∈ m then mvd j m ++ [(j : Int)] else mvd j m := by
  unfold mvd; rw [List.range_succ, List.filter_append, List.map_append]
  by_cases h : (j : Int) ∈ m <;> simp [h]
theorem mvd_length_le (j : Nat) (m : List Int) : (mvd j m).length ≤ j := by
  unfold mvd; rw [List.length_map]; exact Nat.le_trans (List.length_filter_le _ _) (by simp)
theorem mvd_mono (m : List Int) (j : Nat) : ∀ c, ∃ r, mvd (j + c) m = mvd j m ++ r
  | 0 => ⟨[], by simp⟩
  | c + 1 => by
    obtain ⟨r, hr⟩ := mvd_mono m j c
    rw [← Nat.add_assoc, mvd_succ]
    split
    · exact ⟨r ++ [((j + c : Nat) : Int)], by rw [hr, List.append_assoc]⟩
    · exact ⟨r, hr⟩
theorem mvd_at {m : List Int} {j N : Nat} (hj : j < N) (h : (j : Int) ∈ m) : (mvd j m).length < (mvd N m).length ∧ (mvd N m).getD (mvd j m).length 0 = j := by
  obtain ⟨r, hr⟩ := mvd_mono m (j + 1) (N - (j + 1))
  rw [show j + 1 + (N - (j + 1)) = N by omega, mvd_succ, if_pos h] at hr
  rw [hr]; simp
theorem mvd_len_le {m : List Int} {j N : Nat} (hj : j ≤ N) : (mvd j m).length ≤ (mvd N m).length := by
  obtain ⟨r, hr⟩ := mvd_mono m j (N - j)
  rw [show j + (N - j) = N by omega] at hr
  rw [hr]; simp
theorem mvd_mem {m : List Int} {N : Nat} {x : Int} : x ∈ mvd N m ↔ 0 ≤ x ∧ x < N ∧ x ∈ m := by
  unfold mvd
  simp only [List.mem_map, List.mem_filter, List.mem_range, decide_eq_true_eq]
  constructor
  · rintro ⟨b, ⟨h1, h2⟩, rfl⟩; exact ⟨by omega, by omega, h2⟩
  · rintro ⟨h1, h2, h3⟩; exact ⟨x.toNat, ⟨by omega, by rw [show ((x.toNat : Nat) : Int) = x by omega]; exact h3⟩, by omega⟩

/-- a table's bytes -/
def twos (k : Nat) : List Int := List.replicate k 2
def tabW (k : Nat) : List Int := 8 :: twos k
def txL (m : List Int) : List UInt8 := encL (tabW m.length) ((m.length : Int) :: m)
def txS (m : List Int) : ByteArray := strOf (txL m)
theorem twos_length (k : Nat) : (twos k).length = k := by simp [twos]
theorem twos_succ (k : Nat) : twos (k + 1) = twos k ++ [2] := List.replicate_succ'
theorem tabW_length (k : Nat) : (tabW k).length = k + 1 := by simp [tabW, twos]
theorem twos_ok (k : Nat) : okW (twos k) = true := by simp [okW, twos]
theorem tabW_ok (k : Nat) : okW (tabW k) = true := by
  have := twos_ok k
  simp only [okW, tabW, List.all_cons] at this ⊢; rw [this]; rfl
theorem twos_sum : ∀ k, sumW (twos k) = 2 * k
  | 0 => rfl
  | k + 1 => by rw [twos_succ, sumW_snoc, twos_sum k]; omega
theorem tabW_sum (k : Nat) : sumW (tabW k) = 8 + 2 * k := by
  have := twos_sum k; simp only [sumW, tabW, List.sum_cons] at this ⊢; omega
theorem txL_length (m : List Int) : (txL m).length = 8 + 2 * m.length := by
  have h1 : (tabW m.length).length = ((m.length : Int) :: m).length := by rw [tabW_length]; rfl
  have h2 := encL_length (tabW m.length) ((m.length : Int) :: m) (tabW_ok _) h1
  rw [tabW_sum] at h2
  unfold txL; omega
theorem fits2 : ∀ (m : List Int), (∀ x ∈ m, x < 65536) → fitsL (twos m.length) m = true
  | [], _ => rfl
  | x :: m, h => by
    have h1 : fitsB x 2 = true := by have := h x (by simp); simp [fitsB]; omega
    have h2 := fits2 m (fun y hy => h y (by simp [hy]))
    show fitsL (2 :: twos m.length) (x :: m) = true
    rw [fitsL, h1, h2]; rfl
theorem tab_fits {n k : Int} {m : List Int} (h : Good n k m) : fitsL (tabW m.length) ((m.length : Int) :: m) = true := by
  have hb := h.bd
  have h1 : fitsB (m.length : Int) 8 = true := fitsB_8 _ (by omega)
  have h2 := fits2 m (fun x hx => by have := h.mem x hx; omega)
  show fitsL (8 :: twos m.length) ((m.length : Int) :: m) = true
  rw [fitsL, h1, h2]; rfl
theorem tab_wr {n k : Int} {m : List Int} (h : Good n k m) : wrB (tabW m.length) ((m.length : Int) :: m) = true ∧ wrS (tabW m.length) ((m.length : Int) :: m) = txS m :=
  wr_ok (tabW_ok _) (by rw [tabW_length]; rfl) (tab_fits h)
theorem txL_snoc (m : List Int) (x : Int) : encL (tabW (m.length + 1)) (((m ++ [x]).length : Int) :: (m ++ [x])) = encN ((m.length + 1 : Nat) : Int) 8 ++ (encL (twos m.length) m ++ encN x 2) := by
  show encL (8 :: twos (m.length + 1)) _ = _
  rw [twos_succ, encL, encL_snoc _ _ _ _ (twos_length _)]; simp
theorem txL_eq (m : List Int) : txL m = encN (m.length : Int) 8 ++ encL (twos m.length) m := by
  show encL (8 :: twos m.length) _ = _; rw [encL]; simp
theorem enc2_take (m : List Int) (i : Nat) (hi : i < m.length) : encL (twos (i + 1)) (m.take (i + 1)) = encL (twos i) (m.take i) ++ encN (m.getD i 0) 2 := by
  rw [take_snoc' m i hi, twos_succ, encL_snoc _ _ _ _ (by rw [twos_length, List.length_take]; omega)]; rfl

/-- what Parse tells of bytes: how many, and which -/
def paN (l : List UInt8) : Nat := (l.length - 8) / 2
def paI (l : List UInt8) (i : Nat) : Int := (getL ((l.drop (8 + 2 * i)).take 2) : Nat)
def paL (l : List UInt8) : List Int := (List.range (paN l)).map (paI l)
/-- its length and its generation are right -/
def paF (l : List UInt8) (k : Int) : Bool := decide (8 ≤ l.length) && (decide (l.length % 2 = 0) && (decide ((paN l : Int) ≤ k) && decide (getL (l.take 8) = paN l)))
def paB (l : List UInt8) (n k : Int) : Bool := paF l k && (paL l).all fun x => decide (x < n)
def paE (l : List UInt8) (n k : Int) : Int := if mayB n k = true then (if paB l n k = true then 0 else 4) else 2
def paM (l : List UInt8) (n k : Int) : List Int := if paE l n k = 0 then paL l else []
theorem paL_length (l : List UInt8) : (paL l).length = paN l := by simp [paL]
theorem paL_getD (l : List UInt8) (i : Nat) (h : i < paN l) : (paL l).getD i 0 = paI l i := by
  rw [List.getD_eq_getElem?_getD]; simp [paL, h]
theorem paI_bd (l : List UInt8) (i : Nat) : 0 ≤ paI l i ∧ paI l i < 65536 := by
  have h1 := getL_bd ((l.drop (8 + 2 * i)).take 2)
  have h2 : ((l.drop (8 + 2 * i)).take 2).length ≤ 2 := by simp; omega
  have h3 : 2 ^ (8 * ((l.drop (8 + 2 * i)).take 2).length) ≤ 2 ^ 16 := Nat.pow_le_pow_right (by decide) (by omega)
  unfold paI; omega
theorem pa_may {l : List UInt8} {n k : Int} (h : mayB n k = false) : paE l n k = 2 := by rw [paE, if_neg (by rw [h]; decide)]
theorem pa_form {l : List UInt8} {n k : Int} (h : mayB n k = true) (h2 : paB l n k = false) : paE l n k = 4 := by rw [paE, if_pos h, if_neg (by rw [h2]; decide)]
theorem pa_ok {l : List UInt8} {n k : Int} (h : mayB n k = true) (h2 : paB l n k = true) : paE l n k = 0 := by rw [paE, if_pos h, if_pos h2]
theorem pa_good {l : List UInt8} {n k : Int} (h : mayB n k = true) (h2 : paB l n k = true) : Good n k (paL l) := by
  simp only [paB, paF, Bool.and_eq_true, decide_eq_true_eq, List.all_eq_true] at h2
  refine ⟨h, by rw [paL_length]; exact h2.1.2.2.1, fun x hx => ⟨?_, h2.2 x hx⟩⟩
  simp only [paL, List.mem_map, List.mem_range] at hx
  obtain ⟨i, _, rfl⟩ := hx
  exact (paI_bd l i).1
theorem paE_zero {l : List UInt8} {n k : Int} (h : paE l n k = 0) : mayB n k = true ∧ paB l n k = true := by
  cases h1 : mayB n k with
  | false => rw [pa_may h1] at h; cases h
  | true =>
    cases h2 : paB l n k with
    | false => rw [pa_form h1 h2] at h; cases h
    | true => exact ⟨rfl, rfl⟩
theorem paM_no {l : List UInt8} {n k : Int} (h : paE l n k ≠ 0) : paM l n k = [] := by rw [paM, if_neg h]
theorem paM_ok {l : List UInt8} {n k : Int} (h : paE l n k = 0) : paM l n k = paL l := by rw [paM, if_pos h]
/-- the first blocks of them, one by one -/
theorem paL_take (l : List UInt8) (i : Nat) (h : i < paN l) : (paL l).take (i + 1) = (paL l).take i ++ [paI l i] := by
  rw [take_snoc' _ i (by rw [paL_length]; exact h), paL_getD l i h]
theorem paB_bad {l : List UInt8} {n k : Int} {i : Nat} (hi : i < paN l) (h : n ≤ paI l i) : paB l n k = false := by
  have : ((paL l).all fun x => decide (x < n)) = false := by
    rw [List.all_eq_false]
    refine ⟨paI l i, ?_, by simp; omega⟩
    rw [← paL_getD l i hi, List.getD_eq_getElem?_getD, List.getElem?_eq_getElem (by rw [paL_length]; exact hi)]
    exact List.getElem_mem _
  rw [paB, this]; simp
theorem paB_all {l : List UInt8} {n k : Int} (hf : paF l k = true) (h : ∀ i, i < paN l → paI l i < n) : paB l n k = true := by
  have : ((paL l).all fun x => decide (x < n)) = true := by
    rw [List.all_eq_true]
    intro x hx
    simp only [paL, List.mem_map, List.mem_range] at hx
    obtain ⟨i, hi, rfl⟩ := hx
    simpa using h i hi
  rw [paB, hf, this]; rfl
/-- Parse of Text -/
theorem pa_tx {n k : Int} {m : List Int} (h : Good n k m) : paL (txL m) = m ∧ paB (txL m) n k = true ∧ paE (txL m) n k = 0 := by
  have hb := h.bd
  have hl := txL_length m
  have hN : paN (txL m) = m.length := by unfold paN; rw [hl]; omega
  have hr : rdL (tabW m.length) (txL m) = (m.length : Int) :: m := by
    have := rd_enc [] (tabW m.length) ((m.length : Int) :: m) (by rw [tabW_length]; rfl) (tabW_ok _) (tab_fits h) (fun x hx => by
      rcases List.mem_cons.1 hx with hx | hx
      · omega
      · exact (h.mem x hx).1)
    rwa [List.append_nil] at this
  have hr2 : ∀ (c : Nat) (l : List UInt8), rdL (twos c) l = (List.range c).map fun i => ((getL ((l.drop (2 * i)).take 2) : Nat) : Int) := by
    intro c
    induction c with
    | zero => intro l; rfl
    | succ c ih =>
      intro l
      show rdL (2 :: twos c) l = _
      rw [rdL, ih, List.range_succ_eq_map]
      simp only [List.map_cons, List.map_map]
      congr 1
      apply List.map_congr_left
      intro i _
      simp only [Function.comp, List.drop_drop]
      rw [show (2 : Int).toNat + 2 * i = 2 * (i + 1) by simp; omega]
  have hc : rdL (tabW m.length) (txL m) = ((getL ((txL m).take 8) : Nat) : Int) :: paL (txL m) := by
    show rdL (8 :: twos m.length) (txL m) = _
    rw [rdL, hr2]
    show _ = _ :: List.map (paI (txL m)) (List.range (paN (txL m)))
    rw [hN]
    congr 1
    apply List.map_congr_left
    intro i _
    simp only [List.drop_drop, paI]
    rfl
  rw [hr] at hc
  injection hc with h1 h2
  have hf : paF (txL m) k = true := by
    simp only [paF, Bool.and_eq_true, decide_eq_true_eq, hN, hl]
    have := h.len
    omega
  have hB : paB (txL m) n k = true := by
    refine paB_all hf fun i hi => ?_
    rw [← paL_getD _ i hi, ← h2]
    exact (h.getD i (by rw [← hN]; exact hi)).2
  exact ⟨h2.symm, hB, pa_ok h.may hB⟩
end Go.Proofs.YtflanjcfkdjpjaaGreatDoor.Tab

/-
  DERIVED: THE SHELF's CONTRACTS AT THIS DUMP, IN PLAIN WORDS (tools/lay-plain.mjs out of 'TryzShelf.lean', which tools/lay-shelf.mjs wrote): THE SAME DECLARATIONS UNDER THE SAME NAMES: 'import', 'namespace', 'open', 'def', 'theorem' AND NOTHING ELSE: no command of the shelf's: FOR A HAND-IN. Each laying: the table of numbers ('.._ren') and one theorem, a field a fact of the dump's own or the kernel's comparison; each contract: ONE APPLICATION.
-/
namespace Go.Proofs
open Go.Shelf
def Tryz.lays170_ren : Go.Shelf.Ren := ⟨fun | 170 => 86 | n => n, fun | 70 => 170 | 3 => 3 | 0 => 0 | 72 => 172 | 37 => 44 | 5 => 5 | n => n, fun | n => n⟩
theorem Tryz.lays170 : Go.Proofs.Lays.n170 Tryz.prog Tryz.lays170_ren := {
  mixed := by kernel_rfl
  f170 := Tryz.func86.trans (congrArg some (by kernel_rfl))
  t0 := Tryz.underlying0
  a0 := Tryz.isAgg0
  z0 := Tryz.sizeOf0
  v0 := Tryz.zeroValue0
  t3 := Tryz.underlying3
  a3 := Tryz.isAgg3
  z3 := Tryz.sizeOf3
  v3 := Tryz.zeroValue3
  t37 := Tryz.underlying44
  a37 := Tryz.isAgg44
  z37 := Tryz.sizeOf44
  v37 := Tryz.zeroValue44
  t70 := Tryz.underlying170
  a70 := Tryz.isAgg170
  z70 := Tryz.sizeOf170
  v70 := Tryz.zeroValue170
  t72 := Tryz.underlying172
  a72 := Tryz.isAgg172
  z72 := Tryz.sizeOf172
  v72 := Tryz.zeroValue172 }
open Go.RowKit in
/-- (*strings.Builder).Len: "Len returns the number of accumulated bytes; b.Len() == len(b.String()).": the world is as it was. (LAID: no walk: one application.) -/
theorem Tryz.Builder_Len (B b : Nat) (bs : List Value) (w : World) (h : Lib.IsBuilder 172 5 B b bs w) :
    Calls Tryz.prog 86 #[.pointer (some ⟨b, 0, none⟩)] w fun e w' => e = .returned (.int .i64 bs.length) ∧ w' = w := Any.Builder_Len Tryz.lays170 B b bs w h
def Tryz.lays169_ren : Go.Shelf.Ren := ⟨fun | 169 => 87 | n => n, fun | 70 => 170 | 9 => 9 | 0 => 0 | 72 => 172 | 37 => 44 | 127 => 204 | 3 => 3 | 5 => 5 | n => n, fun | n => n⟩
theorem Tryz.lays169 : Go.Proofs.Lays.n169 Tryz.prog Tryz.lays169_ren := {
  mixed := by kernel_rfl
  f169 := Tryz.func87.trans (congrArg some (by kernel_rfl))
  t0 := Tryz.underlying0
  a0 := Tryz.isAgg0
  z0 := Tryz.sizeOf0
  v0 := Tryz.zeroValue0
  t3 := Tryz.underlying3
  a3 := Tryz.isAgg3
  z3 := Tryz.sizeOf3
  v3 := Tryz.zeroValue3
  t9 := Tryz.underlying9
  a9 := Tryz.isAgg9
  z9 := Tryz.sizeOf9
  v9 := Tryz.zeroValue9
  t37 := Tryz.underlying44
  a37 := Tryz.isAgg44
  z37 := Tryz.sizeOf44
  v37 := Tryz.zeroValue44
  t70 := Tryz.underlying170
  a70 := Tryz.isAgg170
  z70 := Tryz.sizeOf170
  v70 := Tryz.zeroValue170
  t72 := Tryz.underlying172
  a72 := Tryz.isAgg172
  z72 := Tryz.sizeOf172
  v72 := Tryz.zeroValue172
  t127 := Tryz.underlying204
  a127 := Tryz.isAgg204
  z127 := Tryz.sizeOf204
  v127 := Tryz.zeroValue204 }
theorem Tryz.Builder_Extra_169 : Builder.Extra Tryz.prog Tryz.lays169_ren := {
  sizeBuilder := by kernel_rfl
  liesBuilder := by kernel_rfl
  t5 := Tryz.underlying5
  a5 := Tryz.isAgg5
  z5 := Tryz.sizeOf5
  v5 := Tryz.zeroValue5
  infoByte := by kernel_rfl
  cellsByte := by kernel_rfl
  sizeByte := by kernel_rfl
  neB5 := by decide }
open Go.RowKit in
/-- (*strings.Builder).String: "String returns the accumulated string.": OF A BUILDER THAT HOLDS AT LEAST ONE BYTE. ✋ THE MODEL FREEZES THOSE BYTES IN THE BUFFER (unsafe.String): a later write INTO them ends the model's run without an answer; a later append BEHIND them goes on. The statement's order of evaluation is drawn: one draw. (LAID: no walk: one application.) -/
theorem Tryz.Builder_String (B b : Nat) (l : List UInt8) (w : World) (h : Lib.IsBuilder 172 5 B b (Lib.byteCells l) w) (h0 : l ≠ []) :
    Calls Tryz.prog 87 #[.pointer (some ⟨b, 0, none⟩)] w fun e w' => e = .returned (.string ⟨l.toArray⟩) ∧ Below B w w' := Any.Builder_String Tryz.lays169 Tryz.Builder_Extra_169 B b l w h h0
open Go.RowKit in
/-- (*strings.Builder).String OF A BUILDER THAT HOLDS NO BYTE: the empty string. (Its buffer is nil, or a row of which it has taken nothing yet; where that row has NO capacity the model lays one new block for unsafe.SliceData's 'some address'.) One draw. (LAID: no walk: one application.) -/
theorem Tryz.Builder_String_empty (B b : Nat) (w : World) (h : Lib.IsBuilder 172 5 B b [] w) (hBw : B ≤ w.heap.size) :
    Calls Tryz.prog 87 #[.pointer (some ⟨b, 0, none⟩)] w fun e w' => e = .returned (.string ⟨#[]⟩) ∧ Below B w w' := Any.Builder_String_empty Tryz.lays169 Tryz.Builder_Extra_169 B b w h hBw
open Go.RowKit in
/-- (*strings.Builder).String: "String returns the accumulated string.": WHATEVER THE BUILDER HOLDS. (LAID: no walk: one application.) -/
theorem Tryz.Builder_String_any (B b : Nat) (l : List UInt8) (w : World) (h : Lib.IsBuilder 172 5 B b (Lib.byteCells l) w) (hBw : B ≤ w.heap.size) :
    Calls Tryz.prog 87 #[.pointer (some ⟨b, 0, none⟩)] w fun e w' => e = .returned (.string ⟨l.toArray⟩) ∧ Below B w w' := Any.Builder_String_any Tryz.lays169 Tryz.Builder_Extra_169 B b l w h hBw
def Tryz.lays241_ren : Go.Shelf.Ren := ⟨fun | 241 => 115 | 277 => 135 | n => n, fun | 70 => 170 | 3 => 3 | 0 => 0 | 72 => 172 | 37 => 44 | 5 => 5 | n => n, fun | n => n⟩
theorem Tryz.lays241 : Go.Proofs.Lays.n241 Tryz.prog Tryz.lays241_ren := {
  mixed := by kernel_rfl
  f241 := Tryz.func115.trans (congrArg some (by kernel_rfl))
  f277 := Tryz.func135.trans (congrArg some (by kernel_rfl))
  t0 := Tryz.underlying0
  a0 := Tryz.isAgg0
  z0 := Tryz.sizeOf0
  v0 := Tryz.zeroValue0
  t3 := Tryz.underlying3
  a3 := Tryz.isAgg3
  z3 := Tryz.sizeOf3
  v3 := Tryz.zeroValue3
  t37 := Tryz.underlying44
  a37 := Tryz.isAgg44
  z37 := Tryz.sizeOf44
  v37 := Tryz.zeroValue44
  t70 := Tryz.underlying170
  a70 := Tryz.isAgg170
  z70 := Tryz.sizeOf170
  v70 := Tryz.zeroValue170
  t72 := Tryz.underlying172
  a72 := Tryz.isAgg172
  z72 := Tryz.sizeOf172
  v72 := Tryz.zeroValue172 }
theorem Tryz.Builder_Extra_241 : Builder.Extra Tryz.prog Tryz.lays241_ren := {
  sizeBuilder := by kernel_rfl
  liesBuilder := by kernel_rfl
  t5 := Tryz.underlying5
  a5 := Tryz.isAgg5
  z5 := Tryz.sizeOf5
  v5 := Tryz.zeroValue5
  infoByte := by kernel_rfl
  cellsByte := by kernel_rfl
  sizeByte := by kernel_rfl
  neB5 := by decide }
open Go.RowKit in
/-- (*strings.Builder).grow (no doc but "grow copies the buffer to a new, larger buffer so that there are at least n bytes of capacity beyond len(b.buf)."): AT A BUILDER WITHOUT A BUFFER: a new row of whatever bytes for its buffer, none of them its own yet. Three draws. (LAID: no walk: one application.) -/
theorem Tryz.Builder_grow_fresh (B b n : Nat) (w : World) (hB : B ≤ b) (hbk : w.heap[b]? = some (.cells #[.pointer (some ⟨b, 0, none⟩), .slice none 0 0] 172 (0, 0))) (hBw : B ≤ w.heap.size) (hn : n ≤ 281474976710656) :
    Calls Tryz.prog 115 #[.pointer (some ⟨b, 0, none⟩), .int .i64 n] w fun e w' => e = .returned (.tuple #[]) ∧ (Lib.BuilderAt 172 5 B b (.pointer (some ⟨b, 0, none⟩)) [] w' ∧ Below B w w') := Any.Builder_grow_fresh Tryz.lays241 Tryz.Builder_Extra_241 B b n w hB hbk hBw hn
def Tryz.lays165_ren : Go.Shelf.Ren := ⟨fun | 165 => 84 | 240 => 114 | 241 => 115 | 276 => 134 | 277 => 135 | n => n, fun | 70 => 170 | 3 => 3 | 0 => 0 | 4 => 4 | 9 => 9 | 20 => 20 | 72 => 172 | 37 => 44 | 164 => 219 | 5 => 5 | n => n, fun | n => n⟩
theorem Tryz.lays165 : Go.Proofs.Lays.n165 Tryz.prog Tryz.lays165_ren := {
  mixed := by kernel_rfl
  f165 := Tryz.func84.trans (congrArg some (by kernel_rfl))
  f240 := Tryz.func114.trans (congrArg some (by kernel_rfl))
  f241 := Tryz.func115.trans (congrArg some (by kernel_rfl))
  f276 := Tryz.func134.trans (congrArg some (by kernel_rfl))
  f277 := Tryz.func135.trans (congrArg some (by kernel_rfl))
  t0 := Tryz.underlying0
  a0 := Tryz.isAgg0
  z0 := Tryz.sizeOf0
  v0 := Tryz.zeroValue0
  t3 := Tryz.underlying3
  a3 := Tryz.isAgg3
  z3 := Tryz.sizeOf3
  v3 := Tryz.zeroValue3
  t4 := Tryz.underlying4
  a4 := Tryz.isAgg4
  z4 := Tryz.sizeOf4
  v4 := Tryz.zeroValue4
  t9 := Tryz.underlying9
  a9 := Tryz.isAgg9
  z9 := Tryz.sizeOf9
  v9 := Tryz.zeroValue9
  t20 := Tryz.underlying20
  a20 := Tryz.isAgg20
  z20 := Tryz.sizeOf20
  v20 := Tryz.zeroValue20
  t37 := Tryz.underlying44
  a37 := Tryz.isAgg44
  z37 := Tryz.sizeOf44
  v37 := Tryz.zeroValue44
  t70 := Tryz.underlying170
  a70 := Tryz.isAgg170
  z70 := Tryz.sizeOf170
  v70 := Tryz.zeroValue170
  t72 := Tryz.underlying172
  a72 := Tryz.isAgg172
  z72 := Tryz.sizeOf172
  v72 := Tryz.zeroValue172
  t164 := Tryz.underlying219
  a164 := Tryz.isAgg219
  z164 := Tryz.sizeOf219
  v164 := Tryz.zeroValue219 }
theorem Tryz.Builder_Extra_165 : Builder.Extra Tryz.prog Tryz.lays165_ren := {
  sizeBuilder := by kernel_rfl
  liesBuilder := by kernel_rfl
  t5 := Tryz.underlying5
  a5 := Tryz.isAgg5
  z5 := Tryz.sizeOf5
  v5 := Tryz.zeroValue5
  infoByte := by kernel_rfl
  cellsByte := by kernel_rfl
  sizeByte := by kernel_rfl
  neB5 := by decide }
open Go.RowKit in
/-- (*strings.Builder).Grow AT A BUILDER THAT HAS NOT BEEN WRITTEN ('var b strings.Builder; b.Grow(n)'): "Grow grows b's capacity, if necessary, to guarantee space for another n bytes.": it holds no byte behind it as before it. (LAID: no walk: one application.) -/
theorem Tryz.Builder_Grow_fresh (B b n : Nat) (w : World) (hB : B ≤ b) (hbk : w.heap[b]? = some (.cells #[.pointer none, .slice none 0 0] 172 (0, 0))) (hBw : B ≤ w.heap.size) (hn : n ≤ 281474976710656) :
    Calls Tryz.prog 84 #[.pointer (some ⟨b, 0, none⟩), .int .i64 n] w fun e w' => e = .returned (.tuple #[]) ∧ (Lib.BuilderAt 172 5 B b (.pointer (some ⟨b, 0, none⟩)) [] w' ∧ Below B w w') := Any.Builder_Grow_fresh Tryz.lays165 Tryz.Builder_Extra_165 B b n w hB hbk hBw hn
def Tryz.lays231_ren : Go.Shelf.Ren := ⟨fun | 231 => 155 | n => n, fun | 9 => 9 | 5 => 5 | 3 => 3 | 4 => 4 | n => n, fun | n => n⟩
theorem Tryz.lays231 : Go.Proofs.Lays.n231 Tryz.prog Tryz.lays231_ren := {
  mixed := by kernel_rfl
  f231 := Tryz.func155.trans (congrArg some (by kernel_rfl))
  t3 := Tryz.underlying3
  a3 := Tryz.isAgg3
  z3 := Tryz.sizeOf3
  v3 := Tryz.zeroValue3
  t4 := Tryz.underlying4
  a4 := Tryz.isAgg4
  z4 := Tryz.sizeOf4
  v4 := Tryz.zeroValue4
  t5 := Tryz.underlying5
  a5 := Tryz.isAgg5
  z5 := Tryz.sizeOf5
  v5 := Tryz.zeroValue5
  t9 := Tryz.underlying9
  a9 := Tryz.isAgg9
  z9 := Tryz.sizeOf9
  v9 := Tryz.zeroValue9 }
open Go.RowKit in
/-- strings.trimLeftByte (no doc; what TrimLeft and Trim call at a cutset of one ASCII byte): the leading bytes that are c are cut off. The world is as it was. (LAID: no walk: one application.) -/
theorem Tryz.strings_trimLeftByte (s : ByteArray) (c : UInt8) (w : World) :
    Calls Tryz.prog 155 #[.string s, .int .u8 c.toNat] w fun e w' => e = .returned (.string ⟨(Lib.trimLeftB s.data.toList c).toArray⟩) ∧ w' = w := Any.strings_trimLeftByte Tryz.lays231 s c w
def Tryz.lays161_ren : Go.Shelf.Ren := ⟨fun | 161 => 153 | 231 => 155 | 227 => 156 | 233 => 157 | 235 => 158 | 228 => 159 | 197 => 160 | 151 => 161 | 260 => 162 | 152 => 163 | 137 => 164 | 119 => 165 | 224 => 166 | 225 => 167 | 217 => 168 | 266 => 169 | n => n, fun | 9 => 9 | 4 => 4 | 3 => 3 | 5 => 5 | 117 => 251 | 116 => 250 | 0 => 0 | 124 => 254 | 105 => 256 | 21 => 21 | 119 => 260 | 46 => 166 | 139 => 263 | 138 => 262 | n => n, fun | 3 => 1 | 4 => 2 | n => n⟩
theorem Tryz.lays161 : Go.Proofs.Lays.n161 Tryz.prog Tryz.lays161_ren := {
  mixed := by kernel_rfl
  f119 := Tryz.func165.trans (congrArg some (by kernel_rfl))
  f137 := Tryz.func164.trans (congrArg some (by kernel_rfl))
  f151 := Tryz.func161.trans (congrArg some (by kernel_rfl))
  f152 := Tryz.func163.trans (congrArg some (by kernel_rfl))
  f161 := Tryz.func153.trans (congrArg some (by kernel_rfl))
  f197 := Tryz.func160.trans (congrArg some (by kernel_rfl))
  f217 := Tryz.func168.trans (congrArg some (by kernel_rfl))
  f224 := Tryz.func166.trans (congrArg some (by kernel_rfl))
  f225 := Tryz.func167.trans (congrArg some (by kernel_rfl))
  f227 := Tryz.func156.trans (congrArg some (by kernel_rfl))
  f228 := Tryz.func159.trans (congrArg some (by kernel_rfl))
  f231 := Tryz.func155.trans (congrArg some (by kernel_rfl))
  f233 := Tryz.func157.trans (congrArg some (by kernel_rfl))
  f235 := Tryz.func158.trans (congrArg some (by kernel_rfl))
  f260 := Tryz.func162.trans (congrArg some (by kernel_rfl))
  f266 := Tryz.func169.trans (congrArg some (by kernel_rfl))
  t0 := Tryz.underlying0
  a0 := Tryz.isAgg0
  z0 := Tryz.sizeOf0
  v0 := Tryz.zeroValue0
  t3 := Tryz.underlying3
  a3 := Tryz.isAgg3
  z3 := Tryz.sizeOf3
  v3 := Tryz.zeroValue3
  t4 := Tryz.underlying4
  a4 := Tryz.isAgg4
  z4 := Tryz.sizeOf4
  v4 := Tryz.zeroValue4
  t5 := Tryz.underlying5
  a5 := Tryz.isAgg5
  z5 := Tryz.sizeOf5
  v5 := Tryz.zeroValue5
  t9 := Tryz.underlying9
  a9 := Tryz.isAgg9
  z9 := Tryz.sizeOf9
  v9 := Tryz.zeroValue9
  t21 := Tryz.underlying21
  a21 := Tryz.isAgg21
  z21 := Tryz.sizeOf21
  v21 := Tryz.zeroValue21
  t46 := Tryz.underlying166
  a46 := Tryz.isAgg166
  z46 := Tryz.sizeOf166
  v46 := Tryz.zeroValue166
  t105 := Tryz.underlying256
  a105 := Tryz.isAgg256
  z105 := Tryz.sizeOf256
  v105 := Tryz.zeroValue256
  t116 := Tryz.underlying250
  a116 := Tryz.isAgg250
  z116 := Tryz.sizeOf250
  t117 := Tryz.underlying251
  a117 := Tryz.isAgg251
  z117 := Tryz.sizeOf251
  v117 := Tryz.zeroValue251
  t119 := Tryz.underlying260
  a119 := Tryz.isAgg260
  z119 := Tryz.sizeOf260
  t124 := Tryz.underlying254
  a124 := Tryz.isAgg254
  z124 := Tryz.sizeOf254
  v124 := Tryz.zeroValue254
  t138 := Tryz.underlying262
  a138 := Tryz.isAgg262
  z138 := Tryz.sizeOf262
  v138 := Tryz.zeroValue262
  t139 := Tryz.underlying263
  a139 := Tryz.isAgg263
  z139 := Tryz.sizeOf263
  v139 := Tryz.zeroValue263
  g3 := by kernel_rfl
  g4 := by kernel_rfl }
open Go.RowKit in
/-- strings.TrimLeft: "TrimLeft returns a slice of the string s with all leading Unicode code points contained in cutset removed.": AT A cutset OF ONE ASCII BYTE. The world is as it was. (LAID: no walk: one application.) -/
theorem Tryz.strings_TrimLeft_one (s : ByteArray) (c : UInt8) (hc : c.toNat < 128) (w : World) :
    Calls Tryz.prog 153 #[.string s, .string ⟨#[c]⟩] w fun e w' => e = .returned (.string ⟨(Lib.trimLeftB s.data.toList c).toArray⟩) ∧ w' = w := Any.strings_TrimLeft_one Tryz.lays161 s c hc w
def Tryz.lays119_ren : Go.Shelf.Ren := ⟨fun | 119 => 165 | n => n, fun | 21 => 21 | 4 => 4 | n => n, fun | n => n⟩
theorem Tryz.lays119 : Go.Proofs.Lays.n119 Tryz.prog Tryz.lays119_ren := {
  mixed := by kernel_rfl
  f119 := Tryz.func165.trans (congrArg some (by kernel_rfl))
  t4 := Tryz.underlying4
  a4 := Tryz.isAgg4
  z4 := Tryz.sizeOf4
  v4 := Tryz.zeroValue4
  t21 := Tryz.underlying21
  a21 := Tryz.isAgg21
  z21 := Tryz.sizeOf21
  v21 := Tryz.zeroValue21 }
/-- utf8.ValidRune: "ValidRune reports whether r can be legally encoded as UTF-8. Code points that are out of range or a surrogate half are illegal.": IT RETURNS 'Lib.validRune r'; the world is as it was. (LAID: no walk: one application.) -/
theorem Tryz.utf8_ValidRune (r : Int) (w : World) :
    Calls Tryz.prog 165 #[.int .i32 r] w fun e w' => e = .returned (.bool (Lib.validRune r)) ∧ w' = w := Any.utf8_ValidRune Tryz.lays119 r w
def Tryz.lays137_ren : Go.Shelf.Ren := ⟨fun | 137 => 164 | 217 => 168 | 266 => 169 | n => n, fun | 9 => 9 | 5 => 5 | 3 => 3 | n => n, fun | n => n⟩
theorem Tryz.lays137 : Go.Proofs.Lays.n137 Tryz.prog Tryz.lays137_ren := {
  mixed := by kernel_rfl
  f137 := Tryz.func164.trans (congrArg some (by kernel_rfl))
  f217 := Tryz.func168.trans (congrArg some (by kernel_rfl))
  f266 := Tryz.func169.trans (congrArg some (by kernel_rfl))
  t3 := Tryz.underlying3
  a3 := Tryz.isAgg3
  z3 := Tryz.sizeOf3
  v3 := Tryz.zeroValue3
  t5 := Tryz.underlying5
  a5 := Tryz.isAgg5
  z5 := Tryz.sizeOf5
  v5 := Tryz.zeroValue5
  t9 := Tryz.underlying9
  a9 := Tryz.isAgg9
  z9 := Tryz.sizeOf9
  v9 := Tryz.zeroValue9 }
open Go.RowKit in
/-- strings.IndexByte: "IndexByte returns the index of the first instance of c in s, or -1 if c is not present in s.": IT RETURNS 'Lib.indexByte s c'; the world is as it was. (LAID: no walk: one application.) -/
theorem Tryz.strings_IndexByte (s : ByteArray) (c : Int) (w : World) :
    Calls Tryz.prog 164 #[.string s, .int .u8 c] w fun e w' => e = .returned (.int .i64 (Lib.indexByte s.data.toList c.toNat.toUInt8)) ∧ w' = w := Any.strings_IndexByte Tryz.lays137 s c w
open Go.RowKit in
/-- (*strings.Builder).Len: "Len returns the number of accumulated bytes; b.Len() == len(b.String()).": the world is as it was. (THE FORM '_f': 'Lib.IsBuilderF'.) (LAID: no walk: one application.) -/
theorem Tryz.Builder_Len_f (B b : Nat) (bs : List Value) (w : World) (h : Lib.IsBuilderF 172 5 B b bs w) :
    Calls Tryz.prog 86 #[.pointer (some ⟨b, 0, none⟩)] w fun e w' => e = .returned (.int .i64 bs.length) ∧ w' = w := Any.Builder_Len_f Tryz.lays170 B b bs w h
open Go.RowKit in
/-- (*strings.Builder).String: "String returns the accumulated string.": OF A BUILDER THAT HOLDS AT LEAST ONE BYTE. ✋ THE MODEL FREEZES THOSE BYTES IN THE BUFFER (unsafe.String): a later write INTO them ends the model's run without an answer; a later append BEHIND them goes on. The statement's order of evaluation is drawn: one draw. THE FORM '_f': IT SAYS BESIDES THAT THE BUILDER IS A BUILDER STILL ('Lib.IsBuilderF', the same bytes): SO IT CAN BE WRITTEN ON: 'b.WriteString(b.String()[:k])'. (LAID: no walk: one application.) -/
theorem Tryz.Builder_String_f (B b : Nat) (l : List UInt8) (w : World) (h : Lib.IsBuilderF 172 5 B b (Lib.byteCells l) w) (h0 : l ≠ []) :
    Calls Tryz.prog 87 #[.pointer (some ⟨b, 0, none⟩)] w fun e w' => e = .returned (.string ⟨l.toArray⟩) ∧ (Lib.IsBuilderF 172 5 B b (Lib.byteCells l) w' ∧ Below B w w') := Any.Builder_String_f Tryz.lays169 Tryz.Builder_Extra_169 B b l w h h0
open Go.RowKit in
/-- (*strings.Builder).String OF A BUILDER THAT HOLDS NO BYTE: the empty string; THE FORM '_f': a builder still. (LAID: no walk: one application.) -/
theorem Tryz.Builder_String_empty_f (B b : Nat) (w : World) (h : Lib.IsBuilderF 172 5 B b [] w) (hBw : B ≤ w.heap.size) :
    Calls Tryz.prog 87 #[.pointer (some ⟨b, 0, none⟩)] w fun e w' => e = .returned (.string ⟨#[]⟩) ∧ (Lib.IsBuilderF 172 5 B b [] w' ∧ Below B w w') := Any.Builder_String_empty_f Tryz.lays169 Tryz.Builder_Extra_169 B b w h hBw
open Go.RowKit in
/-- (*strings.Builder).String: "String returns the accumulated string.": WHATEVER THE BUILDER HOLDS; THE FORM '_f': OF A BUILDER THAT MAY HAVE BEEN READ BEFORE; AND IT IS A BUILDER STILL, holding the same bytes: it can be written on. (LAID: no walk: one application.) -/
theorem Tryz.Builder_String_any_f (B b : Nat) (l : List UInt8) (w : World) (h : Lib.IsBuilderF 172 5 B b (Lib.byteCells l) w) (hBw : B ≤ w.heap.size) :
    Calls Tryz.prog 87 #[.pointer (some ⟨b, 0, none⟩)] w fun e w' => e = .returned (.string ⟨l.toArray⟩) ∧ (Lib.IsBuilderF 172 5 B b (Lib.byteCells l) w' ∧ Below B w w') := Any.Builder_String_any_f Tryz.lays169 Tryz.Builder_Extra_169 B b l w h hBw
open Go.RowKit in
/-- (*strings.Builder).String: "String returns the accumulated string.": OF A BUILDER THAT HOLDS AT LEAST ONE BYTE. ✋ THE MODEL FREEZES THOSE BYTES IN THE BUFFER (unsafe.String): a later write INTO them ends the model's run without an answer; a later append BEHIND them goes on. The statement's order of evaluation is drawn: one draw. THE FORM '_k': OVER 'Lib.IsBuilderF' (a builder that 'String()' may have read), AND WITH THE FRAME THAT REACHES ABOVE THE BUILDER: 'Lib.OthersKept': every block that is not b and is no row of uint8's stands as it stood: the iterator of a range among them. (LAID: no walk: one application.) -/
theorem Tryz.Builder_String_k (B b : Nat) (l : List UInt8) (w : World) (h : Lib.IsBuilderF 172 5 B b (Lib.byteCells l) w) (h0 : l ≠ []) :
    Calls Tryz.prog 87 #[.pointer (some ⟨b, 0, none⟩)] w fun e w' => e = .returned (.string ⟨l.toArray⟩) ∧ (Lib.IsBuilderF 172 5 B b (Lib.byteCells l) w' ∧ Below B w w' ∧ Lib.OthersKept 5 (some b) w w') := Any.Builder_String_k Tryz.lays169 Tryz.Builder_Extra_169 B b l w h h0
open Go.RowKit in
/-- (*strings.Builder).String OF A BUILDER THAT HOLDS NO BYTE: the empty string; THE FORM '_k': OVER 'Lib.IsBuilderF' (a builder that 'String()' may have read), AND WITH THE FRAME THAT REACHES ABOVE THE BUILDER: 'Lib.OthersKept': every block that is not b and is no row of uint8's stands as it stood: the iterator of a range among them. (LAID: no walk: one application.) -/
theorem Tryz.Builder_String_empty_k (B b : Nat) (w : World) (h : Lib.IsBuilderF 172 5 B b [] w) (hBw : B ≤ w.heap.size) :
    Calls Tryz.prog 87 #[.pointer (some ⟨b, 0, none⟩)] w fun e w' => e = .returned (.string ⟨#[]⟩) ∧ (Lib.IsBuilderF 172 5 B b [] w' ∧ Below B w w' ∧ Lib.OthersKept 5 (some b) w w') := Any.Builder_String_empty_k Tryz.lays169 Tryz.Builder_Extra_169 B b w h hBw
open Go.RowKit in
/-- (*strings.Builder).String: "String returns the accumulated string.": WHATEVER THE BUILDER HOLDS; THE FORM '_k': OVER 'Lib.IsBuilderF' (a builder that 'String()' may have read), AND WITH THE FRAME THAT REACHES ABOVE THE BUILDER: 'Lib.OthersKept': every block that is not b and is no row of uint8's stands as it stood: the iterator of a range among them. (LAID: no walk: one application.) -/
theorem Tryz.Builder_String_any_k (B b : Nat) (l : List UInt8) (w : World) (h : Lib.IsBuilderF 172 5 B b (Lib.byteCells l) w) (hBw : B ≤ w.heap.size) :
    Calls Tryz.prog 87 #[.pointer (some ⟨b, 0, none⟩)] w fun e w' => e = .returned (.string ⟨l.toArray⟩) ∧ (Lib.IsBuilderF 172 5 B b (Lib.byteCells l) w' ∧ Below B w w' ∧ Lib.OthersKept 5 (some b) w w') := Any.Builder_String_any_k Tryz.lays169 Tryz.Builder_Extra_169 B b l w h hBw
open Go.RowKit in
/-- (*strings.Builder).grow (no doc but "grow copies the buffer to a new, larger buffer so that there are at least n bytes of capacity beyond len(b.buf)."): AT A BUILDER WITHOUT A BUFFER: a new row of whatever bytes for its buffer, none of them its own yet. Three draws. (LAID: no walk: one application.) -/
theorem Tryz.Builder_grow_fresh_cap (B b n : Nat) (w : World) (hB : B ≤ b) (hbk : w.heap[b]? = some (.cells #[.pointer (some ⟨b, 0, none⟩), .slice none 0 0] 172 (0, 0))) (hBw : B ≤ w.heap.size) (hn : n ≤ 281474976710656) :
    Calls Tryz.prog 115 #[.pointer (some ⟨b, 0, none⟩), .int .i64 n] w fun e w' => e = .returned (.tuple #[]) ∧ (Lib.BuilderAt 172 5 B b (.pointer (some ⟨b, 0, none⟩)) [] w' ∧ Below B w w') ∧ ∃ p cap, w'.cell? ⟨b, 1, none⟩ = some (.slice p 0 cap) ∧ n ≤ cap := Any.Builder_grow_fresh_cap Tryz.lays241 Tryz.Builder_Extra_241 B b n w hB hbk hBw hn
open Go.RowKit in
/-- (*strings.Builder).Grow AT A BUILDER THAT HAS NOT BEEN WRITTEN ('var b strings.Builder; b.Grow(n)'): "Grow grows b's capacity, if necessary, to guarantee space for another n bytes.": it holds no byte behind it as before it. (LAID: no walk: one application.) -/
theorem Tryz.Builder_Grow_fresh_cap (B b n : Nat) (w : World) (hB : B ≤ b) (hbk : w.heap[b]? = some (.cells #[.pointer none, .slice none 0 0] 172 (0, 0))) (hBw : B ≤ w.heap.size) (hn : n ≤ 281474976710656) :
    Calls Tryz.prog 84 #[.pointer (some ⟨b, 0, none⟩), .int .i64 n] w fun e w' => e = .returned (.tuple #[]) ∧ (Lib.BuilderAt 172 5 B b (.pointer (some ⟨b, 0, none⟩)) [] w' ∧ Below B w w') ∧ ∃ p cap, w'.cell? ⟨b, 1, none⟩ = some (.slice p 0 cap) ∧ n ≤ cap := Any.Builder_Grow_fresh_cap Tryz.lays165 Tryz.Builder_Extra_165 B b n w hB hbk hBw hn
def Tryz.lays217_ren : Go.Shelf.Ren := ⟨fun | 217 => 168 | 266 => 169 | n => n, fun | 9 => 9 | 5 => 5 | 3 => 3 | n => n, fun | n => n⟩
theorem Tryz.lays217 : Go.Proofs.Lays.n217 Tryz.prog Tryz.lays217_ren := {
  mixed := by kernel_rfl
  f217 := Tryz.func168.trans (congrArg some (by kernel_rfl))
  f266 := Tryz.func169.trans (congrArg some (by kernel_rfl))
  t3 := Tryz.underlying3
  a3 := Tryz.isAgg3
  z3 := Tryz.sizeOf3
  v3 := Tryz.zeroValue3
  t5 := Tryz.underlying5
  a5 := Tryz.isAgg5
  z5 := Tryz.sizeOf5
  v5 := Tryz.zeroValue5
  t9 := Tryz.underlying9
  a9 := Tryz.isAgg9
  z9 := Tryz.sizeOf9
  v9 := Tryz.zeroValue9 }
open Go.RowKit Go.Lib in
/-- internal/stringslite.IndexByte (what strings.IndexByte calls): IT RETURNS 'Lib.indexByte s c'; the world is as it was. (LAID: no walk: one application.) -/
theorem Tryz.stringslite_IndexByte (s : ByteArray) (c : Int) (w : World) :
    Calls Tryz.prog 168 #[.string s, .int .u8 c] w fun e w' => e = .returned (.int .i64 (Lib.indexByte s.data.toList c.toNat.toUInt8)) ∧ w' = w := Any.stringslite_IndexByte Tryz.lays217 s c w
def Tryz.lays224_ren : Go.Shelf.Ren := ⟨fun | 224 => 166 | n => n, fun | 3 => 3 | n => n, fun | n => n⟩
theorem Tryz.lays224 : Go.Proofs.Lays.n224 Tryz.prog Tryz.lays224_ren := {
  mixed := by kernel_rfl
  f224 := Tryz.func166.trans (congrArg some (by kernel_rfl))
  t3 := Tryz.underlying3
  a3 := Tryz.isAgg3
  z3 := Tryz.sizeOf3
  v3 := Tryz.zeroValue3 }
open Go.RowKit Go.Lib in
/-- internal/bytealg.Cutover: "Cutover reports the number of failures of IndexByte we should tolerate before switching over to Index. n is the number of bytes processed so far.": on amd64: (n + 16) / 8. (LAID: no walk: one application.) -/
theorem Tryz.bytealg_Cutover (n : Int) (h0 : 0 ≤ n) (h1 : n < 4611686018427387904) (w : World) :
    Calls Tryz.prog 166 #[.int .i64 n] w fun e w' => e = .returned (.int .i64 ((n + 16) / 8)) ∧ w' = w := Any.bytealg_Cutover Tryz.lays224 n h0 h1 w
def Tryz.lays206_ren : Go.Shelf.Ren := ⟨fun | 206 => 113 | n => n, fun | 9 => 9 | 4 => 4 | 3 => 3 | n => n, fun | n => n⟩
theorem Tryz.lays206 : Go.Proofs.Lays.n206 Tryz.prog Tryz.lays206_ren := {
  mixed := by kernel_rfl
  f206 := Tryz.func113.trans (congrArg some (by kernel_rfl))
  t3 := Tryz.underlying3
  a3 := Tryz.isAgg3
  z3 := Tryz.sizeOf3
  v3 := Tryz.zeroValue3
  t4 := Tryz.underlying4
  a4 := Tryz.isAgg4
  z4 := Tryz.sizeOf4
  v4 := Tryz.zeroValue4
  t9 := Tryz.underlying9
  a9 := Tryz.isAgg9
  z9 := Tryz.sizeOf9
  v9 := Tryz.zeroValue9 }
open Go.RowKit Go.Lib in
/-- internal/stringslite.HasPrefix (what strings.HasPrefix calls). (LAID: no walk: one application.) -/
theorem Tryz.stringslite_HasPrefix (s p : ByteArray) (w : World) :
    Calls Tryz.prog 113 #[.string s, .string p] w fun e w' => e = .returned (.bool (Lib.hasPrefix s.data.toList p.data.toList)) ∧ w' = w := Any.stringslite_HasPrefix Tryz.lays206 s p w
def Tryz.lays99_ren : Go.Shelf.Ren := ⟨fun | 99 => 83 | 206 => 113 | n => n, fun | 9 => 9 | 4 => 4 | 3 => 3 | n => n, fun | n => n⟩
theorem Tryz.lays99 : Go.Proofs.Lays.n99 Tryz.prog Tryz.lays99_ren := {
  mixed := by kernel_rfl
  f99 := Tryz.func83.trans (congrArg some (by kernel_rfl))
  f206 := Tryz.func113.trans (congrArg some (by kernel_rfl))
  t3 := Tryz.underlying3
  a3 := Tryz.isAgg3
  z3 := Tryz.sizeOf3
  v3 := Tryz.zeroValue3
  t4 := Tryz.underlying4
  a4 := Tryz.isAgg4
  z4 := Tryz.sizeOf4
  v4 := Tryz.zeroValue4
  t9 := Tryz.underlying9
  a9 := Tryz.isAgg9
  z9 := Tryz.sizeOf9
  v9 := Tryz.zeroValue9 }
open Go.RowKit Go.Lib in
/-- strings.HasPrefix: "HasPrefix reports whether the string s begins with prefix.": IT RETURNS 'Lib.hasPrefix s prefix'; the world is as it was. (LAID: no walk: one application.) -/
theorem Tryz.strings_HasPrefix (s p : ByteArray) (w : World) :
    Calls Tryz.prog 83 #[.string s, .string p] w fun e w' => e = .returned (.bool (Lib.hasPrefix s.data.toList p.data.toList)) ∧ w' = w := Any.strings_HasPrefix Tryz.lays99 s p w
def Tryz.lays264_ren : Go.Shelf.Ren := ⟨fun | 264 => 112 | n => n, fun | 53 => 22 | 46 => 166 | n => n, fun | n => n⟩
theorem Tryz.lays264 : Go.Proofs.Lays.n264 Tryz.prog Tryz.lays264_ren := {
  mixed := by kernel_rfl
  f264 := Tryz.func112.trans (congrArg some (by kernel_rfl))
  t46 := Tryz.underlying166
  a46 := Tryz.isAgg166
  z46 := Tryz.sizeOf166
  v46 := Tryz.zeroValue166
  t53 := Tryz.underlying22
  a53 := Tryz.isAgg22
  z53 := Tryz.sizeOf22
  v53 := Tryz.zeroValue22 }
open Go.RowKit Go.Lib in
theorem Tryz.bits_Mul64 (x y : Nat) (hx : x < 18446744073709551616) (hy : y < 18446744073709551616) (w : World) :
    Calls Tryz.prog 112 #[.int .u64 x, .int .u64 y] w fun e w' => e = .returned (.tuple #[.int .u64 ((x * y / 18446744073709551616 : Nat) : Int), .int .u64 ((x * y % 18446744073709551616 : Nat) : Int)]) ∧ w' = w := Any.bits_Mul64 Tryz.lays264 x y hx hy w
def Tryz.lays212_ren : Go.Shelf.Ren := ⟨fun | 212 => 82 | 263 => 111 | 264 => 112 | n => n, fun | 46 => 166 | 51 => 23 | 146 => 200 | 53 => 22 | 148 => 202 | n => n, fun | n => n⟩
theorem Tryz.lays212 : Go.Proofs.Lays.n212 Tryz.prog Tryz.lays212_ren := {
  mixed := by kernel_rfl
  f212 := Tryz.func82.trans (congrArg some (by kernel_rfl))
  f263 := Tryz.func111.trans (congrArg some (by kernel_rfl))
  f264 := Tryz.func112.trans (congrArg some (by kernel_rfl))
  t46 := Tryz.underlying166
  a46 := Tryz.isAgg166
  z46 := Tryz.sizeOf166
  v46 := Tryz.zeroValue166
  t51 := Tryz.underlying23
  a51 := Tryz.isAgg23
  z51 := Tryz.sizeOf23
  v51 := Tryz.zeroValue23
  t53 := Tryz.underlying22
  a53 := Tryz.isAgg22
  z53 := Tryz.sizeOf22
  v53 := Tryz.zeroValue22
  t146 := Tryz.underlying200
  a146 := Tryz.isAgg200
  z146 := Tryz.sizeOf200
  v146 := Tryz.zeroValue200
  t148 := Tryz.underlying202
  a148 := Tryz.isAgg202
  z148 := Tryz.sizeOf202
  v148 := Tryz.zeroValue202 }
open Go.RowKit Go.Lib in
/-- math/bits.Mul: "Mul returns the full-width product of x and y": on a machine of 64 bits: Mul64's. (LAID: no walk: one application.) -/
theorem Tryz.bits_Mul (x y : Nat) (hx : x < 18446744073709551616) (hy : y < 18446744073709551616) (w : World) :
    Calls Tryz.prog 82 #[.int .u64 x, .int .u64 y] w fun e w' => e = .returned (.tuple #[.int .u64 ((x * y / 18446744073709551616 : Nat) : Int), .int .u64 ((x * y % 18446744073709551616 : Nat) : Int)]) ∧ w' = w := Any.bits_Mul Tryz.lays212 x y hx hy w
def Tryz.lays105_ren : Go.Shelf.Ren := ⟨fun | 105 => 54 | 212 => 82 | 99 => 83 | 165 => 84 | 166 => 85 | 170 => 86 | 169 => 87 | 263 => 111 | 264 => 112 | 206 => 113 | 240 => 114 | 241 => 115 | 276 => 134 | 277 => 135 | n => n, fun | 9 => 9 | 3 => 3 | 4 => 4 | 20 => 20 | 0 => 0 | 46 => 166 | 109 => 167 | 5 => 5 | 72 => 172 | 76 => 175 | 51 => 23 | 146 => 200 | 53 => 22 | 148 => 202 | 70 => 170 | 37 => 44 | 75 => 174 | 127 => 204 | 164 => 219 | 80 => 155 | n => n, fun | n => n⟩
theorem Tryz.lays105 : Go.Proofs.Lays.n105 Tryz.prog Tryz.lays105_ren := {
  mixed := by kernel_rfl
  f99 := Tryz.func83.trans (congrArg some (by kernel_rfl))
  f105 := Tryz.func54.trans (congrArg some (by kernel_rfl))
  f165 := Tryz.func84.trans (congrArg some (by kernel_rfl))
  f166 := Tryz.func85.trans (congrArg some (by kernel_rfl))
  f169 := Tryz.func87.trans (congrArg some (by kernel_rfl))
  f170 := Tryz.func86.trans (congrArg some (by kernel_rfl))
  f206 := Tryz.func113.trans (congrArg some (by kernel_rfl))
  f212 := Tryz.func82.trans (congrArg some (by kernel_rfl))
  f240 := Tryz.func114.trans (congrArg some (by kernel_rfl))
  f241 := Tryz.func115.trans (congrArg some (by kernel_rfl))
  f263 := Tryz.func111.trans (congrArg some (by kernel_rfl))
  f264 := Tryz.func112.trans (congrArg some (by kernel_rfl))
  f276 := Tryz.func134.trans (congrArg some (by kernel_rfl))
  f277 := Tryz.func135.trans (congrArg some (by kernel_rfl))
  t0 := Tryz.underlying0
  a0 := Tryz.isAgg0
  z0 := Tryz.sizeOf0
  v0 := Tryz.zeroValue0
  t3 := Tryz.underlying3
  a3 := Tryz.isAgg3
  z3 := Tryz.sizeOf3
  v3 := Tryz.zeroValue3
  t4 := Tryz.underlying4
  a4 := Tryz.isAgg4
  z4 := Tryz.sizeOf4
  v4 := Tryz.zeroValue4
  t5 := Tryz.underlying5
  a5 := Tryz.isAgg5
  z5 := Tryz.sizeOf5
  v5 := Tryz.zeroValue5
  t9 := Tryz.underlying9
  a9 := Tryz.isAgg9
  z9 := Tryz.sizeOf9
  v9 := Tryz.zeroValue9
  t20 := Tryz.underlying20
  a20 := Tryz.isAgg20
  z20 := Tryz.sizeOf20
  v20 := Tryz.zeroValue20
  t37 := Tryz.underlying44
  a37 := Tryz.isAgg44
  z37 := Tryz.sizeOf44
  v37 := Tryz.zeroValue44
  t46 := Tryz.underlying166
  a46 := Tryz.isAgg166
  z46 := Tryz.sizeOf166
  v46 := Tryz.zeroValue166
  t51 := Tryz.underlying23
  a51 := Tryz.isAgg23
  z51 := Tryz.sizeOf23
  v51 := Tryz.zeroValue23
  t53 := Tryz.underlying22
  a53 := Tryz.isAgg22
  z53 := Tryz.sizeOf22
  v53 := Tryz.zeroValue22
  t70 := Tryz.underlying170
  a70 := Tryz.isAgg170
  z70 := Tryz.sizeOf170
  v70 := Tryz.zeroValue170
  t72 := Tryz.underlying172
  a72 := Tryz.isAgg172
  z72 := Tryz.sizeOf172
  v72 := Tryz.zeroValue172
  t75 := Tryz.underlying174
  a75 := Tryz.isAgg174
  z75 := Tryz.sizeOf174
  v75 := Tryz.zeroValue174
  t76 := Tryz.underlying175
  a76 := Tryz.isAgg175
  z76 := Tryz.sizeOf175
  v76 := Tryz.zeroValue175
  t109 := Tryz.underlying167
  a109 := Tryz.isAgg167
  z109 := Tryz.sizeOf167
  v109 := Tryz.zeroValue167
  t127 := Tryz.underlying204
  a127 := Tryz.isAgg204
  z127 := Tryz.sizeOf204
  v127 := Tryz.zeroValue204
  t146 := Tryz.underlying200
  a146 := Tryz.isAgg200
  z146 := Tryz.sizeOf200
  v146 := Tryz.zeroValue200
  t148 := Tryz.underlying202
  a148 := Tryz.isAgg202
  z148 := Tryz.sizeOf202
  v148 := Tryz.zeroValue202
  t164 := Tryz.underlying219
  a164 := Tryz.isAgg219
  z164 := Tryz.sizeOf219
  v164 := Tryz.zeroValue219 }
theorem Tryz.Builder_Extra_105 : Builder.Extra Tryz.prog Tryz.lays105_ren := {
  sizeBuilder := by kernel_rfl
  liesBuilder := by kernel_rfl
  t5 := Tryz.underlying5
  a5 := Tryz.isAgg5
  z5 := Tryz.sizeOf5
  v5 := Tryz.zeroValue5
  infoByte := by kernel_rfl
  cellsByte := by kernel_rfl
  sizeByte := by kernel_rfl
  neB5 := by decide }
open Go.RowKit Go.Lib in
/-- THE MAIN CASE: at least two copies of a string that is not empty. (LAID: no walk: one application.) -/
theorem Tryz.strings_Repeat_main (s : ByteArray) (c : Nat) (w : World) (hc2 : 2 ≤ c) (hc : c ≤ 9223372036854775807) (hlen : s.size * c ≤ 140737488355328) (h0 : 0 < s.size) :
    Calls Tryz.prog 54 #[.string s, .int .i64 c] w fun e w' => e = .returned (.string ⟨(Lib.repeatL s.data.toList c).toArray⟩) ∧ Below w.heap.size w w' := Any.strings_Repeat_main Tryz.lays105 Tryz.Builder_Extra_105 s c w hc2 hc hlen h0
open Go.RowKit Go.Lib in
theorem Tryz.strings_Repeat_zero (s : ByteArray) (w : World) :
    Calls Tryz.prog 54 #[.string s, .int .i64 0] w fun e w' => e = .returned (.string ⟨#[]⟩) ∧ w' = w := Any.strings_Repeat_zero Tryz.lays105 s w
open Go.RowKit Go.Lib in
theorem Tryz.strings_Repeat_one (s : ByteArray) (w : World) :
    Calls Tryz.prog 54 #[.string s, .int .i64 1] w fun e w' => e = .returned (.string s) ∧ w' = w := Any.strings_Repeat_one Tryz.lays105 s w
open Go.RowKit Go.Lib in
/-- Copies of the empty string. (LAID: no walk: one application.) -/
theorem Tryz.strings_Repeat_empty (s : ByteArray) (c : Nat) (w : World) (hc2 : 2 ≤ c) (hc : c ≤ 9223372036854775807) (h0 : s.size = 0) :
    Calls Tryz.prog 54 #[.string s, .int .i64 c] w fun e w' => e = .returned (.string ⟨#[]⟩) ∧ w' = w := Any.strings_Repeat_empty Tryz.lays105 s c w hc2 hc h0
open Go.RowKit Go.Lib in
/-- count < 0: "It panics if count is negative". (LAID: no walk: one application.) -/
theorem Tryz.strings_Repeat_negative (s : ByteArray) (c : Int) (w : World) (hc : c < 0) :
    Calls Tryz.prog 54 #[.string s, .int .i64 c] w fun e w' => e = .panicked [{ v := repeatPanic Tryz.lays105_ren "strings: negative Repeat count", recovered := false }] ∧ w' = w := Any.strings_Repeat_negative Tryz.lays105 s c w hc
open Go.RowKit Go.Lib in
/-- len(s) * count is no int: ".. or if the result of (len(s) * count) overflows". (LAID: no walk: one application.) -/
theorem Tryz.strings_Repeat_overflow (s : ByteArray) (c : Nat) (w : World) (hc : c ≤ 9223372036854775807) (hs : s.size ≤ 9223372036854775807) (hbig : 9223372036854775807 < s.size * c) :
    Calls Tryz.prog 54 #[.string s, .int .i64 c] w fun e w' => e = .panicked [{ v := repeatPanic Tryz.lays105_ren "strings: Repeat output length overflow", recovered := false }] ∧ w' = w := Any.strings_Repeat_overflow Tryz.lays105 s c w hc hs hbig
open Go.RowKit Go.Lib in
/-- **strings.Repeat: count ≥ 0, the result within one allocation: count copies of s.** (LAID: no walk: one application.) -/
theorem Tryz.strings_Repeat (s : ByteArray) (c : Nat) (w : World) (hc : c ≤ 9223372036854775807) (hlen : s.size * c ≤ 140737488355328) :
    Calls Tryz.prog 54 #[.string s, .int .i64 c] w fun e w' => e = .returned (.string ⟨(Lib.repeatL s.data.toList c).toArray⟩) ∧ Below w.heap.size w w' := Any.strings_Repeat Tryz.lays105 Tryz.Builder_Extra_105 s c w hc hlen
def Tryz.lays260_ren : Go.Shelf.Ren := ⟨fun | 260 => 162 | n => n, fun | 9 => 9 | 21 => 21 | 3 => 3 | 4 => 4 | 5 => 5 | 119 => 260 | 0 => 0 | 46 => 166 | 139 => 263 | 138 => 262 | n => n, fun | 3 => 1 | 4 => 2 | n => n⟩
theorem Tryz.lays260 : Go.Proofs.Lays.n260 Tryz.prog Tryz.lays260_ren := {
  mixed := by kernel_rfl
  f260 := Tryz.func162.trans (congrArg some (by kernel_rfl))
  t0 := Tryz.underlying0
  a0 := Tryz.isAgg0
  z0 := Tryz.sizeOf0
  v0 := Tryz.zeroValue0
  t3 := Tryz.underlying3
  a3 := Tryz.isAgg3
  z3 := Tryz.sizeOf3
  v3 := Tryz.zeroValue3
  t4 := Tryz.underlying4
  a4 := Tryz.isAgg4
  z4 := Tryz.sizeOf4
  v4 := Tryz.zeroValue4
  t5 := Tryz.underlying5
  a5 := Tryz.isAgg5
  z5 := Tryz.sizeOf5
  v5 := Tryz.zeroValue5
  t9 := Tryz.underlying9
  a9 := Tryz.isAgg9
  z9 := Tryz.sizeOf9
  v9 := Tryz.zeroValue9
  t21 := Tryz.underlying21
  a21 := Tryz.isAgg21
  z21 := Tryz.sizeOf21
  v21 := Tryz.zeroValue21
  t46 := Tryz.underlying166
  a46 := Tryz.isAgg166
  z46 := Tryz.sizeOf166
  v46 := Tryz.zeroValue166
  t119 := Tryz.underlying260
  a119 := Tryz.isAgg260
  z119 := Tryz.sizeOf260
  t138 := Tryz.underlying262
  a138 := Tryz.isAgg262
  z138 := Tryz.sizeOf262
  v138 := Tryz.zeroValue262
  t139 := Tryz.underlying263
  a139 := Tryz.isAgg263
  z139 := Tryz.sizeOf263
  v139 := Tryz.zeroValue263
  g3 := by kernel_rfl
  g4 := by kernel_rfl }
open Go.RowKit Go.Lib in
theorem Tryz.utf8_decodeRuneInStringSlow (s : ByteArray) (w : World) (hT : Lib.Utf8Tabs 1 2 w) :
    Calls Tryz.prog 162 #[.string s] w fun e w' => e = .returned (.tuple #[.int .i32 (Lib.decodeGo s).1, .int .i64 (Lib.decodeGo s).2]) ∧ Below w.heap.size w w' := Any.utf8_decodeRuneInStringSlow Tryz.lays260 s w hT
end Go.Proofs

/- Contracts of layer 1 (lend): measure, Size, fits, appendNumber. -/
namespace Go.Proofs.YtflanjcfkdjpjaaGreatDoor.Lend
open Go.RowKit Go.Proofs.YtflanjcfkdjpjaaGreatDoor
set_option linter.unusedVariables false


theorem row_len {kd : IntKind} {w : World} {ao : Option Addr} {len : Nat} {xs : List Int} (h : Row kd w ao len xs) : xs.length = len := h.len_eq
theorem ret_meas {a b : Int} {c d : Bool} (h : a = b) (h' : c = d) : Ending.returned (.tuple #[.int .i64 a, .bool c]) = .returned (.tuple #[.int .i64 b, .bool d]) := by rw [h, h']

set_option maxHeartbeats 400000 in
theorem measure_any (ao : Option Addr) (len cap : Nat) (ws : List Int) (w : World) (hr : Row .i64 w ao len ws) (hl : len ≤ 1000000) :
    Calls Tryz.prog 105 #[.slice ao len cap] w fun e w' => e = .returned (.tuple #[.int .i64 (measN ws), .bool (okW ws)]) ∧ w = w' := by
  obtain ⟨hlen, hat⟩ := hr
  have HL := Lib.hid hlen
  clear hlen
  have HAT := Lib.hid hat
  clear hat
  go_enter Tryz.func105, Tryz.ntmps105
  go_wp2
  go_loop [4, 9] (fun t i => ∃ k : Nat, k ≤ len ∧ i = .int .i64 k ∧ t = .int .i64 (sumW (ws.take k)) ∧ okW (ws.take k) = true) (fun _ i => len - (intOf i).toNat)
  case atStart => exact ⟨0, Nat.zero_le _, rfl, rfl, rfl⟩
  case round =>
    obtain ⟨k, hk, rfl, rfl, hok⟩ := hrel
    have hbd := sumW_bd _ hok
    have hlk : (ws.take k).length ≤ k := List.length_take_le _ _
    have HOK := Lib.hid hok
    clear hok
    by_cases hlt : k < len
    · obtain ⟨b, off, rfl, hc⟩ := HAT.out (by omega)
      have hck := hc k hlt
      clear hc
      obtain ⟨x, hx⟩ : ∃ x, x = ws.getD k 0 := ⟨_, rfl⟩
      rw [← hx] at hck
      have HX := Lib.hid hx
      clear hx
      by_cases h1 : 1 ≤ x
      · by_cases h8 : x ≤ 8
        · go_wp2
          go_round
          case rel =>
            have e := take_snoc' ws k (by have := HL.out; omega)
            rw [← HX.out] at e
            exact ⟨k + 1, by omega, by go_num, by rw [e, sumW_snoc], by rw [e, okW_snoc, HOK.out]; simp; omega⟩
          case measure => simp [intOf]; omega
        · have hno := okW_getD (ws := ws) (k := k) (by have := HL.out; omega) (by rw [← HX.out]; omega)
          have HN := Lib.hid hno
          clear hno
          go_wp2
          go_ret2
          exact ⟨ret_meas (measN_no HN.out).symm HN.out.symm, rfl⟩
      · have hno := okW_getD (ws := ws) (k := k) (by have := HL.out; omega) (by rw [← HX.out]; omega)
        have HN := Lib.hid hno
        clear hno
        go_wp2
        go_ret2
        exact ⟨ret_meas (measN_no HN.out).symm HN.out.symm, rfl⟩
    · have e : ws.take k = ws := List.take_of_length_le (by have := HL.out; omega)
      have HE := Lib.hid e
      clear e
      go_wp2
      go_ret2
      have hw : okW ws = true := by have := HOK.out; rwa [HE.out] at this
      exact ⟨ret_meas (by rw [HE.out, measN_yes hw]) hw.symm, rfl⟩
theorem ret_bool {a b : Bool} (h : a = b) : Ending.returned (.bool a) = .returned (.bool b) := by rw [h]
theorem fits_any (n : Int) (x : Int) (w : World) (h0 : 0 ≤ n) (_h1 : n < 18446744073709551616) (hx1 : 1 ≤ x) (hx8 : x ≤ 8) :
    Calls Tryz.prog 106 #[.int .u64 n, .int .i64 x] w fun e w' => e = .returned (.bool (fitsB n x)) ∧ w = w' := by
  go_enter Tryz.func106, Tryz.ntmps106
  go_wp2
  go_ret
  exact ⟨ret_bool (fitsB_walk n x h0), rfl⟩

theorem info_u8 : (Tryz.prog.info? 5).map (fun i => (i.zero, i.size, i.bytes)) = some (some (.int .u8 0), 1, 1) := by kernel_rfl

set_option maxHeartbeats 400000 in
theorem appendNumber_any (B : Nat) (v : Value) (m : Nat) (xs : List Value) (n : Int) (x : Int) (w : World) (hown : w.ownsRow B 5 1 v m xs) (hB : B ≤ w.heap.size) (hm : m ≤ 1000000)
    (h0 : 0 ≤ n) (h1 : n < 18446744073709551616) (hx1 : 1 ≤ x) (hx8 : x ≤ 8) :
    Calls Tryz.prog 107 #[v, .int .u64 n, .int .i64 x] w fun e w' => ∃ v', e = .returned v' ∧ w'.ownsRow B 5 1 v' (m + x.toNat) (xs ++ byteVals n x.toNat) ∧ Below B w w' := by
  obtain ⟨i0, hi, hz0, hz1, hz2⟩ := info_parts info_u8
  obtain ⟨kx, rfl⟩ := Int.eq_ofNat_of_zero_le (show 0 ≤ x by omega)
  go_enter Tryz.func107, Tryz.ntmps107
  go_wp2
  go_loopw [0, 9] (fun s i wr => ∃ k : Nat, k ≤ kx ∧ i = .int .i64 k ∧ wr.ownsRow B 5 1 s (m + k) (xs ++ byteVals n k) ∧ Below B w wr) (fun _ i _ => kx - (intOf i).toNat)
  case atStart => exact ⟨0, Nat.zero_le _, rfl, by simpa [byteVals] using hown, Below.refl _ _⟩
  case round =>
    obtain ⟨k, hk, rfl, hownr, hbel⟩ := hrel
    have hsz := hbel.size
    by_cases hlt : k < kx
    · go_wp2_with (at_builtin; refine wpList_append_own _ rfl _ _ 44 rfl B 5 i0 (.int .u8 0) 1 1 Tryz.underlying44 hi hz0 hz1 hz2 rfl (by decide) _ _ _ rfl (hownr.alloc _) ⟨wr.heap.size, 0, none⟩ 1 1 [.int .u8 (byteAt n k)] rfl rfl ?c1 ?c2 ?c3 ?c4 ?c5 ?_)
      case c1 =>
        intro j u hj
        match j, hj with
        | 0, hj => simp at hj; subst hj; simp [Addr.add, byteAt]
      case c2 => intro u hu; simp at hu; subst hu; rfl
      case c3 => unfold maxLen; omega
      case c4 => omega
      case c5 => simp; omega
      intro v' w1 hown' hgrow _
      have hbel' : Below B w w1 := (hbel.alloc (by omega) _).grown hgrow (by simp; omega) (fun q hq => (hownr.lt q hq).1)
      clear hownr hgrow hown
      go_wp2
      go_roundw
      case rel => exact ⟨k + 1, by omega, by go_num, by rw [byteVals_succ, ← Nat.add_assoc]; exact hown', hbel'⟩
      case measure => simp [intOf]; omega
    · obtain rfl : k = kx := by omega
      go_wp2
      go_ret
      exact ⟨_, rfl, hownr, hbel⟩
end Go.Proofs.YtflanjcfkdjpjaaGreatDoor.Lend

/- Contract of layer 1 (lend): Write. -/
namespace Go.Proofs.YtflanjcfkdjpjaaGreatDoor.Lend
open Go.RowKit Go.Proofs.YtflanjcfkdjpjaaGreatDoor
set_option linter.unusedVariables false

theorem foldl_push (l : List Int) : ∀ s : ByteArray, l.foldl (fun r n => r.push (UInt8.ofNat n.toNat)) s = ⟨s.data ++ (l.map fun n => UInt8.ofNat n.toNat).toArray⟩ := by
  induction l with
  | nil => intro s; simp
  | cons x l ih => intro s; rw [List.foldl_cons, ih]; simp [ByteArray.push]

/-- 'string(b)' of bytes that the call owns. -/
theorem run_string_own (w : World) (B : Nat) (v : Value) (n : Nat) (l : List UInt8) (h : w.ownsRow B 5 1 v n (l.map u8V)) :
    (convert 44 9 v).run Tryz.prog w = .ok (.string (strOf l)) w := by
  have hl : l.length = n := by have := h.1; simpa using this
  rcases h.2 with ⟨rfl, h0⟩ | ⟨g, cap', cur, rfl, hB, hg, hn, hm, hs, ht⟩
  · subst h0
    have : l = [] := by simpa using hl
    subst this
    rw [run_convert_bytes_string w _ _ _ _ _ _ Tryz.underlying44 Tryz.underlying5 Tryz.underlying9]
    rfl
  · rw [run_convert_bytes_string w _ _ _ _ _ _ Tryz.underlying44 Tryz.underlying5 Tryz.underlying9]
    have hc := run_loadCells_list (P := Tryz.prog) (w := w) ⟨g, 0, none⟩ (l.map u8V) (h.cells (g := g) rfl)
    rw [List.length_map, hl] at hc
    have e : l.map u8V = (l.map fun b => (b.toNat : Int)).map (Value.int .u8) := by simp [u8V]
    rw [e] at hc
    rw [run_bytesToString w _ _ _ _ hc, foldl_push]
    have ef : ((fun n : Int => UInt8.ofNat n.toNat) ∘ fun b : UInt8 => (b.toNat : Int)) = id := by funext b; simp
    simp [strOf, ByteArray.empty, ByteArray.emptyWithCapacity, ef]
    rfl

theorem ret_wr {a b : ByteArray} {c d : Bool} (h : a = b) (h' : c = d) : Ending.returned (.tuple #[.string a, .bool c]) = .returned (.tuple #[.string b, .bool d]) := by rw [h, h']

set_option maxHeartbeats 1000000 in
set_option maxRecDepth 100000 in
theorem write_any (ao bo : Option Addr) (la ca lb cb : Nat) (ws ns : List Int) (w : World) (hra : Row .i64 w ao la ws) (hrb : Row .u64 w bo lb ns) (hla : la ≤ 1000) (hlb : lb ≤ 1000)
    (hns : ∀ n ∈ ns, 0 ≤ n ∧ n < 18446744073709551616) :
    Calls Tryz.prog 71 #[.slice ao la ca, .slice bo lb cb] w fun e w' => e = .returned (.tuple #[.string (wrS ws ns), .bool (wrB ws ns)]) ∧ Below w.heap.size w w' := by
  obtain ⟨i0, hi, hz0, hz1, hz2⟩ := info_parts info_u8
  have hlen := hra.len_eq
  have hlen' := hrb.len_eq
  by_cases hok : okW ws = true
  · by_cases hab : la = lb
    · subst hab
      have HLA := Lib.hid hlen
      have HLB := Lib.hid hlen'
      have hbd := sumW_bd ws hok
      have hm := measN_yes hok
      rw [hlen] at hbd
      obtain ⟨tot, htot⟩ := Int.eq_ofNat_of_zero_le (show 0 ≤ sumW ws by omega)
      rw [htot] at hm hbd
      have HM := Lib.hid hm
      have HOK := Lib.hid hok
      have HNS := Lib.hid hns
      have HT := Lib.hid htot
      clear hlen hlen' hm hok hns htot
      go_enter Tryz.func71, Tryz.ntmps71
      go_wp2_with (first | (go_at_call 105; refine (measure_any _ _ _ ws _ hra (by omega)).mono ?_; rintro e w' ⟨rfl, rfl⟩; rw [HM.out, HOK.out]) | (at_make; refine wpList_make_own _ rfl _ _ 44 rfl w.heap.size 5 i0 (.int .u8 0) 1 Tryz.underlying44 hi hz0 hz1 _ _ _ tot rfl rfl (by omega) ?b1 ?b2 ?b3 ?_))
      case b1 => rw [hz2]; omega
      case b2 => unfold maxLen; omega
      case b3 => omega
      intro w1 hown hgrow
      have hbel : Below w.heap.size w w1 := (Below.refl _ _).grown hgrow (Nat.le_refl _) (fun q hq => by cases hq)
      clear hgrow
      go_wp2
      go_loopw [8, 29] (fun s i wr => ∃ k : Nat, k ≤ la ∧ i = .int .i64 k ∧ wr.ownsRow w.heap.size 5 1 s (encL (ws.take k) (ns.take k)).length ((encL (ws.take k) (ns.take k)).map u8V) ∧ Below w.heap.size w wr ∧ fitsL (ws.take k) (ns.take k) = true) (fun _ i _ => la - (intOf i).toNat)
      case atStart => exact ⟨0, Nat.zero_le _, rfl, hown, hbel, rfl⟩
      case round =>
        obtain ⟨k, hk, rfl, hownr, hbelr, hfit⟩ := hrel
        have HF := Lib.hid hfit
        clear hown hbel hfit
        have hsz := hbelr.size
        by_cases hlt : k < la
        · obtain ⟨b1, o1, rfl, hc1⟩ := (hra.below hbelr (Nat.le_refl _)).at_ (by omega)
          obtain ⟨b2, o2, rfl, hc2⟩ := (hrb.below hbelr (Nat.le_refl _)).at_ (by omega)
          have hc1k := hc1 k hlt
          have hc2k := hc2 k hlt
          clear hc1 hc2
          obtain ⟨x, hx⟩ : ∃ x, x = ws.getD k 0 := ⟨_, rfl⟩
          obtain ⟨n, hn⟩ : ∃ n, n = ns.getD k 0 := ⟨_, rfl⟩
          rw [← hx] at hc1k
          rw [← hn] at hc2k
          have HX := Lib.hid hx
          have HN := Lib.hid hn
          have hx8 : 1 ≤ x ∧ x ≤ 8 := by
            by_cases hxx : 1 ≤ x ∧ x ≤ 8
            · exact hxx
            · have := okW_getD (ws := ws) (k := k) (by have := HLA.out; omega) (by rw [← hx]; exact hxx)
              rw [HOK.out] at this
              cases this
          have hnn : 0 ≤ n ∧ n < 18446744073709551616 := by
            rw [hn]
            refine HNS.out _ ?_
            rw [List.getD_eq_getElem?_getD, List.getElem?_eq_getElem (by have := HLB.out; omega)]
            exact List.getElem_mem _
          obtain ⟨hx1, hx8⟩ := hx8
          obtain ⟨hn0, hn1⟩ := hnn
          clear hx hn
          have hll : (encL (ws.take k) (ns.take k)).length ≤ 1000000 := by
            have := encL_take_le ws ns k HOK.out (by rw [HLA.out, HLB.out])
            omega
          have HST := Lib.hid (encL_take_succ ws ns k (by have := HLA.out; omega) (by rw [HLA.out, HLB.out]))
          have HSF := Lib.hid (fitsL_take_succ ws ns k (by have := HLA.out; omega) (by rw [HLA.out, HLB.out]))
          cases hf : fitsB n x with
          | true =>
            have HFI := Lib.hid hf
            clear hf
            go_wp2_with (first | (go_at_call 106; refine (fits_any n x _ hn0 hn1 hx1 hx8).mono ?_; rintro e w' ⟨rfl, rfl⟩; rw [HFI.out]) | (go_at_call 107; refine (appendNumber_any w.heap.size _ _ _ n x _ hownr (by omega) hll hn0 hn1 hx1 hx8).mono ?_; rintro e w' ⟨v', rfl, hown', hbel'⟩))
            go_roundw
            case rel =>
              refine ⟨k + 1, by omega, by go_num, ?_, hbelr.trans hbel', ?_⟩
              · rw [HST.out, ← HX.out, ← HN.out]
                rw [byteVals_enc] at hown'
                simpa [encN_length] using hown'
              · rw [HSF.out, HF.out, ← HX.out, ← HN.out, HFI.out]; rfl
            case measure => simp [intOf]; omega
          | false =>
            have hno := wr_no (ws := ws) (ns := ns) (.inr (.inr (fitsL_at ws ns k (by have := HLA.out; omega) (by have := HLB.out; omega) (by rw [← HX.out, ← HN.out]; exact hf))))
            have HNO := Lib.hid hno
            have HFI := Lib.hid hf
            clear hf hno
            go_wp2_with (go_at_call 106; refine (fits_any n x _ hn0 hn1 hx1 hx8).mono ?_; rintro e w' ⟨rfl, rfl⟩; rw [HFI.out])
            go_ret2
            exact ⟨ret_wr HNO.out.2.symm HNO.out.1.symm, hbelr⟩
        · have e1 : ws.take k = ws := List.take_of_length_le (by have := HLA.out; omega)
          have e2 : ns.take k = ns := List.take_of_length_le (by have := HLB.out; omega)
          rw [e1, e2] at hownr
          have hyes := wr_ok (ws := ws) (ns := ns) HOK.out (by rw [HLA.out, HLB.out]) (by have := HF.out; rwa [e1, e2] at this)
          have HY := Lib.hid hyes
          clear e1 e2 hyes
          have hcv := run_string_own wr w.heap.size _ _ _ hownr
          go_wp2
          go_ret2
          exact ⟨ret_wr HY.out.2.symm HY.out.1.symm, hbelr⟩
    · have hno := wr_no (ws := ws) (ns := ns) (.inr (.inl (by omega)))
      have HNO := Lib.hid hno
      have HOK := Lib.hid hok
      clear hno hok hlen hlen'
      go_enter Tryz.func71, Tryz.ntmps71
      go_wp2_with (go_at_call 105; refine (measure_any _ _ _ ws _ hra (by omega)).mono ?_; rintro e w' ⟨rfl, rfl⟩; rw [HOK.out])
      go_ret2
      exact ⟨ret_wr HNO.out.2.symm HNO.out.1.symm, Below.refl _ _⟩
  · have hok : okW ws = false := by simpa using hok
    have hno := wr_no (ws := ws) (ns := ns) (.inl hok)
    have HNO := Lib.hid hno
    have HOK := Lib.hid hok
    clear hno hok hlen hlen'
    go_enter Tryz.func71, Tryz.ntmps71
    go_wp2_with (go_at_call 105; refine (measure_any _ _ _ ws _ hra (by omega)).mono ?_; rintro e w' ⟨rfl, rfl⟩; rw [HOK.out])
    go_ret2
    exact ⟨ret_wr HNO.out.2.symm HNO.out.1.symm, Below.refl _ _⟩
end Go.Proofs.YtflanjcfkdjpjaaGreatDoor.Lend

/- Contracts of layer 1 (lend): number, Read, Split, Join. -/
namespace Go.Proofs.YtflanjcfkdjpjaaGreatDoor.Lend
open Go.RowKit Go.Proofs.YtflanjcfkdjpjaaGreatDoor
set_option linter.unusedVariables false

theorem ret_u64 {a b : Int} (h : a = b) : Ending.returned (.int .u64 a) = .returned (.int .u64 b) := by rw [h]
set_option maxHeartbeats 400000 in
theorem number_any (s : ByteArray) (w : World) (hs : s.size ≤ 8) :
    Calls Tryz.prog 139 #[.string s] w fun e w' => e = .returned (.int .u64 (getL s.data.toList : Nat)) ∧ w = w' := by
  go_enter Tryz.func139, Tryz.ntmps139
  go_wp2
  go_loop [3, 7] (fun t i => ∃ k : Nat, k ≤ s.size ∧ i = .int .i64 k ∧ t = .int .u64 (getL (s.data.toList.take k) : Nat)) (fun _ i => s.size - (intOf i).toNat)
  case atStart => exact ⟨0, Nat.zero_le _, rfl, rfl⟩
  case round =>
    obtain ⟨k, hk, rfl, rfl⟩ := hrel
    by_cases hlt : k < s.size
    · have hb := getL_bd (s.data.toList.take k)
      have hl : (s.data.toList.take k).length = k := by rw [List.length_take, bytes_length]; omega
      rw [hl] at hb
      have hst := or_step (getL (s.data.toList.take k)) s[k].toNat k (by omega) hb s[k].toNat_lt
      have hsn := getL_snoc (s.data.toList.take k) s[k]
      rw [hl, ← bytes_take_succ s k hlt] at hsn
      rw [← hsn] at hst
      have HST := Lib.hid hst
      clear hst hsn hl hb
      go_wp2
      go_round
      case rel => exact ⟨k + 1, by omega, by go_num, by rw [HST.out]⟩
      case measure => simp [intOf]; omega
    · have e : s.data.toList.take k = s.data.toList := List.take_of_length_le (by rw [bytes_length]; omega)
      have HE := Lib.hid e
      clear e
      go_wp2
      go_ret
      exact ⟨ret_u64 (by rw [HE.out]), rfl⟩
/-- the text with its length ahead, and what is behind it -/
def splB (l : List UInt8) : Bool := match l with | [] => false | b :: r => decide (b.toNat ≤ r.length)
def splT (l : List UInt8) : List UInt8 := match l with | [] => [] | b :: r => if b.toNat ≤ r.length then r.take b.toNat else []
def splR (l : List UInt8) : List UInt8 := match l with | [] => [] | b :: r => if b.toNat ≤ r.length then r.drop b.toNat else []
theorem spl_no {l : List UInt8} (h : splB l = false) : splT l = [] ∧ splR l = [] := by
  cases l with
  | nil => exact ⟨rfl, rfl⟩
  | cons b r => simp [splB] at h; simp [splT, splR]; omega
theorem ret_spl {a b a' b' : ByteArray} {c d : Bool} (h : a = b) (h1 : a' = b') (h' : c = d) : Ending.returned (.tuple #[.string a, .string a', .bool c]) = .returned (.tuple #[.string b, .string b', .bool d]) := by rw [h, h1, h']
theorem split_any (s : ByteArray) (w : World) (hs : s.size ≤ 1000000) :
    Calls Tryz.prog 149 #[.string s] w fun e w' => e = .returned (.tuple #[.string (strOf (splT s.data.toList)), .string (strOf (splR s.data.toList)), .bool (splB s.data.toList)]) ∧ Below w.heap.size w w' := by
  by_cases h : s.size = 0
  · have hd : s.data.toList = [] := List.eq_nil_of_length_eq_zero (by rw [bytes_length]; exact h)
    have he : s.toList.isEmpty = true := by rw [ByteArray.toList_eq] ; simp [hd]
    have HD := Lib.hid hd
    clear hd
    go_enter Tryz.func149, Tryz.ntmps149
    go_wp2
    go_ret3
    exact ⟨ret_spl (by rw [HD.out]; rfl) (by rw [HD.out]; rfl) (by rw [HD.out]; rfl), Below.refl _ _⟩
  · have he : s.toList.isEmpty = false := by
      rw [ByteArray.toList_eq, List.isEmpty_eq_false_iff]
      intro hd
      exact h (by rw [← bytes_length, hd]; rfl)
    have h0 : 0 < s.size := by omega
    have hb0 : (s[0].toNat : Int) ≤ 255 := by have := s[0].toNat_lt; omega
    have hcons := bytes_cons s h0
    have hlen : (s.data.toList.drop 1).length = s.size - 1 := by simp
    by_cases hle : s[0].toNat ≤ s.size - 1
    · have hsb : splB s.data.toList = true := by rw [hcons]; simp [splB]; omega
      have ht : splT s.data.toList = (s.data.toList.drop 1).take s[0].toNat := by
        rw [hcons]; simp only [splT]; rw [if_pos (by omega)]; rfl
      have hr : splR s.data.toList = (s.data.toList.drop 1).drop s[0].toNat := by
        rw [hcons]; simp only [splR]; rw [if_pos (by omega)]; rfl
      have HSB := Lib.hid hsb
      have HT := Lib.hid ht
      have HR := Lib.hid hr
      clear hcons hlen hsb ht hr
      go_enter Tryz.func149, Tryz.ntmps149
      go_wp2
      go_quiet (fail)
      go_wp2
      go_quiet (fail)
      go_wp2
      go_ret3
      refine ⟨ret_spl ?_ ?_ ?_, below_drewN (below_drewN (Below.refl _ _) _) _⟩
      · rw [HT.out]
        apply strOf_ext
        rw [Lib.extract_data, Lib.extract_to_end]
        simp
      · rw [HR.out]
        apply strOf_ext
        rw [Lib.extract_data, Lib.extract_to_end, List.take_of_length_le (by simp; omega)]
      · rw [HSB.out]
    · have hle' : s.size - 1 < s[0].toNat := by omega
      have hsb : splB s.data.toList = false := by rw [hcons]; simp [splB]; omega
      have hno := spl_no hsb
      have HSB := Lib.hid hsb
      have HN := Lib.hid hno
      clear hcons hlen hsb hno
      go_enter Tryz.func149, Tryz.ntmps149
      go_wp2
      go_quiet (fail)
      go_wp2
      go_ret3
      exact ⟨ret_spl (by rw [HN.out.1]; rfl) (by rw [HN.out.2]; rfl) HSB.out.symm, below_drewN (Below.refl _ _) _⟩

theorem info_int : (Tryz.prog.info? 3).map (fun i => (i.zero, i.size, i.bytes)) = some (some (.int .i64 0), 1, 8) := by kernel_rfl
theorem info_u64 : (Tryz.prog.info? 22).map (fun i => (i.zero, i.size, i.bytes)) = some (some (.int .u64 0), 1, 8) := by kernel_rfl
theorem ret_rd {v : Value} {a b : ByteArray} {c d : Bool} (h : a = b) (h' : c = d) : Ending.returned (.tuple #[v, .string a, .bool c]) = .returned (.tuple #[v, .string b, .bool d]) := by rw [h, h']
set_option maxHeartbeats 1000000 in
set_option maxRecDepth 100000 in
theorem read_any (ao : Option Addr) (la ca : Nat) (ws : List Int) (s : ByteArray) (w : World) (hra : Row .i64 w ao la ws) (hla : la ≤ 1000) (hs : s.size ≤ 1000000) :
    Calls Tryz.prog 122 #[.slice ao la ca, .string s] w fun e w' => ∃ bo n cap, e = .returned (.tuple #[.slice bo n cap, .string (strOf (rdS ws s.data.toList)), .bool (rdB ws s.data.toList)]) ∧
      w'.ownsRow w.heap.size 22 1 (.slice bo n cap) n ((rdN ws s.data.toList).map (Value.int .u64)) ∧ Below w.heap.size w w' := by
  obtain ⟨i0, hi, hz0, hz1, hz2⟩ := info_parts info_u64
  have hlen := hra.len_eq
  by_cases hok : okW ws = true
  · have hm := measN_yes hok
    have hbd := sumW_bd ws hok
    rw [hlen] at hbd
    obtain ⟨tot, htot⟩ := Int.eq_ofNat_of_zero_le (show 0 ≤ sumW ws by omega)
    by_cases hle : tot ≤ s.size
    · have hyes := rd_ok (l := s.data.toList) hok (by rw [bytes_length]; omega)
      rw [htot] at hm hbd
      have HY := Lib.hid hyes
      have HLA := Lib.hid hlen
      have HM := Lib.hid hm
      have HOK := Lib.hid hok
      have HT := Lib.hid htot
      clear hyes hlen hm hok htot
      go_enter Tryz.func122, Tryz.ntmps122
      go_wp2_with (first | (go_at_call 105; refine (measure_any _ _ _ ws _ hra (by omega)).mono ?_; rintro e w' ⟨rfl, rfl⟩; rw [HM.out, HOK.out]) | (at_make; refine wpList_make_own _ rfl _ _ 157 rfl w.heap.size 22 i0 (.int .u64 0) 1 Tryz.underlying157 hi hz0 hz1 _ _ _ la rfl rfl rfl ?b1 ?b2 ?b3 ?_))
      case b1 => rw [hz2]; omega
      case b2 => unfold maxLen; omega
      case b3 => omega
      intro w1 hown hgrow
      have hbel : Below w.heap.size w w1 := (Below.refl _ _).grown hgrow (Nat.le_refl _) (fun q hq => by cases hq)
      clear hgrow
      go_wp2
      go_loopw [1, 9, 30] (fun t v i wr => ∃ (k : Nat) (u : ByteArray), k ≤ la ∧ i = .int .i64 k ∧ t = .string u ∧ u.data.toList = s.data.toList.drop (sumW (ws.take k)).toNat ∧ wr.ownsRow w.heap.size 22 1 v k ((rdL (ws.take k) s.data.toList).map (Value.int .u64)) ∧ Below w.heap.size w wr) (fun _ _ i _ => la - (intOf i).toNat)
      case atStart => exact ⟨0, s, Nat.zero_le _, rfl, rfl, rfl, hown, hbel⟩
      case round =>
        obtain ⟨k, u, hk, rfl, rfl, hu, hownr, hbelr⟩ := hrel
        have hsz := hbelr.size
        have HU := Lib.hid hu
        have hul : u.size = s.size - (sumW (ws.take k)).toNat := by rw [← bytes_length, hu, List.length_drop, bytes_length]
        clear hown hbel hu
        by_cases hlt : k < la
        · obtain ⟨b1, o1, rfl, hc1⟩ := (hra.below hbelr (Nat.le_refl _)).at_ (by omega)
          have hc1k := hc1 k hlt
          clear hc1
          obtain ⟨x, hx⟩ : ∃ x, x = ws.getD k 0 := ⟨_, rfl⟩
          rw [← hx] at hc1k
          have hx8 : 1 ≤ x ∧ x ≤ 8 := by
            by_cases hxx : 1 ≤ x ∧ x ≤ 8
            · exact hxx
            · have := okW_getD (ws := ws) (k := k) (by have := HLA.out; omega) (by rw [← hx]; exact hxx)
              rw [HOK.out] at this
              cases this
          obtain ⟨xn, rfl⟩ := Int.eq_ofNat_of_zero_le (show 0 ≤ x by omega)
          have hts := take_snoc' ws k (by have := HLA.out; omega)
          rw [← hx] at hts
          have hsum : sumW (ws.take (k + 1)) = sumW (ws.take k) + xn := by rw [hts, sumW_snoc]
          have hrd : rdL (ws.take (k + 1)) s.data.toList = rdL (ws.take k) s.data.toList ++ [(getL ((s.data.toList.drop (sumW (ws.take k)).toNat).take xn) : Int)] := by
            rw [hts, rdL_snoc _ _ _ (okW_take ws k HOK.out)]; simp
          have ht1 := sumW_take_le ws k HOK.out
          have ht2 := sumW_take_le ws (k + 1) HOK.out
          rw [HT.out] at ht1 ht2
          have hxu : xn ≤ u.size := by omega
          have HX := Lib.hid hx
          have HS := Lib.hid hsum
          have HRD := Lib.hid hrd
          have HUL := Lib.hid hul
          obtain ⟨hx1, hx8⟩ := hx8
          clear hx hts hsum hrd ht1 ht2 hul
          have hnum : getL (u.extract 0 xn).data.toList = getL ((s.data.toList.drop (sumW (ws.take k)).toNat).take xn) := by
            rw [Lib.extract_data, HU.out]; simp
          have HNUM := Lib.hid hnum
          clear hnum
          have hexs : (u.extract 0 xn).size ≤ 8 := by simp; omega
          go_wp2_with (first | (go_at_call 139; refine (number_any _ _ hexs).mono ?_; rintro e w' ⟨rfl, rfl⟩; rw [HNUM.out]) | (at_builtin; refine wpList_append_own _ rfl _ _ 157 rfl w.heap.size 22 i0 (.int .u64 0) 1 8 Tryz.underlying157 hi hz0 hz1 hz2 rfl (by decide) _ _ _ rfl (hownr.alloc _) ⟨wr.heap.size, 0, none⟩ 1 1 [.int .u64 (getL ((s.data.toList.drop (sumW (ws.take k)).toNat).take xn) : Nat)] rfl rfl ?c1 ?c2 ?c3 ?c4 ?c5 ?_))
          case c1 =>
            intro j q hj
            match j, hj with
            | 0, hj => simp at hj; subst hj; simp [Addr.add]
          case c2 => intro q hq; simp at hq; subst hq; rfl
          case c3 => unfold maxLen; omega
          case c4 => omega
          case c5 => simp; omega
          intro v' w2 hown' hgrow _
          have hbel' : Below w.heap.size w w2 := (hbelr.alloc (by omega) _).grown hgrow (by simp; omega) (fun q hq => (hownr.lt q hq).1)
          clear hownr hgrow
          go_wp2
          go_roundw
          case rel =>
            refine ⟨k + 1, _, by omega, by go_num, rfl, ?_, ?_, hbel'⟩
            · rw [Lib.extract_to_end, HU.out, List.drop_drop, HS.out]
              congr 1
              have := sumW_nonneg _ (okW_take ws k HOK.out)
              omega
            · rw [HRD.out, List.map_append]
              exact hown'
          case measure => simp [intOf]; omega
        · have e1 : ws.take k = ws := List.take_of_length_le (by have := HLA.out; omega)
          obtain rfl : k = la := by omega
          rw [e1] at hownr
          have HE := Lib.hid e1
          obtain ⟨bo, cap, rfl, _⟩ := own_shape hownr
          clear e1
          go_wp2
          go_ret3
          exact ⟨bo, k, cap, ret_rd (by rw [HY.out.2.2]; exact strOf_ext (by rw [HU.out, HE.out])) HY.out.1.symm, by rw [HY.out.2.1]; exact hownr, hbelr⟩
    · have hno := rd_no (ws := ws) (l := s.data.toList) (.inr (by rw [bytes_length]; omega))
      rw [htot] at hm hbd
      have HNO := Lib.hid hno
      have HLA := Lib.hid hlen
      have HM := Lib.hid hm
      have HOK := Lib.hid hok
      have HT := Lib.hid htot
      clear hno hlen hm hok htot
      go_enter Tryz.func122, Tryz.ntmps122
      go_wp2_with (go_at_call 105; refine (measure_any _ _ _ ws _ hra (by omega)).mono ?_; rintro e w' ⟨rfl, rfl⟩; rw [HM.out, HOK.out])
      go_ret3
      exact ⟨none, 0, 0, ret_rd (by rw [HNO.out.2.2]; rfl) HNO.out.1.symm, by rw [HNO.out.2.1]; exact World.ownsRow_nil _ _ _ _, Below.refl _ _⟩
  · have hok : okW ws = false := by simpa using hok
    have hno := rd_no (ws := ws) (l := s.data.toList) (.inl hok)
    have HNO := Lib.hid hno
    have HLA := Lib.hid hlen
    have HOK := Lib.hid hok
    clear hno hlen hok
    go_enter Tryz.func122, Tryz.ntmps122
    go_wp2_with (go_at_call 105; refine (measure_any _ _ _ ws _ hra (by omega)).mono ?_; rintro e w' ⟨rfl, rfl⟩; rw [HOK.out])
    go_ret3
    exact ⟨none, 0, 0, ret_rd (by rw [HNO.out.2.2]; rfl) HNO.out.1.symm, by rw [HNO.out.2.1]; exact World.ownsRow_nil _ _ _ _, Below.refl _ _⟩
end Go.Proofs.YtflanjcfkdjpjaaGreatDoor.Lend

/- 'string' of one byte that was just laid. -/
namespace Go.Proofs.YtflanjcfkdjpjaaGreatDoor.Lend
open Go.RowKit Go.Proofs.YtflanjcfkdjpjaaGreatDoor
set_option linter.unusedVariables false

theorem run_string_one (w : World) (c : Int) :
    (convert 44 9 (.slice (some ⟨w.heap.size, 0, none⟩) 1 1)).run Tryz.prog (w.alloc (.cells #[.int .u8 c] 5)) = .ok (.string (strOf [UInt8.ofNat c.toNat])) (w.alloc (.cells #[.int .u8 c] 5)) := by
  rw [run_convert_bytes_string _ _ _ _ _ _ _ Tryz.underlying44 Tryz.underlying5 Tryz.underlying9]
  have hc := run_loadCells_list (P := Tryz.prog) (w := w.alloc (.cells #[.int .u8 c] 5)) ⟨w.heap.size, 0, none⟩ [.int .u8 c] (by
    intro j u hj
    match j, hj with
    | 0, hj => simp at hj; subst hj; simp [Addr.add])
  rw [run_bytesToString _ _ _ _ [c] (by simpa using hc), foldl_push]
  rfl

end Go.Proofs.YtflanjcfkdjpjaaGreatDoor.Lend

/- Contracts of the document's own answers for layer 1: Put, Get, Write, Read. -/
namespace Go.Proofs.YtflanjcfkdjpjaaGreatDoor.Lend
open Go.RowKit Go.Proofs.YtflanjcfkdjpjaaGreatDoor
set_option linter.unusedVariables false

/-- a number's bytes in a width that may be none, and whether it fits -/
def putB (n x : Int) : Bool := decide (1 ≤ x) && (decide (x ≤ 8) && fitsB n x)
def putS (n x : Int) : ByteArray := if 1 ≤ x ∧ x ≤ 8 then strOf (encN n x.toNat) else ⟨#[]⟩
theorem put_ok {n x : Int} (h1 : 1 ≤ x) (h8 : x ≤ 8) : putB n x = fitsB n x ∧ putS n x = strOf (encN n x.toNat) := by
  refine ⟨by simp [putB, h1, h8], by rw [putS, if_pos ⟨h1, h8⟩]⟩
theorem put_no {n x : Int} (h : ¬ (1 ≤ x ∧ x ≤ 8)) : putB n x = false ∧ putS n x = ⟨#[]⟩ := by
  refine ⟨?_, by rw [putS, if_neg h]⟩
  by_cases h1 : 1 ≤ x
  · have : ¬ x ≤ 8 := fun h8 => h ⟨h1, h8⟩
    simp [putB, this]
  · simp [putB, h1]
theorem encN_succ (n : Int) (k : Nat) : strOf (encN n (k + 1)) = strOf (encN n k) ++ strOf [UInt8.ofNat (n / 2 ^ (8 * k) % 256).toNat] := by
  have e : encN n (k + 1) = encN n k ++ [UInt8.ofNat (byteAt n k).toNat] := by simp [encN, List.range_succ]
  symm
  apply strOf_ext
  rw [e]
  simp [strOf, byteAt]
set_option maxHeartbeats 1000000 in
set_option maxRecDepth 100000 in
theorem refput_any (n x : Int) (w : World) (h0 : 0 ≤ n) (h1 : n < 18446744073709551616) :
    Calls Tryz.prog 68 #[.int .u64 n, .int .i64 x] w fun e w' => e = .returned (.tuple #[.string (putS n x), .bool (putB n x)]) ∧ Below w.heap.size w w' := by
  by_cases hx : 1 ≤ x ∧ x ≤ 8
  · obtain ⟨hx1, hx8⟩ := hx
    have hy := put_ok (n := n) hx1 hx8
    have HY := Lib.hid hy
    have H1 := Lib.hid h1
    obtain ⟨xn, rfl⟩ := Int.eq_ofNat_of_zero_le (show 0 ≤ x by omega)
    clear hy h1
    go_enter Tryz.func68, Tryz.ntmps68
    go_wp2
    go_loopw [0, 6, 7] (fun m s i wr => ∃ k : Nat, k ≤ xn ∧ i = .int .i64 k ∧ s = .string (strOf (encN n k)) ∧ m = .int .u64 (n / 2 ^ (8 * k)) ∧ Below w.heap.size w wr) (fun _ _ i _ => xn - (intOf i).toNat)
    case atStart => exact ⟨0, Nat.zero_le _, rfl, rfl, by simp, Below.refl _ _⟩
    case round =>
      obtain ⟨k, hk, rfl, rfl, rfl, hb⟩ := hrel
      have hsz := hb.size
      have hq0 : 0 ≤ n / 2 ^ (8 * k) := Int.ediv_nonneg h0 (Int.pow_nonneg (by decide))
      by_cases hlt : k < xn
      · have hq1 : n / 2 ^ (8 * k) < 18446744073709551616 := Int.lt_of_le_of_lt (Int.ediv_le_self _ h0) H1.out
        have hcv := run_string_one wr (n / 2 ^ (8 * k) % 256)
        have hs1 : (strOf (encN n k)).size ≤ 8 := by show (encN n k).length ≤ 8; rw [encN_length]; omega
        have hs2 : (strOf [UInt8.ofNat (n / 2 ^ (8 * k) % 256).toNat]).size ≤ 1 := Nat.le_refl _
        have HS := Lib.hid (encN_succ n k)
        have HSH := Lib.hid (shift_on n k)
        go_wp2
        go_roundw
        case rel => exact ⟨k + 1, by omega, by go_num, by rw [HS.out], by rw [← HSH.out], hb.alloc hsz _⟩
        case measure => simp [intOf]; omega
      · obtain rfl : k = xn := by omega
        have hfit := fitsB_walk n (k : Int) h0
        rw [show (8 * (k : Int)).toNat = 8 * k by omega] at hfit
        have HF := Lib.hid hfit
        clear hfit
        go_wp2
        go_ret2
        exact ⟨ret_wr (by rw [HY.out.2]; simp) (by rw [HY.out.1, ← HF.out]), hb⟩
  · have hn := put_no (n := n) hx
    have HN := Lib.hid hn
    by_cases hx1 : x < 1
    · clear hx hn
      go_enter Tryz.func68, Tryz.ntmps68
      go_wp2
      go_ret2
      exact ⟨ret_wr HN.out.2.symm HN.out.1.symm, Below.refl _ _⟩
    · have hx8 : 8 < x := by omega
      have hx1' : 1 ≤ x := by omega
      clear hx hn hx1
      go_enter Tryz.func68, Tryz.ntmps68
      go_wp2
      go_ret2
      exact ⟨ret_wr HN.out.2.symm HN.out.1.symm, Below.refl _ _⟩

theorem getL_drop (s : ByteArray) (k : Nat) (h : k < s.size) : getL (s.data.toList.drop k) = s[k].toNat + 256 * getL (s.data.toList.drop (k + 1)) := by
  have e : s.data.toList.drop k = s[k] :: s.data.toList.drop (k + 1) := by
    rw [List.drop_eq_getElem_cons (by rw [bytes_length]; exact h)]; rfl
  rw [e]; rfl
end Go.Proofs.YtflanjcfkdjpjaaGreatDoor.Lend

