/- Layers' contracts, bundled: LendBackMath, TabMath, Shelf, LendA. -/
import Derived.Test.YtgoampbebjfenaaGreatDoorK02
import Derived.Shelf.Strings.Builder1
import Derived.Shelf.Strings.Builder2
import Derived.Shelf.Strings.Trim
import Derived.Shelf.Small.Utf8
import Derived.Shelf.Small.Bits
import Derived.Shelf.Small.Strs
import Derived.Shelf.Small.Wraps
import Derived.Shelf.Strings.BuilderF
import Derived.Shelf.Strings.BuilderK
import Derived.Shelf.Strings.Builder2Cap
import Derived.Shelf.Strconv.Itoa0
import Derived.Shelf.Strings.Search1
import Derived.Shelf.Strings.Prefix
import Derived.Shelf.Strings.Runes
import Derived.Shelf.Strings.AsciiSet
import Derived.Shelf.Bits.Mul64
import Derived.Shelf.Strings.Repeat
import Derived.Shelf.Unicode.DecodeSlow
import Derived.Shelf.Strings.BuilderCap
import Derived.Ground.Names2Prog
import Derived.Shelf.Slices.SearchI
import Derived.Test.YtgoampbebjfenaaGreatDoorProg
import Derived.Test.YtgoampbebjfenaaGreatDoorChecked
import Derived.WalkKit
import Derived.WalkLawsBesides
import Derived.WalkSpells
import Derived.Lib.Hide
import Derived.Outline
import Derived.Deep.DeepCutAuto
import Derived.Deep.RegionWith
import Derived.OpenShut
import Derived.Deep.QuietTactic
import Derived.BigQuiet
/- Plain facts on tight widths and on reading again what was written, for the statement LendBack. -/
namespace Go.Proofs.YtgoampbebjfenaaGreatDoor.Lend
open Go.RowKit

theorem byteAt_nat (N i : Nat) : byteAt (N : Int) i = ((N / 2 ^ (8 * i) % 256 : Nat) : Int) := by
  unfold byteAt
  simp
theorem getL_encN_mod (N : Nat) : ∀ k, getL (encN (N : Int) k) = N % 2 ^ (8 * k)
  | 0 => by simp [encN, getL, Nat.mod_one]
  | k + 1 => by
    have e : encN (N : Int) (k + 1) = encN (N : Int) k ++ [UInt8.ofNat (byteAt (N : Int) k).toNat] := by simp [encN, List.range_succ]
    rw [e, getL_snoc, getL_encN_mod N k, encN_length, byteAt_nat, Int.toNat_natCast, UInt8.toNat_ofNat']
    rw [show 8 * (k + 1) = 8 * k + 8 from rfl, Nat.pow_add, Nat.mod_mul, Nat.mod_eq_of_lt (show N / 2 ^ (8 * k) % 256 < 2 ^ 8 by omega), Nat.mul_comm (2 ^ (8 * k))]
theorem getL_encN (n : Int) (k : Nat) (h0 : 0 ≤ n) (h : n < 2 ^ (8 * k)) : (getL (encN n k) : Int) = n := by
  obtain ⟨N, rfl⟩ := Int.eq_ofNat_of_zero_le h0
  have h' : N < 2 ^ (8 * k) := by
    have : ((N : Nat) : Int) < ((2 ^ (8 * k) : Nat) : Int) := by simpa using h
    omega
  rw [getL_encN_mod, Nat.mod_eq_of_lt h']
theorem rd_enc (m : List UInt8) : ∀ (ws ns : List Int), ws.length = ns.length → okW ws = true → fitsL ws ns = true → (∀ n ∈ ns, 0 ≤ n) → rdL ws (encL ws ns ++ m) = ns
  | [], [], _, _, _, _ => rfl
  | x :: ws, n :: ns, hl, hok, hf, hn => by
    have hok' : okW ws = true := by simp [okW] at hok ⊢; exact hok.2
    have hx : 1 ≤ x := by simp [okW] at hok; exact hok.1.1
    simp only [fitsL, Bool.and_eq_true] at hf
    have h1 : n < 2 ^ (8 * x.toNat) := by
      have := hf.1
      unfold fitsB at this
      rw [decide_eq_true_eq, show (8 * x).toNat = 8 * x.toNat by omega] at this
      exact this
    have e1 : (encN n x.toNat ++ encL ws ns ++ m).take x.toNat = encN n x.toNat := by
      rw [List.append_assoc, List.take_left' (encN_length _ _)]
    have e2 : (encN n x.toNat ++ encL ws ns ++ m).drop x.toNat = encL ws ns ++ m := by
      rw [List.append_assoc, List.drop_left' (encN_length _ _)]
    simp only [encL, rdL, e1, e2, getL_encN n x.toNat (hn n (by simp)) h1]
    rw [rd_enc m ws ns (by simpa using hl) hok' hf.2 (fun q hq => hn q (by simp [hq]))]
  | [], _ :: _, h, _, _, _ => by simp at h
  | _ :: _, [], h, _, _, _ => by simp at h
theorem rdN_length_le (ws : List Int) (l : List UInt8) : (rdN ws l).length ≤ ws.length := by
  unfold rdN
  split
  · rw [rdL_length]; exact Nat.le_refl _
  · exact Nat.zero_le _
/-- the least width that a number fits -/
def Tight (n x : Int) : Prop := 1 ≤ x ∧ x ≤ 8 ∧ fitsB n x = true ∧ (2 ≤ x → fitsB n (x - 1) = false)
def TightL (xs ws : List Int) : Prop := ws.length = xs.length ∧ ∀ i, i < xs.length → Tight (xs.getD i 0) (ws.getD i 0)
theorem okW_of (ws : List Int) (h : ∀ i, i < ws.length → 1 ≤ ws.getD i 0 ∧ ws.getD i 0 ≤ 8) : okW ws = true := by
  simp only [okW, List.all_eq_true, Bool.and_eq_true, decide_eq_true_eq]
  intro x hx
  obtain ⟨i, hi, rfl⟩ := List.mem_iff_getElem.1 hx
  have := h i hi
  rwa [List.getD_eq_getElem?_getD, List.getElem?_eq_getElem hi] at this
theorem fitsL_of : ∀ (ws ns : List Int), (∀ i, i < ws.length → i < ns.length → fitsB (ns.getD i 0) (ws.getD i 0) = true) → fitsL ws ns = true
  | [], _, _ => rfl
  | _ :: _, [], _ => rfl
  | x :: ws, n :: ns, h => by
    have h0 := h 0 (by simp) (by simp)
    have := fitsL_of ws ns (fun i h1 h2 => by simpa using h (i + 1) (by simpa using h1) (by simpa using h2))
    simp at h0
    simp [fitsL, h0, this]
/-- what there is to know of tight widths -/
theorem tight_ok {xs ws : List Int} (h : TightL xs ws) : okW ws = true ∧ fitsL ws xs = true ∧ wrB ws xs = true ∧ wrS ws xs = strOf (encL ws xs) := by
  have h1 : okW ws = true := okW_of ws fun i hi => ⟨(h.2 i (by have := h.1; omega)).1, (h.2 i (by have := h.1; omega)).2.1⟩
  have h2 : fitsL ws xs = true := fitsL_of ws xs fun i _ hi => (h.2 i hi).2.2.1
  exact ⟨h1, h2, wr_ok h1 h.1 h2⟩
theorem tight_read {xs ws : List Int} (h : TightL xs ws) (hn : ∀ n ∈ xs, 0 ≤ n) (v : ByteArray) :
    rdB ws (strOf (encL ws xs) ++ v).data.toList = true ∧ rdN ws (strOf (encL ws xs) ++ v).data.toList = xs ∧ strOf (rdS ws (strOf (encL ws xs) ++ v).data.toList) = v := by
  obtain ⟨h1, h2, _⟩ := tight_ok h
  have e : (strOf (encL ws xs) ++ v).data.toList = encL ws xs ++ v.data.toList := by simp [strOf]
  have hl := encL_length ws xs h1 h.1
  have hy := rd_ok (l := encL ws xs ++ v.data.toList) h1 (by rw [← hl]; simp; omega)
  rw [e, hy.1, hy.2.1, hy.2.2, rd_enc _ ws xs h.1 h1 h2 hn]
  refine ⟨rfl, rfl, ?_⟩
  rw [← hl, Int.toNat_natCast, List.drop_left]
  exact (strOf_ext rfl).symm
/-- with one byte less there are none -/
theorem tight_less {xs ws : List Int} (h : TightL xs ws) (l : List UInt8) (hl : l.length < (encL ws xs).length) : rdB ws l = false := by
  obtain ⟨h1, _, _⟩ := tight_ok h
  exact (rd_no (.inr (by rw [← encL_length ws xs h1 h.1]; omega))).1
/-- with one width less a number doesn't fit -/
theorem tight_set {xs ws : List Int} (h : TightL xs ws) (i : Nat) (hi : i < xs.length) (h2 : 2 ≤ ws.getD i 0) : wrB (ws.set i (ws.getD i 0 - 1)) xs = false := by
  refine (wr_no (.inr (.inr (fitsL_at _ _ i ?_ hi ?_)))).1
  · have := h.1; simp; omega
  · have e : (ws.set i (ws.getD i 0 - 1)).getD i 0 = ws.getD i 0 - 1 := by
      rw [List.getD_eq_getElem?_getD, List.getElem?_set_self (by have := h.1; omega)]; rfl
    rw [e]
    exact (h.2 i hi).2.2.2 h2
theorem tight_nil : TightL [] [] := ⟨rfl, fun i hi => absurd hi (by simp)⟩
theorem tight_snoc {xs ws : List Int} {n x : Int} (h : TightL xs ws) (ht : Tight n x) : TightL (xs ++ [n]) (ws ++ [x]) := by
  refine ⟨by simp [h.1], fun i hi => ?_⟩
  simp only [List.length_append, List.length_singleton] at hi
  by_cases hlt : i < xs.length
  · have hw : i < ws.length := by have := h.1; omega
    have := h.2 i hlt
    simp only [List.getD_eq_getElem?_getD] at *
    rwa [List.getElem?_append_left hlt, List.getElem?_append_left hw]
  · obtain rfl : i = xs.length := by omega
    have hw : xs.length = ws.length := h.1.symm
    simp only [List.getD_eq_getElem?_getD]
    rw [List.getElem?_append_right (Nat.le_refl _), List.getElem?_append_right (by omega)]
    simpa [hw] using ht
theorem tight_end {n : Int} {x : Nat} (h0 : 0 ≤ n) (h1 : 1 ≤ x) (h8 : x ≤ 8) (hz : n / 2 ^ (8 * x) = 0) (hp : 2 ≤ x → 0 < n / 2 ^ (8 * (x - 1))) : Tight n x := by
  have f : fitsB n x = true := by
    rw [← fitsB_walk n x h0, beq_iff_eq, show (8 * (x : Int)).toNat = 8 * x by omega]; exact hz
  refine ⟨by omega, by omega, f, fun h2 => ?_⟩
  rw [← fitsB_walk n _ h0, beq_eq_false_iff_ne, show (8 * ((x : Int) - 1)).toNat = 8 * (x - 1) by omega]
  have := hp (by omega)
  omega
/-- how far the search for a width has come -/
def Inn (n : Int) (x : Nat) : Prop := 2 ≤ x → 0 < n / 2 ^ (8 * (x - 1))
theorem inn_one (n : Int) : Inn n 1 := fun h => absurd h (by decide)
theorem inn_succ {n : Int} {x : Nat} (h : 0 < n / 2 ^ (8 * x)) : Inn n (x + 1) := fun _ => by simpa using h
theorem shift_on (n : Int) (x : Nat) : n / 2 ^ (8 * x) / 256 = n / 2 ^ (8 * (x + 1)) := by
  rw [Int.ediv_ediv_of_nonneg (Int.pow_nonneg (by decide))]
  congr 1
  rw [Nat.mul_add, Int.pow_add]; rfl
theorem shift_end (n : Int) (h : 0 ≤ n) (h1 : n < 18446744073709551616) : n / 2 ^ (8 * 8) = 0 := Int.ediv_eq_zero_of_lt h h1
end Go.Proofs.YtgoampbebjfenaaGreatDoor.Lend

/- Plain mathematics of layer 6 (table): where blocks are. -/
namespace Go.Proofs.YtgoampbebjfenaaGreatDoor.Tab
open Go.RowKit Go.Proofs.YtgoampbebjfenaaGreatDoor Go.Proofs.YtgoampbebjfenaaGreatDoor.Lend

/-- may there be so many blocks and spares? -/
def mayB (n k : Int) : Bool := decide (1 ≤ n) && (decide (n ≤ 4096) && (decide (0 ≤ k) && decide (k ≤ 32)))
theorem mayB_parts {n k : Int} (h : mayB n k = true) : 1 ≤ n ∧ n ≤ 4096 ∧ 0 ≤ k ∧ k ≤ 32 := by
  simp only [mayB, Bool.and_eq_true, decide_eq_true_eq] at h; omega
theorem mayB_of {n k : Int} (h1 : 1 ≤ n) (h2 : n ≤ 4096) (h3 : 0 ≤ k) (h4 : k ≤ 32) : mayB n k = true := by simp [mayB, h1, h2, h3, h4]
theorem mayB_no {n k : Int} (h : n < 1 ∨ 4096 < n ∨ k < 0 ∨ 32 < k) : mayB n k = false := by
  simp only [mayB, Bool.and_eq_false_iff, decide_eq_false_iff_not]; omega

/-- the place of a block: that of the last spare it was moved to, or its own -/
def plcR (n b : Int) : List Int → Int
  | [] => b
  | x :: r => if x = b then n + r.length else plcR n b r
def plc (n : Int) (m : List Int) (b : Int) : Int := plcR n b m.reverse
theorem plc_nil (n b : Int) : plc n [] b = b := rfl
theorem plc_snoc (n : Int) (m : List Int) (x b : Int) : plc n (m ++ [x]) b = if x = b then n + m.length else plc n m b := by
  simp [plc, plcR]
theorem plc_take (n : Int) (m : List Int) (b : Int) (i : Nat) (hi : i < m.length) : plc n (m.take (i + 1)) b = if m.getD i 0 = b then n + i else plc n (m.take i) b := by
  rw [take_snoc' m i hi, plc_snoc]
  have : (m.take i).length = i := by rw [List.length_take]; omega
  rw [this]
/-- of a block that isn't among those behind the first i: the first i tell -/
theorem plc_back (n : Int) (m : List Int) (b : Int) (i : Nat) (h : ∀ j, i ≤ j → j < m.length → m.getD j 0 ≠ b) : plc n m b = plc n (m.take i) b := by
  have key : ∀ c, i + c ≤ m.length → plc n (m.take (i + c)) b = plc n (m.take i) b := by
    intro c
    induction c with
    | zero => intro _; rfl
    | succ c ih =>
      intro hc
      rw [← Nat.add_assoc, plc_take n m b (i + c) (by omega), if_neg (h _ (by omega) (by omega))]
      exact ih (by omega)
  by_cases hi : i ≤ m.length
  · have := key (m.length - i) (by omega)
    rw [show i + (m.length - i) = m.length by omega, List.take_length] at this
    exact this
  · rw [List.take_of_length_le (by omega)]
theorem plc_hit (n : Int) (m : List Int) (b : Int) (i : Nat) (hi : i < m.length) (hb : m.getD i 0 = b) (h : ∀ j, i < j → j < m.length → m.getD j 0 ≠ b) : plc n m b = n + i := by
  rw [plc_back n m b (i + 1) (fun j hj => h j (by omega)), plc_take n m b i hi, if_pos hb]
/-- either its own place, and it isn't among those that were moved, or a spare that it was moved to -/
theorem plc_cases (n : Int) (m : List Int) (b : Int) : (plc n m b = b ∧ b ∉ m) ∨ ∃ i, i < m.length ∧ plc n m b = n + i ∧ m.getD i 0 = b := by
  have key : ∀ c, c ≤ m.length → (plc n (m.take c) b = b ∧ b ∉ m.take c) ∨ ∃ i, i < c ∧ plc n (m.take c) b = n + i ∧ m.getD i 0 = b := by
    intro c
    induction c with
    | zero => intro _; exact .inl ⟨rfl, by simp⟩
    | succ c ih =>
      intro hc
      rw [plc_take n m b c (by omega)]
      by_cases hx : m.getD c 0 = b
      · rw [if_pos hx]; exact .inr ⟨c, by omega, rfl, hx⟩
      · rw [if_neg hx]
        rcases ih (by omega) with ⟨h1, h2⟩ | ⟨i, h1, h2, h3⟩
        · refine .inl ⟨h1, ?_⟩
          rw [take_snoc' m c (by omega)]
          simp only [List.mem_append, List.mem_cons, List.mem_nil_iff, or_false, not_or]
          exact ⟨h2, fun e => hx e.symm⟩
        · exact .inr ⟨i, by omega, h2, h3⟩
  have := key m.length (Nat.le_refl _)
  rwa [List.take_length] at this
theorem plc_moved {n : Int} {m : List Int} {b : Int} (hb : b < n) : plc n m b ≠ b ↔ b ∈ m := by
  rcases plc_cases n m b with ⟨h1, h2⟩ | ⟨i, h1, h2, h3⟩
  · exact ⟨fun h => absurd h1 h, fun h => absurd h h2⟩
  · refine ⟨fun _ => ?_, fun _ => by omega⟩
    rw [← h3, List.getD_eq_getElem?_getD, List.getElem?_eq_getElem h1]; exact List.getElem_mem _
theorem plc_bd {n : Int} {m : List Int} {b : Int} (h0 : 0 ≤ b) (hb : b < n) : 0 ≤ plc n m b ∧ plc n m b < n + m.length := by
  rcases plc_cases n m b with ⟨h1, _⟩ | ⟨i, h1, h2, _⟩ <;> omega
theorem plc_inj {n : Int} {m : List Int} {b c : Int} (hb : b < n) (hc : c < n) (h : plc n m b = plc n m c) : b = c := by
  rcases plc_cases n m b with ⟨h1, _⟩ | ⟨i, _, h2, h3⟩ <;> rcases plc_cases n m c with ⟨k1, _⟩ | ⟨j, _, k2, k3⟩
  · omega
  · omega
  · omega
  · obtain rfl : i = j := by omega
    rw [← h3, ← k3]

/-- what At answers -/
def atB (n b : Int) : Bool := decide (0 ≤ b) && decide (b < n)
def atE (n b : Int) : Int := if atB n b = true then 0 else 3
def atN (n : Int) (m : List Int) (b : Int) : Int := if atB n b = true then plc n m b else 0
theorem at_yes {n : Int} {m : List Int} {b : Int} (h0 : 0 ≤ b) (h1 : b < n) : atB n b = true ∧ atE n b = 0 ∧ atN n m b = plc n m b := by
  have : atB n b = true := by simp [atB, h0, h1]
  exact ⟨this, by rw [atE, if_pos this], by rw [atN, if_pos this]⟩
theorem at_no {n : Int} {m : List Int} {b : Int} (h : b < 0 ∨ n ≤ b) : atB n b = false ∧ atE n b = 3 ∧ atN n m b = 0 := by
  have : atB n b = false := by simp only [atB, Bool.and_eq_false_iff, decide_eq_false_iff_not]; omega
  exact ⟨this, by rw [atE, if_neg (by rw [this]; decide)], by rw [atN, if_neg (by rw [this]; decide)]⟩

/-- what Move answers: its error, and what was moved then -/
def mvE (n k : Int) (m : List Int) (b : Int) : Int := if atB n b = true then (if (m.length : Int) < k then 0 else 9) else 3
theorem mv_yes {n k : Int} {m : List Int} {b : Int} (h0 : 0 ≤ b) (h1 : b < n) (h2 : (m.length : Int) < k) : mvE n k m b = 0 := by
  rw [mvE, if_pos (at_yes (m := m) h0 h1).1, if_pos h2]
theorem mv_full {n k : Int} {m : List Int} {b : Int} (h0 : 0 ≤ b) (h1 : b < n) (h2 : k ≤ (m.length : Int)) : mvE n k m b = 9 := by
  rw [mvE, if_pos (at_yes (m := m) h0 h1).1, if_neg (by omega)]
theorem mv_no {n k : Int} {m : List Int} {b : Int} (h : b < 0 ∨ n ≤ b) : mvE n k m b = 3 := by
  rw [mvE, (at_no (m := m) h).1]; rfl
theorem mvE_vals (n k : Int) (m : List Int) (b : Int) : mvE n k m b = 0 ∨ mvE n k m b = 3 ∨ mvE n k m b = 9 := by
  unfold mvE; split
  · split
    · exact .inl rfl
    · exact .inr (.inr rfl)
  · exact .inr (.inl rfl)

/-- a table's list of moved blocks is right -/
structure Good (n k : Int) (m : List Int) : Prop where
  may : mayB n k = true
  len : (m.length : Int) ≤ k
  mem : ∀ x ∈ m, 0 ≤ x ∧ x < n
theorem Good.nil {n k : Int} (h : mayB n k = true) : Good n k [] := ⟨h, (mayB_parts h).2.2.1, fun x hx => by cases hx⟩
theorem Good.bd {n k : Int} {m : List Int} (h : Good n k m) : 1 ≤ n ∧ n ≤ 4096 ∧ 0 ≤ k ∧ k ≤ 32 ∧ m.length ≤ 32 := by
  have := mayB_parts h.may; have := h.len; omega
theorem Good.getD {n k : Int} {m : List Int} (h : Good n k m) (i : Nat) (hi : i < m.length) : 0 ≤ m.getD i 0 ∧ m.getD i 0 < n := by
  apply h.mem; rw [List.getD_eq_getElem?_getD, List.getElem?_eq_getElem hi]; exact List.getElem_mem _
theorem Good.push {n k : Int} {m : List Int} {b : Int} (h : Good n k m) (e : mvE n k m b = 0) : Good n k (m ++ [b]) ∧ 0 ≤ b ∧ b < n ∧ (m.length : Int) < k := by
  have hb : 0 ≤ b ∧ b < n := by
    by_cases hb : b < 0 ∨ n ≤ b
    · rw [mv_no hb] at e; cases e
    · omega
  have hk : (m.length : Int) < k := by
    by_cases hk : (m.length : Int) < k
    · exact hk
    · rw [mv_full hb.1 hb.2 (by omega)] at e; cases e
  refine ⟨⟨h.may, by simp; omega, fun x hx => ?_⟩, hb.1, hb.2, hk⟩
  rcases List.mem_append.1 hx with hx | hx
  · exact h.mem x hx
  · simp at hx; rw [hx]; exact hb

/-- the blocks that were moved, rising, each once -/
def mvd (j : Nat) (m : List Int) : List Int := ((List.range j).filter fun (b : Nat) => decide ((b : Int) ∈ m)).map fun (b : Nat) => (b : Int)
theorem mvd_zero (m : List Int) : mvd 0 m = [] := rfl
theorem mvd_succ (j : Nat) (m : List Int) : mvd (j + 1) m = if (j : Int) ∈ m then mvd j m ++ [(j : Int)] else mvd j m := by
  unfold mvd; rw [List.range_succ, List.filter_append, List.map_append]
  by_cases h : (j : Int) ∈ m <;> simp [h]
theorem mvd_length_le (j : Nat) (m : List Int) : (mvd j m).length ≤ j := by
  unfold mvd; rw [List.length_map]; exact Nat.le_trans (List.length_filter_le _ _) (by simp)
theorem mvd_mono (m : List Int) (j : Nat) : ∀ c, ∃ r, mvd (j + c) m = mvd j m ++ r
  | 0 => ⟨[], by simp⟩
  | c + 1 => by
    obtain ⟨r, hr⟩ := mvd_mono m j c
    rw [← Nat.add_assoc, mvd_succ]
    split
    · exact ⟨r ++ [((j + c : Nat) : Int)], by rw [hr, List.append_assoc]⟩
    · exact ⟨r, hr⟩
theorem mvd_at {m : List Int} {j N : Nat} (hj : j < N) (h : (j : Int) ∈ m) : (mvd j m).length < (mvd N m).length ∧ (mvd N m).getD (mvd j m).length 0 = j := by
  obtain ⟨r, hr⟩ := mvd_mono m (j + 1) (N - (j + 1))
  rw [show j + 1 + (N - (j + 1)) = N by omega, mvd_succ, if_pos h] at hr
  rw [hr]; simp
theorem mvd_len_le {m : List Int} {j N : Nat} (hj : j ≤ N) : (mvd j m).length ≤ (mvd N m).length := by
  obtain ⟨r, hr⟩ := mvd_mono m j (N - j)
  rw [show j + (N - j) = N by omega] at hr
  rw [hr]; simp
theorem mvd_mem {m : List Int} {N : Nat} {x : Int} : x ∈ mvd N m ↔ 0 ≤ x ∧ x < N ∧ x ∈ m := by
  unfold mvd
  simp only [List.mem_map, List.mem_filter, List.mem_range, decide_eq_true_eq]
  constructor
  · rintro ⟨b, ⟨h1, h2⟩, rfl⟩; exact ⟨by omega, by omega, h2⟩
  · rintro ⟨h1, h2, h3⟩; exact ⟨x.toNat, ⟨by omega, by rw [show ((x.toNat : Nat) : Int) = x by omega]; exact h3⟩, by omega⟩

/-- a table's bytes -/
def twos (k : Nat) : List Int := List.replicate k 2
def tabW (k : Nat) : List Int := 8 :: twos k
def txL (m : List Int) : List UInt8 := encL (tabW m.length) ((m.length : Int) :: m)
def txS (m : List Int) : ByteArray := strOf (txL m)
theorem twos_length (k : Nat) : (twos k).length = k := by simp [twos]
theorem twos_succ (k : Nat) : twos (k + 1) = twos k ++ [2] := List.replicate_succ'
theorem tabW_length (k : Nat) : (tabW k).length = k + 1 := by simp [tabW, twos]
theorem twos_ok (k : Nat) : okW (twos k) = true := by simp [okW, twos]
theorem tabW_ok (k : Nat) : okW (tabW k) = true := by
  have := twos_ok k
  simp only [okW, tabW, List.all_cons] at this ⊢; rw [this]; rfl
theorem twos_sum : ∀ k, sumW (twos k) = 2 * k
  | 0 => rfl
  | k + 1 => by rw [twos_succ, sumW_snoc, twos_sum k]; omega
theorem tabW_sum (k : Nat) : sumW (tabW k) = 8 + 2 * k := by
  have := twos_sum k; simp only [sumW, tabW, List.sum_cons] at this ⊢; omega
theorem txL_length (m : List Int) : (txL m).length = 8 + 2 * m.length := by
  have h1 : (tabW m.length).length = ((m.length : Int) :: m).length := by rw [tabW_length]; rfl
  have h2 := encL_length (tabW m.length) ((m.length : Int) :: m) (tabW_ok _) h1
  rw [tabW_sum] at h2
  unfold txL; omega
theorem fits2 : ∀ (m : List Int), (∀ x ∈ m, x < 65536) → fitsL (twos m.length) m = true
  | [], _ => rfl
  | x :: m, h => by
    have h1 : fitsB x 2 = true := by have := h x (by simp); simp [fitsB]; omega
    have h2 := fits2 m (fun y hy => h y (by simp [hy]))
    show fitsL (2 :: twos m.length) (x :: m) = true
    rw [fitsL, h1, h2]; rfl
theorem tab_fits {n k : Int} {m : List Int} (h : Good n k m) : fitsL (tabW m.length) ((m.length : Int) :: m) = true := by
  have hb := h.bd
  have h1 : fitsB (m.length : Int) 8 = true := fitsB_8 _ (by omega)
  have h2 := fits2 m (fun x hx => by have := h.mem x hx; omega)
  show fitsL (8 :: twos m.length) ((m.length : Int) :: m) = true
  rw [fitsL, h1, h2]; rfl
theorem tab_wr {n k : Int} {m : List Int} (h : Good n k m) : wrB (tabW m.length) ((m.length : Int) :: m) = true ∧ wrS (tabW m.length) ((m.length : Int) :: m) = txS m :=
  wr_ok (tabW_ok _) (by rw [tabW_length]; rfl) (tab_fits h)
theorem txL_snoc (m : List Int) (x : Int) : encL (tabW (m.length + 1)) (((m ++ [x]).length : Int) :: (m ++ [x])) = encN ((m.length + 1 : Nat) : Int) 8 ++ (encL (twos m.length) m ++ encN x 2) := by
  show encL (8 :: twos (m.length + 1)) _ = _
  rw [twos_succ, encL, encL_snoc _ _ _ _ (twos_length _)]; simp
theorem txL_eq (m : List Int) : txL m = encN (m.length : Int) 8 ++ encL (twos m.length) m := by
  show encL (8 :: twos m.length) _ = _; rw [encL]; simp
theorem enc2_take (m : List Int) (i : Nat) (hi : i < m.length) : encL (twos (i + 1)) (m.take (i + 1)) = encL (twos i) (m.take i) ++ encN (m.getD i 0) 2 := by
  rw [take_snoc' m i hi, twos_succ, encL_snoc _ _ _ _ (by rw [twos_length, List.length_take]; omega)]; rfl

/-- what Parse tells of bytes: how many, and which -/
def paN (l : List UInt8) : Nat := (l.length - 8) / 2
def paI (l : List UInt8) (i : Nat) : Int := (getL ((l.drop (8 + 2 * i)).take 2) : Nat)
def paL (l : List UInt8) : List Int := (List.range (paN l)).map (paI l)
/-- its length and its generation are right -/
def paF (l : List UInt8) (k : Int) : Bool := decide (8 ≤ l.length) && (decide (l.length % 2 = 0) && (decide ((paN l : Int) ≤ k) && decide (getL (l.take 8) = paN l)))
def paB (l : List UInt8) (n k : Int) : Bool := paF l k && (paL l).all fun x => decide (x < n)
def paE (l : List UInt8) (n k : Int) : Int := if mayB n k = true then (if paB l n k = true then 0 else 4) else 2
def paM (l : List UInt8) (n k : Int) : List Int := if paE l n k = 0 then paL l else []
theorem paL_length (l : List UInt8) : (paL l).length = paN l := by simp [paL]
theorem paL_getD (l : List UInt8) (i : Nat) (h : i < paN l) : (paL l).getD i 0 = paI l i := by
  rw [List.getD_eq_getElem?_getD]; simp [paL, h]
theorem paI_bd (l : List UInt8) (i : Nat) : 0 ≤ paI l i ∧ paI l i < 65536 := by
  have h1 := getL_bd ((l.drop (8 + 2 * i)).take 2)
  have h2 : ((l.drop (8 + 2 * i)).take 2).length ≤ 2 := by simp; omega
  have h3 : 2 ^ (8 * ((l.drop (8 + 2 * i)).take 2).length) ≤ 2 ^ 16 := Nat.pow_le_pow_right (by decide) (by omega)
  unfold paI; omega
theorem pa_may {l : List UInt8} {n k : Int} (h : mayB n k = false) : paE l n k = 2 := by rw [paE, if_neg (by rw [h]; decide)]
theorem pa_form {l : List UInt8} {n k : Int} (h : mayB n k = true) (h2 : paB l n k = false) : paE l n k = 4 := by rw [paE, if_pos h, if_neg (by rw [h2]; decide)]
theorem pa_ok {l : List UInt8} {n k : Int} (h : mayB n k = true) (h2 : paB l n k = true) : paE l n k = 0 := by rw [paE, if_pos h, if_pos h2]
theorem pa_good {l : List UInt8} {n k : Int} (h : mayB n k = true) (h2 : paB l n k = true) : Good n k (paL l) := by
  simp only [paB, paF, Bool.and_eq_true, decide_eq_true_eq, List.all_eq_true] at h2
  refine ⟨h, by rw [paL_length]; exact h2.1.2.2.1, fun x hx => ⟨?_, h2.2 x hx⟩⟩
  simp only [paL, List.mem_map, List.mem_range] at hx
  obtain ⟨i, _, rfl⟩ := hx
  exact (paI_bd l i).1
theorem paE_zero {l : List UInt8} {n k : Int} (h : paE l n k = 0) : mayB n k = true ∧ paB l n k = true := by
  cases h1 : mayB n k with
  | false => rw [pa_may h1] at h; cases h
  | true =>
    cases h2 : paB l n k with
    | false => rw [pa_form h1 h2] at h; cases h
    | true => exact ⟨rfl, rfl⟩
theorem paM_no {l : List UInt8} {n k : Int} (h : paE l n k ≠ 0) : paM l n k = [] := by rw [paM, if_neg h]
theorem paM_ok {l : List UInt8} {n k : Int} (h : paE l n k = 0) : paM l n k = paL l := by rw [paM, if_pos h]
/-- the first blocks of them, one by one -/
theorem paL_take (l : List UInt8) (i : Nat) (h : i < paN l) : (paL l).take (i + 1) = (paL l).take i ++ [paI l i] := by
  rw [take_snoc' _ i (by rw [paL_length]; exact h), paL_getD l i h]
theorem paB_bad {l : List UInt8} {n k : Int} {i : Nat} (hi : i < paN l) (h : n ≤ paI l i) : paB l n k = false := by
  have : ((paL l).all fun x => decide (x < n)) = false := by
    rw [List.all_eq_false]
    refine ⟨paI l i, ?_, by simp; omega⟩
    rw [← paL_getD l i hi, List.getD_eq_getElem?_getD, List.getElem?_eq_getElem (by rw [paL_length]; exact hi)]
    exact List.getElem_mem _
  rw [paB, this]; simp
theorem paB_all {l : List UInt8} {n k : Int} (hf : paF l k = true) (h : ∀ i, i < paN l → paI l i < n) : paB l n k = true := by
  have : ((paL l).all fun x => decide (x < n)) = true := by
    rw [List.all_eq_true]
    intro x hx
    simp only [paL, List.mem_map, List.mem_range] at hx
    obtain ⟨i, hi, rfl⟩ := hx
    simpa using h i hi
  rw [paB, hf, this]; rfl
/-- Parse of Text -/
theorem pa_tx {n k : Int} {m : List Int} (h : Good n k m) : paL (txL m) = m ∧ paB (txL m) n k = true ∧ paE (txL m) n k = 0 := by
  have hb := h.bd
  have hl := txL_length m
  have hN : paN (txL m) = m.length := by unfold paN; rw [hl]; omega
  have hr : rdL (tabW m.length) (txL m) = (m.length : Int) :: m := by
    have := rd_enc [] (tabW m.length) ((m.length : Int) :: m) (by rw [tabW_length]; rfl) (tabW_ok _) (tab_fits h) (fun x hx => by
      rcases List.mem_cons.1 hx with hx | hx
      · omega
      · exact (h.mem x hx).1)
    rwa [List.append_nil] at this
  have hr2 : ∀ (c : Nat) (l : List UInt8), rdL (twos c) l = (List.range c).map fun i => ((getL ((l.drop (2 * i)).take 2) : Nat) : Int) := by
    intro c
    induction c with
    | zero => intro l; rfl
    | succ c ih =>
      intro l
      show rdL (2 :: twos c) l = _
      rw [rdL, ih, List.range_succ_eq_map]
      simp only [List.map_cons, List.map_map]
      congr 1
      apply List.map_congr_left
      intro i _
      simp only [Function.comp, List.drop_drop]
      rw [show (2 : Int).toNat + 2 * i = 2 * (i + 1) by simp; omega]
  have hc : rdL (tabW m.length) (txL m) = ((getL ((txL m).take 8) : Nat) : Int) :: paL (txL m) := by
    show rdL (8 :: twos m.length) (txL m) = _
    rw [rdL, hr2]
    show _ = _ :: List.map (paI (txL m)) (List.range (paN (txL m)))
    rw [hN]
    congr 1
    apply List.map_congr_left
    intro i _
    simp only [List.drop_drop, paI]
    rfl
  rw [hr] at hc
  injection hc with h1 h2
  have hf : paF (txL m) k = true := by
    simp only [paF, Bool.and_eq_true, decide_eq_true_eq, hN, hl]
    have := h.len
    omega
  have hB : paB (txL m) n k = true := by
    refine paB_all hf fun i hi => ?_
    rw [← paL_getD _ i hi, ← h2]
    exact (h.getD i (by rw [← hN]; exact hi)).2
  exact ⟨h2.symm, hB, pa_ok h.may hB⟩
end Go.Proofs.YtgoampbebjfenaaGreatDoor.Tab

/-
  DERIVED: THE SHELF's CONTRACTS AT THIS DUMP, IN PLAIN WORDS (tools/lay-plain.mjs out of 'TryzShelf.lean', which tools/lay-shelf.mjs wrote): THE SAME DECLARATIONS UNDER THE SAME NAMES: 'import', 'namespace', 'open', 'def', 'theorem' AND NOTHING ELSE: no command of the shelf's: FOR A HAND-IN. Each laying: the table of numbers ('.._ren') and one theorem, a field a fact of the dump's own or the kernel's comparison; each contract: ONE APPLICATION.
-/
namespace Go.Proofs
open Go.Shelf
def Tryz.lays170_ren : Go.Shelf.Ren := ⟨fun | 170 => 41 | n => n, fun | 70 => 106 | 3 => 3 | 0 => 0 | 72 => 109 | 37 => 107 | 5 => 5 | n => n, fun | n => n⟩
theorem Tryz.lays170 : Go.Proofs.Lays.n170 Tryz.prog Tryz.lays170_ren := {
  mixed := by kernel_rfl
  f170 := Tryz.func41.trans (congrArg some (by kernel_rfl))
  t0 := Tryz.underlying0
  a0 := Tryz.isAgg0
  z0 := Tryz.sizeOf0
  v0 := Tryz.zeroValue0
  t3 := Tryz.underlying3
  a3 := Tryz.isAgg3
  z3 := Tryz.sizeOf3
  v3 := Tryz.zeroValue3
  t37 := Tryz.underlying107
  a37 := Tryz.isAgg107
  z37 := Tryz.sizeOf107
  v37 := Tryz.zeroValue107
  t70 := Tryz.underlying106
  a70 := Tryz.isAgg106
  z70 := Tryz.sizeOf106
  v70 := Tryz.zeroValue106
  t72 := Tryz.underlying109
  a72 := Tryz.isAgg109
  z72 := Tryz.sizeOf109
  v72 := Tryz.zeroValue109 }
open Go.RowKit in
/-- (*strings.Builder).Len: "Len returns the number of accumulated bytes; b.Len() == len(b.String()).": the world is as it was. (LAID: no walk: one application.) -/
theorem Tryz.Builder_Len (B b : Nat) (bs : List Value) (w : World) (h : Lib.IsBuilder 109 5 B b bs w) :
    Calls Tryz.prog 41 #[.pointer (some ⟨b, 0, none⟩)] w fun e w' => e = .returned (.int .i64 bs.length) ∧ w' = w := Any.Builder_Len Tryz.lays170 B b bs w h
def Tryz.lays169_ren : Go.Shelf.Ren := ⟨fun | 169 => 42 | n => n, fun | 70 => 106 | 9 => 9 | 0 => 0 | 72 => 109 | 37 => 107 | 127 => 145 | 3 => 3 | 5 => 5 | n => n, fun | n => n⟩
theorem Tryz.lays169 : Go.Proofs.Lays.n169 Tryz.prog Tryz.lays169_ren := {
  mixed := by kernel_rfl
  f169 := Tryz.func42.trans (congrArg some (by kernel_rfl))
  t0 := Tryz.underlying0
  a0 := Tryz.isAgg0
  z0 := Tryz.sizeOf0
  v0 := Tryz.zeroValue0
  t3 := Tryz.underlying3
  a3 := Tryz.isAgg3
  z3 := Tryz.sizeOf3
  v3 := Tryz.zeroValue3
  t9 := Tryz.underlying9
  a9 := Tryz.isAgg9
  z9 := Tryz.sizeOf9
  v9 := Tryz.zeroValue9
  t37 := Tryz.underlying107
  a37 := Tryz.isAgg107
  z37 := Tryz.sizeOf107
  v37 := Tryz.zeroValue107
  t70 := Tryz.underlying106
  a70 := Tryz.isAgg106
  z70 := Tryz.sizeOf106
  v70 := Tryz.zeroValue106
  t72 := Tryz.underlying109
  a72 := Tryz.isAgg109
  z72 := Tryz.sizeOf109
  v72 := Tryz.zeroValue109
  t127 := Tryz.underlying145
  a127 := Tryz.isAgg145
  z127 := Tryz.sizeOf145
  v127 := Tryz.zeroValue145 }
theorem Tryz.Builder_Extra_169 : Builder.Extra Tryz.prog Tryz.lays169_ren := {
  sizeBuilder := by kernel_rfl
  liesBuilder := by kernel_rfl
  t5 := Tryz.underlying5
  a5 := Tryz.isAgg5
  z5 := Tryz.sizeOf5
  v5 := Tryz.zeroValue5
  infoByte := by kernel_rfl
  cellsByte := by kernel_rfl
  sizeByte := by kernel_rfl
  neB5 := by decide }
open Go.RowKit in
/-- (*strings.Builder).String: "String returns the accumulated string.": OF A BUILDER THAT HOLDS AT LEAST ONE BYTE. ✋ THE MODEL FREEZES THOSE BYTES IN THE BUFFER (unsafe.String): a later write INTO them ends the model's run without an answer; a later append BEHIND them goes on. The statement's order of evaluation is drawn: one draw. (LAID: no walk: one application.) -/
theorem Tryz.Builder_String (B b : Nat) (l : List UInt8) (w : World) (h : Lib.IsBuilder 109 5 B b (Lib.byteCells l) w) (h0 : l ≠ []) :
    Calls Tryz.prog 42 #[.pointer (some ⟨b, 0, none⟩)] w fun e w' => e = .returned (.string ⟨l.toArray⟩) ∧ Below B w w' := Any.Builder_String Tryz.lays169 Tryz.Builder_Extra_169 B b l w h h0
open Go.RowKit in
/-- (*strings.Builder).String OF A BUILDER THAT HOLDS NO BYTE: the empty string. (Its buffer is nil, or a row of which it has taken nothing yet; where that row has NO capacity the model lays one new block for unsafe.SliceData's 'some address'.) One draw. (LAID: no walk: one application.) -/
theorem Tryz.Builder_String_empty (B b : Nat) (w : World) (h : Lib.IsBuilder 109 5 B b [] w) (hBw : B ≤ w.heap.size) :
    Calls Tryz.prog 42 #[.pointer (some ⟨b, 0, none⟩)] w fun e w' => e = .returned (.string ⟨#[]⟩) ∧ Below B w w' := Any.Builder_String_empty Tryz.lays169 Tryz.Builder_Extra_169 B b w h hBw
open Go.RowKit in
/-- (*strings.Builder).String: "String returns the accumulated string.": WHATEVER THE BUILDER HOLDS. (LAID: no walk: one application.) -/
theorem Tryz.Builder_String_any (B b : Nat) (l : List UInt8) (w : World) (h : Lib.IsBuilder 109 5 B b (Lib.byteCells l) w) (hBw : B ≤ w.heap.size) :
    Calls Tryz.prog 42 #[.pointer (some ⟨b, 0, none⟩)] w fun e w' => e = .returned (.string ⟨l.toArray⟩) ∧ Below B w w' := Any.Builder_String_any Tryz.lays169 Tryz.Builder_Extra_169 B b l w h hBw
def Tryz.lays241_ren : Go.Shelf.Ren := ⟨fun | 241 => 75 | 277 => 97 | n => n, fun | 70 => 106 | 3 => 3 | 0 => 0 | 72 => 109 | 37 => 107 | 5 => 5 | n => n, fun | n => n⟩
theorem Tryz.lays241 : Go.Proofs.Lays.n241 Tryz.prog Tryz.lays241_ren := {
  mixed := by kernel_rfl
  f241 := Tryz.func75.trans (congrArg some (by kernel_rfl))
  f277 := Tryz.func97.trans (congrArg some (by kernel_rfl))
  t0 := Tryz.underlying0
  a0 := Tryz.isAgg0
  z0 := Tryz.sizeOf0
  v0 := Tryz.zeroValue0
  t3 := Tryz.underlying3
  a3 := Tryz.isAgg3
  z3 := Tryz.sizeOf3
  v3 := Tryz.zeroValue3
  t37 := Tryz.underlying107
  a37 := Tryz.isAgg107
  z37 := Tryz.sizeOf107
  v37 := Tryz.zeroValue107
  t70 := Tryz.underlying106
  a70 := Tryz.isAgg106
  z70 := Tryz.sizeOf106
  v70 := Tryz.zeroValue106
  t72 := Tryz.underlying109
  a72 := Tryz.isAgg109
  z72 := Tryz.sizeOf109
  v72 := Tryz.zeroValue109 }
theorem Tryz.Builder_Extra_241 : Builder.Extra Tryz.prog Tryz.lays241_ren := {
  sizeBuilder := by kernel_rfl
  liesBuilder := by kernel_rfl
  t5 := Tryz.underlying5
  a5 := Tryz.isAgg5
  z5 := Tryz.sizeOf5
  v5 := Tryz.zeroValue5
  infoByte := by kernel_rfl
  cellsByte := by kernel_rfl
  sizeByte := by kernel_rfl
  neB5 := by decide }
open Go.RowKit in
/-- (*strings.Builder).grow (no doc but "grow copies the buffer to a new, larger buffer so that there are at least n bytes of capacity beyond len(b.buf)."): AT A BUILDER WITHOUT A BUFFER: a new row of whatever bytes for its buffer, none of them its own yet. Three draws. (LAID: no walk: one application.) -/
theorem Tryz.Builder_grow_fresh (B b n : Nat) (w : World) (hB : B ≤ b) (hbk : w.heap[b]? = some (.cells #[.pointer (some ⟨b, 0, none⟩), .slice none 0 0] 109 (0, 0))) (hBw : B ≤ w.heap.size) (hn : n ≤ 281474976710656) :
    Calls Tryz.prog 75 #[.pointer (some ⟨b, 0, none⟩), .int .i64 n] w fun e w' => e = .returned (.tuple #[]) ∧ (Lib.BuilderAt 109 5 B b (.pointer (some ⟨b, 0, none⟩)) [] w' ∧ Below B w w') := Any.Builder_grow_fresh Tryz.lays241 Tryz.Builder_Extra_241 B b n w hB hbk hBw hn
def Tryz.lays165_ren : Go.Shelf.Ren := ⟨fun | 165 => 39 | 240 => 74 | 241 => 75 | 276 => 96 | 277 => 97 | n => n, fun | 70 => 106 | 3 => 3 | 0 => 0 | 4 => 4 | 9 => 9 | 20 => 20 | 72 => 109 | 37 => 107 | 164 => 165 | 5 => 5 | n => n, fun | n => n⟩
theorem Tryz.lays165 : Go.Proofs.Lays.n165 Tryz.prog Tryz.lays165_ren := {
  mixed := by kernel_rfl
  f165 := Tryz.func39.trans (congrArg some (by kernel_rfl))
  f240 := Tryz.func74.trans (congrArg some (by kernel_rfl))
  f241 := Tryz.func75.trans (congrArg some (by kernel_rfl))
  f276 := Tryz.func96.trans (congrArg some (by kernel_rfl))
  f277 := Tryz.func97.trans (congrArg some (by kernel_rfl))
  t0 := Tryz.underlying0
  a0 := Tryz.isAgg0
  z0 := Tryz.sizeOf0
  v0 := Tryz.zeroValue0
  t3 := Tryz.underlying3
  a3 := Tryz.isAgg3
  z3 := Tryz.sizeOf3
  v3 := Tryz.zeroValue3
  t4 := Tryz.underlying4
  a4 := Tryz.isAgg4
  z4 := Tryz.sizeOf4
  v4 := Tryz.zeroValue4
  t9 := Tryz.underlying9
  a9 := Tryz.isAgg9
  z9 := Tryz.sizeOf9
  v9 := Tryz.zeroValue9
  t20 := Tryz.underlying20
  a20 := Tryz.isAgg20
  z20 := Tryz.sizeOf20
  v20 := Tryz.zeroValue20
  t37 := Tryz.underlying107
  a37 := Tryz.isAgg107
  z37 := Tryz.sizeOf107
  v37 := Tryz.zeroValue107
  t70 := Tryz.underlying106
  a70 := Tryz.isAgg106
  z70 := Tryz.sizeOf106
  v70 := Tryz.zeroValue106
  t72 := Tryz.underlying109
  a72 := Tryz.isAgg109
  z72 := Tryz.sizeOf109
  v72 := Tryz.zeroValue109
  t164 := Tryz.underlying165
  a164 := Tryz.isAgg165
  z164 := Tryz.sizeOf165
  v164 := Tryz.zeroValue165 }
theorem Tryz.Builder_Extra_165 : Builder.Extra Tryz.prog Tryz.lays165_ren := {
  sizeBuilder := by kernel_rfl
  liesBuilder := by kernel_rfl
  t5 := Tryz.underlying5
  a5 := Tryz.isAgg5
  z5 := Tryz.sizeOf5
  v5 := Tryz.zeroValue5
  infoByte := by kernel_rfl
  cellsByte := by kernel_rfl
  sizeByte := by kernel_rfl
  neB5 := by decide }
open Go.RowKit in
/-- (*strings.Builder).Grow AT A BUILDER THAT HAS NOT BEEN WRITTEN ('var b strings.Builder; b.Grow(n)'): "Grow grows b's capacity, if necessary, to guarantee space for another n bytes.": it holds no byte behind it as before it. (LAID: no walk: one application.) -/
theorem Tryz.Builder_Grow_fresh (B b n : Nat) (w : World) (hB : B ≤ b) (hbk : w.heap[b]? = some (.cells #[.pointer none, .slice none 0 0] 109 (0, 0))) (hBw : B ≤ w.heap.size) (hn : n ≤ 281474976710656) :
    Calls Tryz.prog 39 #[.pointer (some ⟨b, 0, none⟩), .int .i64 n] w fun e w' => e = .returned (.tuple #[]) ∧ (Lib.BuilderAt 109 5 B b (.pointer (some ⟨b, 0, none⟩)) [] w' ∧ Below B w w') := Any.Builder_Grow_fresh Tryz.lays165 Tryz.Builder_Extra_165 B b n w hB hbk hBw hn
def Tryz.lays231_ren : Go.Shelf.Ren := ⟨fun | 231 => 143 | n => n, fun | 9 => 9 | 5 => 5 | 3 => 3 | 4 => 4 | n => n, fun | n => n⟩
theorem Tryz.lays231 : Go.Proofs.Lays.n231 Tryz.prog Tryz.lays231_ren := {
  mixed := by kernel_rfl
  f231 := Tryz.func143.trans (congrArg some (by kernel_rfl))
  t3 := Tryz.underlying3
  a3 := Tryz.isAgg3
  z3 := Tryz.sizeOf3
  v3 := Tryz.zeroValue3
  t4 := Tryz.underlying4
  a4 := Tryz.isAgg4
  z4 := Tryz.sizeOf4
  v4 := Tryz.zeroValue4
  t5 := Tryz.underlying5
  a5 := Tryz.isAgg5
  z5 := Tryz.sizeOf5
  v5 := Tryz.zeroValue5
  t9 := Tryz.underlying9
  a9 := Tryz.isAgg9
  z9 := Tryz.sizeOf9
  v9 := Tryz.zeroValue9 }
open Go.RowKit in
/-- strings.trimLeftByte (no doc; what TrimLeft and Trim call at a cutset of one ASCII byte): the leading bytes that are c are cut off. The world is as it was. (LAID: no walk: one application.) -/
theorem Tryz.strings_trimLeftByte (s : ByteArray) (c : UInt8) (w : World) :
    Calls Tryz.prog 143 #[.string s, .int .u8 c.toNat] w fun e w' => e = .returned (.string ⟨(Lib.trimLeftB s.data.toList c).toArray⟩) ∧ w' = w := Any.strings_trimLeftByte Tryz.lays231 s c w
def Tryz.lays161_ren : Go.Shelf.Ren := ⟨fun | 161 => 134 | 231 => 143 | 227 => 144 | 233 => 145 | 235 => 146 | 228 => 149 | 197 => 150 | 151 => 151 | 260 => 153 | 152 => 154 | 137 => 155 | 119 => 156 | 224 => 157 | 225 => 158 | 217 => 159 | 266 => 160 | n => n, fun | 9 => 9 | 4 => 4 | 3 => 3 | 5 => 5 | 117 => 219 | 116 => 218 | 0 => 0 | 124 => 222 | 105 => 230 | 21 => 21 | 119 => 235 | 46 => 102 | 139 => 238 | 138 => 237 | n => n, fun | 3 => 1 | 4 => 2 | n => n⟩
theorem Tryz.lays161 : Go.Proofs.Lays.n161 Tryz.prog Tryz.lays161_ren := {
  mixed := by kernel_rfl
  f119 := Tryz.func156.trans (congrArg some (by kernel_rfl))
  f137 := Tryz.func155.trans (congrArg some (by kernel_rfl))
  f151 := Tryz.func151.trans (congrArg some (by kernel_rfl))
  f152 := Tryz.func154.trans (congrArg some (by kernel_rfl))
  f161 := Tryz.func134.trans (congrArg some (by kernel_rfl))
  f197 := Tryz.func150.trans (congrArg some (by kernel_rfl))
  f217 := Tryz.func159.trans (congrArg some (by kernel_rfl))
  f224 := Tryz.func157.trans (congrArg some (by kernel_rfl))
  f225 := Tryz.func158.trans (congrArg some (by kernel_rfl))
  f227 := Tryz.func144.trans (congrArg some (by kernel_rfl))
  f228 := Tryz.func149.trans (congrArg some (by kernel_rfl))
  f231 := Tryz.func143.trans (congrArg some (by kernel_rfl))
  f233 := Tryz.func145.trans (congrArg some (by kernel_rfl))
  f235 := Tryz.func146.trans (congrArg some (by kernel_rfl))
  f260 := Tryz.func153.trans (congrArg some (by kernel_rfl))
  f266 := Tryz.func160.trans (congrArg some (by kernel_rfl))
  t0 := Tryz.underlying0
  a0 := Tryz.isAgg0
  z0 := Tryz.sizeOf0
  v0 := Tryz.zeroValue0
  t3 := Tryz.underlying3
  a3 := Tryz.isAgg3
  z3 := Tryz.sizeOf3
  v3 := Tryz.zeroValue3
  t4 := Tryz.underlying4
  a4 := Tryz.isAgg4
  z4 := Tryz.sizeOf4
  v4 := Tryz.zeroValue4
  t5 := Tryz.underlying5
  a5 := Tryz.isAgg5
  z5 := Tryz.sizeOf5
  v5 := Tryz.zeroValue5
  t9 := Tryz.underlying9
  a9 := Tryz.isAgg9
  z9 := Tryz.sizeOf9
  v9 := Tryz.zeroValue9
  t21 := Tryz.underlying21
  a21 := Tryz.isAgg21
  z21 := Tryz.sizeOf21
  v21 := Tryz.zeroValue21
  t46 := Tryz.underlying102
  a46 := Tryz.isAgg102
  z46 := Tryz.sizeOf102
  v46 := Tryz.zeroValue102
  t105 := Tryz.underlying230
  a105 := Tryz.isAgg230
  z105 := Tryz.sizeOf230
  v105 := Tryz.zeroValue230
  t116 := Tryz.underlying218
  a116 := Tryz.isAgg218
  z116 := Tryz.sizeOf218
  t117 := Tryz.underlying219
  a117 := Tryz.isAgg219
  z117 := Tryz.sizeOf219
  v117 := Tryz.zeroValue219
  t119 := Tryz.underlying235
  a119 := Tryz.isAgg235
  z119 := Tryz.sizeOf235
  t124 := Tryz.underlying222
  a124 := Tryz.isAgg222
  z124 := Tryz.sizeOf222
  v124 := Tryz.zeroValue222
  t138 := Tryz.underlying237
  a138 := Tryz.isAgg237
  z138 := Tryz.sizeOf237
  v138 := Tryz.zeroValue237
  t139 := Tryz.underlying238
  a139 := Tryz.isAgg238
  z139 := Tryz.sizeOf238
  v139 := Tryz.zeroValue238
  g3 := by kernel_rfl
  g4 := by kernel_rfl }
open Go.RowKit in
/-- strings.TrimLeft: "TrimLeft returns a slice of the string s with all leading Unicode code points contained in cutset removed.": AT A cutset OF ONE ASCII BYTE. The world is as it was. (LAID: no walk: one application.) -/
theorem Tryz.strings_TrimLeft_one (s : ByteArray) (c : UInt8) (hc : c.toNat < 128) (w : World) :
    Calls Tryz.prog 134 #[.string s, .string ⟨#[c]⟩] w fun e w' => e = .returned (.string ⟨(Lib.trimLeftB s.data.toList c).toArray⟩) ∧ w' = w := Any.strings_TrimLeft_one Tryz.lays161 s c hc w
def Tryz.lays119_ren : Go.Shelf.Ren := ⟨fun | 119 => 156 | n => n, fun | 21 => 21 | 4 => 4 | n => n, fun | n => n⟩
theorem Tryz.lays119 : Go.Proofs.Lays.n119 Tryz.prog Tryz.lays119_ren := {
  mixed := by kernel_rfl
  f119 := Tryz.func156.trans (congrArg some (by kernel_rfl))
  t4 := Tryz.underlying4
  a4 := Tryz.isAgg4
  z4 := Tryz.sizeOf4
  v4 := Tryz.zeroValue4
  t21 := Tryz.underlying21
  a21 := Tryz.isAgg21
  z21 := Tryz.sizeOf21
  v21 := Tryz.zeroValue21 }
/-- utf8.ValidRune: "ValidRune reports whether r can be legally encoded as UTF-8. Code points that are out of range or a surrogate half are illegal.": IT RETURNS 'Lib.validRune r'; the world is as it was. (LAID: no walk: one application.) -/
theorem Tryz.utf8_ValidRune (r : Int) (w : World) :
    Calls Tryz.prog 156 #[.int .i32 r] w fun e w' => e = .returned (.bool (Lib.validRune r)) ∧ w' = w := Any.utf8_ValidRune Tryz.lays119 r w
def Tryz.lays128_ren : Go.Shelf.Ren := ⟨fun | 128 => 127 | n => n, fun | 51 => 33 | 3 => 3 | 4 => 4 | 46 => 102 | 5 => 5 | 9 => 9 | n => n, fun | n => n⟩
theorem Tryz.lays128 : Go.Proofs.Lays.n128 Tryz.prog Tryz.lays128_ren := {
  mixed := by kernel_rfl
  f128 := Tryz.func127.trans (congrArg some (by kernel_rfl))
  t3 := Tryz.underlying3
  a3 := Tryz.isAgg3
  z3 := Tryz.sizeOf3
  v3 := Tryz.zeroValue3
  t4 := Tryz.underlying4
  a4 := Tryz.isAgg4
  z4 := Tryz.sizeOf4
  v4 := Tryz.zeroValue4
  t5 := Tryz.underlying5
  a5 := Tryz.isAgg5
  z5 := Tryz.sizeOf5
  v5 := Tryz.zeroValue5
  t9 := Tryz.underlying9
  a9 := Tryz.isAgg9
  z9 := Tryz.sizeOf9
  v9 := Tryz.zeroValue9
  t46 := Tryz.underlying102
  a46 := Tryz.isAgg102
  z46 := Tryz.sizeOf102
  v46 := Tryz.zeroValue102
  t51 := Tryz.underlying33
  a51 := Tryz.isAgg33
  z51 := Tryz.sizeOf33
  v51 := Tryz.zeroValue33 }
/-- bits.Len32: "Len32 returns the minimum number of bits required to represent x; the result is 0 for x == 0.": IT RETURNS 'Lib.bitLen x'; the world is as it was. ('h0', 'h1': x is a uint32.) (LAID: no walk: one application.) -/
theorem Tryz.bits_Len32 (x : Int) (w : World) (h0 : 0 ≤ x) (h1 : x ≤ 4294967295) :
    Calls Tryz.prog 127 #[.int .u32 x] w fun e w' => e = .returned (.int .i64 (Lib.bitLen x.toNat)) ∧ w' = w := Any.bits_Len32 Tryz.lays128 x w h0 h1
def Tryz.lays125_ren : Go.Shelf.Ren := ⟨fun | 125 => 103 | 128 => 127 | 129 => 128 | n => n, fun | 46 => 102 | 3 => 3 | 51 => 33 | 53 => 32 | 4 => 4 | 5 => 5 | 9 => 9 | n => n, fun | n => n⟩
theorem Tryz.lays125 : Go.Proofs.Lays.n125 Tryz.prog Tryz.lays125_ren := {
  mixed := by kernel_rfl
  f125 := Tryz.func103.trans (congrArg some (by kernel_rfl))
  f128 := Tryz.func127.trans (congrArg some (by kernel_rfl))
  f129 := Tryz.func128.trans (congrArg some (by kernel_rfl))
  t3 := Tryz.underlying3
  a3 := Tryz.isAgg3
  z3 := Tryz.sizeOf3
  v3 := Tryz.zeroValue3
  t4 := Tryz.underlying4
  a4 := Tryz.isAgg4
  z4 := Tryz.sizeOf4
  v4 := Tryz.zeroValue4
  t5 := Tryz.underlying5
  a5 := Tryz.isAgg5
  z5 := Tryz.sizeOf5
  v5 := Tryz.zeroValue5
  t9 := Tryz.underlying9
  a9 := Tryz.isAgg9
  z9 := Tryz.sizeOf9
  v9 := Tryz.zeroValue9
  t46 := Tryz.underlying102
  a46 := Tryz.isAgg102
  z46 := Tryz.sizeOf102
  v46 := Tryz.zeroValue102
  t51 := Tryz.underlying33
  a51 := Tryz.isAgg33
  z51 := Tryz.sizeOf33
  v51 := Tryz.zeroValue33
  t53 := Tryz.underlying32
  a53 := Tryz.isAgg32
  z53 := Tryz.sizeOf32
  v53 := Tryz.zeroValue32 }
/-- bits.Len: "Len returns the minimum number of bits required to represent x; the result is 0 for x == 0.": IT RETURNS 'Lib.bitLen x'; the world is as it was. (A uint has 64 bits in the model.) ITS CALLEE bits.Len64 IS MET BY ITS OWN CONTRACT OFF THE SHELF (lay that first). (LAID: no walk: one application.) -/
theorem Tryz.bits_Len (x : Int) (w : World) (h0 : 0 ≤ x) (h1 : x ≤ 18446744073709551615) :
    Calls Tryz.prog 103 #[.int .u64 x] w fun e w' => e = .returned (.int .i64 (Lib.bitLen x.toNat)) ∧ w' = w := Any.bits_Len Tryz.lays125 x w h0 h1
def Tryz.lays137_ren : Go.Shelf.Ren := ⟨fun | 137 => 155 | 217 => 159 | 266 => 160 | n => n, fun | 9 => 9 | 5 => 5 | 3 => 3 | n => n, fun | n => n⟩
theorem Tryz.lays137 : Go.Proofs.Lays.n137 Tryz.prog Tryz.lays137_ren := {
  mixed := by kernel_rfl
  f137 := Tryz.func155.trans (congrArg some (by kernel_rfl))
  f217 := Tryz.func159.trans (congrArg some (by kernel_rfl))
  f266 := Tryz.func160.trans (congrArg some (by kernel_rfl))
  t3 := Tryz.underlying3
  a3 := Tryz.isAgg3
  z3 := Tryz.sizeOf3
  v3 := Tryz.zeroValue3
  t5 := Tryz.underlying5
  a5 := Tryz.isAgg5
  z5 := Tryz.sizeOf5
  v5 := Tryz.zeroValue5
  t9 := Tryz.underlying9
  a9 := Tryz.isAgg9
  z9 := Tryz.sizeOf9
  v9 := Tryz.zeroValue9 }
open Go.RowKit in
/-- strings.IndexByte: "IndexByte returns the index of the first instance of c in s, or -1 if c is not present in s.": IT RETURNS 'Lib.indexByte s c'; the world is as it was. (LAID: no walk: one application.) -/
theorem Tryz.strings_IndexByte (s : ByteArray) (c : Int) (w : World) :
    Calls Tryz.prog 155 #[.string s, .int .u8 c] w fun e w' => e = .returned (.int .i64 (Lib.indexByte s.data.toList c.toNat.toUInt8)) ∧ w' = w := Any.strings_IndexByte Tryz.lays137 s c w
def Tryz.lays215_ren : Go.Shelf.Ren := ⟨fun | 215 => 83 | n => n, fun | 3 => 3 | 4 => 4 | n => n, fun | n => n⟩
theorem Tryz.lays215 : Go.Proofs.Lays.n215 Tryz.prog Tryz.lays215_ren := {
  mixed := by kernel_rfl
  f215 := Tryz.func83.trans (congrArg some (by kernel_rfl))
  t3 := Tryz.underlying3
  a3 := Tryz.isAgg3
  z3 := Tryz.sizeOf3
  v3 := Tryz.zeroValue3
  t4 := Tryz.underlying4
  a4 := Tryz.isAgg4
  z4 := Tryz.sizeOf4
  v4 := Tryz.zeroValue4 }
open Go.RowKit in
/-- cmp.isNaN at int: 'x != x': false. (LAID: no walk: one application.) -/
theorem Tryz.cmp_isNaN_int (x : Int) (w : World) :
    Calls Tryz.prog 83 #[.int .i64 x] w fun e w' => e = .returned (.bool false) ∧ w' = w := Any.cmp_isNaN_int Tryz.lays215 x w
def Tryz.lays122_ren : Go.Shelf.Ren := ⟨fun | 122 => 52 | 215 => 83 | n => n, fun | 3 => 3 | 4 => 4 | n => n, fun | n => n⟩
theorem Tryz.lays122 : Go.Proofs.Lays.n122 Tryz.prog Tryz.lays122_ren := {
  mixed := by kernel_rfl
  f122 := Tryz.func52.trans (congrArg some (by kernel_rfl))
  f215 := Tryz.func83.trans (congrArg some (by kernel_rfl))
  t3 := Tryz.underlying3
  a3 := Tryz.isAgg3
  z3 := Tryz.sizeOf3
  v3 := Tryz.zeroValue3
  t4 := Tryz.underlying4
  a4 := Tryz.isAgg4
  z4 := Tryz.sizeOf4
  v4 := Tryz.zeroValue4 }
open Go.RowKit in
/-- cmp.Compare at int: "Compare returns -1 if x is less than y, 0 if x equals y, +1 if x is greater than y.": IT RETURNS 'Lib.compareInt x y'; the world is as it was. (LAID: no walk: one application.) -/
theorem Tryz.cmp_Compare_int (x y : Int) (w : World) :
    Calls Tryz.prog 52 #[.int .i64 x, .int .i64 y] w fun e w' => e = .returned (.int .i64 (Lib.compareInt x y)) ∧ w' = w := Any.cmp_Compare_int Tryz.lays122 x y w
open Go.RowKit in
/-- (*strings.Builder).Len: "Len returns the number of accumulated bytes; b.Len() == len(b.String()).": the world is as it was. (THE FORM '_f': 'Lib.IsBuilderF'.) (LAID: no walk: one application.) -/
theorem Tryz.Builder_Len_f (B b : Nat) (bs : List Value) (w : World) (h : Lib.IsBuilderF 109 5 B b bs w) :
    Calls Tryz.prog 41 #[.pointer (some ⟨b, 0, none⟩)] w fun e w' => e = .returned (.int .i64 bs.length) ∧ w' = w := Any.Builder_Len_f Tryz.lays170 B b bs w h
open Go.RowKit in
/-- (*strings.Builder).String: "String returns the accumulated string.": OF A BUILDER THAT HOLDS AT LEAST ONE BYTE. ✋ THE MODEL FREEZES THOSE BYTES IN THE BUFFER (unsafe.String): a later write INTO them ends the model's run without an answer; a later append BEHIND them goes on. The statement's order of evaluation is drawn: one draw. THE FORM '_f': IT SAYS BESIDES THAT THE BUILDER IS A BUILDER STILL ('Lib.IsBuilderF', the same bytes): SO IT CAN BE WRITTEN ON: 'b.WriteString(b.String()[:k])'. (LAID: no walk: one application.) -/
theorem Tryz.Builder_String_f (B b : Nat) (l : List UInt8) (w : World) (h : Lib.IsBuilderF 109 5 B b (Lib.byteCells l) w) (h0 : l ≠ []) :
    Calls Tryz.prog 42 #[.pointer (some ⟨b, 0, none⟩)] w fun e w' => e = .returned (.string ⟨l.toArray⟩) ∧ (Lib.IsBuilderF 109 5 B b (Lib.byteCells l) w' ∧ Below B w w') := Any.Builder_String_f Tryz.lays169 Tryz.Builder_Extra_169 B b l w h h0
open Go.RowKit in
/-- (*strings.Builder).String OF A BUILDER THAT HOLDS NO BYTE: the empty string; THE FORM '_f': a builder still. (LAID: no walk: one application.) -/
theorem Tryz.Builder_String_empty_f (B b : Nat) (w : World) (h : Lib.IsBuilderF 109 5 B b [] w) (hBw : B ≤ w.heap.size) :
    Calls Tryz.prog 42 #[.pointer (some ⟨b, 0, none⟩)] w fun e w' => e = .returned (.string ⟨#[]⟩) ∧ (Lib.IsBuilderF 109 5 B b [] w' ∧ Below B w w') := Any.Builder_String_empty_f Tryz.lays169 Tryz.Builder_Extra_169 B b w h hBw
open Go.RowKit in
/-- (*strings.Builder).String: "String returns the accumulated string.": WHATEVER THE BUILDER HOLDS; THE FORM '_f': OF A BUILDER THAT MAY HAVE BEEN READ BEFORE; AND IT IS A BUILDER STILL, holding the same bytes: it can be written on. (LAID: no walk: one application.) -/
theorem Tryz.Builder_String_any_f (B b : Nat) (l : List UInt8) (w : World) (h : Lib.IsBuilderF 109 5 B b (Lib.byteCells l) w) (hBw : B ≤ w.heap.size) :
    Calls Tryz.prog 42 #[.pointer (some ⟨b, 0, none⟩)] w fun e w' => e = .returned (.string ⟨l.toArray⟩) ∧ (Lib.IsBuilderF 109 5 B b (Lib.byteCells l) w' ∧ Below B w w') := Any.Builder_String_any_f Tryz.lays169 Tryz.Builder_Extra_169 B b l w h hBw
open Go.RowKit in
/-- (*strings.Builder).String: "String returns the accumulated string.": OF A BUILDER THAT HOLDS AT LEAST ONE BYTE. ✋ THE MODEL FREEZES THOSE BYTES IN THE BUFFER (unsafe.String): a later write INTO them ends the model's run without an answer; a later append BEHIND them goes on. The statement's order of evaluation is drawn: one draw. THE FORM '_k': OVER 'Lib.IsBuilderF' (a builder that 'String()' may have read), AND WITH THE FRAME THAT REACHES ABOVE THE BUILDER: 'Lib.OthersKept': every block that is not b and is no row of uint8's stands as it stood: the iterator of a range among them. (LAID: no walk: one application.) -/
theorem Tryz.Builder_String_k (B b : Nat) (l : List UInt8) (w : World) (h : Lib.IsBuilderF 109 5 B b (Lib.byteCells l) w) (h0 : l ≠ []) :
    Calls Tryz.prog 42 #[.pointer (some ⟨b, 0, none⟩)] w fun e w' => e = .returned (.string ⟨l.toArray⟩) ∧ (Lib.IsBuilderF 109 5 B b (Lib.byteCells l) w' ∧ Below B w w' ∧ Lib.OthersKept 5 (some b) w w') := Any.Builder_String_k Tryz.lays169 Tryz.Builder_Extra_169 B b l w h h0
open Go.RowKit in
/-- (*strings.Builder).String OF A BUILDER THAT HOLDS NO BYTE: the empty string; THE FORM '_k': OVER 'Lib.IsBuilderF' (a builder that 'String()' may have read), AND WITH THE FRAME THAT REACHES ABOVE THE BUILDER: 'Lib.OthersKept': every block that is not b and is no row of uint8's stands as it stood: the iterator of a range among them. (LAID: no walk: one application.) -/
theorem Tryz.Builder_String_empty_k (B b : Nat) (w : World) (h : Lib.IsBuilderF 109 5 B b [] w) (hBw : B ≤ w.heap.size) :
    Calls Tryz.prog 42 #[.pointer (some ⟨b, 0, none⟩)] w fun e w' => e = .returned (.string ⟨#[]⟩) ∧ (Lib.IsBuilderF 109 5 B b [] w' ∧ Below B w w' ∧ Lib.OthersKept 5 (some b) w w') := Any.Builder_String_empty_k Tryz.lays169 Tryz.Builder_Extra_169 B b w h hBw
open Go.RowKit in
/-- (*strings.Builder).String: "String returns the accumulated string.": WHATEVER THE BUILDER HOLDS; THE FORM '_k': OVER 'Lib.IsBuilderF' (a builder that 'String()' may have read), AND WITH THE FRAME THAT REACHES ABOVE THE BUILDER: 'Lib.OthersKept': every block that is not b and is no row of uint8's stands as it stood: the iterator of a range among them. (LAID: no walk: one application.) -/
theorem Tryz.Builder_String_any_k (B b : Nat) (l : List UInt8) (w : World) (h : Lib.IsBuilderF 109 5 B b (Lib.byteCells l) w) (hBw : B ≤ w.heap.size) :
    Calls Tryz.prog 42 #[.pointer (some ⟨b, 0, none⟩)] w fun e w' => e = .returned (.string ⟨l.toArray⟩) ∧ (Lib.IsBuilderF 109 5 B b (Lib.byteCells l) w' ∧ Below B w w' ∧ Lib.OthersKept 5 (some b) w w') := Any.Builder_String_any_k Tryz.lays169 Tryz.Builder_Extra_169 B b l w h hBw
open Go.RowKit in
/-- (*strings.Builder).grow (no doc but "grow copies the buffer to a new, larger buffer so that there are at least n bytes of capacity beyond len(b.buf)."): AT A BUILDER WITHOUT A BUFFER: a new row of whatever bytes for its buffer, none of them its own yet. Three draws. (LAID: no walk: one application.) -/
theorem Tryz.Builder_grow_fresh_cap (B b n : Nat) (w : World) (hB : B ≤ b) (hbk : w.heap[b]? = some (.cells #[.pointer (some ⟨b, 0, none⟩), .slice none 0 0] 109 (0, 0))) (hBw : B ≤ w.heap.size) (hn : n ≤ 281474976710656) :
    Calls Tryz.prog 75 #[.pointer (some ⟨b, 0, none⟩), .int .i64 n] w fun e w' => e = .returned (.tuple #[]) ∧ (Lib.BuilderAt 109 5 B b (.pointer (some ⟨b, 0, none⟩)) [] w' ∧ Below B w w') ∧ ∃ p cap, w'.cell? ⟨b, 1, none⟩ = some (.slice p 0 cap) ∧ n ≤ cap := Any.Builder_grow_fresh_cap Tryz.lays241 Tryz.Builder_Extra_241 B b n w hB hbk hBw hn
open Go.RowKit in
/-- (*strings.Builder).Grow AT A BUILDER THAT HAS NOT BEEN WRITTEN ('var b strings.Builder; b.Grow(n)'): "Grow grows b's capacity, if necessary, to guarantee space for another n bytes.": it holds no byte behind it as before it. (LAID: no walk: one application.) -/
theorem Tryz.Builder_Grow_fresh_cap (B b n : Nat) (w : World) (hB : B ≤ b) (hbk : w.heap[b]? = some (.cells #[.pointer none, .slice none 0 0] 109 (0, 0))) (hBw : B ≤ w.heap.size) (hn : n ≤ 281474976710656) :
    Calls Tryz.prog 39 #[.pointer (some ⟨b, 0, none⟩), .int .i64 n] w fun e w' => e = .returned (.tuple #[]) ∧ (Lib.BuilderAt 109 5 B b (.pointer (some ⟨b, 0, none⟩)) [] w' ∧ Below B w w') ∧ ∃ p cap, w'.cell? ⟨b, 1, none⟩ = some (.slice p 0 cap) ∧ n ≤ cap := Any.Builder_Grow_fresh_cap Tryz.lays165 Tryz.Builder_Extra_165 B b n w hB hbk hBw hn
def Tryz.lays129_ren : Go.Shelf.Ren := ⟨fun | 129 => 128 | n => n, fun | 53 => 32 | 3 => 3 | 4 => 4 | 46 => 102 | 5 => 5 | 9 => 9 | n => n, fun | n => n⟩
theorem Tryz.lays129 : Go.Proofs.Lays.n129 Tryz.prog Tryz.lays129_ren := {
  mixed := by kernel_rfl
  f129 := Tryz.func128.trans (congrArg some (by kernel_rfl))
  t3 := Tryz.underlying3
  a3 := Tryz.isAgg3
  z3 := Tryz.sizeOf3
  v3 := Tryz.zeroValue3
  t4 := Tryz.underlying4
  a4 := Tryz.isAgg4
  z4 := Tryz.sizeOf4
  v4 := Tryz.zeroValue4
  t5 := Tryz.underlying5
  a5 := Tryz.isAgg5
  z5 := Tryz.sizeOf5
  v5 := Tryz.zeroValue5
  t9 := Tryz.underlying9
  a9 := Tryz.isAgg9
  z9 := Tryz.sizeOf9
  v9 := Tryz.zeroValue9
  t46 := Tryz.underlying102
  a46 := Tryz.isAgg102
  z46 := Tryz.sizeOf102
  v46 := Tryz.zeroValue102
  t53 := Tryz.underlying32
  a53 := Tryz.isAgg32
  z53 := Tryz.sizeOf32
  v53 := Tryz.zeroValue32 }
/-- bits.Len64: "Len64 returns the minimum number of bits required to represent x; the result is 0 for x == 0.": IT RETURNS 'Lib.bitLen x'; the world is as it was. ('h0', 'h1': x is a uint64.) (LAID: no walk: one application.) -/
theorem Tryz.bits_Len64 (x : Int) (w : World) (h0 : 0 ≤ x) (h1 : x ≤ 18446744073709551615) :
    Calls Tryz.prog 128 #[.int .u64 x] w fun e w' => e = .returned (.int .i64 (Lib.bitLen x.toNat)) ∧ w' = w := Any.bits_Len64 Tryz.lays129 x w h0 h1
def Tryz.lays217_ren : Go.Shelf.Ren := ⟨fun | 217 => 159 | 266 => 160 | n => n, fun | 9 => 9 | 5 => 5 | 3 => 3 | n => n, fun | n => n⟩
theorem Tryz.lays217 : Go.Proofs.Lays.n217 Tryz.prog Tryz.lays217_ren := {
  mixed := by kernel_rfl
  f217 := Tryz.func159.trans (congrArg some (by kernel_rfl))
  f266 := Tryz.func160.trans (congrArg some (by kernel_rfl))
  t3 := Tryz.underlying3
  a3 := Tryz.isAgg3
  z3 := Tryz.sizeOf3
  v3 := Tryz.zeroValue3
  t5 := Tryz.underlying5
  a5 := Tryz.isAgg5
  z5 := Tryz.sizeOf5
  v5 := Tryz.zeroValue5
  t9 := Tryz.underlying9
  a9 := Tryz.isAgg9
  z9 := Tryz.sizeOf9
  v9 := Tryz.zeroValue9 }
open Go.RowKit Go.Lib in
/-- internal/stringslite.IndexByte (what strings.IndexByte calls): IT RETURNS 'Lib.indexByte s c'; the world is as it was. (LAID: no walk: one application.) -/
theorem Tryz.stringslite_IndexByte (s : ByteArray) (c : Int) (w : World) :
    Calls Tryz.prog 159 #[.string s, .int .u8 c] w fun e w' => e = .returned (.int .i64 (Lib.indexByte s.data.toList c.toNat.toUInt8)) ∧ w' = w := Any.stringslite_IndexByte Tryz.lays217 s c w
def Tryz.lays224_ren : Go.Shelf.Ren := ⟨fun | 224 => 157 | n => n, fun | 3 => 3 | n => n, fun | n => n⟩
theorem Tryz.lays224 : Go.Proofs.Lays.n224 Tryz.prog Tryz.lays224_ren := {
  mixed := by kernel_rfl
  f224 := Tryz.func157.trans (congrArg some (by kernel_rfl))
  t3 := Tryz.underlying3
  a3 := Tryz.isAgg3
  z3 := Tryz.sizeOf3
  v3 := Tryz.zeroValue3 }
open Go.RowKit Go.Lib in
/-- internal/bytealg.Cutover: "Cutover reports the number of failures of IndexByte we should tolerate before switching over to Index. n is the number of bytes processed so far.": on amd64: (n + 16) / 8. (LAID: no walk: one application.) -/
theorem Tryz.bytealg_Cutover (n : Int) (h0 : 0 ≤ n) (h1 : n < 4611686018427387904) (w : World) :
    Calls Tryz.prog 157 #[.int .i64 n] w fun e w' => e = .returned (.int .i64 ((n + 16) / 8)) ∧ w' = w := Any.bytealg_Cutover Tryz.lays224 n h0 h1 w
def Tryz.lays206_ren : Go.Shelf.Ren := ⟨fun | 206 => 73 | n => n, fun | 9 => 9 | 4 => 4 | 3 => 3 | n => n, fun | n => n⟩
theorem Tryz.lays206 : Go.Proofs.Lays.n206 Tryz.prog Tryz.lays206_ren := {
  mixed := by kernel_rfl
  f206 := Tryz.func73.trans (congrArg some (by kernel_rfl))
  t3 := Tryz.underlying3
  a3 := Tryz.isAgg3
  z3 := Tryz.sizeOf3
  v3 := Tryz.zeroValue3
  t4 := Tryz.underlying4
  a4 := Tryz.isAgg4
  z4 := Tryz.sizeOf4
  v4 := Tryz.zeroValue4
  t9 := Tryz.underlying9
  a9 := Tryz.isAgg9
  z9 := Tryz.sizeOf9
  v9 := Tryz.zeroValue9 }
open Go.RowKit Go.Lib in
/-- internal/stringslite.HasPrefix (what strings.HasPrefix calls). (LAID: no walk: one application.) -/
theorem Tryz.stringslite_HasPrefix (s p : ByteArray) (w : World) :
    Calls Tryz.prog 73 #[.string s, .string p] w fun e w' => e = .returned (.bool (Lib.hasPrefix s.data.toList p.data.toList)) ∧ w' = w := Any.stringslite_HasPrefix Tryz.lays206 s p w
def Tryz.lays99_ren : Go.Shelf.Ren := ⟨fun | 99 => 38 | 206 => 73 | n => n, fun | 9 => 9 | 4 => 4 | 3 => 3 | n => n, fun | n => n⟩
theorem Tryz.lays99 : Go.Proofs.Lays.n99 Tryz.prog Tryz.lays99_ren := {
  mixed := by kernel_rfl
  f99 := Tryz.func38.trans (congrArg some (by kernel_rfl))
  f206 := Tryz.func73.trans (congrArg some (by kernel_rfl))
  t3 := Tryz.underlying3
  a3 := Tryz.isAgg3
  z3 := Tryz.sizeOf3
  v3 := Tryz.zeroValue3
  t4 := Tryz.underlying4
  a4 := Tryz.isAgg4
  z4 := Tryz.sizeOf4
  v4 := Tryz.zeroValue4
  t9 := Tryz.underlying9
  a9 := Tryz.isAgg9
  z9 := Tryz.sizeOf9
  v9 := Tryz.zeroValue9 }
open Go.RowKit Go.Lib in
/-- strings.HasPrefix: "HasPrefix reports whether the string s begins with prefix.": IT RETURNS 'Lib.hasPrefix s prefix'; the world is as it was. (LAID: no walk: one application.) -/
theorem Tryz.strings_HasPrefix (s p : ByteArray) (w : World) :
    Calls Tryz.prog 38 #[.string s, .string p] w fun e w' => e = .returned (.bool (Lib.hasPrefix s.data.toList p.data.toList)) ∧ w' = w := Any.strings_HasPrefix Tryz.lays99 s p w
def Tryz.lays152_ren : Go.Shelf.Ren := ⟨fun | 152 => 154 | 137 => 155 | 119 => 156 | 224 => 157 | 225 => 158 | 217 => 159 | 266 => 160 | n => n, fun | 9 => 9 | 21 => 21 | 3 => 3 | 4 => 4 | 5 => 5 | 0 => 0 | 46 => 102 | n => n, fun | n => n⟩
theorem Tryz.lays152 : Go.Proofs.Lays.n152 Tryz.prog Tryz.lays152_ren := {
  mixed := by kernel_rfl
  f119 := Tryz.func156.trans (congrArg some (by kernel_rfl))
  f137 := Tryz.func155.trans (congrArg some (by kernel_rfl))
  f152 := Tryz.func154.trans (congrArg some (by kernel_rfl))
  f217 := Tryz.func159.trans (congrArg some (by kernel_rfl))
  f224 := Tryz.func157.trans (congrArg some (by kernel_rfl))
  f225 := Tryz.func158.trans (congrArg some (by kernel_rfl))
  f266 := Tryz.func160.trans (congrArg some (by kernel_rfl))
  t0 := Tryz.underlying0
  a0 := Tryz.isAgg0
  z0 := Tryz.sizeOf0
  v0 := Tryz.zeroValue0
  t3 := Tryz.underlying3
  a3 := Tryz.isAgg3
  z3 := Tryz.sizeOf3
  v3 := Tryz.zeroValue3
  t4 := Tryz.underlying4
  a4 := Tryz.isAgg4
  z4 := Tryz.sizeOf4
  v4 := Tryz.zeroValue4
  t5 := Tryz.underlying5
  a5 := Tryz.isAgg5
  z5 := Tryz.sizeOf5
  v5 := Tryz.zeroValue5
  t9 := Tryz.underlying9
  a9 := Tryz.isAgg9
  z9 := Tryz.sizeOf9
  v9 := Tryz.zeroValue9
  t21 := Tryz.underlying21
  a21 := Tryz.isAgg21
  z21 := Tryz.sizeOf21
  v21 := Tryz.zeroValue21
  t46 := Tryz.underlying102
  a46 := Tryz.isAgg102
  z46 := Tryz.sizeOf102
  v46 := Tryz.zeroValue102 }
open Go.RowKit Go.Lib in
theorem Tryz.strings_IndexRune_ascii (s : ByteArray) (r : Int) (w : World) (h0 : 0 ≤ r) (h1 : r < 128) :
    Calls Tryz.prog 154 #[.string s, .int .i32 r] w fun e w' => e = .returned (.int .i64 (Lib.indexByte s.data.toList r.toNat.toUInt8)) ∧ w' = w := Any.strings_IndexRune_ascii Tryz.lays152 s r w h0 h1
def Tryz.lays151_ren : Go.Shelf.Ren := ⟨fun | 151 => 151 | 152 => 154 | 137 => 155 | 119 => 156 | 224 => 157 | 225 => 158 | 217 => 159 | 266 => 160 | n => n, fun | 9 => 9 | 21 => 21 | 4 => 4 | 3 => 3 | 5 => 5 | 0 => 0 | 46 => 102 | n => n, fun | n => n⟩
theorem Tryz.lays151 : Go.Proofs.Lays.n151 Tryz.prog Tryz.lays151_ren := {
  mixed := by kernel_rfl
  f119 := Tryz.func156.trans (congrArg some (by kernel_rfl))
  f137 := Tryz.func155.trans (congrArg some (by kernel_rfl))
  f151 := Tryz.func151.trans (congrArg some (by kernel_rfl))
  f152 := Tryz.func154.trans (congrArg some (by kernel_rfl))
  f217 := Tryz.func159.trans (congrArg some (by kernel_rfl))
  f224 := Tryz.func157.trans (congrArg some (by kernel_rfl))
  f225 := Tryz.func158.trans (congrArg some (by kernel_rfl))
  f266 := Tryz.func160.trans (congrArg some (by kernel_rfl))
  t0 := Tryz.underlying0
  a0 := Tryz.isAgg0
  z0 := Tryz.sizeOf0
  v0 := Tryz.zeroValue0
  t3 := Tryz.underlying3
  a3 := Tryz.isAgg3
  z3 := Tryz.sizeOf3
  v3 := Tryz.zeroValue3
  t4 := Tryz.underlying4
  a4 := Tryz.isAgg4
  z4 := Tryz.sizeOf4
  v4 := Tryz.zeroValue4
  t5 := Tryz.underlying5
  a5 := Tryz.isAgg5
  z5 := Tryz.sizeOf5
  v5 := Tryz.zeroValue5
  t9 := Tryz.underlying9
  a9 := Tryz.isAgg9
  z9 := Tryz.sizeOf9
  v9 := Tryz.zeroValue9
  t21 := Tryz.underlying21
  a21 := Tryz.isAgg21
  z21 := Tryz.sizeOf21
  v21 := Tryz.zeroValue21
  t46 := Tryz.underlying102
  a46 := Tryz.isAgg102
  z46 := Tryz.sizeOf102
  v46 := Tryz.zeroValue102 }
open Go.RowKit Go.Lib in
theorem Tryz.strings_ContainsRune_ascii (s : ByteArray) (r : Int) (w : World) (h0 : 0 ≤ r) (h1 : r < 128) :
    Calls Tryz.prog 151 #[.string s, .int .i32 r] w fun e w' => e = .returned (.bool (decide (0 ≤ Lib.indexByte s.data.toList r.toNat.toUInt8))) ∧ w' = w := Any.strings_ContainsRune_ascii Tryz.lays151 s r w h0 h1
def Tryz.lays227_ren : Go.Shelf.Ren := ⟨fun | 227 => 144 | n => n, fun | 9 => 9 | 116 => 218 | 4 => 4 | 0 => 0 | 3 => 3 | 5 => 5 | n => n, fun | n => n⟩
theorem Tryz.lays227 : Go.Proofs.Lays.n227 Tryz.prog Tryz.lays227_ren := {
  mixed := by kernel_rfl
  f227 := Tryz.func144.trans (congrArg some (by kernel_rfl))
  t0 := Tryz.underlying0
  a0 := Tryz.isAgg0
  z0 := Tryz.sizeOf0
  v0 := Tryz.zeroValue0
  t3 := Tryz.underlying3
  a3 := Tryz.isAgg3
  z3 := Tryz.sizeOf3
  v3 := Tryz.zeroValue3
  t4 := Tryz.underlying4
  a4 := Tryz.isAgg4
  z4 := Tryz.sizeOf4
  v4 := Tryz.zeroValue4
  t5 := Tryz.underlying5
  a5 := Tryz.isAgg5
  z5 := Tryz.sizeOf5
  v5 := Tryz.zeroValue5
  t9 := Tryz.underlying9
  a9 := Tryz.isAgg9
  z9 := Tryz.sizeOf9
  v9 := Tryz.zeroValue9
  t116 := Tryz.underlying218
  a116 := Tryz.isAgg218
  z116 := Tryz.sizeOf218 }
open Go.RowKit Go.Lib in
theorem Tryz.strings_makeASCIISet (hv116 : ∀ w, (zeroValue 218).run Tryz.prog w = .ok (.agg (Array.replicate 256 (.bool false))) w) (chars : ByteArray) (w : World) (hs : chars.size < 4294967281) (hascii : ∀ (j : Nat) b, chars.data.toList[j]? = some b → b.toNat < 128) :
    Calls Tryz.prog 144 #[.string chars] w fun e w' => e = .returned (.tuple #[.agg (Lib.setCells chars.data.toList), .bool true]) ∧ w' = w.alloc (.cells (Lib.setCells chars.data.toList) 218) := Any.strings_makeASCIISet Tryz.lays227 hv116 (by kernel_rfl) chars w hs hascii
def Tryz.lays228_ren : Go.Shelf.Ren := ⟨fun | 228 => 149 | n => n, fun | 124 => 222 | 5 => 5 | 4 => 4 | 0 => 0 | 116 => 218 | n => n, fun | n => n⟩
theorem Tryz.lays228 : Go.Proofs.Lays.n228 Tryz.prog Tryz.lays228_ren := {
  mixed := by kernel_rfl
  f228 := Tryz.func149.trans (congrArg some (by kernel_rfl))
  t0 := Tryz.underlying0
  a0 := Tryz.isAgg0
  z0 := Tryz.sizeOf0
  v0 := Tryz.zeroValue0
  t4 := Tryz.underlying4
  a4 := Tryz.isAgg4
  z4 := Tryz.sizeOf4
  v4 := Tryz.zeroValue4
  t5 := Tryz.underlying5
  a5 := Tryz.isAgg5
  z5 := Tryz.sizeOf5
  v5 := Tryz.zeroValue5
  t116 := Tryz.underlying218
  a116 := Tryz.isAgg218
  z116 := Tryz.sizeOf218
  t124 := Tryz.underlying222
  a124 := Tryz.isAgg222
  z124 := Tryz.sizeOf222
  v124 := Tryz.zeroValue222 }
open Go.RowKit Go.Lib in
/-- '(as *asciiSet) contains(c)': 'as[c]': the set lies at block b, whole. (LAID: no walk: one application.) -/
theorem Tryz.asciiSet_contains (b : Nat) (x : UInt8) (v : Bool) (w : World) (hc : w.cell? ⟨b, x.toNat, none⟩ = some (.bool v)) :
    Calls Tryz.prog 149 #[.pointer (some ⟨b, 0, none⟩), .int .u8 x.toNat] w fun e w' => e = .returned (.bool v) ∧ w' = w := Any.asciiSet_contains Tryz.lays228 b x v w hc
def Tryz.lays264_ren : Go.Shelf.Ren := ⟨fun | 264 => 72 | n => n, fun | 53 => 32 | 46 => 102 | n => n, fun | n => n⟩
theorem Tryz.lays264 : Go.Proofs.Lays.n264 Tryz.prog Tryz.lays264_ren := {
  mixed := by kernel_rfl
  f264 := Tryz.func72.trans (congrArg some (by kernel_rfl))
  t46 := Tryz.underlying102
  a46 := Tryz.isAgg102
  z46 := Tryz.sizeOf102
  v46 := Tryz.zeroValue102
  t53 := Tryz.underlying32
  a53 := Tryz.isAgg32
  z53 := Tryz.sizeOf32
  v53 := Tryz.zeroValue32 }
open Go.RowKit Go.Lib in
theorem Tryz.bits_Mul64 (x y : Nat) (hx : x < 18446744073709551616) (hy : y < 18446744073709551616) (w : World) :
    Calls Tryz.prog 72 #[.int .u64 x, .int .u64 y] w fun e w' => e = .returned (.tuple #[.int .u64 ((x * y / 18446744073709551616 : Nat) : Int), .int .u64 ((x * y % 18446744073709551616 : Nat) : Int)]) ∧ w' = w := Any.bits_Mul64 Tryz.lays264 x y hx hy w
def Tryz.lays212_ren : Go.Shelf.Ren := ⟨fun | 212 => 37 | 263 => 71 | 264 => 72 | n => n, fun | 46 => 102 | 51 => 33 | 146 => 141 | 53 => 32 | 148 => 143 | n => n, fun | n => n⟩
theorem Tryz.lays212 : Go.Proofs.Lays.n212 Tryz.prog Tryz.lays212_ren := {
  mixed := by kernel_rfl
  f212 := Tryz.func37.trans (congrArg some (by kernel_rfl))
  f263 := Tryz.func71.trans (congrArg some (by kernel_rfl))
  f264 := Tryz.func72.trans (congrArg some (by kernel_rfl))
  t46 := Tryz.underlying102
  a46 := Tryz.isAgg102
  z46 := Tryz.sizeOf102
  v46 := Tryz.zeroValue102
  t51 := Tryz.underlying33
  a51 := Tryz.isAgg33
  z51 := Tryz.sizeOf33
  v51 := Tryz.zeroValue33
  t53 := Tryz.underlying32
  a53 := Tryz.isAgg32
  z53 := Tryz.sizeOf32
  v53 := Tryz.zeroValue32
  t146 := Tryz.underlying141
  a146 := Tryz.isAgg141
  z146 := Tryz.sizeOf141
  v146 := Tryz.zeroValue141
  t148 := Tryz.underlying143
  a148 := Tryz.isAgg143
  z148 := Tryz.sizeOf143
  v148 := Tryz.zeroValue143 }
open Go.RowKit Go.Lib in
/-- math/bits.Mul: "Mul returns the full-width product of x and y": on a machine of 64 bits: Mul64's. (LAID: no walk: one application.) -/
theorem Tryz.bits_Mul (x y : Nat) (hx : x < 18446744073709551616) (hy : y < 18446744073709551616) (w : World) :
    Calls Tryz.prog 37 #[.int .u64 x, .int .u64 y] w fun e w' => e = .returned (.tuple #[.int .u64 ((x * y / 18446744073709551616 : Nat) : Int), .int .u64 ((x * y % 18446744073709551616 : Nat) : Int)]) ∧ w' = w := Any.bits_Mul Tryz.lays212 x y hx hy w
def Tryz.lays105_ren : Go.Shelf.Ren := ⟨fun | 105 => 13 | 212 => 37 | 99 => 38 | 165 => 39 | 166 => 40 | 170 => 41 | 169 => 42 | 263 => 71 | 264 => 72 | 206 => 73 | 240 => 74 | 241 => 75 | 276 => 96 | 277 => 97 | n => n, fun | 9 => 9 | 3 => 3 | 4 => 4 | 20 => 20 | 0 => 0 | 46 => 102 | 109 => 103 | 5 => 5 | 72 => 109 | 76 => 112 | 51 => 33 | 146 => 141 | 53 => 32 | 148 => 143 | 70 => 106 | 37 => 107 | 75 => 111 | 127 => 145 | 164 => 165 | 80 => 114 | n => n, fun | n => n⟩
theorem Tryz.lays105 : Go.Proofs.Lays.n105 Tryz.prog Tryz.lays105_ren := {
  mixed := by kernel_rfl
  f99 := Tryz.func38.trans (congrArg some (by kernel_rfl))
  f105 := Tryz.func13.trans (congrArg some (by kernel_rfl))
  f165 := Tryz.func39.trans (congrArg some (by kernel_rfl))
  f166 := Tryz.func40.trans (congrArg some (by kernel_rfl))
  f169 := Tryz.func42.trans (congrArg some (by kernel_rfl))
  f170 := Tryz.func41.trans (congrArg some (by kernel_rfl))
  f206 := Tryz.func73.trans (congrArg some (by kernel_rfl))
  f212 := Tryz.func37.trans (congrArg some (by kernel_rfl))
  f240 := Tryz.func74.trans (congrArg some (by kernel_rfl))
  f241 := Tryz.func75.trans (congrArg some (by kernel_rfl))
  f263 := Tryz.func71.trans (congrArg some (by kernel_rfl))
  f264 := Tryz.func72.trans (congrArg some (by kernel_rfl))
  f276 := Tryz.func96.trans (congrArg some (by kernel_rfl))
  f277 := Tryz.func97.trans (congrArg some (by kernel_rfl))
  t0 := Tryz.underlying0
  a0 := Tryz.isAgg0
  z0 := Tryz.sizeOf0
  v0 := Tryz.zeroValue0
  t3 := Tryz.underlying3
  a3 := Tryz.isAgg3
  z3 := Tryz.sizeOf3
  v3 := Tryz.zeroValue3
  t4 := Tryz.underlying4
  a4 := Tryz.isAgg4
  z4 := Tryz.sizeOf4
  v4 := Tryz.zeroValue4
  t5 := Tryz.underlying5
  a5 := Tryz.isAgg5
  z5 := Tryz.sizeOf5
  v5 := Tryz.zeroValue5
  t9 := Tryz.underlying9
  a9 := Tryz.isAgg9
  z9 := Tryz.sizeOf9
  v9 := Tryz.zeroValue9
  t20 := Tryz.underlying20
  a20 := Tryz.isAgg20
  z20 := Tryz.sizeOf20
  v20 := Tryz.zeroValue20
  t37 := Tryz.underlying107
  a37 := Tryz.isAgg107
  z37 := Tryz.sizeOf107
  v37 := Tryz.zeroValue107
  t46 := Tryz.underlying102
  a46 := Tryz.isAgg102
  z46 := Tryz.sizeOf102
  v46 := Tryz.zeroValue102
  t51 := Tryz.underlying33
  a51 := Tryz.isAgg33
  z51 := Tryz.sizeOf33
  v51 := Tryz.zeroValue33
  t53 := Tryz.underlying32
  a53 := Tryz.isAgg32
  z53 := Tryz.sizeOf32
  v53 := Tryz.zeroValue32
  t70 := Tryz.underlying106
  a70 := Tryz.isAgg106
  z70 := Tryz.sizeOf106
  v70 := Tryz.zeroValue106
  t72 := Tryz.underlying109
  a72 := Tryz.isAgg109
  z72 := Tryz.sizeOf109
  v72 := Tryz.zeroValue109
  t75 := Tryz.underlying111
  a75 := Tryz.isAgg111
  z75 := Tryz.sizeOf111
  v75 := Tryz.zeroValue111
  t76 := Tryz.underlying112
  a76 := Tryz.isAgg112
  z76 := Tryz.sizeOf112
  v76 := Tryz.zeroValue112
  t109 := Tryz.underlying103
  a109 := Tryz.isAgg103
  z109 := Tryz.sizeOf103
  v109 := Tryz.zeroValue103
  t127 := Tryz.underlying145
  a127 := Tryz.isAgg145
  z127 := Tryz.sizeOf145
  v127 := Tryz.zeroValue145
  t146 := Tryz.underlying141
  a146 := Tryz.isAgg141
  z146 := Tryz.sizeOf141
  v146 := Tryz.zeroValue141
  t148 := Tryz.underlying143
  a148 := Tryz.isAgg143
  z148 := Tryz.sizeOf143
  v148 := Tryz.zeroValue143
  t164 := Tryz.underlying165
  a164 := Tryz.isAgg165
  z164 := Tryz.sizeOf165
  v164 := Tryz.zeroValue165 }
theorem Tryz.Builder_Extra_105 : Builder.Extra Tryz.prog Tryz.lays105_ren := {
  sizeBuilder := by kernel_rfl
  liesBuilder := by kernel_rfl
  t5 := Tryz.underlying5
  a5 := Tryz.isAgg5
  z5 := Tryz.sizeOf5
  v5 := Tryz.zeroValue5
  infoByte := by kernel_rfl
  cellsByte := by kernel_rfl
  sizeByte := by kernel_rfl
  neB5 := by decide }
open Go.RowKit Go.Lib in
/-- THE MAIN CASE: at least two copies of a string that is not empty. (LAID: no walk: one application.) -/
theorem Tryz.strings_Repeat_main (s : ByteArray) (c : Nat) (w : World) (hc2 : 2 ≤ c) (hc : c ≤ 9223372036854775807) (hlen : s.size * c ≤ 140737488355328) (h0 : 0 < s.size) :
    Calls Tryz.prog 13 #[.string s, .int .i64 c] w fun e w' => e = .returned (.string ⟨(Lib.repeatL s.data.toList c).toArray⟩) ∧ Below w.heap.size w w' := Any.strings_Repeat_main Tryz.lays105 Tryz.Builder_Extra_105 s c w hc2 hc hlen h0
open Go.RowKit Go.Lib in
theorem Tryz.strings_Repeat_zero (s : ByteArray) (w : World) :
    Calls Tryz.prog 13 #[.string s, .int .i64 0] w fun e w' => e = .returned (.string ⟨#[]⟩) ∧ w' = w := Any.strings_Repeat_zero Tryz.lays105 s w
open Go.RowKit Go.Lib in
theorem Tryz.strings_Repeat_one (s : ByteArray) (w : World) :
    Calls Tryz.prog 13 #[.string s, .int .i64 1] w fun e w' => e = .returned (.string s) ∧ w' = w := Any.strings_Repeat_one Tryz.lays105 s w
open Go.RowKit Go.Lib in
/-- Copies of the empty string. (LAID: no walk: one application.) -/
theorem Tryz.strings_Repeat_empty (s : ByteArray) (c : Nat) (w : World) (hc2 : 2 ≤ c) (hc : c ≤ 9223372036854775807) (h0 : s.size = 0) :
    Calls Tryz.prog 13 #[.string s, .int .i64 c] w fun e w' => e = .returned (.string ⟨#[]⟩) ∧ w' = w := Any.strings_Repeat_empty Tryz.lays105 s c w hc2 hc h0
open Go.RowKit Go.Lib in
/-- count < 0: "It panics if count is negative". (LAID: no walk: one application.) -/
theorem Tryz.strings_Repeat_negative (s : ByteArray) (c : Int) (w : World) (hc : c < 0) :
    Calls Tryz.prog 13 #[.string s, .int .i64 c] w fun e w' => e = .panicked [{ v := repeatPanic Tryz.lays105_ren "strings: negative Repeat count", recovered := false }] ∧ w' = w := Any.strings_Repeat_negative Tryz.lays105 s c w hc
open Go.RowKit Go.Lib in
/-- len(s) * count is no int: ".. or if the result of (len(s) * count) overflows". (LAID: no walk: one application.) -/
theorem Tryz.strings_Repeat_overflow (s : ByteArray) (c : Nat) (w : World) (hc : c ≤ 9223372036854775807) (hs : s.size ≤ 9223372036854775807) (hbig : 9223372036854775807 < s.size * c) :
    Calls Tryz.prog 13 #[.string s, .int .i64 c] w fun e w' => e = .panicked [{ v := repeatPanic Tryz.lays105_ren "strings: Repeat output length overflow", recovered := false }] ∧ w' = w := Any.strings_Repeat_overflow Tryz.lays105 s c w hc hs hbig
open Go.RowKit Go.Lib in
/-- **strings.Repeat: count ≥ 0, the result within one allocation: count copies of s.** (LAID: no walk: one application.) -/
theorem Tryz.strings_Repeat (s : ByteArray) (c : Nat) (w : World) (hc : c ≤ 9223372036854775807) (hlen : s.size * c ≤ 140737488355328) :
    Calls Tryz.prog 13 #[.string s, .int .i64 c] w fun e w' => e = .returned (.string ⟨(Lib.repeatL s.data.toList c).toArray⟩) ∧ Below w.heap.size w w' := Any.strings_Repeat Tryz.lays105 Tryz.Builder_Extra_105 s c w hc hlen
def Tryz.lays260_ren : Go.Shelf.Ren := ⟨fun | 260 => 153 | n => n, fun | 9 => 9 | 21 => 21 | 3 => 3 | 4 => 4 | 5 => 5 | 119 => 235 | 0 => 0 | 46 => 102 | 139 => 238 | 138 => 237 | n => n, fun | 3 => 1 | 4 => 2 | n => n⟩
theorem Tryz.lays260 : Go.Proofs.Lays.n260 Tryz.prog Tryz.lays260_ren := {
  mixed := by kernel_rfl
  f260 := Tryz.func153.trans (congrArg some (by kernel_rfl))
  t0 := Tryz.underlying0
  a0 := Tryz.isAgg0
  z0 := Tryz.sizeOf0
  v0 := Tryz.zeroValue0
  t3 := Tryz.underlying3
  a3 := Tryz.isAgg3
  z3 := Tryz.sizeOf3
  v3 := Tryz.zeroValue3
  t4 := Tryz.underlying4
  a4 := Tryz.isAgg4
  z4 := Tryz.sizeOf4
  v4 := Tryz.zeroValue4
  t5 := Tryz.underlying5
  a5 := Tryz.isAgg5
  z5 := Tryz.sizeOf5
  v5 := Tryz.zeroValue5
  t9 := Tryz.underlying9
  a9 := Tryz.isAgg9
  z9 := Tryz.sizeOf9
  v9 := Tryz.zeroValue9
  t21 := Tryz.underlying21
  a21 := Tryz.isAgg21
  z21 := Tryz.sizeOf21
  v21 := Tryz.zeroValue21
  t46 := Tryz.underlying102
  a46 := Tryz.isAgg102
  z46 := Tryz.sizeOf102
  v46 := Tryz.zeroValue102
  t119 := Tryz.underlying235
  a119 := Tryz.isAgg235
  z119 := Tryz.sizeOf235
  t138 := Tryz.underlying237
  a138 := Tryz.isAgg237
  z138 := Tryz.sizeOf237
  v138 := Tryz.zeroValue237
  t139 := Tryz.underlying238
  a139 := Tryz.isAgg238
  z139 := Tryz.sizeOf238
  v139 := Tryz.zeroValue238
  g3 := by kernel_rfl
  g4 := by kernel_rfl }
open Go.RowKit Go.Lib in
theorem Tryz.utf8_decodeRuneInStringSlow (s : ByteArray) (w : World) (hT : Lib.Utf8Tabs 1 2 w) :
    Calls Tryz.prog 153 #[.string s] w fun e w' => e = .returned (.tuple #[.int .i32 (Lib.decodeGo s).1, .int .i64 (Lib.decodeGo s).2]) ∧ Below w.heap.size w w' := Any.utf8_decodeRuneInStringSlow Tryz.lays260 s w hT
def Tryz.laysNm237_ren : Go.Shelf.Ren := ⟨fun | 37 => 83 | n => n, fun | 3 => 3 | 4 => 4 | n => n, fun | n => n⟩
theorem Tryz.laysNm237 : Go.Proofs.Lays2.n37 Tryz.prog Tryz.laysNm237_ren := {
  mixed := by kernel_rfl
  f37 := Tryz.func83.trans (congrArg some (by kernel_rfl))
  t3 := Tryz.underlying3
  a3 := Tryz.isAgg3
  z3 := Tryz.sizeOf3
  v3 := Tryz.zeroValue3
  t4 := Tryz.underlying4
  a4 := Tryz.isAgg4
  z4 := Tryz.sizeOf4
  v4 := Tryz.zeroValue4 }
open Go.RowKit Go.Lib in
/-- cmp.isNaN[int]: 'x != x': false. (LAID: no walk: one application.) -/
theorem Tryz.cmp_isNaN_int2 (x : Int) (w : World) :
    Calls Tryz.prog 83 #[.int .i64 x] w fun e w' => e = .returned (.bool false) ∧ w' = w := Any.cmp_isNaN_int2 Tryz.laysNm237 x w
end Go.Proofs

/- Contracts of layer 1 (lend): measure, Size, fits, appendNumber. -/
namespace Go.Proofs.YtgoampbebjfenaaGreatDoor.Lend
open Go.RowKit Go.Proofs.YtgoampbebjfenaaGreatDoor
set_option linter.unusedVariables false


theorem row_len {kd : IntKind} {w : World} {ao : Option Addr} {len : Nat} {xs : List Int} (h : Row kd w ao len xs) : xs.length = len := h.len_eq
theorem ret_meas {a b : Int} {c d : Bool} (h : a = b) (h' : c = d) : Ending.returned (.tuple #[.int .i64 a, .bool c]) = .returned (.tuple #[.int .i64 b, .bool d]) := by rw [h, h']

set_option maxHeartbeats 400000 in
theorem measure_any (ao : Option Addr) (len cap : Nat) (ws : List Int) (w : World) (hr : Row .i64 w ao len ws) (hl : len ≤ 1000000) :
    Calls Tryz.prog 111 #[.slice ao len cap] w fun e w' => e = .returned (.tuple #[.int .i64 (measN ws), .bool (okW ws)]) ∧ w = w' := by
  obtain ⟨hlen, hat⟩ := hr
  have HL := Lib.hid hlen
  clear hlen
  have HAT := Lib.hid hat
  clear hat
  go_enter Tryz.func111, Tryz.ntmps111
  go_wp2
  go_loop [4, 9] (fun t i => ∃ k : Nat, k ≤ len ∧ i = .int .i64 k ∧ t = .int .i64 (sumW (ws.take k)) ∧ okW (ws.take k) = true) (fun _ i => len - (intOf i).toNat)
  case atStart => exact ⟨0, Nat.zero_le _, rfl, rfl, rfl⟩
  case round =>
    obtain ⟨k, hk, rfl, rfl, hok⟩ := hrel
    have hbd := sumW_bd _ hok
    have hlk : (ws.take k).length ≤ k := List.length_take_le _ _
    have HOK := Lib.hid hok
    clear hok
    by_cases hlt : k < len
    · obtain ⟨b, off, rfl, hc⟩ := HAT.out (by omega)
      have hck := hc k hlt
      clear hc
      obtain ⟨x, hx⟩ : ∃ x, x = ws.getD k 0 := ⟨_, rfl⟩
      rw [← hx] at hck
      have HX := Lib.hid hx
      clear hx
      by_cases h1 : 1 ≤ x
      · by_cases h8 : x ≤ 8
        · go_wp2
          go_round
          case rel =>
            have e := take_snoc' ws k (by have := HL.out; omega)
            rw [← HX.out] at e
            exact ⟨k + 1, by omega, by go_num, by rw [e, sumW_snoc], by rw [e, okW_snoc, HOK.out]; simp; omega⟩
          case measure => simp [intOf]; omega
        · have hno := okW_getD (ws := ws) (k := k) (by have := HL.out; omega) (by rw [← HX.out]; omega)
          have HN := Lib.hid hno
          clear hno
          go_wp2
          go_ret2
          exact ⟨ret_meas (measN_no HN.out).symm HN.out.symm, rfl⟩
      · have hno := okW_getD (ws := ws) (k := k) (by have := HL.out; omega) (by rw [← HX.out]; omega)
        have HN := Lib.hid hno
        clear hno
        go_wp2
        go_ret2
        exact ⟨ret_meas (measN_no HN.out).symm HN.out.symm, rfl⟩
    · have e : ws.take k = ws := List.take_of_length_le (by have := HL.out; omega)
      have HE := Lib.hid e
      clear e
      go_wp2
      go_ret2
      have hw : okW ws = true := by have := HOK.out; rwa [HE.out] at this
      exact ⟨ret_meas (by rw [HE.out, measN_yes hw]) hw.symm, rfl⟩
theorem ret_bool {a b : Bool} (h : a = b) : Ending.returned (.bool a) = .returned (.bool b) := by rw [h]
theorem fits_any (n : Int) (x : Int) (w : World) (h0 : 0 ≤ n) (_h1 : n < 18446744073709551616) (hx1 : 1 ≤ x) (hx8 : x ≤ 8) :
    Calls Tryz.prog 112 #[.int .u64 n, .int .i64 x] w fun e w' => e = .returned (.bool (fitsB n x)) ∧ w = w' := by
  go_enter Tryz.func112, Tryz.ntmps112
  go_wp2
  go_ret
  exact ⟨ret_bool (fitsB_walk n x h0), rfl⟩

theorem info_u8 : (Tryz.prog.info? 5).map (fun i => (i.zero, i.size, i.bytes)) = some (some (.int .u8 0), 1, 1) := by kernel_rfl

set_option maxHeartbeats 400000 in
theorem appendNumber_any (B : Nat) (v : Value) (m : Nat) (xs : List Value) (n : Int) (x : Int) (w : World) (hown : w.ownsRow B 5 1 v m xs) (hB : B ≤ w.heap.size) (hm : m ≤ 1000000)
    (h0 : 0 ≤ n) (h1 : n < 18446744073709551616) (hx1 : 1 ≤ x) (hx8 : x ≤ 8) :
    Calls Tryz.prog 113 #[v, .int .u64 n, .int .i64 x] w fun e w' => ∃ v', e = .returned v' ∧ w'.ownsRow B 5 1 v' (m + x.toNat) (xs ++ byteVals n x.toNat) ∧ Below B w w' := by
  obtain ⟨i0, hi, hz0, hz1, hz2⟩ := info_parts info_u8
  obtain ⟨kx, rfl⟩ := Int.eq_ofNat_of_zero_le (show 0 ≤ x by omega)
  go_enter Tryz.func113, Tryz.ntmps113
  go_wp2
  go_loopw [0, 9] (fun s i wr => ∃ k : Nat, k ≤ kx ∧ i = .int .i64 k ∧ wr.ownsRow B 5 1 s (m + k) (xs ++ byteVals n k) ∧ Below B w wr) (fun _ i _ => kx - (intOf i).toNat)
  case atStart => exact ⟨0, Nat.zero_le _, rfl, by simpa [byteVals] using hown, Below.refl _ _⟩
  case round =>
    obtain ⟨k, hk, rfl, hownr, hbel⟩ := hrel
    have hsz := hbel.size
    by_cases hlt : k < kx
    · go_wp2_with (at_builtin; refine wpList_append_own _ rfl _ _ 107 rfl B 5 i0 (.int .u8 0) 1 1 Tryz.underlying107 hi hz0 hz1 hz2 rfl (by decide) _ _ _ rfl (hownr.alloc _) ⟨wr.heap.size, 0, none⟩ 1 1 [.int .u8 (byteAt n k)] rfl rfl ?c1 ?c2 ?c3 ?c4 ?c5 ?_)
      case c1 =>
        intro j u hj
        match j, hj with
        | 0, hj => simp at hj; subst hj; simp [Addr.add, byteAt]
      case c2 => intro u hu; simp at hu; subst hu; rfl
      case c3 => unfold maxLen; omega
      case c4 => omega
      case c5 => simp; omega
      intro v' w1 hown' hgrow _
      have hbel' : Below B w w1 := (hbel.alloc (by omega) _).grown hgrow (by simp; omega) (fun q hq => (hownr.lt q hq).1)
      clear hownr hgrow hown
      go_wp2
      go_roundw
      case rel => exact ⟨k + 1, by omega, by go_num, by rw [byteVals_succ, ← Nat.add_assoc]; exact hown', hbel'⟩
      case measure => simp [intOf]; omega
    · obtain rfl : k = kx := by omega
      go_wp2
      go_ret
      exact ⟨_, rfl, hownr, hbel⟩
end Go.Proofs.YtgoampbebjfenaaGreatDoor.Lend

