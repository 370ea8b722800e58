/- Plain facts on tight widths and on reading again what was written, for the statement LendBack. -/
import Derived.Test.YtfclecbhfamomaaLendMath
namespace Go.Proofs.Ytfclecbhfamomaa.Lend
open Go.RowKit

theorem byteAt_nat (N i : Nat) : byteAt (N : Int) i = ((N / 2 ^ (8 * i) % 256 : Nat) : Int) := by
  unfold byteAt
  simp
theorem getL_encN_mod (N : Nat) : ∀ k, getL (encN (N : Int) k) = N % 2 ^ (8 * k)
  | 0 => by simp [encN, getL, Nat.mod_one]
  | k + 1 => by
    have e : encN (N : Int) (k + 1) = encN (N : Int) k ++ [UInt8.ofNat (byteAt (N : Int) k).toNat] := by simp [encN, List.range_succ]
    rw [e, getL_snoc, getL_encN_mod N k, encN_length, byteAt_nat, Int.toNat_natCast, UInt8.toNat_ofNat']
    rw [show 8 * (k + 1) = 8 * k + 8 from rfl, Nat.pow_add, Nat.mod_mul, Nat.mod_eq_of_lt (show N / 2 ^ (8 * k) % 256 < 2 ^ 8 by omega), Nat.mul_comm (2 ^ (8 * k))]
theorem getL_encN (n : Int) (k : Nat) (h0 : 0 ≤ n) (h : n < 2 ^ (8 * k)) : (getL (encN n k) : Int) = n := by
  obtain ⟨N, rfl⟩ := Int.eq_ofNat_of_zero_le h0
  have h' : N < 2 ^ (8 * k) := by
    have : ((N : Nat) : Int) < ((2 ^ (8 * k) : Nat) : Int) := by simpa using h
    omega
  rw [getL_encN_mod, Nat.mod_eq_of_lt h']
theorem rd_enc (m : List UInt8) : ∀ (ws ns : List Int), ws.length = ns.length → okW ws = true → fitsL ws ns = true → (∀ n ∈ ns, 0 ≤ n) → rdL ws (encL ws ns ++ m) = ns
  | [], [], _, _, _, _ => rfl
  | x :: ws, n :: ns, hl, hok, hf, hn => by
    have hok' : okW ws = true := by simp [okW] at hok ⊢; exact hok.2
    have hx : 1 ≤ x := by simp [okW] at hok; exact hok.1.1
    simp only [fitsL, Bool.and_eq_true] at hf
    have h1 : n < 2 ^ (8 * x.toNat) := by
      have := hf.1
      unfold fitsB at this
      rw [decide_eq_true_eq, show (8 * x).toNat = 8 * x.toNat by omega] at this
      exact this
    have e1 : (encN n x.toNat ++ encL ws ns ++ m).take x.toNat = encN n x.toNat := by
      rw [List.append_assoc, List.take_left' (encN_length _ _)]
    have e2 : (encN n x.toNat ++ encL ws ns ++ m).drop x.toNat = encL ws ns ++ m := by
      rw [List.append_assoc, List.drop_left' (encN_length _ _)]
    simp only [encL, rdL, e1, e2, getL_encN n x.toNat (hn n (by simp)) h1]
    rw [rd_enc m ws ns (by simpa using hl) hok' hf.2 (fun q hq => hn q (by simp [hq]))]
  | [], _ :: _, h, _, _, _ => by simp at h
  | _ :: _, [], h, _, _, _ => by simp at h
theorem rdN_length_le (ws : List Int) (l : List UInt8) : (rdN ws l).length ≤ ws.length := by
  unfold rdN
  split
  · rw [rdL_length]; exact Nat.le_refl _
  · exact Nat.zero_le _
/-- the least width that a number fits -/
def Tight (n x : Int) : Prop := 1 ≤ x ∧ x ≤ 8 ∧ fitsB n x = true ∧ (2 ≤ x → fitsB n (x - 1) = false)
def TightL (xs ws : List Int) : Prop := ws.length = xs.length ∧ ∀ i, i < xs.length → Tight (xs.getD i 0) (ws.getD i 0)
theorem okW_of (ws : List Int) (h : ∀ i, i < ws.length → 1 ≤ ws.getD i 0 ∧ ws.getD i 0 ≤ 8) : okW ws = true := by
  simp only [okW, List.all_eq_true, Bool.and_eq_true, decide_eq_true_eq]
  intro x hx
  obtain ⟨i, hi, rfl⟩ := List.mem_iff_getElem.1 hx
  have := h i hi
  rwa [List.getD_eq_getElem?_getD, List.getElem?_eq_getElem hi] at this
theorem fitsL_of : ∀ (ws ns : List Int), (∀ i, i < ws.length → i < ns.length → fitsB (ns.getD i 0) (ws.getD i 0) = true) → fitsL ws ns = true
  | [], _, _ => rfl
  | _ :: _, [], _ => rfl
  | x :: ws, n :: ns, h => by
    have h0 := h 0 (by simp) (by simp)
    have := fitsL_of ws ns (fun i h1 h2 => by simpa using h (i + 1) (by simpa using h1) (by simpa using h2))
    simp at h0
    simp [fitsL, h0, this]
/-- what there is to know of tight widths -/
theorem tight_ok {xs ws : List Int} (h : TightL xs ws) : okW ws = true ∧ fitsL ws xs = true ∧ wrB ws xs = true ∧ wrS ws xs = strOf (encL ws xs) := by
  have h1 : okW ws = true := okW_of ws fun i hi => ⟨(h.2 i (by have := h.1; omega)).1, (h.2 i (by have := h.1; omega)).2.1⟩
  have h2 : fitsL ws xs = true := fitsL_of ws xs fun i _ hi => (h.2 i hi).2.2.1
  exact ⟨h1, h2, wr_ok h1 h.1 h2⟩
theorem tight_read {xs ws : List Int} (h : TightL xs ws) (hn : ∀ n ∈ xs, 0 ≤ n) (v : ByteArray) :
    rdB ws (strOf (encL ws xs) ++ v).data.toList = true ∧ rdN ws (strOf (encL ws xs) ++ v).data.toList = xs ∧ strOf (rdS ws (strOf (encL ws xs) ++ v).data.toList) = v := by
  obtain ⟨h1, h2, _⟩ := tight_ok h
  have e : (strOf (encL ws xs) ++ v).data.toList = encL ws xs ++ v.data.toList := by simp [strOf]
  have hl := encL_length ws xs h1 h.1
  have hy := rd_ok (l := encL ws xs ++ v.data.toList) h1 (by rw [← hl]; simp; omega)
  rw [e, hy.1, hy.2.1, hy.2.2, rd_enc _ ws xs h.1 h1 h2 hn]
  refine ⟨rfl, rfl, ?_⟩
  rw [← hl, Int.toNat_natCast, List.drop_left]
  exact (strOf_ext rfl).symm
/-- with one byte less there are none -/
theorem tight_less {xs ws : List Int} (h : TightL xs ws) (l : List UInt8) (hl : l.length < (encL ws xs).length) : rdB ws l = false := by
  obtain ⟨h1, _, _⟩ := tight_ok h
  exact (rd_no (.inr (by rw [← encL_length ws xs h1 h.1]; omega))).1
/-- with one width less a number doesn't fit -/
theorem tight_set {xs ws : List Int} (h : TightL xs ws) (i : Nat) (hi : i < xs.length) (h2 : 2 ≤ ws.getD i 0) : wrB (ws.set i (ws.getD i 0 - 1)) xs = false := by
  refine (wr_no (.inr (.inr (fitsL_at _ _ i ?_ hi ?_)))).1
  · have := h.1; simp; omega
  · have e : (ws.set i (ws.getD i 0 - 1)).getD i 0 = ws.getD i 0 - 1 := by
      rw [List.getD_eq_getElem?_getD, List.getElem?_set_self (by have := h.1; omega)]; rfl
    rw [e]
    exact (h.2 i hi).2.2.2 h2
theorem tight_nil : TightL [] [] := ⟨rfl, fun i hi => absurd hi (by simp)⟩
theorem tight_snoc {xs ws : List Int} {n x : Int} (h : TightL xs ws) (ht : Tight n x) : TightL (xs ++ [n]) (ws ++ [x]) := by
  refine ⟨by simp [h.1], fun i hi => ?_⟩
  simp only [List.length_append, List.length_singleton] at hi
  by_cases hlt : i < xs.length
  · have hw : i < ws.length := by have := h.1; omega
    have := h.2 i hlt
    simp only [List.getD_eq_getElem?_getD] at *
    rwa [List.getElem?_append_left hlt, List.getElem?_append_left hw]
  · obtain rfl : i = xs.length := by omega
    have hw : xs.length = ws.length := h.1.symm
    simp only [List.getD_eq_getElem?_getD]
    rw [List.getElem?_append_right (Nat.le_refl _), List.getElem?_append_right (by omega)]
    simpa [hw] using ht
theorem tight_end {n : Int} {x : Nat} (h0 : 0 ≤ n) (h1 : 1 ≤ x) (h8 : x ≤ 8) (hz : n / 2 ^ (8 * x) = 0) (hp : 2 ≤ x → 0 < n / 2 ^ (8 * (x - 1))) : Tight n x := by
  have f : fitsB n x = true := by
    rw [← fitsB_walk n x h0, beq_iff_eq, show (8 * (x : Int)).toNat = 8 * x by omega]; exact hz
  refine ⟨by omega, by omega, f, fun h2 => ?_⟩
  rw [← fitsB_walk n _ h0, beq_eq_false_iff_ne, show (8 * ((x : Int) - 1)).toNat = 8 * (x - 1) by omega]
  have := hp (by omega)
  omega
/-- how far the search for a width has come -/
def Inn (n : Int) (x : Nat) : Prop := 2 ≤ x → 0 < n / 2 ^ (8 * (x - 1))
theorem inn_one (n : Int) : Inn n 1 := fun h => absurd h (by decide)
theorem inn_succ {n : Int} {x : Nat} (h : 0 < n / 2 ^ (8 * x)) : Inn n (x + 1) := fun _ => by simpa using h
theorem shift_on (n : Int) (x : Nat) : n / 2 ^ (8 * x) / 256 = n / 2 ^ (8 * (x + 1)) := by
  rw [Int.ediv_ediv_of_nonneg (Int.pow_nonneg (by decide))]
  congr 1
  rw [Nat.mul_add, Int.pow_add]; rfl
theorem shift_end (n : Int) (h : 0 ≤ n) (h1 : n < 18446744073709551616) : n / 2 ^ (8 * 8) = 0 := Int.ediv_eq_zero_of_lt h h1
end Go.Proofs.Ytfclecbhfamomaa.Lend
