/- Plain facts on lists of widths and numbers, for the contracts of layer 1 (lend). -/
import Derived.Below
import Derived.WalkKit
import Derived.Lib.Strings
import Derived.Lib.IndexBytes
namespace Go.Proofs.Ytfclecbhfamomaa.Lend
open Go.RowKit

/-- each is a width -/
def okW (ws : List Int) : Bool := ws.all (fun w => decide (1 ≤ w) && decide (w ≤ 8))
def sumW (ws : List Int) : Int := ws.sum

/-- all of them together, or 0 -/
def measN (ws : List Int) : Int := if okW ws = true then sumW ws else 0
theorem measN_yes {ws : List Int} (h : okW ws = true) : measN ws = sumW ws := by simp [measN, h]
theorem measN_no {ws : List Int} (h : okW ws = false) : measN ws = 0 := by simp [measN, h]
theorem okW_getD {ws : List Int} {k : Nat} (hk : k < ws.length) (h : ¬ (1 ≤ ws.getD k 0 ∧ ws.getD k 0 ≤ 8)) : okW ws = false := by
  rw [Bool.eq_false_iff]
  intro he
  simp only [okW, List.all_eq_true, Bool.and_eq_true, decide_eq_true_eq] at he
  exact h (he _ (by rw [List.getD_eq_getElem?_getD, List.getElem?_eq_getElem hk]; exact List.getElem_mem _))
theorem take_snoc' (l : List Int) (k : Nat) (h : k < l.length) : l.take (k + 1) = l.take k ++ [l.getD k 0] := by
  rw [List.take_succ_eq_append_getElem h, List.getD_eq_getElem?_getD, List.getElem?_eq_getElem h]; rfl
theorem okW_nil : okW [] = true := rfl
theorem okW_snoc (l : List Int) (x : Int) : okW (l ++ [x]) = (okW l && (decide (1 ≤ x) && decide (x ≤ 8))) := by
  simp [okW]
theorem sumW_snoc (l : List Int) (x : Int) : sumW (l ++ [x]) = sumW l + x := by
  simp [sumW]
theorem sumW_bd (l : List Int) (h : okW l = true) : (l.length : Int) ≤ sumW l ∧ sumW l ≤ 8 * l.length := by
  induction l with
  | nil => simp [sumW]
  | cons x l ih =>
    simp [okW] at h
    have := ih (by simp [okW]; exact h.2)
    simp only [sumW, List.sum_cons, List.length_cons] at *
    omega
theorem take_snoc {α : Type} (l : List α) (k : Nat) (h : k < l.length) : l.take (k + 1) = l.take k ++ [l[k]] := by
  rw [List.take_succ_eq_append_getElem h]
theorem okW_take (ws : List Int) (k : Nat) (h : okW ws = true) : okW (ws.take k) = true := by
  simp only [okW, List.all_eq_true] at *
  exact fun x hx => h x (List.mem_of_mem_take hx)

/-- a number fits a width -/
def fitsB (n x : Int) : Bool := decide (n < 2 ^ (8 * x).toNat)
theorem fitsB_walk (n x : Int) (h0 : 0 ≤ n) : (n / 2 ^ (8 * x).toNat == 0) = fitsB n x := by
  have hp : (0 : Int) < 2 ^ (8 * x).toNat := Int.pow_pos (by decide)
  unfold fitsB
  rw [Bool.eq_iff_iff]
  simp only [beq_iff_eq, decide_eq_true_eq]
  constructor
  · intro h
    have := Int.lt_ediv_add_one_mul_self n hp
    rw [h] at this
    simpa using this
  · intro h
    exact Int.ediv_eq_zero_of_lt h0 h
/-- byte number i of a number -/
def byteAt (n : Int) (i : Nat) : Int := n / 2 ^ (8 * i) % 256
def byteVals (n : Int) (k : Nat) : List Value := (List.range k).map fun i => .int .u8 (byteAt n i)
theorem byteVals_succ (n : Int) (k : Nat) : byteVals n (k + 1) = byteVals n k ++ [.int .u8 (byteAt n k)] := by
  simp [byteVals, List.range_succ]
theorem byteVals_length (n : Int) (k : Nat) : (byteVals n k).length = k := by simp [byteVals]
theorem byteAt_bd (n : Int) (i : Nat) : 0 ≤ byteAt n i ∧ byteAt n i ≤ 255 := by unfold byteAt; omega

/-- a number's bytes in a width -/
def encN (n : Int) (k : Nat) : List UInt8 := (List.range k).map fun i => UInt8.ofNat (byteAt n i).toNat
def u8V (b : UInt8) : Value := .int .u8 b.toNat
theorem byteVals_enc (n : Int) (k : Nat) : byteVals n k = (encN n k).map u8V := by
  simp only [byteVals, encN, List.map_map]
  apply List.map_congr_left
  intro i _
  have := byteAt_bd n i
  simp only [Function.comp, u8V, UInt8.toNat_ofNat']
  congr 1
  omega
/-- the bytes of numbers in widths -/
def encL : List Int → List Int → List UInt8
  | x :: ws, n :: ns => encN n x.toNat ++ encL ws ns
  | _, _ => []
theorem encL_snoc (x n : Int) : ∀ (ws ns : List Int), ws.length = ns.length → encL (ws ++ [x]) (ns ++ [n]) = encL ws ns ++ encN n x.toNat
  | [], [], _ => by simp [encL]
  | y :: ws, m :: ns, h => by simp [encL, encL_snoc x n ws ns (by simpa using h)]
  | [], _ :: _, h => by simp at h
  | _ :: _, [], h => by simp at h
theorem encN_length (n : Int) (k : Nat) : (encN n k).length = k := by simp [encN]
theorem encL_length : ∀ (ws ns : List Int), okW ws = true → ws.length = ns.length → ((encL ws ns).length : Int) = sumW ws
  | [], [], _, _ => by simp [encL, sumW]
  | y :: ws, m :: ns, h, hl => by
    simp [okW] at h
    have ih := encL_length ws ns (by simp [okW]; exact h.2) (by simpa using hl)
    simp only [encL, List.length_append, encN_length, sumW, List.sum_cons] at *
    omega
  | [], _ :: _, _, h => by simp at h
  | _ :: _, [], _, h => by simp at h
theorem encL_take_le (ws ns : List Int) (k : Nat) (h : okW ws = true) (hl : ws.length = ns.length) : (encL (ws.take k) (ns.take k)).length ≤ 8 * k := by
  have h1 := okW_take ws k h
  have h2 := encL_length (ws.take k) (ns.take k) h1 (by simp [hl])
  have h3 := sumW_bd _ h1
  have h4 : (ws.take k).length ≤ k := List.length_take_le _ _
  omega
theorem encL_take_succ (ws ns : List Int) (k : Nat) (h : k < ws.length) (hl : ws.length = ns.length) : encL (ws.take (k + 1)) (ns.take (k + 1)) = encL (ws.take k) (ns.take k) ++ encN (ns.getD k 0) (ws.getD k 0).toNat := by
  rw [take_snoc' ws k h, take_snoc' ns k (by omega), encL_snoc _ _ _ _ (by simp [hl])]
/-- each number fits its width -/
def fitsL : List Int → List Int → Bool
  | x :: ws, n :: ns => fitsB n x && fitsL ws ns
  | _, _ => true
theorem fitsL_snoc (x n : Int) : ∀ (ws ns : List Int), ws.length = ns.length → fitsL (ws ++ [x]) (ns ++ [n]) = (fitsL ws ns && fitsB n x)
  | [], [], _ => by simp [fitsL]
  | y :: ws, m :: ns, h => by simp [fitsL, fitsL_snoc x n ws ns (by simpa using h), Bool.and_assoc]
  | [], _ :: _, h => by simp at h
  | _ :: _, [], h => by simp at h
theorem fitsL_take_succ (ws ns : List Int) (k : Nat) (h : k < ws.length) (hl : ws.length = ns.length) : fitsL (ws.take (k + 1)) (ns.take (k + 1)) = (fitsL (ws.take k) (ns.take k) && fitsB (ns.getD k 0) (ws.getD k 0)) := by
  rw [take_snoc' ws k h, take_snoc' ns k (by omega), fitsL_snoc _ _ _ _ (by simp [hl])]
theorem fitsL_at : ∀ (ws ns : List Int) (k : Nat), k < ws.length → k < ns.length → fitsB (ns.getD k 0) (ws.getD k 0) = false → fitsL ws ns = false
  | x :: ws, n :: ns, 0, _, _, h => by simp at h; simp [fitsL, h]
  | x :: ws, n :: ns, k + 1, h1, h2, h => by
    have := fitsL_at ws ns k (by simpa using h1) (by simpa using h2) (by simpa using h)
    simp [fitsL, this]
  | [], _, _, h, _, _ => by simp at h
  | _ :: _, [], _, _, h, _ => by simp at h
/-- whether there are bytes of numbers -/
def wrB (ws ns : List Int) : Bool := okW ws && (decide (ws.length = ns.length) && fitsL ws ns)
def strOf (l : List UInt8) : ByteArray := ⟨l.toArray⟩
theorem strOf_ext {a : ByteArray} {l : List UInt8} (h : a.data.toList = l) : a = strOf l := by
  cases a with
  | mk d => simp only [strOf]; rw [← h]
/-- the bytes of numbers, or none -/
def wrS (ws ns : List Int) : ByteArray := if wrB ws ns = true then strOf (encL ws ns) else ⟨#[]⟩
theorem wr_ok {ws ns : List Int} (h1 : okW ws = true) (h2 : ws.length = ns.length) (h3 : fitsL ws ns = true) : wrB ws ns = true ∧ wrS ws ns = strOf (encL ws ns) := by
  have : wrB ws ns = true := by simp [wrB, h1, h2, h3]
  exact ⟨this, by simp [wrS, this]⟩
theorem wr_no {ws ns : List Int} (h : okW ws = false ∨ ws.length ≠ ns.length ∨ fitsL ws ns = false) : wrB ws ns = false ∧ wrS ws ns = ⟨#[]⟩ := by
  have : wrB ws ns = false := by
    rcases h with h | h | h <;> simp [wrB, h]
  exact ⟨this, by simp [wrS, this]⟩

/-- the number of some bytes -/
def getL : List UInt8 → Nat
  | [] => 0
  | b :: l => b.toNat + 256 * getL l
theorem getL_bd : ∀ l : List UInt8, getL l < 2 ^ (8 * l.length)
  | [] => by simp [getL]
  | b :: l => by
    have h := getL_bd l
    have hb := b.toNat_lt
    simp only [getL, List.length_cons, Nat.mul_add, Nat.pow_add]
    omega
theorem getL_snoc (l : List UInt8) (b : UInt8) : getL (l ++ [b]) = getL l + b.toNat * 2 ^ (8 * l.length) := by
  induction l with
  | nil => simp [getL]
  | cons x l ih =>
    simp only [List.cons_append, getL, ih, List.length_cons, Nat.mul_add, Nat.pow_add, Nat.add_assoc, Nat.mul_one]
    congr 2
    rw [Nat.mul_left_comm]
    congr 1
    rw [Nat.mul_comm]
theorem wrap_u64 (n : Int) : IntKind.u64.wrap n = n % 18446744073709551616 := by simp [IntKind.wrap, IntKind.bits, IntKind.signed]
theorem or_step (a c k : Nat) (hk : k < 8) (ha : a < 2 ^ (8 * k)) (hc : c < 256) :
    bits .or .u64 (a : Int) (IntKind.u64.wrap (IntKind.u64.wrap (c : Int) * 2 ^ (8 * k))) = ((a + c * 2 ^ (8 * k) : Nat) : Int) := by
  have hp : 2 ^ (8 * k) ≤ 2 ^ 56 := Nat.pow_le_pow_right (by decide) (by omega)
  have hp0 : 0 < 2 ^ (8 * k) := Nat.two_pow_pos _
  have hcp : c * 2 ^ (8 * k) ≤ 255 * 2 ^ 56 := Nat.mul_le_mul (by omega) hp
  have e1 : IntKind.u64.wrap (c : Int) = (c : Int) := by rw [wrap_u64]; omega
  have e2 : (c : Int) * 2 ^ (8 * k) = ((c * 2 ^ (8 * k) : Nat) : Int) := by simp
  have e3 : IntKind.u64.wrap ((c * 2 ^ (8 * k) : Nat) : Int) = ((c * 2 ^ (8 * k) : Nat) : Int) := by rw [wrap_u64]; omega
  rw [e1, e2, e3, u64_or_nat _ _ (by omega) (by omega)]
  congr 1
  rw [← Nat.shiftLeft_eq, Nat.or_comm, ← Nat.shiftLeft_add_eq_or_of_lt ha, Nat.add_comm]
theorem bytes_take_succ (s : ByteArray) (k : Nat) (h : k < s.size) : s.data.toList.take (k + 1) = s.data.toList.take k ++ [s[k]] := by
  rw [List.take_succ_eq_append_getElem (by simpa using h)]; rfl
theorem strOf_data (l : List UInt8) : (strOf l).data.toList = l := rfl
theorem bytes_cons (s : ByteArray) (h : 0 < s.size) : s.data.toList = s[0] :: s.data.toList.drop 1 := by
  have e := bytes_take_succ s 0 h
  have := List.take_append_drop 1 s.data.toList
  rw [e] at this
  simpa using this.symm
theorem bytes_length (s : ByteArray) : s.data.toList.length = s.size := by simp

/-- widths of 8 -/
def eights (k : Nat) : List Int := List.replicate k 8
theorem eights_succ (k : Nat) : eights (k + 1) = eights k ++ [8] := List.replicate_succ'
theorem eights_length (k : Nat) : (eights k).length = k := by simp [eights]
theorem eights_take (n k : Nat) (h : k ≤ n) : (eights n).take k = eights k := by simp [eights, Nat.min_eq_left h]
theorem eights_drop (n k : Nat) : (eights n).drop k = eights (n - k) := by simp [eights]
theorem eights_ok (k : Nat) : okW (eights k) = true := by simp [okW, eights]
theorem eights_sum (k : Nat) : sumW (eights k) = 8 * k := by
  induction k with
  | zero => rfl
  | succ k ih => rw [eights_succ, sumW_snoc, ih]; omega
theorem fitsB_8 (n : Int) (h : n < 18446744073709551616) : fitsB n 8 = true := by
  unfold fitsB
  rw [decide_eq_true_eq]
  exact Int.lt_of_lt_of_le h (by decide)
theorem eights_fits : ∀ (k : Nat) (l : List Int), (∀ n ∈ l, n < 18446744073709551616) → fitsL (eights k) l = true
  | 0, _, _ => rfl
  | k + 1, [], _ => rfl
  | k + 1, n :: l, h => by
    have e : eights (k + 1) = 8 :: eights k := rfl
    rw [e]
    simp only [fitsL, fitsB_8 n (h n (by simp)), Bool.true_and]
    exact eights_fits k l (fun m hm => h m (by simp [hm]))
theorem encL_append : ∀ (a b c d : List Int), a.length = c.length → encL (a ++ b) (c ++ d) = encL a c ++ encL b d
  | [], b, [], d, _ => rfl
  | x :: a, b, y :: c, d, h => by simp [encL, encL_append a b c d (by simpa using h)]
  | [], _, _ :: _, _, h => by simp at h
  | _ :: _, _, [], _, h => by simp at h
/-- the bytes of numbers in widths of 8 -/
def bytes8 (l : List Int) : ByteArray := strOf (encL (eights l.length) l)
theorem wr_8 (l : List Int) (h : ∀ n ∈ l, n < 18446744073709551616) : wrB (eights l.length) l = true ∧ wrS (eights l.length) l = bytes8 l :=
  wr_ok (eights_ok _) (eights_length _) (eights_fits _ l h)
theorem bytes8_size (l : List Int) : (bytes8 l).size = 8 * l.length := by
  have h := encL_length (eights l.length) l (eights_ok _) (eights_length _)
  rw [eights_sum] at h
  have : (bytes8 l).size = (encL (eights l.length) l).length := rfl
  omega
theorem bytes8_append (a b : List Int) : bytes8 a ++ bytes8 b = bytes8 (a ++ b) := by
  unfold bytes8
  have e : eights (a ++ b).length = eights a.length ++ eights b.length := by simp [eights]
  rw [e, encL_append _ _ _ _ (eights_length _)]
  apply strOf_ext
  simp [strOf]

/-- the numbers of bytes, by widths -/
def rdL : List Int → List UInt8 → List Int
  | [], _ => []
  | x :: ws, l => (getL (l.take x.toNat) : Int) :: rdL ws (l.drop x.toNat)
theorem sumW_nonneg (ws : List Int) (h : okW ws = true) : 0 ≤ sumW ws := by have := sumW_bd ws h; omega
theorem rdL_snoc (x : Int) : ∀ (ws : List Int) (l : List UInt8), okW ws = true → rdL (ws ++ [x]) l = rdL ws l ++ [(getL ((l.drop (sumW ws).toNat).take x.toNat) : Int)]
  | [], l, _ => by simp [rdL, sumW]
  | y :: ws, l, h => by
    have h' : okW ws = true := by simp [okW] at h ⊢; exact h.2
    have hy : 1 ≤ y := by simp [okW] at h; exact h.1.1
    have h0 := sumW_nonneg ws h'
    have e : y.toNat + (sumW ws).toNat = (sumW (y :: ws)).toNat := by
      simp only [sumW, List.sum_cons] at *
      omega
    simp only [List.cons_append, rdL, rdL_snoc x ws _ h', List.drop_drop, e]
theorem rdL_length : ∀ (ws : List Int) (l : List UInt8), (rdL ws l).length = ws.length
  | [], _ => rfl
  | x :: ws, l => by simp [rdL, rdL_length ws]
def rdB (ws : List Int) (l : List UInt8) : Bool := okW ws && decide (sumW ws ≤ l.length)
def rdN (ws : List Int) (l : List UInt8) : List Int := if rdB ws l = true then rdL ws l else []
def rdS (ws : List Int) (l : List UInt8) : List UInt8 := if rdB ws l = true then l.drop (sumW ws).toNat else []
theorem rd_ok {ws : List Int} {l : List UInt8} (h : okW ws = true) (h' : sumW ws ≤ l.length) : rdB ws l = true ∧ rdN ws l = rdL ws l ∧ rdS ws l = l.drop (sumW ws).toNat := by
  have : rdB ws l = true := by simp [rdB, h, h']
  exact ⟨this, by simp [rdN, this], by simp [rdS, this]⟩
theorem rd_no {ws : List Int} {l : List UInt8} (h : okW ws = false ∨ ¬ sumW ws ≤ l.length) : rdB ws l = false ∧ rdN ws l = [] ∧ rdS ws l = [] := by
  have : rdB ws l = false := by
    rcases h with h | h
    · simp [rdB, h]
    · simp [rdB]; omega
  exact ⟨this, by simp [rdN, this], by simp [rdS, this]⟩
theorem sumW_take_le (ws : List Int) (k : Nat) (h : okW ws = true) : 0 ≤ sumW (ws.take k) ∧ sumW (ws.take k) ≤ sumW ws := by
  have h1 := sumW_nonneg _ (okW_take ws k h)
  have hd : okW (ws.drop k) = true := by
    simp only [okW, List.all_eq_true] at *
    exact fun x hx => h x (List.mem_of_mem_drop hx)
  have h2 := sumW_nonneg _ hd
  have e : sumW ws = sumW (ws.take k) + sumW (ws.drop k) := by
    simp only [sumW]
    rw [← List.sum_append, List.take_append_drop]
  omega
end Go.Proofs.Ytfclecbhfamomaa.Lend
