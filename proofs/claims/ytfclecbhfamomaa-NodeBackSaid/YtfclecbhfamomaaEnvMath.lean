/- Plain mathematics of layer 4 (env): heads, images, what is read of bytes. -/
import Derived.Test.YtfclecbhfamomaaLendBackMath
import Derived.Test.YtfclecbhfamomaaSumMath
namespace Go.Proofs.Ytfclecbhfamomaa.Env
open Go.Proofs.Ytfclecbhfamomaa Go.Proofs.Ytfclecbhfamomaa.Lend

def markL : List UInt8 := [84, 82, 78, 76]
def envW : List Int := [1, 1, 2, 4, 8, 4]
def ptrW : List Int := [4, 8, 4]
/-- what stands ahead of a payload -/
def hdr (k n a g c : Int) : List UInt8 := markL ++ encL envW [k, 0, n, a, g, c]
def adB (a : Int) : Bool := decide (0 ≤ a) && decide (a ≤ 2147483647)
def hdB (k a : Int) : Bool := decide (1 ≤ k) && (decide (k ≤ 5) && adB a)
def szB (n : Int) : Bool := decide (128 ≤ n) && decide (n ≤ 1024)
def roomN (n : Int) : Int := if szB n = true then n - 24 else 0
def zeros (m : Nat) : List UInt8 := List.replicate m 0
/-- the check of an image with noughts where the check stands -/
def ckL (k n a g : Int) (body : List UInt8) : Nat := Sum.chk 0 (hdr k n a g 0 ++ body)
/-- a payload, and noughts -/
def bodyL (m : Nat) (pl : List UInt8) : List UInt8 := pl ++ zeros (m - pl.length)
def imgL (k a g : Int) (m : Nat) (pl : List UInt8) : List UInt8 := hdr k pl.length a g (ckL k pl.length a g (bodyL m pl)) ++ bodyL m pl

/-- numbers that fit -/
structure Fit (k n a g c : Int) : Prop where
  k0 : 0 ≤ k
  k1 : k < 256
  n0 : 0 ≤ n
  n1 : n < 65536
  a0 : 0 ≤ a
  a1 : a < 4294967296
  g0 : 0 ≤ g
  g1 : g < 18446744073709551616
  c0 : 0 ≤ c
  c1 : c < 4294967296
theorem fitsB_of {n x : Int} (h : n < 2 ^ (8 * x).toNat) : fitsB n x = true := by unfold fitsB; simpa using h
theorem Fit.fits {k n a g c : Int} (h : Fit k n a g c) : fitsL envW [k, 0, n, a, g, c] = true := by
  have h1 := fitsB_of (n := k) (x := 1) (by have := h.k1; simpa using this)
  have h2 := fitsB_of (n := 0) (x := 1) (by decide)
  have h3 := fitsB_of (n := n) (x := 2) (by have := h.n1; simpa using this)
  have h4 := fitsB_of (n := a) (x := 4) (by have := h.a1; simpa using this)
  have h5 := fitsB_of (n := g) (x := 8) (by have := h.g1; simpa using this)
  have h6 := fitsB_of (n := c) (x := 4) (by have := h.c1; simpa using this)
  simp only [envW, fitsL, h1, h2, h3, h4, h5, h6]; rfl
theorem envW_ok : okW envW = true := rfl
theorem ptrW_ok : okW ptrW = true := rfl
theorem Fit.wr {k n a g c : Int} (h : Fit k n a g c) : wrB envW [k, 0, n, a, g, c] = true ∧ wrS envW [k, 0, n, a, g, c] = strOf (encL envW [k, 0, n, a, g, c]) := wr_ok envW_ok rfl h.fits
theorem ptr_fits {a g c : Int} (ha : a < 4294967296) (hg : g < 18446744073709551616) (hc : c < 4294967296) : wrB ptrW [a, g, c] = true ∧ wrS ptrW [a, g, c] = strOf (encL ptrW [a, g, c]) := by
  refine wr_ok ptrW_ok rfl ?_
  have h4 := fitsB_of (n := a) (x := 4) (by simpa using ha)
  have h5 := fitsB_of (n := g) (x := 8) (by simpa using hg)
  have h6 := fitsB_of (n := c) (x := 4) (by simpa using hc)
  simp only [ptrW, fitsL, h4, h5, h6]; rfl
theorem encL_env (k n a g c : Int) : encL envW [k, 0, n, a, g, c] = encN k 1 ++ (encN 0 1 ++ (encN n 2 ++ (encN a 4 ++ (encN g 8 ++ encN c 4)))) := by
  simp [envW, encL]
theorem hdr_eq (k n a g c : Int) : hdr k n a g c = markL ++ (encN k 1 ++ (encN 0 1 ++ (encN n 2 ++ (encN a 4 ++ (encN g 8 ++ encN c 4))))) := by rw [hdr, encL_env]
theorem hdr_length (k n a g c : Int) : (hdr k n a g c).length = 24 := by rw [hdr_eq]; simp [encN_length, markL]
theorem bodyL_length (m : Nat) (pl : List UInt8) (h : pl.length ≤ m) : (bodyL m pl).length = m := by simp [bodyL, zeros]; omega
theorem imgL_length (k a g : Int) (m : Nat) (pl : List UInt8) (h : pl.length ≤ m) : (imgL k a g m pl).length = 24 + m := by
  rw [imgL, List.length_append, hdr_length, bodyL_length m pl h]
theorem ckL_lt (k n a g : Int) (body : List UInt8) : ckL k n a g body < 4294967296 := Sum.chk_lt _ _

/-- the numbers that stand in an image's beginning -/
def nums (l : List UInt8) : List Int := rdL envW (l.drop 4)
def F (l : List UInt8) (i : Nat) : Int := (nums l).getD i 0
theorem nums_eq (l : List UInt8) : nums l = [F l 0, F l 1, F l 2, F l 3, F l 4, F l 5] := by
  simp [nums, F, envW, rdL]
theorem nums_list (l : List UInt8) : nums l = [(getL ((l.drop 4).take 1) : Int), (getL ((l.drop 5).take 1) : Int), (getL ((l.drop 6).take 2) : Int), (getL ((l.drop 8).take 4) : Int), (getL ((l.drop 12).take 8) : Int), (getL ((l.drop 20).take 4) : Int)] := by
  simp [nums, envW, rdL, List.drop_drop]
theorem getL_lt (l : List UInt8) (n k : Nat) (h : l.length ≤ n) (hk : 2 ^ (8 * n) = k) : getL l < k :=
  Nat.lt_of_lt_of_le (getL_bd l) (by rw [← hk]; exact Nat.pow_le_pow_right (by decide) (by omega))
theorem F_bd (l : List UInt8) : Fit (F l 0) (F l 2) (F l 3) (F l 4) (F l 5) ∧ 0 ≤ F l 1 := by
  have h0 := getL_lt ((l.drop 4).take 1) 1 256 (by simp; omega) rfl
  have h2 := getL_lt ((l.drop 6).take 2) 2 65536 (by simp; omega) rfl
  have h3 := getL_lt ((l.drop 8).take 4) 4 4294967296 (by simp; omega) rfl
  have h4 := getL_lt ((l.drop 12).take 8) 8 18446744073709551616 (by simp; omega) rfl
  have h5 := getL_lt ((l.drop 20).take 4) 4 4294967296 (by simp; omega) rfl
  simp only [F, nums_list]
  simp only [List.getD_cons_zero, List.getD_cons_succ]
  refine ⟨⟨?_, ?_, ?_, ?_, ?_, ?_, ?_, ?_, ?_, ?_⟩, ?_⟩
  all_goals omega

theorem encN_front (n : Int) (k : Nat) : encN n (k + 1) = UInt8.ofNat (n % 256).toNat :: encN (n / 256) k := by
  simp only [encN, List.range_succ_eq_map, List.map_cons, List.map_map]
  congr 1
  · simp [byteAt]
  · apply List.map_congr_left
    intro i _
    simp only [Function.comp, byteAt]
    rw [Int.ediv_ediv_of_nonneg (by decide), show (256 : Int) = 2 ^ 8 from rfl, ← Int.pow_add, show 8 * Nat.succ i = 8 + 8 * i by omega]
theorem encN_getL : ∀ l : List UInt8, encN (getL l : Nat) l.length = l
  | [] => rfl
  | b :: l => by
    have ih := encN_getL l
    have hb := b.toNat_lt
    rw [List.length_cons, encN_front]
    have h1 : (((getL (b :: l) : Nat) : Int) % 256).toNat = b.toNat := by simp only [getL]; omega
    have h2 : ((getL (b :: l) : Nat) : Int) / 256 = (getL l : Nat) := by simp only [getL]; omega
    rw [h1, h2, ih]; simp
theorem encL_rdL : ∀ (ws : List Int) (l : List UInt8), okW ws = true → sumW ws ≤ l.length → encL ws (rdL ws l) = l.take (sumW ws).toNat
  | [], l, _, _ => by simp [encL, sumW]
  | x :: ws, l, h, hs => by
    have h' : okW ws = true := by simp [okW] at h ⊢; exact h.2
    have hx : 1 ≤ x := by simp [okW] at h; exact h.1.1
    have h0 := sumW_nonneg ws h'
    have hsum : sumW (x :: ws) = x + sumW ws := by simp [sumW]
    rw [hsum] at hs ⊢
    simp only [rdL, encL]
    have hl : (l.take x.toNat).length = x.toNat := by rw [List.length_take]; omega
    have e := encN_getL (l.take x.toNat)
    rw [hl] at e
    rw [e, encL_rdL ws (l.drop x.toNat) h' (by rw [List.length_drop]; omega), show (x + sumW ws).toNat = x.toNat + (sumW ws).toNat by omega, List.take_add]
theorem encL_ptr (a g c : Int) : encL ptrW [a, g, c] = encN a 4 ++ (encN g 8 ++ encN c 4) := by simp [ptrW, encL]

/-- an image's beginning, put together again -/
theorem hdr_again (l : List UInt8) (hm : l.take 4 = markL) (hz : F l 1 = 0) (hl : 24 ≤ l.length) : hdr (F l 0) (F l 2) (F l 3) (F l 4) (F l 5) = l.take 24 := by
  have h := encL_rdL envW (l.drop 4) envW_ok (by rw [List.length_drop]; show (20 : Int) ≤ _; omega)
  have e := nums_eq l
  rw [hz] at e
  rw [show rdL envW (l.drop 4) = nums l from rfl, e, show (sumW envW).toNat = 20 from rfl] at h
  rw [hdr, h, ← hm, ← List.take_add]
theorem F_hdr {k n a g c : Int} (h : Fit k n a g c) (body : List UInt8) : nums (hdr k n a g c ++ body) = [k, 0, n, a, g, c] := by
  have e : (hdr k n a g c ++ body).drop 4 = encL envW [k, 0, n, a, g, c] ++ body := by simp [hdr, markL]
  rw [nums, e]
  refine rd_enc body envW [k, 0, n, a, g, c] rfl envW_ok h.fits ?_
  have := h.k0; have := h.n0; have := h.a0; have := h.g0; have := h.c0
  intro x hx
  simp only [List.mem_cons, List.mem_nil_iff, or_false] at hx
  omega
end Go.Proofs.Ytfclecbhfamomaa.Env
