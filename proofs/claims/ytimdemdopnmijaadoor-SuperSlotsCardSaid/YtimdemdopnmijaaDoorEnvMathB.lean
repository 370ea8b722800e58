/- Plain mathematics of layer 4 (env): what is read of an image; images with one byte another one. -/
import Derived.Test.YtimdemdopnmijaaDoorEnvMath
namespace Go.Proofs.YtimdemdopnmijaaDoor.Env
open Go.Proofs.YtimdemdopnmijaaDoor Go.Proofs.YtimdemdopnmijaaDoor.Lend

def mkB (l : List UInt8) : Bool := l.take 4 == markL
def zrB (l : List UInt8) : Bool := l.all (· == 0)
/-- is it an image, but for its check? -/
def opB (l : List UInt8) : Bool := szB l.length && (mkB l && (decide (F l 1 = 0) && (hdB (F l 0) (F l 3) && (decide (F l 2 ≤ (l.length : Int) - 24) && zrB (l.drop (24 + (F l 2).toNat))))))
def opC (l : List UInt8) : Nat := ckL (F l 0) (F l 2) (F l 3) (F l 4) (l.drop 24)
def opE (l : List UInt8) : Int := if opB l = true then (if F l 5 = opC l then 0 else 5) else 4
def opP (l : List UInt8) : List UInt8 := (l.drop 24).take (F l 2).toNat
theorem opB_parts {l : List UInt8} (h : opB l = true) : 128 ≤ l.length ∧ l.length ≤ 1024 ∧ l.take 4 = markL ∧ F l 1 = 0 ∧ hdB (F l 0) (F l 3) = true ∧ F l 2 ≤ (l.length : Int) - 24 ∧ zrB (l.drop (24 + (F l 2).toNat)) = true := by
  simp only [opB, szB, mkB, Bool.and_eq_true, decide_eq_true_eq, beq_iff_eq] at h
  obtain ⟨⟨h1, h2⟩, h3, h4, h5, h6, h7⟩ := h
  exact ⟨by omega, by omega, h3, h4, h5, h6, h7⟩

theorem zrB_zeros (n : Nat) : zrB (zeros n) = true := by simp [zrB, zeros]
theorem img_nums {k a g : Int} {m : Nat} {pl : List UInt8} (hf : Fit k pl.length a g 0) : nums (imgL k a g m pl) = [k, 0, (pl.length : Int), a, g, (ckL k pl.length a g (bodyL m pl) : Int)] := by
  have hc := ckL_lt k pl.length a g (bodyL m pl)
  exact F_hdr (c := (ckL k pl.length a g (bodyL m pl) : Int)) ⟨hf.k0, hf.k1, hf.n0, hf.n1, hf.a0, hf.a1, hf.g0, hf.g1, by omega, by omega⟩ _
theorem img_F {k a g : Int} {m : Nat} {pl : List UInt8} (hf : Fit k pl.length a g 0) :
    F (imgL k a g m pl) 0 = k ∧ F (imgL k a g m pl) 1 = 0 ∧ F (imgL k a g m pl) 2 = pl.length ∧ F (imgL k a g m pl) 3 = a ∧ F (imgL k a g m pl) 4 = g ∧ F (imgL k a g m pl) 5 = ckL k pl.length a g (bodyL m pl) := by
  simp only [F, img_nums hf]
  simp
theorem img_drop (k a g : Int) (m : Nat) (pl : List UInt8) : (imgL k a g m pl).drop 24 = bodyL m pl := by
  rw [imgL, List.drop_left' (hdr_length _ _ _ _ _)]
theorem img_open {k a g : Int} {m : Nat} {pl : List UInt8} (hf : Fit k pl.length a g 0) (hh : hdB k a = true) (hp : pl.length ≤ m) (hm : 104 ≤ m) (hm' : m ≤ 1000) :
    opB (imgL k a g m pl) = true ∧ opE (imgL k a g m pl) = 0 ∧ opP (imgL k a g m pl) = pl := by
  obtain ⟨f0, f1, f2, f3, f4, f5⟩ := img_F (m := m) hf
  have hl := imgL_length k a g m pl hp
  have hd := img_drop k a g m pl
  have hb : opB (imgL k a g m pl) = true := by
    have h1 : szB ((24 + m : Nat) : Int) = true := by simp [szB]; omega
    have h4 : decide ((pl.length : Int) ≤ ((24 + m : Nat) : Int) - 24) = true := by simp; omega
    have h2 : mkB (imgL k a g m pl) = true := by simp [mkB, imgL, hdr, markL]
    have h3 : (imgL k a g m pl).drop (24 + (pl.length : Int).toNat) = zeros (m - pl.length) := by
      rw [← List.drop_drop, hd, bodyL, Int.toNat_natCast, List.drop_left' rfl]
    simp only [opB, hl, h1, h2, f0, f1, f2, f3, hh, h3, h4, zrB_zeros]
    rfl
  refine ⟨hb, ?_, ?_⟩
  · rw [opE, if_pos hb, opC, f0, f2, f3, f4, f5, hd, if_pos rfl]
  · rw [opP, hd, f2, bodyL, Int.toNat_natCast, List.take_left' rfl]

/-- an image but for its check -/
def hp (k n a g : Int) : List UInt8 := markL ++ (encN k 1 ++ (encN 0 1 ++ (encN n 2 ++ (encN a 4 ++ encN g 8))))
theorem hdr_hp (k n a g c : Int) : hdr k n a g c = hp k n a g ++ encN c 4 := by rw [hdr_eq, hp]; simp [List.append_assoc]
theorem hp_length (k n a g : Int) : (hp k n a g).length = 20 := by simp [hp, encN_length, markL]
def xL (l : List UInt8) : List UInt8 := l.take 20 ++ (zeros 4 ++ l.drop 24)
theorem encN_zero4 : encN 0 4 = zeros 4 := by decide
theorem opC_x {l : List UInt8} (h : opB l = true) : opC l = Sum.chk 0 (xL l) := by
  obtain ⟨h1, h2, h3, h4, h5, h6, h7⟩ := opB_parts h
  have e := hdr_again l h3 h4 (by omega)
  rw [hdr_hp] at e
  have e2 : hp (F l 0) (F l 2) (F l 3) (F l 4) = l.take 20 := by
    have := congrArg (List.take 20) e
    rw [List.take_left' (hp_length _ _ _ _), List.take_take] at this
    simpa using this
  rw [opC, ckL, hdr_hp, e2, encN_zero4, xL, List.append_assoc]
theorem F5_eq (l : List UInt8) : F l 5 = getL ((l.drop 20).take 4) := by rw [F, nums_list]; rfl

theorem num_setd (l : List UInt8) (i d : Nat) (b : UInt8) (hi : i < l.length) (hb : b.toNat = (l.getD i 0).toNat ^^^ d) :
    Sum.num (l.set i b) = Sum.num l ^^^ 2 ^ (8 * i) * d := by
  induction l generalizing i with
  | nil => simp at hi
  | cons c l ih =>
    cases i with
    | zero =>
      simp only [List.set_cons_zero, Sum.num, List.getD_cons_zero] at hb ⊢
      rw [Sum.add_xor _ _ (Sum.u8_lt b), Sum.add_xor _ _ (Sum.u8_lt c), hb, Nat.mul_zero, Nat.pow_zero, Nat.one_mul, Nat.xor_assoc, Nat.xor_comm d, ← Nat.xor_assoc]
    | succ i =>
      simp only [List.set_cons_succ, Sum.num, List.getD_cons_succ, List.length_cons] at hb hi ⊢
      rw [ih i (by omega) hb, Sum.add_xor _ _ (Sum.u8_lt c), Sum.add_xor _ _ (Sum.u8_lt c), Nat.xor_assoc]
      congr 1
      rw [show (256 : Nat) = 2 ^ 8 from rfl, show 8 * (i + 1) = 8 + 8 * i by omega, Nat.pow_add 2 8]
      have := @Nat.shiftLeft_xor_distrib 8 (Sum.num l) (2 ^ (8 * i) * d)
      simpa [Nat.shiftLeft_eq, Nat.mul_comm, Nat.mul_left_comm, Nat.mul_assoc] using this
theorem chk_set (l : List UInt8) (i d : Nat) (b : UInt8) (hi : i < l.length) (hd : d < 256) (h0 : d ≠ 0) (hb : b.toNat = (l.getD i 0).toNat ^^^ d) : Sum.chk 0 (l.set i b) ≠ Sum.chk 0 l :=
  Sum.chk_tells l (l.set i b) d (8 * i) (by simp) (by unfold Sum.Reg; omega) h0 (by omega) (num_setd l i d b hi hb)
theorem getL_inj (a b : List UInt8) (h : a.length = b.length) (he : getL a = getL b) : a = b := by
  rw [← encN_getL a, ← encN_getL b, h, he]

/-- one byte another one: it is no image -/
theorem one_byte (l : List UInt8) (i d : Nat) (b : UInt8) (hE : opE l = 0) (hi : i < l.length) (hd : d < 256) (h0 : d ≠ 0) (hb : b.toNat = (l.getD i 0).toNat ^^^ d) : opE (l.set i b) ≠ 0 := by
  intro hE'
  have hB : opB l = true := by
    rw [opE] at hE; by_cases h : opB l = true
    · exact h
    · rw [if_neg h] at hE; cases hE
  have hB' : opB (l.set i b) = true := by
    rw [opE] at hE'; by_cases h : opB (l.set i b) = true
    · exact h
    · rw [if_neg h] at hE'; cases hE'
  have hC : F l 5 = opC l := by
    rw [opE, if_pos hB] at hE; by_cases h : F l 5 = opC l
    · exact h
    · rw [if_neg h] at hE; cases hE
  have hC' : F (l.set i b) 5 = opC (l.set i b) := by
    rw [opE, if_pos hB'] at hE'; by_cases h : F (l.set i b) 5 = opC (l.set i b)
    · exact h
    · rw [if_neg h] at hE'; cases hE'
  rw [F5_eq, opC_x hB] at hC
  rw [F5_eq, opC_x hB'] at hC'
  have hl := (opB_parts hB).1
  have hne : b ≠ l.getD i 0 := by
    intro e
    rw [e] at hb
    have h1 := congrArg (fun x => (l.getD i 0).toNat ^^^ x) hb
    simp only [← Nat.xor_assoc, Nat.xor_self, Nat.zero_xor] at h1
    exact h0 h1.symm
  by_cases h1 : 20 ≤ i ∧ i < 24
  · have hx : xL (l.set i b) = xL l := by
      unfold xL
      rw [List.take_set, List.set_eq_of_length_le (by simp; omega), List.drop_set, if_pos h1.2]
    rw [hx] at hC'
    have hg : getL (((l.set i b).drop 20).take 4) = getL ((l.drop 20).take 4) := by omega
    have hg' := getL_inj _ _ (by simp) hg
    have h2 := congrArg (fun x => x[i - 20]?) hg'
    simp only [List.getElem?_take, List.getElem?_drop] at h2
    rw [if_pos (by omega), if_pos (by omega), show 20 + (i - 20) = i by omega, List.getElem?_set_self hi, List.getElem?_eq_getElem hi] at h2
    apply hne
    rw [List.getD_eq_getElem?_getD, List.getElem?_eq_getElem hi]
    simpa using h2
  · have hs : ((l.set i b).drop 20).take 4 = (l.drop 20).take 4 := by
      rw [List.drop_set]
      split
      · rfl
      · rw [List.take_set, List.set_eq_of_length_le (by simp; omega)]
    rw [hs, hC] at hC'
    have hx : xL (l.set i b) = (xL l).set i b := by
      unfold xL
      rw [List.take_set, List.drop_set, List.set_append]
      by_cases h2 : i < 20
      · rw [if_pos (by omega), if_pos (by simp; omega)]
      · rw [if_neg (by omega), List.set_eq_of_length_le (by simp; omega), if_neg (by simp; omega), List.set_append, if_neg (by simp [zeros]; omega)]
        congr 3
        simp [zeros]; omega
    have hxl : (xL l).length = l.length := by simp [xL, zeros]; omega
    have hxi : (xL l).getD i 0 = l.getD i 0 := by
      rw [List.getD_eq_getElem?_getD, List.getD_eq_getElem?_getD]
      congr 1
      unfold xL
      by_cases h2 : i < 20
      · rw [List.getElem?_append_left (by simp; omega), List.getElem?_take, if_pos h2]
      · rw [List.getElem?_append_right (by simp; omega), List.getElem?_append_right (by simp [zeros]; omega), List.getElem?_drop]
        congr 1
        simp [zeros]; omega
    rw [hx] at hC'
    exact chk_set (xL l) i d b (by omega) hd h0 (by rw [hxi]; exact hb) (by omega)
end Go.Proofs.YtimdemdopnmijaaDoor.Env
