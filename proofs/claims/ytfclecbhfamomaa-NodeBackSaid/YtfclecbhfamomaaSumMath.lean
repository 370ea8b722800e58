/- Plain mathematics of layer 2 (sum): registers as numbers, steps, texts as numbers, checks. -/
namespace Go.Proofs.Ytfclecbhfamomaa.Sum

def pat : Nat := 2197175160
def full : Nat := 4294967295
/-- a register: 32 bits -/
def Reg (r : Nat) : Prop := r < 4294967296
def stp (r : Nat) : Nat := if r % 2 = 1 then (r / 2) ^^^ pat else r / 2
def stps : Nat → Nat → Nat
  | 0, r => r
  | n + 1, r => stp (stps n r)
def num : List UInt8 → Nat
  | [] => 0
  | b :: l => b.toNat + 256 * num l
def rgs (r : Nat) (l : List UInt8) : Nat := l.foldl (fun r b => stps 8 (r ^^^ b.toNat)) r
def chk (c : Nat) (l : List UInt8) : Nat := full - rgs (full - c) l
def tab (b : Nat) : Nat := stps 8 b

theorem xor4 (a b c d : Nat) : (a ^^^ b) ^^^ (c ^^^ d) = (a ^^^ c) ^^^ (b ^^^ d) := by
  apply Nat.eq_of_testBit_eq; intro i; simp only [Nat.testBit_xor]
  cases a.testBit i <;> cases b.testBit i <;> cases c.testBit i <;> cases d.testBit i <;> rfl
theorem xor_mod2 (a b : Nat) : (a ^^^ b) % 2 = (a % 2 + b % 2) % 2 := by
  have h : (a ^^^ b).testBit 0 = (a.testBit 0 ^^ b.testBit 0) := Nat.testBit_xor a b 0
  simp only [Nat.testBit_zero] at h
  rcases Nat.mod_two_eq_zero_or_one a with ha | ha <;> rcases Nat.mod_two_eq_zero_or_one b with hb | hb <;>
    rcases Nat.mod_two_eq_zero_or_one (a ^^^ b) with hc | hc <;> simp [ha, hb, hc] at h ⊢
theorem stp_xor (a b : Nat) : stp (a ^^^ b) = stp a ^^^ stp b := by
  unfold stp
  rw [xor_mod2, Nat.xor_div_two]
  rcases Nat.mod_two_eq_zero_or_one a with ha | ha <;> rcases Nat.mod_two_eq_zero_or_one b with hb | hb <;> simp [ha, hb]
  · rw [Nat.xor_assoc]
  · rw [Nat.xor_assoc, Nat.xor_assoc, Nat.xor_comm pat]
  · rw [xor4, Nat.xor_self, Nat.xor_zero]
theorem stps_xor (n : Nat) (a b : Nat) : stps n (a ^^^ b) = stps n a ^^^ stps n b := by
  induction n with
  | zero => rfl
  | succ n ih => show stp (stps n (a ^^^ b)) = _; rw [ih, stp_xor]; rfl
theorem stps_add (m n r : Nat) : stps (m + n) r = stps m (stps n r) := by
  induction m with
  | zero => rw [Nat.zero_add]; rfl
  | succ m ih => rw [Nat.add_right_comm]; show stp (stps (m + n) r) = stp (stps m (stps n r)); rw [ih]
theorem stp_two (x : Nat) : stp (2 * x) = x := by unfold stp; rw [if_neg (by omega)]; omega
theorem stps_pow (n x : Nat) : stps n (2 ^ n * x) = x := by
  induction n generalizing x with
  | zero => simp [stps]
  | succ n ih =>
    rw [show 2 ^ (n + 1) * x = 2 ^ n * (2 * x) by rw [Nat.pow_succ, Nat.mul_assoc]]
    show stp (stps n _) = _; rw [ih, stp_two]
theorem xor_lt (a b : Nat) (ha : Reg a) (hb : Reg b) : Reg (a ^^^ b) := by
  unfold Reg at *; exact Nat.xor_lt_two_pow (n := 32) ha hb
theorem stp_lt (r : Nat) (h : Reg r) : Reg (stp r) := by
  unfold stp; split
  · exact xor_lt _ _ (by unfold Reg at *; omega) (by unfold Reg pat; decide)
  · unfold Reg at *; omega
theorem stps_lt (n r : Nat) (h : Reg r) : Reg (stps n r) := by
  induction n with
  | zero => exact h
  | succ n ih => exact stp_lt _ ih
theorem xor_ne {a b : Nat} (h : a ^^^ b = 0) : a = b := by
  apply Nat.eq_of_testBit_eq; intro i
  have := congrArg (fun x => Nat.testBit x i) h
  simp only [Nat.testBit_xor, Nat.zero_testBit] at this
  revert this; cases a.testBit i <;> cases b.testBit i <;> simp
theorem stp_ne (r : Nat) (h : Reg r) (h0 : r ≠ 0) : stp r ≠ 0 := by
  unfold stp; unfold Reg at h; split
  · intro h1; have := xor_ne h1; unfold pat at this; omega
  · omega
theorem stps_ne (n r : Nat) (h : Reg r) (h0 : r ≠ 0) : stps n r ≠ 0 := by
  induction n with
  | zero => exact h0
  | succ n ih => exact stp_ne _ (stps_lt _ _ h) ih

theorem add_xor (b y : Nat) (hb : b < 256) : b + 256 * y = b ^^^ (256 * y) := by
  apply Nat.eq_of_testBit_eq; intro i
  rw [Nat.add_comm, Nat.testBit_xor, show 256 = 2 ^ 8 from rfl, Nat.testBit_two_pow_mul_add y (by simpa using hb), Nat.testBit_two_pow_mul]
  by_cases h : i < 8
  · rw [if_pos h, show decide (i ≥ 8) = false by simp; omega]; simp
  · have : b.testBit i = false := Nat.testBit_lt_two_pow (Nat.lt_of_lt_of_le hb (by
      have : 2 ^ 8 ≤ 2 ^ i := Nat.pow_le_pow_right (by omega) (by omega)
      simpa using this))
    rw [if_neg h, this, show decide (i ≥ 8) = true by simp; omega]; simp
theorem u8_lt (b : UInt8) : b.toNat < 256 := UInt8.toNat_lt b
theorem reg_u8 (b : UInt8) : Reg b.toNat := by have := u8_lt b; unfold Reg; omega

theorem rgs_cons (r : Nat) (b : UInt8) (l : List UInt8) : rgs r (b :: l) = rgs (stps 8 (r ^^^ b.toNat)) l := by unfold rgs; rw [List.foldl_cons]
theorem rgs_append (r : Nat) (a b : List UInt8) : rgs r (a ++ b) = rgs (rgs r a) b := by unfold rgs; rw [List.foldl_append]
theorem rgs_snoc (r : Nat) (l : List UInt8) (b : UInt8) : rgs r (l ++ [b]) = stps 8 (rgs r l ^^^ b.toNat) := by rw [rgs_append, rgs_cons]; unfold rgs; rw [List.foldl_nil]
theorem rgs_lt (r : Nat) (l : List UInt8) (h : Reg r) : Reg (rgs r l) := by
  induction l generalizing r with
  | nil => exact h
  | cons b l ih => rw [rgs_cons]; exact ih _ (stps_lt _ _ (xor_lt _ _ h (reg_u8 b)))
theorem rgs_num (r : Nat) (l : List UInt8) : rgs r l = stps (8 * l.length) (r ^^^ num l) := by
  induction l generalizing r with
  | nil => simp [rgs, num, stps]
  | cons b l ih =>
    rw [rgs_cons, ih, List.length_cons, show 8 * (l.length + 1) = 8 * l.length + 8 by omega, stps_add]
    congr 1
    rw [num, add_xor _ _ (u8_lt b), ← Nat.xor_assoc, stps_xor 8 _ (256 * num l), show 256 = 2 ^ 8 from rfl, stps_pow]

theorem reg_full : Reg full := by unfold Reg full; decide
theorem full_sub (y : Nat) (h : Reg y) : full - y = full ^^^ y := by
  apply Nat.eq_of_testBit_eq; intro i
  unfold Reg at h
  rw [Nat.testBit_xor, show full - y = 2 ^ 32 - (y + 1) by unfold full; omega, Nat.testBit_two_pow_sub_succ (by simpa using h), show full = 2 ^ 32 - 1 from rfl, Nat.testBit_two_pow_sub_one]
  by_cases hi : i < 32
  · simp [hi]
  · have : y.testBit i = false := Nat.testBit_lt_two_pow (Nat.lt_of_lt_of_le h (by
      have : 2 ^ 32 ≤ 2 ^ i := Nat.pow_le_pow_right (by omega) (by omega)
      simpa using this))
    simp [hi, this]
theorem full_lt (y : Nat) : Reg (full - y) := by unfold Reg full; omega
theorem full_full (y : Nat) (h : Reg y) : full - (full - y) = y := by unfold Reg at h; unfold full; omega
theorem chk_lt (c : Nat) (l : List UInt8) : Reg (chk c l) := full_lt _
theorem chk_append (c : Nat) (a b : List UInt8) : chk (chk c a) b = chk c (a ++ b) := by
  unfold chk; rw [full_full _ (rgs_lt _ _ (full_lt _)), rgs_append]
theorem chk_nil (c : Nat) (h : Reg c) : chk c [] = c := by unfold chk; exact full_full _ h

/-- what two texts of one length, behind any registers, have to do with one another -/
theorem rgs_diff (r r' : Nat) (l l' : List UInt8) (h : l.length = l'.length) : rgs r l ^^^ rgs r' l' = stps (8 * l.length) ((r ^^^ r') ^^^ (num l ^^^ num l')) := by
  rw [rgs_num, rgs_num, ← h, ← stps_xor, xor4]

/-- P2.1, P2.2: the same more behind: the same checks, or not -/
theorem chk_inj (c d : Nat) (l : List UInt8) (hc : Reg c) (hd : Reg d) (h : chk c l = chk d l) : c = d := by
  by_cases e : c = d
  · exact e
  exfalso
  have h1 : rgs (full - c) l = rgs (full - d) l := by
    rw [← full_full _ (rgs_lt (full - c) l (full_lt _)), ← full_full _ (rgs_lt (full - d) l (full_lt _))]
    exact congrArg (full - ·) h
  have h2 := rgs_diff (full - c) (full - d) l l rfl
  rw [h1, Nat.xor_self, Nat.xor_self, Nat.xor_zero] at h2
  refine stps_ne (8 * l.length) ((full - c) ^^^ (full - d)) (xor_lt _ _ (full_lt _) (full_lt _)) (fun h3 => ?_) h2.symm
  have := xor_ne h3
  unfold Reg at hc hd; unfold full at this; omega

theorem num_lt (l : List UInt8) (i : Nat) (h : 8 * l.length ≤ i) : (num l).testBit i = false := by
  induction l generalizing i with
  | nil => simp [num]
  | cons b l ih =>
    rw [List.length_cons] at h
    rw [num, Nat.add_comm, show 256 = 2 ^ 8 from rfl, Nat.testBit_two_pow_mul_add _ (by simpa using u8_lt b), if_neg (by omega)]
    exact ih _ (by omega)

/-- one bit of a text turned -/
theorem num_set (l : List UInt8) (i j : Nat) (b : UInt8) (hi : i < l.length) (hb : b.toNat = (l.getD i 0).toNat ^^^ 2 ^ j) :
    num (l.set i b) = num l ^^^ 2 ^ (8 * i + j) := by
  induction l generalizing i with
  | nil => simp at hi
  | cons c l ih =>
    cases i with
    | zero =>
      simp only [List.set_cons_zero, num, List.getD_cons_zero] at hb ⊢
      rw [add_xor _ _ (u8_lt b), add_xor _ _ (u8_lt c), hb, Nat.mul_zero, Nat.zero_add, Nat.xor_assoc, Nat.xor_comm (2 ^ j), ← Nat.xor_assoc]
    | succ i =>
      simp only [List.set_cons_succ, num, List.getD_cons_succ, List.length_cons] at hb hi ⊢
      rw [ih i (by omega) hb, add_xor _ _ (u8_lt c), add_xor _ _ (u8_lt c), Nat.xor_assoc]
      congr 1
      rw [show (256 : Nat) = 2 ^ 8 from rfl, show 8 * (i + 1) + j = 8 + (8 * i + j) by omega, Nat.pow_add 2 8]
      have := @Nat.shiftLeft_xor_distrib 8 (num l) (2 ^ (8 * i + j))
      simpa [Nat.shiftLeft_eq, Nat.mul_comm] using this

/-- P2.2: bits that stand together, turned -/
theorem chk_tells (l l' : List UInt8) (bits first : Nat) (hl : l'.length = l.length) (hb : Reg bits) (h0 : bits ≠ 0) (hf : first ≤ 8 * l.length)
    (hn : num l' = num l ^^^ 2 ^ first * bits) : chk 0 l' ≠ chk 0 l := by
  intro h
  have h1 : rgs (full - 0) l' = rgs (full - 0) l := by
    rw [← full_full _ (rgs_lt (full - 0) l' (full_lt _)), ← full_full _ (rgs_lt (full - 0) l (full_lt _))]
    exact congrArg (full - ·) h
  have h2 := rgs_diff (full - 0) (full - 0) l' l hl
  rw [h1, Nat.xor_self, Nat.xor_self, Nat.zero_xor, hn, Nat.xor_comm (num l), Nat.xor_assoc, Nat.xor_self, Nat.xor_zero, hl,
    show 8 * l.length = (8 * l.length - first) + first by omega, stps_add, stps_pow] at h2
  exact stps_ne _ _ hb h0 h2.symm

theorem xor3 (a b c : Nat) : (a ^^^ a) ^^^ (b ^^^ c) = b ^^^ c := by rw [Nat.xor_self, Nat.zero_xor]
/-- P2.2: three texts of one length, added byte by byte -/
def add3 : List UInt8 → List UInt8 → List UInt8 → List UInt8
  | x :: a, y :: b, z :: c => (x ^^^ y ^^^ z) :: add3 a b c
  | _, _, _ => []
theorem add3_length (a b c : List UInt8) (h1 : b.length = a.length) (h2 : c.length = a.length) : (add3 a b c).length = a.length := by
  induction a generalizing b c with
  | nil => cases b <;> cases c <;> simp_all [add3]
  | cons x a ih => cases b <;> cases c <;> simp_all [add3]
theorem add3_getD (a b c : List UInt8) (h1 : b.length = a.length) (h2 : c.length = a.length) (j : Nat) (hj : j < a.length) : (add3 a b c).getD j 0 = a.getD j 0 ^^^ b.getD j 0 ^^^ c.getD j 0 := by
  induction a generalizing b c j with
  | nil => simp at hj
  | cons x a ih =>
    cases b with
    | nil => simp at h1
    | cons y b =>
      cases c with
      | nil => simp at h2
      | cons z c =>
        simp only [List.length_cons, Nat.add_right_cancel_iff] at h1 h2
        cases j with
        | zero => simp [add3]
        | succ j => simp only [add3, List.getD_cons_succ]; exact ih b c h1 h2 j (by simpa using hj)
theorem num_add3 (a b c : List UInt8) (h1 : b.length = a.length) (h2 : c.length = a.length) : num (add3 a b c) = num a ^^^ num b ^^^ num c := by
  induction a generalizing b c with
  | nil => cases b <;> cases c <;> simp_all [add3, num]
  | cons x a ih =>
    cases b with
    | nil => simp at h1
    | cons y b =>
      cases c with
      | nil => simp at h2
      | cons z c =>
        simp only [List.length_cons, Nat.add_right_cancel_iff] at h1 h2
        simp only [add3, num]
        rw [ih b c h1 h2, add_xor _ _ (u8_lt _), add_xor _ _ (u8_lt x), add_xor _ _ (u8_lt y), add_xor _ _ (u8_lt z), UInt8.toNat_xor, UInt8.toNat_xor]
        have h3 : 256 * (num a ^^^ num b ^^^ num c) = (256 * num a) ^^^ (256 * num b) ^^^ (256 * num c) := by
          have e1 := @Nat.shiftLeft_xor_distrib 8 (num a ^^^ num b) (num c)
          have e2 := @Nat.shiftLeft_xor_distrib 8 (num a) (num b)
          rw [e2] at e1
          simpa [Nat.shiftLeft_eq, Nat.mul_comm] using e1
        rw [h3, xor4 (x.toNat) _ (y.toNat), xor4]
theorem chk_add3 (a b c : List UInt8) (h1 : b.length = a.length) (h2 : c.length = a.length) : chk 0 (add3 a b c) = chk 0 a ^^^ chk 0 b ^^^ chk 0 c := by
  unfold chk
  have hr := fun l => rgs_lt (full - 0) l (full_lt _)
  rw [full_sub _ (hr _), full_sub _ (hr _), full_sub _ (hr _), full_sub _ (hr _), Nat.sub_zero, xor4 full _ full, xor4 (full ^^^ full)]
  have e : full ^^^ full ^^^ full = full := by rw [Nat.xor_self, Nat.zero_xor]
  rw [e, rgs_num, rgs_num, rgs_num, rgs_num, add3_length a b c h1 h2, h1, h2, ← stps_xor, ← stps_xor, xor4 full _ full, xor4 (full ^^^ full), e, num_add3 a b c h1 h2]

/-- a table's answer for the lowest byte -/
theorem tab_step (r b : Nat) : (r / 256) ^^^ tab (r % 256 ^^^ b) = stps 8 (r ^^^ b) := by
  have e : r = r % 256 ^^^ (256 * (r / 256)) := by rw [← add_xor _ _ (by omega)]; omega
  conv => rhs; rw [e, Nat.xor_assoc, Nat.xor_comm (256 * _), ← Nat.xor_assoc, stps_xor, show 256 * (r / 256) = 2 ^ 8 * (r / 256) from rfl, stps_pow, Nat.xor_comm]
  rfl
end Go.Proofs.Ytfclecbhfamomaa.Sum
