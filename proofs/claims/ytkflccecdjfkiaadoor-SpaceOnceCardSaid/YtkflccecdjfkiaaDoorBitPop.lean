/- Plain mathematics of counting bits: the steps by which math/bits counts those of a word. -/
import Derived.Lib.TrailingZeros
namespace Go.Proofs.YtkflccecdjfkiaaDoor.Bit
/-- how many of the first n bits are set -/
def popN : Nat → Nat → Nat
  | 0, _ => 0
  | n + 1, x => popN n x + (x.testBit n).toNat
theorem popN_split (m : Nat) (x : Nat) : ∀ n, popN (m + n) x = popN m x + popN n (x / 2 ^ m)
  | 0 => rfl
  | n + 1 => by
    rw [← Nat.add_assoc, popN, popN_split m x n, popN, Nat.testBit_div_two_pow, Nat.add_assoc, Nat.add_comm n m]
theorem popN_mod (m : Nat) (x : Nat) : ∀ n, n ≤ m → popN n (x % 2 ^ m) = popN n x
  | 0, _ => rfl
  | n + 1, h => by
    rw [popN, popN_mod m x n (by omega), popN, Nat.testBit_mod_two_pow, decide_eq_true (show n < m by omega), Bool.true_and]
theorem popN_le (x : Nat) : ∀ n, popN n x ≤ n
  | 0 => Nat.le_refl _
  | n + 1 => by have := popN_le x n; have := Bool.toNat_le (x.testBit n); rw [popN]; omega
/-- a byte ahead of the rest -/
theorem and_byte (d a e b : Nat) (hd : d < 256) (he : e < 256) : (d + 256 * a) &&& (e + 256 * b) = (d &&& e) + 256 * (a &&& b) := by
  apply Nat.eq_of_testBit_eq
  intro i
  have h1 := Nat.testBit_two_pow_mul_add (i := 8) a hd i
  have h2 := Nat.testBit_two_pow_mul_add (i := 8) b he i
  have h3 := Nat.testBit_two_pow_mul_add (i := 8) (a &&& b) (show d &&& e < 2 ^ 8 from Nat.and_lt_two_pow _ (by omega)) i
  rw [Nat.testBit_and, show d + 256 * a = 2 ^ 8 * a + d by omega, show e + 256 * b = 2 ^ 8 * b + e by omega, show (d &&& e) + 256 * (a &&& b) = 2 ^ 8 * (a &&& b) + (d &&& e) by omega, h1, h2, h3]
  split <;> simp
/-- the number of these bytes -/
def ofB : List Nat → Nat
  | [] => 0
  | d :: r => d + 256 * ofB r
def rep (m : Nat) : Nat → Nat
  | 0 => 0
  | n + 1 => m + 256 * rep m n
def g1 (d : Nat) : Nat := (d / 2 &&& 0x55) + (d &&& 0x55)
def g2 (d : Nat) : Nat := (d / 4 &&& 0x33) + (d &&& 0x33)
def g3 (d : Nat) : Nat := (d / 16 + d) &&& 0xf
theorem low1 : ∀ d, d < 256 → ∀ r, r < 2 → (d / 2 + 128 * r) &&& 0x55 = d / 2 &&& 0x55 := by decide +kernel
theorem low2 : ∀ d, d < 256 → ∀ r, r < 4 → (d / 4 + 64 * r) &&& 0x33 = d / 4 &&& 0x33 := by decide +kernel
theorem low3 : ∀ d, d < 256 → d % 16 ≤ 4 ∧ d / 16 ≤ 4 → ∀ r, r < 5 → (d / 16 + d + 16 * r) &&& 0xf = g3 d ∧ d / 16 + d + 16 * r < 256 := by decide +kernel
theorem byte1 : ∀ d, d < 256 → g1 d < 256 ∧ g2 (g1 d) < 256 ∧ (g2 (g1 d) % 16 ≤ 4 ∧ g2 (g1 d) / 16 ≤ 4) ∧ g3 (g2 (g1 d)) ≤ 8 ∧ g3 (g2 (g1 d)) = popN 8 d := by decide +kernel
theorem step1 : ∀ l : List Nat, (∀ d ∈ l, d < 256) → (ofB l / 2 &&& rep 0x55 l.length) + (ofB l &&& rep 0x55 l.length) = ofB (l.map g1)
  | [], _ => rfl
  | d :: r, h => by
    have hd := h d (by simp)
    have ih := step1 r fun d hd => h d (by simp [hd])
    obtain ⟨q, hq⟩ : ∃ q, q = ofB r := ⟨_, rfl⟩
    show ((d + 256 * ofB r) / 2 &&& (0x55 + 256 * rep 0x55 r.length)) + ((d + 256 * ofB r) &&& (0x55 + 256 * rep 0x55 r.length)) = g1 d + 256 * ofB (r.map g1)
    rw [← ih, ← hq, show (d + 256 * q) / 2 = (d / 2 + 128 * (q % 2)) + 256 * (q / 2) by omega, and_byte _ _ _ _ (by omega) (by decide), and_byte _ _ _ _ hd (by decide), low1 d hd _ (by omega), g1]
    omega
theorem step2 : ∀ l : List Nat, (∀ d ∈ l, d < 256) → (ofB l / 4 &&& rep 0x33 l.length) + (ofB l &&& rep 0x33 l.length) = ofB (l.map g2)
  | [], _ => rfl
  | d :: r, h => by
    have hd := h d (by simp)
    have ih := step2 r fun d hd => h d (by simp [hd])
    obtain ⟨q, hq⟩ : ∃ q, q = ofB r := ⟨_, rfl⟩
    show ((d + 256 * ofB r) / 4 &&& (0x33 + 256 * rep 0x33 r.length)) + ((d + 256 * ofB r) &&& (0x33 + 256 * rep 0x33 r.length)) = g2 d + 256 * ofB (r.map g2)
    rw [← ih, ← hq, show (d + 256 * q) / 4 = (d / 4 + 64 * (q % 4)) + 256 * (q / 4) by omega, and_byte _ _ _ _ (by omega) (by decide), and_byte _ _ _ _ hd (by decide), low2 d hd _ (by omega), g2]
    omega
theorem ofB_low (l : List Nat) (h : ∀ d ∈ l, d < 256 ∧ d % 16 ≤ 4) : ofB l % 16 < 5 := by
  match l with
  | [] => decide
  | d :: r => have := h d (by simp); show (d + 256 * ofB r) % 16 < 5; omega
theorem step3 : ∀ l : List Nat, (∀ d ∈ l, d < 256 ∧ d % 16 ≤ 4 ∧ d / 16 ≤ 4) → (ofB l / 16 + ofB l) &&& rep 0xf l.length = ofB (l.map g3)
  | [], _ => rfl
  | d :: r, h => by
    obtain ⟨hd, h4⟩ := h d (by simp)
    have ih := step3 r fun d hd => h d (by simp [hd])
    have hl := ofB_low r fun d hd => ⟨(h d (by simp [hd])).1, (h d (by simp [hd])).2.1⟩
    obtain ⟨q, hq⟩ : ∃ q, q = ofB r := ⟨_, rfl⟩
    show ((d + 256 * ofB r) / 16 + (d + 256 * ofB r)) &&& (0xf + 256 * rep 0xf r.length) = g3 d + 256 * ofB (r.map g3)
    rw [← hq] at hl ih ⊢
    obtain ⟨k1, k2⟩ := low3 d hd h4 (q % 16) hl
    rw [← ih, show (d + 256 * q) / 16 + (d + 256 * q) = (d / 16 + d + 16 * (q % 16)) + 256 * (q / 16 + q) by omega, and_byte _ _ _ _ k2 (by decide), k1]
/-- bytes that are all below 9: what the last three steps make of them -/
theorem fold8 (c0 c1 c2 c3 c4 c5 c6 c7 x y z : Nat) (h0 : c0 ≤ 8) (h1 : c1 ≤ 8) (h2 : c2 ≤ 8) (h3 : c3 ≤ 8) (h4 : c4 ≤ 8) (h5 : c5 ≤ 8) (h6 : c6 ≤ 8) (h7 : c7 ≤ 8) (hx : x = ofB [c0, c1, c2, c3, c4, c5, c6, c7]) (hy : y = x + x / 256) (hz : z = y + y / 65536) :
    (z + z / 4294967296) % 128 = c0 + c1 + c2 + c3 + c4 + c5 + c6 + c7 ∧ y < 18446744073709551616 ∧ z < 18446744073709551616 ∧ z + z / 4294967296 < 18446744073709551616 := by
  have dv : ∀ a q : Nat, a < 256 → (a + 256 * q) / 256 = q := fun a q h => by omega
  have e1 : x / 256 = ofB [c1, c2, c3, c4, c5, c6, c7] := by rw [hx]; exact dv _ _ (by omega)
  have hy2 : y = ofB [c0 + c1, c1 + c2, c2 + c3, c3 + c4, c4 + c5, c5 + c6, c6 + c7, c7] := by
    rw [hy, e1, hx]; simp only [ofB]; clear hx hy hz e1 dv; omega
  have e2 : y / 65536 = ofB [c2 + c3, c3 + c4, c4 + c5, c5 + c6, c6 + c7, c7] := by
    rw [hy2, show (65536 : Nat) = 256 * 256 from rfl, ← Nat.div_div_eq_div_mul]
    rw [show ofB [c0 + c1, c1 + c2, c2 + c3, c3 + c4, c4 + c5, c5 + c6, c6 + c7, c7] = (c0 + c1) + 256 * ((c1 + c2) + 256 * ofB [c2 + c3, c3 + c4, c4 + c5, c5 + c6, c6 + c7, c7]) from rfl, dv _ _ (by omega), dv _ _ (by omega)]
  have hz2 : z = ofB [c0 + c1 + c2 + c3, c1 + c2 + c3 + c4, c2 + c3 + c4 + c5, c3 + c4 + c5 + c6, c4 + c5 + c6 + c7, c5 + c6 + c7, c6 + c7, c7] := by
    rw [hz, e2, hy2]; simp only [ofB]; clear hx hy hz e1 e2 hy2 dv; omega
  have e3 : z / 4294967296 = ofB [c4 + c5 + c6 + c7, c5 + c6 + c7, c6 + c7, c7] := by
    rw [hz2, show (4294967296 : Nat) = 256 * 256 * 256 * 256 from rfl, ← Nat.div_div_eq_div_mul, ← Nat.div_div_eq_div_mul, ← Nat.div_div_eq_div_mul]
    rw [show ofB [c0 + c1 + c2 + c3, c1 + c2 + c3 + c4, c2 + c3 + c4 + c5, c3 + c4 + c5 + c6, c4 + c5 + c6 + c7, c5 + c6 + c7, c6 + c7, c7] = (c0 + c1 + c2 + c3) + 256 * ((c1 + c2 + c3 + c4) + 256 * ((c2 + c3 + c4 + c5) + 256 * ((c3 + c4 + c5 + c6) + 256 * ofB [c4 + c5 + c6 + c7, c5 + c6 + c7, c6 + c7, c7]))) from rfl, dv _ _ (by omega), dv _ _ (by omega), dv _ _ (by omega), dv _ _ (by omega)]
  have by_ : y < 18446744073709551616 := by
    rw [hy2]; simp only [ofB]; clear hx hy hz e1 e2 e3 hy2 hz2 dv; omega
  have bz : z < 18446744073709551616 := by
    rw [hz2]; simp only [ofB]; clear hx hy hz e1 e2 e3 hy2 hz2 dv by_; omega
  have hw : z + z / 4294967296 = (c0 + c1 + c2 + c3 + c4 + c5 + c6 + c7) + 256 * ofB [c1 + c2 + c3 + c4 + c5 + c6 + c7, c2 + c3 + c4 + c5 + c6 + c7, c3 + c4 + c5 + c6 + c7, c4 + c5 + c6 + c7, c5 + c6 + c7, c6 + c7, c7] := by
    rw [e3, hz2]; simp only [ofB]; clear hx hy hz e1 e2 e3 hy2 hz2 dv by_ bz; omega
  refine ⟨?_, by_, bz, ?_⟩
  · rw [hw]; clear hx hy hz e1 e2 e3 hy2 hz2 dv by_ bz hw; generalize ofB _ = q; omega
  · rw [hw]; simp only [ofB]; clear hx hy hz e1 e2 e3 hy2 hz2 dv by_ bz hw; omega
def bytes8 (x : Nat) : List Nat := [x % 256, x / 256 % 256, x / 65536 % 256, x / 16777216 % 256, x / 4294967296 % 256, x / 1099511627776 % 256, x / 281474976710656 % 256, x / 72057594037927936]
theorem ofB_bytes (x : Nat) : ofB (bytes8 x) = x := by simp only [ofB, bytes8]; omega
theorem bytes8_lt (x : Nat) (h : x < 18446744073709551616) : ∀ d ∈ bytes8 x, d < 256 := by
  intro d hd; simp only [bytes8, List.mem_cons, List.mem_nil_iff, or_false] at hd; omega
theorem popN_bytes (x : Nat) : popN 64 x = popN 8 (x % 256) + popN 8 (x / 256 % 256) + popN 8 (x / 65536 % 256) + popN 8 (x / 16777216 % 256) + popN 8 (x / 4294967296 % 256) + popN 8 (x / 1099511627776 % 256) + popN 8 (x / 281474976710656 % 256) + popN 8 (x / 72057594037927936) := by
  have e := fun y => popN_mod 8 y 8 (Nat.le_refl _)
  simp only [show (2:Nat) ^ 8 = 256 from rfl] at e
  rw [show (64 : Nat) = 8 + (8 + (8 + (8 + (8 + (8 + (8 + 8)))))) from rfl, popN_split 8, popN_split 8, popN_split 8, popN_split 8, popN_split 8, popN_split 8, popN_split 8]
  simp only [e, Nat.div_div_eq_div_mul, show (2:Nat) ^ 8 = 256 from rfl, show 256 * 256 = 65536 from rfl, show 65536 * 256 = 16777216 from rfl, show 16777216 * 256 = 4294967296 from rfl, show 4294967296 * 256 = 1099511627776 from rfl, show 1099511627776 * 256 = 281474976710656 from rfl, show 281474976710656 * 256 = 72057594037927936 from rfl, Nat.add_assoc]
theorem ofB_lt : ∀ l : List Nat, (∀ d ∈ l, d < 256) → ofB l < 256 ^ l.length
  | [], _ => by decide
  | d :: r, h => by
    have hd := h d (by simp)
    have ih := ofB_lt r fun d hd => h d (by simp [hd])
    show d + 256 * ofB r < 256 ^ (r.length + 1)
    rw [Nat.pow_succ]; generalize 256 ^ r.length = p at *; generalize ofB r = q at *; omega
theorem ofB_lt68 : ∀ l : List Nat, (∀ d ∈ l, d ≤ 68) → ofB l ≤ rep 68 l.length
  | [], _ => by decide
  | d :: r, h => by
    have hd := h d (by simp)
    have ih := ofB_lt68 r fun d hd => h d (by simp [hd])
    show d + 256 * ofB r ≤ 68 + 256 * rep 68 r.length
    generalize rep 68 r.length = p at *; generalize ofB r = q at *; omega
/-- the three masked steps, and what the rest makes of them -/
theorem popcount (x u1 u2 u3 : Nat) (hx : x < 18446744073709551616)
    (h1 : u1 = (x / 2 &&& 6148914691236517205) + (x &&& 6148914691236517205)) (h2 : u2 = (u1 / 4 &&& 3689348814741910323) + (u1 &&& 3689348814741910323))
    (h3 : u3 = (u2 / 16 + u2) &&& 1085102592571150095) (y z : Nat) (hy : y = u3 + u3 / 256) (hz : z = y + y / 65536) :
    (z + z / 4294967296) % 128 = popN 64 x ∧ u1 < 18446744073709551616 ∧ u2 < 18446744073709551616 ∧ u2 / 16 + u2 < 18446744073709551616 ∧ u3 < 18446744073709551616 ∧ y < 18446744073709551616 ∧ z < 18446744073709551616 ∧ z + z / 4294967296 < 18446744073709551616 := by
  have hb := bytes8_lt x hx
  have q1 := step1 (bytes8 x) hb
  rw [ofB_bytes, show rep 0x55 (bytes8 x).length = 6148914691236517205 from rfl, ← h1] at q1
  have m1 : ∀ d ∈ (bytes8 x).map g1, d < 256 := by intro d hd; obtain ⟨d', hd', rfl⟩ := List.mem_map.1 hd; exact (byte1 d' (hb d' hd')).1
  have q2 := step2 ((bytes8 x).map g1) m1
  rw [List.length_map, show rep 0x33 (bytes8 x).length = 3689348814741910323 from rfl, ← q1, ← h2] at q2
  have m2 : ∀ d ∈ ((bytes8 x).map g1).map g2, d < 256 ∧ d % 16 ≤ 4 ∧ d / 16 ≤ 4 := by intro d hd; obtain ⟨d1, hd1, rfl⟩ := List.mem_map.1 hd; obtain ⟨d', hd', rfl⟩ := List.mem_map.1 hd1; have := byte1 d' (hb d' hd'); exact ⟨this.2.1, this.2.2.1⟩
  have q3 := step3 (((bytes8 x).map g1).map g2) m2
  rw [List.length_map, List.length_map, show rep 0xf (bytes8 x).length = 1085102592571150095 from rfl, ← q2, ← h3] at q3
  have hc : ∀ d ∈ bytes8 x, g3 (g2 (g1 d)) ≤ 8 ∧ g3 (g2 (g1 d)) = popN 8 d := fun d hd => (byte1 d (hb d hd)).2.2.2
  have hu1 : u1 < 18446744073709551616 := by
    have h := ofB_lt _ m1
    rw [List.length_map, show (bytes8 x).length = 8 from rfl, ← q1] at h
    exact Nat.lt_of_lt_of_eq h (by decide)
  have hu2 : u2 ≤ 4919131752989213764 := by
    have h := ofB_lt68 (((bytes8 x).map g1).map g2) (fun d hd => by have := m2 d hd; omega)
    rw [List.length_map, List.length_map, show (bytes8 x).length = 8 from rfl, ← q2] at h
    exact Nat.le_trans h (by decide)
  have hu3 : u3 < 18446744073709551616 := by
    rw [h3]; exact Nat.lt_of_le_of_lt Nat.and_le_right (by decide)
  have k0 := hc (x % 256) (by simp [bytes8])
  have k1 := hc (x / 256 % 256) (by simp [bytes8])
  have k2 := hc (x / 65536 % 256) (by simp [bytes8])
  have k3 := hc (x / 16777216 % 256) (by simp [bytes8])
  have k4 := hc (x / 4294967296 % 256) (by simp [bytes8])
  have k5 := hc (x / 1099511627776 % 256) (by simp [bytes8])
  have k6 := hc (x / 281474976710656 % 256) (by simp [bytes8])
  have k7 := hc (x / 72057594037927936) (by simp [bytes8])
  obtain ⟨r1, r2, r3, r4⟩ := fold8 _ _ _ _ _ _ _ _ u3 y z k0.1 k1.1 k2.1 k3.1 k4.1 k5.1 k6.1 k7.1 q3 hy hz
  refine ⟨?_, hu1, by clear q1 q2 q3 h1 h2 h3 hy hz hb hc r1 r2 r3 r4 k0 k1 k2 k3 k4 k5 k6 k7 m1 m2; omega, by clear q1 q2 q3 h1 h2 h3 hy hz hb hc r1 r2 r3 r4 k0 k1 k2 k3 k4 k5 k6 k7 m1 m2; omega, hu3, r2, r3, r4⟩
  rw [r1, popN_bytes, k0.2, k1.2, k2.2, k3.2, k4.2, k5.2, k6.2, k7.2]
end Go.Proofs.YtkflccecdjfkiaaDoor.Bit
