/- The reference's xor, Take, Of; Of and On told so that calls follow one another. -/
import Derived.WalkSmall
import Derived.Test.YtomhalcoomdadaaSumB
namespace Go.Proofs.Ytomhalcoomdadaa.Sum
open Go.RowKit Go.Proofs.Ytomhalcoomdadaa
set_option linter.unusedVariables false

/-- the reference's own exclusive or of 32 bits -/
theorem xor_round (a b i : Nat) : (a ^^^ b) % 2 ^ (i + 1) = (a ^^^ b) % 2 ^ i + (if a / 2 ^ i % 2 ≠ b / 2 ^ i % 2 then 2 ^ i else 0) := by
  have h := xor_mod2 (a / 2 ^ i) (b / 2 ^ i)
  rw [← Nat.xor_div_two_pow] at h
  have e : (a ^^^ b) % 2 ^ (i + 1) = (a ^^^ b) % 2 ^ i + 2 ^ i * ((a ^^^ b) / 2 ^ i % 2) := by
    rw [Nat.pow_succ, Nat.mod_mul]
  rw [e, h]
  rcases Nat.mod_two_eq_zero_or_one (a / 2 ^ i) with ha | ha <;> rcases Nat.mod_two_eq_zero_or_one (b / 2 ^ i) with hb | hb <;> simp [ha, hb]
theorem div_round (a i : Nat) : a / 2 ^ i / 2 = a / 2 ^ (i + 1) := by rw [Nat.div_div_eq_div_mul, Nat.pow_succ]
theorem pow_bd (i : Nat) (h : i < 32) : 2 ^ i ≤ 2147483648 ∧ (2 : Nat) ^ (i + 1) = 2 * 2 ^ i := by
  refine ⟨?_, by rw [Nat.pow_succ, Nat.mul_comm]⟩
  have : 2 ^ i ≤ 2 ^ 31 := Nat.pow_le_pow_right (by decide) (by omega)
  simpa using this
theorem mod_bd (x i : Nat) (h : i < 32) : x % 2 ^ i < 2147483648 := by
  have := (pow_bd i h).1
  have := Nat.mod_lt x (Nat.two_pow_pos i)
  omega

theorem wrap_half (x : Nat) (h : x < 18446744073709551616) : IntKind.u64.wrap ((x : Int) / 2) = ((x / 2 : Nat) : Int) := by rw [IntKind.wrap_u64]; omega
theorem int_k {k : IntKind} {a b : Int} (h : a = b) : Value.int k a = .int k b := by rw [h]
theorem xor_any (a b : Nat) (w : World) (ha : a < 18446744073709551616) (hb : b < 18446744073709551616) :
    Calls Try.prog 50 #[.int .u64 a, .int .u64 b] w fun e w' => e = .returned (.int .u64 ((a ^^^ b) % 2 ^ 32 : Nat)) ∧ w = w' := by
  have HA := Lib.hid ha
  have HB := Lib.hid hb
  clear ha hb
  go_enter Try.func50, Try.ntmps50
  go_wp2
  go_loop [0, 1, 5, 6, 7] (fun x y n p i => ∃ k : Nat, k ≤ 32 ∧ i = .int .i64 k ∧ x = .int .u64 (a / 2 ^ k : Nat) ∧ y = .int .u64 (b / 2 ^ k : Nat) ∧ n = .int .u64 ((a ^^^ b) % 2 ^ k : Nat) ∧ p = .int .u64 (2 ^ k : Nat)) (fun _ _ _ _ i => 32 - (intOf i).toNat)
  case atStart => exact ⟨0, by omega, rfl, by simp, by simp, by simp [Nat.mod_one], rfl⟩
  case round =>
    obtain ⟨k, hk, rfl, rfl, rfl, rfl, rfl⟩ := hrel
    by_cases hlt : k < 32
    · obtain ⟨x, hx⟩ : ∃ x, x = a / 2 ^ k := ⟨_, rfl⟩
      obtain ⟨y, hy⟩ : ∃ y, y = b / 2 ^ k := ⟨_, rfl⟩
      obtain ⟨n, hn⟩ : ∃ n, n = (a ^^^ b) % 2 ^ k := ⟨_, rfl⟩
      obtain ⟨p, hp⟩ : ∃ p, p = 2 ^ k := ⟨_, rfl⟩
      have hn1 : n < 2147483648 := by rw [hn]; exact mod_bd _ _ hlt
      have hp1 : p ≤ 2147483648 := by rw [hp]; exact (pow_bd k hlt).1
      have hr := xor_round a b k
      rw [← hx, ← hy, ← hn, ← hp] at hr ⊢
      have HXB := Lib.hid (show x < 18446744073709551616 from Nat.lt_of_le_of_lt (by rw [hx]; exact Nat.div_le_self _ _) HA.out)
      have HYB := Lib.hid (show y < 18446744073709551616 from Nat.lt_of_le_of_lt (by rw [hy]; exact Nat.div_le_self _ _) HB.out)
      have h2 := div_round a k
      have h3 := div_round b k
      rw [← hx] at h2
      rw [← hy] at h3
      have h4 := (pow_bd k hlt).2
      rw [← hp] at h4
      have H2 := Lib.hid h2
      have H3 := Lib.hid h3
      have H4 := Lib.hid h4
      clear hx hy hn hp h2 h3 h4
      have hxy : (x % 2 ≠ y % 2) ∨ ¬ (x % 2 ≠ y % 2) := Classical.em _
      rcases hxy with hxy | hxy
      · rw [if_pos hxy] at hr
        have HR := Lib.hid hr
        have ht : ((x : Int) % 2 != (y : Int) % 2) = true := by simp; omega
        clear hr hxy
        go_wp2
        go_round
        case rel => exact ⟨k + 1, by omega, by go_num, int_k (by rw [wrap_half x HXB.out, H2.out]), int_k (by rw [wrap_half y HYB.out, H3.out]), int_k (by rw [HR.out]; omega), int_k (by rw [H4.out]; omega)⟩
        case measure => simp [intOf]; omega
      · rw [if_neg hxy] at hr
        have HR := Lib.hid hr
        have ht : ((x : Int) % 2 != (y : Int) % 2) = false := by simp at hxy ⊢; omega
        clear hr hxy
        go_wp2
        go_round
        case rel => exact ⟨k + 1, by omega, by go_num, int_k (by rw [wrap_half x HXB.out, H2.out]), int_k (by rw [wrap_half y HYB.out, H3.out]), int_k (by rw [HR.out]; omega), int_k (by rw [H4.out]; omega)⟩
        case measure => simp [intOf]; omega
    · obtain rfl : k = 32 := by omega
      go_wp2
      go_ret
      exact ⟨rfl, rfl⟩

theorem mod_reg (x : Nat) (h : Reg x) : x % 2 ^ 32 = x := Nat.mod_eq_of_lt h
theorem reg_u64 (x : Nat) (h : Reg x) : x < 18446744073709551616 := by unfold Reg at h; omega
theorem reg_pat : Reg pat := by unfold Reg pat; decide

theorem take_any (r : Nat) (b : Nat) (w : World) (hr : Reg r) (hb : b < 256) :
    Calls Try.prog 49 #[.int .u64 r, .int .u8 b] w fun e w' => e = .returned (.int .u64 (stps 8 (r ^^^ b) : Nat)) ∧ w = w' := by
  have hb32 : Reg b := by unfold Reg; omega
  have H0 := Lib.hid (xor_lt r b hr hb32)
  have HR := Lib.hid (reg_u64 r hr)
  have HB := Lib.hid (reg_u64 b hb32)
  have HP := Lib.hid (reg_u64 pat reg_pat)
  have hpat : (pat : Int) = 2197175160 := rfl
  have HPAT := Lib.hid hpat
  clear hr hb32 hpat
  go_enter Try.func49, Try.ntmps49
  go_wp2_with fail
  refine (xor_any r b _ HR.out HB.out).mono ?_
  rintro e w' ⟨rfl, rfl⟩
  rw [mod_reg _ H0.out]
  go_wp2_with fail
  go_loop [0, 5] (fun x i => ∃ k : Nat, k ≤ 8 ∧ i = .int .i64 k ∧ x = .int .u64 (stps k (r ^^^ b) : Nat)) (fun _ i => 8 - (intOf i).toNat)
  case atStart => exact ⟨0, by omega, rfl, rfl⟩
  case round =>
    obtain ⟨k, hk, rfl, rfl⟩ := hrel
    have HK := Lib.hid (stps_lt k (r ^^^ b) H0.out)
    obtain ⟨x, hx⟩ : ∃ x, x = stps k (r ^^^ b) := ⟨_, rfl⟩
    rw [← hx] at HK ⊢
    have HX := Lib.hid hx
    clear hx
    by_cases hlt : k < 8
    · have hw := wrap_half x (reg_u64 x HK.out)
      have HW := Lib.hid hw
      clear hw
      have HX2 := Lib.hid (reg_u64 (x / 2) (by have := HK.out; unfold Reg at this ⊢; omega))
      by_cases h1 : x % 2 = 1
      · have ht : ((x : Int) % 2 == 1) = true := by simp; omega
        have HS := Lib.hid (show stp x = x / 2 ^^^ pat by unfold stp; rw [if_pos h1])
        have HL := Lib.hid (mod_reg _ (xor_lt (x / 2) pat (by have := HK.out; unfold Reg at this ⊢; omega) reg_pat))
        clear h1
        go_wp2_with fail
        rw [HW.out, ← HPAT.out]
        refine (xor_any (x / 2) pat _ HX2.out HP.out).mono ?_
        rintro e w' ⟨rfl, rfl⟩
        rw [HL.out]
        go_wp2_with fail
        go_round
        case rel => exact ⟨k + 1, by omega, by go_num, int_k (by rw [stps, ← HX.out, HS.out])⟩
        case measure => simp [intOf]; omega
      · have ht : ((x : Int) % 2 == 1) = false := by simp; omega
        have HS := Lib.hid (show stp x = x / 2 by unfold stp; rw [if_neg h1])
        clear h1
        go_wp2_with fail
        go_round
        case rel => exact ⟨k + 1, by omega, by go_num, int_k (by rw [HW.out, stps, ← HX.out, HS.out])⟩
        case measure => simp [intOf]; omega
    · obtain rfl : k = 8 := by omega
      go_wp2
      go_ret
      exact ⟨ret_k (by rw [HX.out]), rfl⟩

theorem refOf_any (s : ByteArray) (w : World) (hs : s.size ≤ 1000000) :
    Calls Try.prog 38 #[.string s] w fun e w' => e = .returned (.int .u64 (chk 0 s.data.toList : Nat)) ∧ w = w' := by
  go_enter Try.func38, Try.ntmps38
  go_wp2
  go_loop [3, 4] (fun a i => ∃ k : Nat, k ≤ s.size ∧ i = .int .i64 k ∧ a = .int .u64 (rgs full (s.data.toList.take k) : Nat)) (fun _ i => s.size - (intOf i).toNat)
  case atStart => exact ⟨0, by omega, rfl, rfl⟩
  case round =>
    obtain ⟨k, hk, rfl, rfl⟩ := hrel
    have HK := Lib.hid (rgs_lt full (s.data.toList.take k) reg_full)
    obtain ⟨x, hx⟩ : ∃ x, x = rgs full (s.data.toList.take k) := ⟨_, rfl⟩
    rw [← hx] at HK ⊢
    have HX := Lib.hid hx
    clear hx
    by_cases hlt : k < s.size
    · have HTS := Lib.hid (take_snoc s k hlt)
      go_wp2_with fail
      refine (take_any x s[k].toNat _ HK.out (u8_lt _)).mono ?_
      rintro e w' ⟨rfl, rfl⟩
      go_wp2_with fail
      go_round
      case rel => exact ⟨k + 1, by omega, by go_num, int_k (by rw [HTS.out, rgs_snoc, ← HX.out])⟩
      case measure => simp [intOf]; omega
    · obtain rfl : k = s.size := by omega
      have hx1 : (x : Int) ≤ 4294967295 := by have := HK.out; unfold Reg at this; omega
      have hx0 : (0 : Int) ≤ 4294967295 - x := by omega
      have HF := Lib.hid (show (4294967295 - (x : Int)) = ((full - x : Nat) : Int) by unfold full; omega)
      go_wp2
      go_ret
      exact ⟨ret_k (by rw [HF.out, HX.out, List.take_of_length_le (by simp)]; unfold chk; rw [Nat.sub_zero]), rfl⟩

theorem cat_one (u : ByteArray) : cat [u] = u.data.toList := by simp [cat]
theorem cat_two (u v : ByteArray) : cat [u, v] = (u ++ v).data.toList := by simp [cat]
theorem u64_reg (x : Nat) (h : Reg x) : IntKind.u64.wrap (x : Int) = x := by rw [IntKind.wrap_u64]; unfold Reg at h; omega

/-- On, told so that calls follow one another -/
theorem on1_any (b c : Nat) (s : ByteArray) (w : World) (ht : IsTab w b) (hc : Reg c) (hs : s.size ≤ 1000000) :
    Calls Try.prog 47 #[.pointer (some ⟨b, 0, none⟩), .int .u32 c, .string s] w fun e w' => e = .returned (.int .u32 (chk c s.data.toList)) ∧ IsTab w' b ∧ Below w.heap.size w w' :=
  (on_any b c s w ht hc hs).mono fun _ _ ⟨he, n, hw⟩ => ⟨he, by rw [hw]; exact ht.drewN n, by rw [hw]; exact below_drewN (Below.refl _ _) n⟩
/-- Of one text, and of two, whose list was just made -/
theorem of1_any (b : Nat) (u : ByteArray) (w : World) (ht : IsTab w b) (hu : u.size ≤ 1000000) :
    Calls Try.prog 36 #[.pointer (some ⟨b, 0, none⟩), .slice (some ⟨w.heap.size, 0, none⟩) 1 1] (w.alloc (.cells #[.string u] 9)) fun e w' => e = .returned (.int .u32 (chk 0 u.data.toList)) ∧ IsTab w' b ∧ Below w.heap.size w w' := by
  have hb : Below w.heap.size w (w.alloc (.cells #[.string u] 9)) := (Below.refl w.heap.size w).alloc (Nat.le_refl _) _
  have ht1 := ht.below hb (Nat.le_refl _)
  refine (of_any b _ 1 1 [u] _ ht1 (StrRow.one w u _) (by decide) (by simpa using hu)).mono ?_
  rintro e w' ⟨rfl, n, rfl⟩
  exact ⟨by rw [cat_one], ht1.drewN n, below_drewN hb n⟩
theorem of2_any (b : Nat) (u v : ByteArray) (w : World) (ht : IsTab w b) (hu : u.size ≤ 1000000) (hv : v.size ≤ 1000000) :
    Calls Try.prog 36 #[.pointer (some ⟨b, 0, none⟩), .slice (some ⟨w.heap.size, 0, none⟩) 2 2] (w.alloc (.cells #[.string u, .string v] 9)) fun e w' => e = .returned (.int .u32 (chk 0 (u ++ v).data.toList)) ∧ IsTab w' b ∧ Below w.heap.size w w' := by
  have hb : Below w.heap.size w (w.alloc (.cells #[.string u, .string v] 9)) := (Below.refl w.heap.size w).alloc (Nat.le_refl _) _
  have ht1 := ht.below hb (Nat.le_refl _)
  refine (of_any b _ 2 2 [u, v] _ ht1 (StrRow.two w u v _) (by decide) (by simp; exact ⟨hu, hv⟩)).mono ?_
  rintro e w' ⟨rfl, n, rfl⟩
  exact ⟨by rw [cat_two], ht1.drewN n, below_drewN hb n⟩
theorem of4_any (b : Nat) (s t u v : ByteArray) (w : World) (ht : IsTab w b) (hs : s.size ≤ 1000000) (hh : t.size ≤ 1000000) (hu : u.size ≤ 1000000) (hv : v.size ≤ 1000000) :
    Calls Try.prog 36 #[.pointer (some ⟨b, 0, none⟩), .slice (some ⟨w.heap.size, 0, none⟩) 4 4] (w.alloc (.cells #[.string s, .string t, .string u, .string v] 9)) fun e w' => e = .returned (.int .u32 (chk 0 (s ++ t ++ u ++ v).data.toList)) ∧ IsTab w' b ∧ Below w.heap.size w w' := by
  have hb : Below w.heap.size w (w.alloc (.cells #[.string s, .string t, .string u, .string v] 9)) := (Below.refl w.heap.size w).alloc (Nat.le_refl _) _
  have ht1 := ht.below hb (Nat.le_refl _)
  refine (of_any b _ 4 4 [s, t, u, v] _ ht1 (StrRow.four w s t u v _) (by decide) (by simp; exact ⟨hs, hh, hu, hv⟩)).mono ?_
  rintro e w' ⟨rfl, n, rfl⟩
  exact ⟨by rw [show cat [s, t, u, v] = (s ++ t ++ u ++ v).data.toList by simp [cat]], ht1.drewN n, below_drewN hb n⟩

theorem take_same (r : Nat) (b : Nat) (w : World) (hr : Reg r) (hb : b < 256) :
    Calls Try.prog 49 #[.int .u64 r, .int .u8 b] w fun e w' => e = .returned (.int .u64 (stps 8 (r ^^^ b) : Nat)) ∧ w' = w :=
  (take_any r b w hr hb).mono fun _ _ ⟨he, hw⟩ => ⟨he, hw.symm⟩
theorem take_tab (b : Nat) (w : World) (hb : b < 256) :
    Calls Try.prog 49 #[.int .u64 0, .int .u8 b] w fun e w' => e = .returned (.int .u64 (tab b : Nat)) ∧ w' = w := by
  have h := take_same 0 b w (by unfold Reg; decide) hb
  rw [Nat.zero_xor] at h
  exact h
theorem chk_one (c : Nat) (b : UInt8) (h : Reg c) : full - chk c [b] = stps 8 ((full - c) ^^^ b.toNat) := by
  unfold chk
  rw [full_full _ (rgs_lt _ _ (full_lt _)), rgs_cons]; unfold rgs; rw [List.foldl_nil]

/-- Of one text, wherever its list lies -/
theorem of_hold (b : Nat) (ao : Option Addr) (ss : List ByteArray) (w : World) (ht : IsTab w b) (hr : StrRow w ao 1 ss) (hs : ∀ s ∈ ss, s.size ≤ 1000000) :
    Calls Try.prog 36 #[.pointer (some ⟨b, 0, none⟩), .slice ao 1 1] w fun e w' => e = .returned (.int .u32 (chk 0 (cat ss))) ∧ Below w.heap.size w w' :=
  (of_any b ao 1 1 ss w ht hr (by decide) hs).mono fun _ _ ⟨he, n, hw⟩ => ⟨he, by rw [hw]; exact below_drewN (Below.refl _ _) n⟩
theorem IsTab.later {w w' : World} {b : Nat} (h : IsTab w b) (hb : Below w.heap.size w w') : IsTab w' b := h.below hb (Nat.le_refl _)
theorem IsTab.new {w : World} {b : Nat} (h : IsTab w b) (o : Obj) : IsTab (w.alloc o) b := h.later ((Below.refl _ _).alloc (Nat.le_refl _) _)
theorem StrRow.later {w w' : World} {ao : Option Addr} {len : Nat} {ss : List ByteArray} (h : StrRow w ao len ss) (hb : Below w.heap.size w w') : StrRow w' ao len ss := h.below hb (Nat.le_refl _)
theorem StrRow.new {w : World} {ao : Option Addr} {len : Nat} {ss : List ByteArray} (h : StrRow w ao len ss) (o : Obj) : StrRow (w.alloc o) ao len ss := h.later ((Below.refl _ _).alloc (Nat.le_refl _) _)
end Go.Proofs.Ytomhalcoomdadaa.Sum
