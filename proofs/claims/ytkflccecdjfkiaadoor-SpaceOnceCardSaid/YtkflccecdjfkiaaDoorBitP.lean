/- Contracts of layer 9 (bits): the functions inside, and the exported ones but Next, List and Count. -/
import Derived.Test.YtkflccecdjfkiaaDoorBitV
import Derived.Shelf.Spec.TrailingZeros
import Derived.Outline
import Derived.Deep.DeepCutAuto
import Derived.Test.YtkflccecdjfkiaaDoorRegionV
import Derived.Deep.QuietTactic
import Derived.BigQuiet
namespace Go.Proofs.YtkflccecdjfkiaaDoor.Bit
open Go.RowKit Go.Proofs.YtkflccecdjfkiaaDoor
set_option linter.unusedVariables false

/-- the set at p stands for l; R: its blocks -/
def SetAt (w : World) (p : Nat) (R : List Nat) (l : List Bool) : Prop := ∃ ws, R = [p] ∧ TAt w p l.length ws ∧ WS ws l ∧ 1 ≤ l.length ∧ l.length ≤ 4096
/-- the table by which math/bits looks up the lowest bit -/
def Tz (w : World) : Prop := TabAt 0 Lib.deBruijn64tab w
theorem Tz.at_ {w : World} (h : Tz w) {j : Nat} (hj : j < 64) : w.cell? ⟨0, j, none⟩ = some (.int .u8 (Lib.deBruijn64tab.getD j 0)) := h j hj
theorem Tz.on {w w' : World} (h : Tz w) (hb : Below w.heap.size w w') : Tz w' := fun j hj => (hb.cell (World.block_lt_of_cell? _ _ (h j hj))).trans (h j hj)
section
variable {w w' : World} {p : Nat} {R : List Nat} {l : List Bool}
theorem SetAt.same (h : SetAt w p R l) (hk : ∀ k ∈ R, w'.heap[k]? = w.heap[k]?) : SetAt w' p R l := by
  obtain ⟨ws, rfl, h1, h2, h3⟩ := h
  exact ⟨ws, rfl, Has.same h1 (hk p (by simp)), h2, h3⟩
theorem SetAt.lt (h : SetAt w p R l) : ∀ k ∈ R, k < w.heap.size := by
  obtain ⟨ws, rfl, h1, h2, h3⟩ := h
  intro k hk
  simp only [List.mem_cons, List.mem_nil_iff, or_false] at hk
  subst hk; exact h1.lt
theorem SetAt.bd (h : SetAt w p R l) : 1 ≤ l.length ∧ l.length ≤ 4096 := by obtain ⟨_, _, _, _, h3⟩ := h; exact h3
end
section
variable {p : Nat} {n : Int} {ws : List Nat} {l : List Bool}
set_option maxRecDepth 100000 in
theorem size_t (w : World) (h : TAt w p n ws) : Calls Tryd.prog 44 #[.pointer (some ⟨p, 0, none⟩)] w fun e w' => e = .returned (.int .i64 n) ∧ w = w' := by
  have c0 := h.c0
  go_enter Tryd.func44, Tryd.ntmps44
  go_wp2
  go_ret
  exact ⟨rfl, rfl⟩
theorem size_nil (w : World) : Calls Tryd.prog 44 #[.pointer none] w fun e w' => e = .returned (.int .i64 0) ∧ w = w' := by
  go_enter Tryd.func44, Tryd.ntmps44
  go_wp2
  go_ret
  exact ⟨rfl, rfl⟩
def spB (n k : Int) : Bool := decide (0 ≤ k) && decide (k < n)
theorem sp_yes {n k : Int} (h0 : 0 ≤ k) (h1 : k < n) : spB n k = true := by simp [spB, h0, h1]
theorem sp_no {n k : Int} (h : k < 0 ∨ n ≤ k) : spB n k = false := by simp [spB]; omega
set_option maxRecDepth 100000 in
theorem spans_t (k : Int) (w : World) (h : TAt w p n ws) : Calls Tryd.prog 37 #[.pointer (some ⟨p, 0, none⟩), .int .i64 k] w fun e w' => e = .returned (.bool (spB n k)) ∧ w = w' := by
  by_cases h0 : 0 ≤ k
  · by_cases h1 : k < n
    · rw [sp_yes h0 h1]
      go_enter Tryd.func37, Tryd.ntmps37
      go_wp2_with fail
      refine (size_t _ h).mono ?_
      rintro e w1 ⟨rfl, rfl⟩
      go_wp2_with fail
      go_ret
      exact ⟨rfl, rfl⟩
    · have h1' : n ≤ k := by omega
      rw [sp_no (.inr h1')]
      clear h1
      go_enter Tryd.func37, Tryd.ntmps37
      go_wp2_with fail
      refine (size_t _ h).mono ?_
      rintro e w1 ⟨rfl, rfl⟩
      go_wp2_with fail
      go_ret
      exact ⟨ret_bool (by simp; omega), rfl⟩
  · have h0' : k < 0 := by omega
    rw [sp_no (.inl h0')]
    clear h0
    go_enter Tryd.func37, Tryd.ntmps37
    go_wp2_with fail
    go_ret
    exact ⟨rfl, rfl⟩
theorem spans_nil (k : Int) (w : World) : Calls Tryd.prog 37 #[.pointer none, .int .i64 k] w fun e w' => e = .returned (.bool false) ∧ w = w' := by
  by_cases h0 : 0 ≤ k
  · go_enter Tryd.func37, Tryd.ntmps37
    go_wp2_with fail
    refine (size_nil _).mono ?_
    rintro e w1 ⟨rfl, rfl⟩
    go_wp2_with fail
    go_ret
    exact ⟨ret_bool (by simp; omega), rfl⟩
  · have h0' : k < 0 := by omega
    clear h0
    go_enter Tryd.func37, Tryd.ntmps37
    go_wp2_with fail
    go_ret
    exact ⟨rfl, rfl⟩
theorem wrap_pow {i : Nat} (h : i < 64) : IntKind.u64.wrap (2 ^ i) = ((2 ^ i : Nat) : Int) := by
  rw [IntKind.wrap_u64]
  have := pow_lt64 h
  have e : ((2 : Int) ^ i) = ((2 ^ i : Nat) : Int) := by simp
  rw [e]; exact Int.emod_eq_of_lt (Int.natCast_nonneg _) (Int.ofNat_lt.2 this)
set_option maxRecDepth 100000 in
theorem bit_any (k : Nat) (hk : k < 4096) (w : World) : Calls Tryd.prog 38 #[.int .i64 (k : Nat)] w fun e w' => e = .returned (.int .u64 ((2 ^ (k % 64) : Nat) : Int)) ∧ w = w' := by
  have hm : Int.tmod (k : Int) 64 = ((k % 64 : Nat) : Int) := by rw [Int.tmod_eq_emod_of_nonneg (by omega)]; omega
  have hm2 : (k : Int) % 64 = ((k % 64 : Nat) : Int) := by omega
  obtain ⟨i, hi⟩ : ∃ i, i = k % 64 := ⟨_, rfl⟩
  have hi2 : i < 64 := by omega
  rw [← hi] at hm hm2 ⊢
  have hw := wrap_pow hi2
  have hi3 : (i : Int) ≤ 64 := by omega
  clear hi
  go_enter Tryd.func38, Tryd.ntmps38
  go_wp2
  go_ret
  exact ⟨by simp, rfl⟩
theorem not_word (x : Nat) (hx : x < 18446744073709551616) : bits BinOp.xor IntKind.u64 IntKind.u64.max (x : Int) = ((18446744073709551615 - x : Nat) : Int) := by
  rw [show IntKind.u64.max = ((18446744073709551615 : Nat) : Int) from rfl, bits_xor_u64_nat _ _ (by decide) hx]
  congr 1
  apply Nat.eq_of_testBit_eq
  intro j
  have h := Nat.testBit_two_pow_sub_succ (n := 64) (x := x) hx j
  rw [show 2 ^ 64 - (x + 1) = 18446744073709551615 - x by omega] at h
  rw [h, Nat.testBit_xor, show (18446744073709551615 : Nat) = 2 ^ 64 - 1 from rfl, Nat.testBit_two_pow_sub_one]
  by_cases hj : j < 64
  · simp [hj]
  · have : x.testBit j = false := Nat.testBit_lt_two_pow (Nat.lt_of_lt_of_le hx (Nat.le_trans (by decide : 18446744073709551616 ≤ 2 ^ 64) (Nat.pow_le_pow_right (by decide) (by omega))))
    simp [hj, this]
set_option maxRecDepth 100000 in
theorem from_t (k : Nat) (hk : k < 4096) (is : Bool) (w : World) (h : TAt w p n ws) (hl : wg ws (k / 64) < 18446744073709551616) : Calls Tryd.prog 40 #[.pointer (some ⟨p, 0, none⟩), .int .i64 (k : Nat), .bool is] w fun e w' => e = .returned (.int .u64 ((fw ws k is : Nat) : Int)) ∧ w = w' := by
  have cw := h.cw (j := k / 64) (by omega)
  have hm : Int.tmod (k : Int) 64 = ((k % 64 : Nat) : Int) := by rw [Int.tmod_eq_emod_of_nonneg (by omega)]; omega
  have hm2 : (k : Int) % 64 = ((k % 64 : Nat) : Int) := by omega
  have hq : Int.tdiv (k : Int) 64 = ((k / 64 : Nat) : Int) := by rw [Int.tdiv_eq_ediv_of_nonneg (by omega)]; omega
  have hq2 : (k : Int) / 64 = ((k / 64 : Nat) : Int) := by omega
  have hF : fw ws k is = (if is = true then wg ws (k / 64) else 18446744073709551615 - wg ws (k / 64)) / 2 ^ (k % 64) := rfl
  obtain ⟨i, hi⟩ : ∃ i, i = k % 64 := ⟨_, rfl⟩
  obtain ⟨j, hj⟩ : ∃ j, j = k / 64 := ⟨_, rfl⟩
  obtain ⟨x, hx⟩ : ∃ x, x = wg ws j := ⟨_, rfl⟩
  have hi2 : i < 64 := by omega
  have hj2 : j < 64 := by omega
  rw [← hi] at hm hm2 hF
  rw [← hj] at hq hq2 hF cw hl
  rw [← hx] at hF cw hl
  have hi3 : (i : Int) ≤ 64 := by omega
  rw [hF]
  clear hi hj hx hF
  cases is with
  | true =>
    go_enter Tryd.func40, Tryd.ntmps40
    go_wp2
    go_ret
    exact ⟨by simp, rfl⟩
  | false =>
    go_enter Tryd.func40, Tryd.ntmps40
    go_wp2
    go_ret
    exact ⟨by rw [← not_word x hl]; simp, rfl⟩
theorem ne0 (a : Nat) : ((a : Int) != 0) = (a != 0) := by rw [Bool.eq_iff_iff]; simp
theorem sp_len {l : List Bool} {m : Nat} (h : m < l.length) : spB (l.length : Nat) (m : Nat) = true := sp_yes (by omega) (by omega)
set_option maxRecDepth 100000 in
theorem has_t (k : Int) (w : World) (h : TAt w p (l.length : Nat) ws) (hs : WS ws l) (hl : l.length ≤ 4096) : Calls Tryd.prog 32 #[.pointer (some ⟨p, 0, none⟩), .int .i64 k] w fun e w' => e = .returned (.bool (hasL l k)) ∧ Below w.heap.size w w' := by
  by_cases hin : 0 ≤ k ∧ k < (l.length : Nat)
  · obtain ⟨m, rfl⟩ : ∃ m : Nat, k = m := ⟨k.toNat, by omega⟩
    have hm : m < l.length := by omega
    have hm4 : m < 4096 := by omega
    rw [hasL_in hm]
    have hb := hs.has hm hl
    have hlt := hs.lt (m / 64)
    have cw := h.cw (j := m / 64) (by omega)
    have hq : Int.tdiv (m : Int) 64 = ((m / 64 : Nat) : Int) := by rw [Int.tdiv_eq_ediv_of_nonneg (by omega)]; omega
    have hq2 : (m : Int) / 64 = ((m / 64 : Nat) : Int) := by omega
    have HSP := Lib.hid (show ∀ n, Calls Tryd.prog 37 #[.pointer (some ⟨p, 0, none⟩), .int .i64 (m : Nat)] (w.drewN n) fun e w' => e = .returned (.bool true) ∧ w' = w.drewN n from fun n => (spans_t (m : Nat) (w.drewN n) (Has.drewN h n)).mono fun e w' ⟨he, hw⟩ => ⟨by rw [he, sp_len hm], hw.symm⟩)
    have HBI := Lib.hid (show ∀ n, Calls Tryd.prog 38 #[.int .i64 (m : Nat)] (w.drewN n) fun e w' => e = .returned (.int .u64 ((2 ^ (m % 64) : Nat) : Int)) ∧ w' = w.drewN n from fun n => (bit_any m hm4 (w.drewN n)).mono fun e w' ⟨he, hw⟩ => ⟨he, hw.symm⟩)
    have hand := bits_and_u64_nat (wg ws (m / 64)) (2 ^ (m % 64)) hlt (pow_lt64 (by omega))
    obtain ⟨j, hj⟩ : ∃ j, j = m / 64 := ⟨_, rfl⟩
    obtain ⟨y, hy⟩ : ∃ y, y = 2 ^ (m % 64) := ⟨_, rfl⟩
    obtain ⟨x, hx⟩ : ∃ x, x = wg ws j := ⟨_, rfl⟩
    have hj2 : j < 64 := by omega
    rw [← hj] at hq hq2 cw hand hb
    rw [← hy] at hand HBI hb
    rw [← hx] at cw hand hb
    have HB := Lib.hid hb
    clear hin hlt hb h hj hy hx hm hm4
    go_enter Tryd.func32, Tryd.ntmps32
    go_upto_region 1 with fail
    go_quiet (first | (go_at_call 37; exact Calls.quiet_of_same (HSP.out _)) | (go_at_call 38; exact Calls.quiet_of_same (HBI.out _)))
    go_wp2_with fail
    go_ret
    exact ⟨ret_bool (by rw [← HB.out]; exact ne0 _), below_drewN (Below.refl _ _) _⟩
  · have ho : k < 0 ∨ (l.length : Int) ≤ k := by omega
    rw [hasL_out ho]
    have HSP := Lib.hid (show ∀ n, Calls Tryd.prog 37 #[.pointer (some ⟨p, 0, none⟩), .int .i64 k] (w.drewN n) fun e w' => e = .returned (.bool false) ∧ w' = w.drewN n from fun n => (spans_t k (w.drewN n) (Has.drewN h n)).mono fun e w' ⟨he, hw⟩ => ⟨by rw [he, sp_no ho], hw.symm⟩)
    clear h ho hin
    go_enter Tryd.func32, Tryd.ntmps32
    go_upto_region 1 with fail
    go_quiet (first | (go_at_call 37; exact Calls.quiet_of_same (HSP.out _)))
    go_wp2_with fail
    go_ret
    exact ⟨rfl, below_drewN (Below.refl _ _) _⟩
set_option maxRecDepth 100000 in
theorem has_nil (k : Int) (w : World) : Calls Tryd.prog 32 #[.pointer none, .int .i64 k] w fun e w' => e = .returned (.bool false) ∧ Below w.heap.size w w' := by
  have HSP := Lib.hid (show ∀ n, Calls Tryd.prog 37 #[.pointer none, .int .i64 k] (w.drewN n) fun e w' => e = .returned (.bool false) ∧ w' = w.drewN n from fun n => (spans_nil k (w.drewN n)).mono fun e w' ⟨he, hw⟩ => ⟨he, hw.symm⟩)
  go_enter Tryd.func32, Tryd.ntmps32
  go_upto_region 1 with fail
  go_quiet (first | (go_at_call 37; exact Calls.quiet_of_same (HSP.out _)))
  go_wp2_with fail
  go_ret
  exact ⟨rfl, below_drewN (Below.refl _ _) _⟩
/-- what Put leaves -/
def Puts (w0 : World) (p : Nat) (n : Int) (l : List Bool) (w : World) : Prop := ∃ ws, TAt w p n ws ∧ WS ws l ∧ Chg (fun k => k ∈ [p]) w0 w
def GI (w0 : World) (p : Nat) (n : Int) (ws : List Nat) (wy : World) : Prop := TAt wy p n ws ∧ Chg (fun k => k ∈ [p]) w0 wy
set_option maxHeartbeats 1000000 in
set_option maxRecDepth 100000 in
theorem put_t (k : Int) (is : Bool) (w : World) (h : TAt w p (l.length : Nat) ws) (hs : WS ws l) (hl : l.length ≤ 4096) :
    Calls Tryd.prog 28 #[.pointer (some ⟨p, 0, none⟩), .int .i64 k, .bool is] w fun e w' => e = .returned (.bool (hasL l k)) ∧ Puts w p (l.length : Nat) (putL l k is) w' := by
  by_cases hin : 0 ≤ k ∧ k < (l.length : Nat)
  · obtain ⟨m, rfl⟩ : ∃ m : Nat, k = m := ⟨k.toNat, by omega⟩
    have hm : m < l.length := by omega
    have hm4 : m < 4096 := by omega
    have hs' := hs.put hm hl is
    rw [← putL_in hm] at hs'
    obtain ⟨H, hH⟩ : ∃ H, H = hasL l (m : Nat) := ⟨_, rfl⟩
    have hhas : ∀ w1, TAt w1 p (l.length : Nat) ws → Calls Tryd.prog 32 #[.pointer (some ⟨p, 0, none⟩), .int .i64 (m : Nat)] w1 fun e w' => e = .returned (.bool H) ∧ Below w1.heap.size w1 w' := fun w1 h1 => by rw [hH]; exact has_t (m : Nat) w1 h1 hs hl
    have HAS := Lib.hid hhas
    have hspn : Calls Tryd.prog 37 #[.pointer (some ⟨p, 0, none⟩), .int .i64 (m : Nat)] w fun e w' => e = .returned (.bool true) ∧ w = w' := (spans_t (m : Nat) w h).mono fun e w' ⟨he, hw⟩ => ⟨by rw [he, sp_len hm], hw⟩
    have hlt := hs.lt (m / 64)
    have hq : Int.tdiv (m : Int) 64 = ((m / 64 : Nat) : Int) := by rw [Int.tdiv_eq_ediv_of_nonneg (by omega)]; omega
    have hq2 : (m : Int) / 64 = ((m / 64 : Nat) : Int) := by omega
    have HBI := Lib.hid (fun w1 => bit_any m hm4 w1)
    have hor := bits_or_u64_nat (wg ws (m / 64)) (2 ^ (m % 64)) hlt (pow_lt64 (by omega))
    have han := u64_andNot_nat (wg ws (m / 64)) (2 ^ (m % 64)) hlt (pow_lt64 (by omega))
    have hpw : pw (wg ws (m / 64)) (m % 64) is = if is = true then wg ws (m / 64) ||| 2 ^ (m % 64) else wg ws (m / 64) &&& (18446744073709551615 - 2 ^ (m % 64)) := rfl
    have hcw : ∀ w1, TAt w1 p (l.length : Nat) ws → w1.cell? ⟨p, 1 + m / 64, none⟩ = some (.int .u64 ((wg ws (m / 64) : Nat) : Int)) := fun w1 h1 => h1.cw (by omega)
    obtain ⟨j, hj⟩ : ∃ j, j = m / 64 := ⟨_, rfl⟩
    obtain ⟨y, hy⟩ : ∃ y, y = 2 ^ (m % 64) := ⟨_, rfl⟩
    obtain ⟨x, hx⟩ : ∃ x, x = wg ws j := ⟨_, rfl⟩
    obtain ⟨Z, hZ⟩ : ∃ Z, Z = pw x (m % 64) is := ⟨_, rfl⟩
    have hj2 : j < 64 := by omega
    have hj3 : (j : Int) < 64 := by omega
    have hwj : IntKind.i64.wrap (j : Int) = j := IntWalk.i64_in _ (by omega)
    have HWL := hs.len
    rw [← hj] at hq hq2 hor han hpw hs' hcw
    rw [← hy] at hor han hpw HBI
    rw [← hx] at hor han hpw hs' hcw
    rw [← hZ] at hpw hs'
    have HCW := Lib.hid hcw
    obtain ⟨n, hn⟩ : ∃ n : Int, n = (l.length : Nat) := ⟨_, rfl⟩
    rw [← hn] at h HCW HAS ⊢
    have HS' := Lib.hid hs'
    have HT := Lib.hid h
    have HST := Lib.hid (show ∀ w1, TAt w1 p n ws → TAt (w1.setCell ⟨p, 1 + j, none⟩ (.int .u64 (Z : Nat))) p n (ws.set j Z) from fun w1 h1 => h1.put HWL hj2 Z)
    rw [← hH]
    clear hin hlt hj hy hx hm hm4 hn hs hl hs' hH hhas hcw HWL hZ
    cases is with
    | true =>
      rw [if_pos rfl] at hpw
      rw [← hpw] at hor
      clear hpw han
      go_enter Tryd.func28, Tryd.ntmps28
      go_wp2_with fail
      refine hspn.mono ?_
      rintro e w1 ⟨rfl, rfl⟩
      clear hspn h
      go_wp2_with fail
      refine (HAS.out _ HT.out).mono ?_
      rintro e w2 ⟨rfl, hb⟩
      have HT2 := Lib.hid (HT.out.on hb)
      have HC2 := Lib.hid (Chg.of_below (R := fun k => k ∈ [p]) hb (Nat.le_refl _))
      clear hb HT HAS
      go_upto_region 5 with fail
      refine Reg.region_vals (by kernel_rfl) [(16, .pointer (some ⟨p, 0, none⟩)), (17, .int .i64 (m : Nat)), (18, .int .i64 (j : Nat)), (19, .pointer (some ⟨p, 0, none⟩)), (20, .pointer (some ⟨p, 1, none⟩)), (21, .pointer (some ⟨p, 1 + j, none⟩)), (22, .int .u64 (x : Nat)), (23, .int .i64 (m : Nat)), (24, .int .u64 (y : Nat)), (25, .int .u64 (Z : Nat)), (26, .pointer (some ⟨p, 0, none⟩)), (27, .pointer (some ⟨p, 1, none⟩)), (28, .pointer (some ⟨p, 1 + j, none⟩))] (fun l wy => GI w p n (bif l 13 then ws.set j Z else ws) wy ∧ (l 13 = true → l 9 = true) ∧ (l 9 = true → l 6 = true)) (by kernel_rfl) (by kernel_rfl) (by kernel_rfl) (⟨⟨Has.drew HT2.out, Chg.drew HC2.out⟩, fun h => h, fun h => h⟩) ⟨?_, ?_, ?_, ?_, ?_, ?_, ?_, ?_, ?_, ?_, ?_, ?_, ?_, ?_, trivial⟩ ?hend
      · -- 0: 16 := Op.move t0
        intro aq wq lq hI hl hdone hlater hold hd ho
        have h0 : aq.tmps.getD 0 undef = .pointer (some ⟨p, 0, none⟩) := ho 0 (by kernel_rfl)
        clear hd ho hdone hlater hold
        exact Reg.step2_move (.tmp 0) rfl h0 hI trivial
      · -- 1: 17 := Op.move t1
        intro aq wq lq hI hl hdone hlater hold hd ho
        have h1 : aq.tmps.getD 1 undef = .int .i64 (m : Nat) := ho 1 (by kernel_rfl)
        clear hd ho hdone hlater hold
        exact Reg.step2_move (.tmp 1) rfl h1 hI trivial
      · -- 2: 18 := Op.binOp BinOp.quo 3 t17 (const (64:i64)) 3
        intro aq wq lq hI hl hdone hlater hold hd ho
        have h17 : aq.tmps.getD 17 undef = .int .i64 (m : Nat) := hd 17 (by kernel_rfl)
        clear hd ho hdone hlater hold
        rw [Array.getD_eq_getD_getElem?] at h17
        refine Reg.step2_val (.int .i64 (j : Nat)) ?_ rfl hI trivial
        simp [execOp, Act.eval, h17]
        try go_simp
      · -- 3: 19 := Op.nilCheck t16
        intro aq wq lq hI hl hdone hlater hold hd ho
        have h16 : aq.tmps.getD 16 undef = .pointer (some ⟨p, 0, none⟩) := hd 16 (by kernel_rfl)
        clear hd ho hdone hlater hold
        rw [Array.getD_eq_getD_getElem?] at h16
        refine Reg.step2_val (.pointer (some ⟨p, 0, none⟩)) ?_ rfl hI trivial
        go_simp
      · -- 4: 20 := Op.fieldAddr 51 t19 1
        intro aq wq lq hI hl hdone hlater hold hd ho
        have h19 : aq.tmps.getD 19 undef = .pointer (some ⟨p, 0, none⟩) := hd 19 (by kernel_rfl)
        clear hd ho hdone hlater hold
        rw [Array.getD_eq_getD_getElem?] at h19
        refine Reg.step2_val (.pointer (some ⟨p, 1, none⟩)) ?_ rfl hI trivial
        go_simp
      · -- 5: 21 := Op.indexAddr 49 t20 t18
        intro aq wq lq hI hl hdone hlater hold hd ho
        have h20 : aq.tmps.getD 20 undef = .pointer (some ⟨p, 1, none⟩) := hd 20 (by kernel_rfl)
        have h18 : aq.tmps.getD 18 undef = .int .i64 (j : Nat) := hd 18 (by kernel_rfl)
        clear hd ho hdone hlater hold
        rw [Array.getD_eq_getD_getElem?] at h20 h18
        refine Reg.step2_val (.pointer (some ⟨p, 1 + j, none⟩)) ?_ rfl hI trivial
        go_simp
      · -- 6: 22 := Op.load 48 t21
        intro aq wq lq hI hl hdone hlater hold hd ho
        have h21 : aq.tmps.getD 21 undef = .pointer (some ⟨p, 1 + j, none⟩) := hd 21 (by kernel_rfl)
        clear hd ho hdone hlater hold
        rw [Array.getD_eq_getD_getElem?] at h21
        have g9 : lq 9 = false := by cases h : lq 9 with | false => rfl | true => have := hI.2.2 h; rw [hl] at this; cases this
        have g13 : lq 13 = false := by cases h : lq 13 with | false => rfl | true => have := hI.2.1 h; rw [g9] at this; cases this
        have hJ := hI.1
        rw [g13] at hJ
        have e0 := HCW.out _ hJ.1
        refine Reg.step2_val (.int .u64 (x : Nat)) ?_ rfl ⟨hI.1, hI.2.1, fun _ => rfl⟩ trivial
        clear hI hJ
        go_simp
      · -- 7: 23 := Op.move t1
        intro aq wq lq hI hl hdone hlater hold hd ho
        have h1 : aq.tmps.getD 1 undef = .int .i64 (m : Nat) := ho 1 (by kernel_rfl)
        clear hd ho hdone hlater hold
        exact Reg.step2_move (.tmp 1) rfl h1 hI trivial
      · -- 8: 24 := Op.call ( value (Operand.func 21), args := #(t23), argTypes 
        intro aq wq lq hI hl hdone hlater hold hd ho
        have h23 : aq.tmps.getD 23 undef = .int .i64 (m : Nat) := hd 23 (by kernel_rfl)
        clear hd ho hdone hlater hold
        rw [Array.getD_eq_getD_getElem?] at h23
        refine Reg.step2_call 38 #[.int .i64 (m : Nat)] ?_ ((HBI.out wq).mono ?_)
        · simp [execOp]
          go_simp
        · rintro e w' ⟨rfl, rfl⟩
          exact ⟨_, rfl, rfl, hI, trivial⟩
      · -- 9: 25 := Op.binOp BinOp.or 48 t22 t24 48
        intro aq wq lq hI hl hdone hlater hold hd ho
        have h22 : aq.tmps.getD 22 undef = .int .u64 (x : Nat) := hd 22 (by kernel_rfl)
        have h24 : aq.tmps.getD 24 undef = .int .u64 (y : Nat) := hd 24 (by kernel_rfl)
        have gd6 : lq 6 = true := hdone 6 (by kernel_rfl)
        clear hd ho hdone hlater hold
        rw [Array.getD_eq_getD_getElem?] at h22 h24
        refine Reg.step2_val (.int .u64 (Z : Nat)) ?_ rfl ⟨hI.1, fun _ => rfl, fun _ => gd6⟩ trivial
        clear hI
        simp [execOp, Act.eval, h22, h24]
        try go_simp
      · -- 10: 26 := Op.nilCheck t16
        intro aq wq lq hI hl hdone hlater hold hd ho
        have h16 : aq.tmps.getD 16 undef = .pointer (some ⟨p, 0, none⟩) := hd 16 (by kernel_rfl)
        clear hd ho hdone hlater hold
        rw [Array.getD_eq_getD_getElem?] at h16
        refine Reg.step2_val (.pointer (some ⟨p, 0, none⟩)) ?_ rfl hI trivial
        go_simp
      · -- 11: 27 := Op.fieldAddr 51 t26 1
        intro aq wq lq hI hl hdone hlater hold hd ho
        have h26 : aq.tmps.getD 26 undef = .pointer (some ⟨p, 0, none⟩) := hd 26 (by kernel_rfl)
        clear hd ho hdone hlater hold
        rw [Array.getD_eq_getD_getElem?] at h26
        refine Reg.step2_val (.pointer (some ⟨p, 1, none⟩)) ?_ rfl hI trivial
        go_simp
      · -- 12: 28 := Op.indexAddr 49 t27 t18
        intro aq wq lq hI hl hdone hlater hold hd ho
        have h27 : aq.tmps.getD 27 undef = .pointer (some ⟨p, 1, none⟩) := hd 27 (by kernel_rfl)
        have h18 : aq.tmps.getD 18 undef = .int .i64 (j : Nat) := hd 18 (by kernel_rfl)
        clear hd ho hdone hlater hold
        rw [Array.getD_eq_getD_getElem?] at h27 h18
        refine Reg.step2_val (.pointer (some ⟨p, 1 + j, none⟩)) ?_ rfl hI trivial
        go_simp
      · -- 13: None := Op.store 48 t28 t25
        intro aq wq lq hI hl hdone hlater hold hd ho
        have h28 : aq.tmps.getD 28 undef = .pointer (some ⟨p, 1 + j, none⟩) := hd 28 (by kernel_rfl)
        have h25 : aq.tmps.getD 25 undef = .int .u64 (Z : Nat) := hd 25 (by kernel_rfl)
        have gd9 : lq 9 = true := hdone 9 (by kernel_rfl)
        clear hd ho hdone hlater hold
        rw [Array.getD_eq_getD_getElem?] at h28 h25
        have hJ := hI.1
        have hK := hI.2.2
        clear hI
        rw [show lq 13 = false from hl] at hJ
        have e0 := HCW.out _ hJ.1
        have f0 := Has.frozen hJ.1 (1 + j)
        refine Reg.step2_skip (wq.setCell ⟨p, 1 + j, none⟩ (.int .u64 (Z : Nat))) rfl ?_ ⟨⟨HST.out _ hJ.1, hJ.2.setCell (p := ⟨p, 1 + j, none⟩) (fun _ => by simp) _⟩, fun _ => gd9, hK⟩ trivial
        clear hJ hK
        simp [execOp]
        go_simp
      case hend =>
      intro wx hI
      simp only [Reg.fill, List.foldl_cons, List.foldl_nil, List.setIfInBounds_toArray, List.set_cons_zero, List.set_cons_succ]
      obtain ⟨hd1, hc1⟩ : GI w p n (ws.set j Z) wx := hI.1
      go_wp2_with fail
      go_ret
      exact ⟨rfl, _, hd1, HS'.out, hc1⟩
    | false =>
      rw [if_neg (by decide)] at hpw
      rw [← hpw] at han
      clear hpw hor
      go_enter Tryd.func28, Tryd.ntmps28
      go_wp2_with fail
      refine hspn.mono ?_
      rintro e w1 ⟨rfl, rfl⟩
      clear hspn h
      go_wp2_with fail
      refine (HAS.out _ HT.out).mono ?_
      rintro e w2 ⟨rfl, hb⟩
      have HT2 := Lib.hid (HT.out.on hb)
      have HC2 := Lib.hid (Chg.of_below (R := fun k => k ∈ [p]) hb (Nat.le_refl _))
      clear hb HT HAS
      go_upto_region 6 with fail
      refine Reg.region_vals (by kernel_rfl) [(29, .pointer (some ⟨p, 0, none⟩)), (30, .int .i64 (m : Nat)), (31, .int .i64 (j : Nat)), (32, .pointer (some ⟨p, 0, none⟩)), (33, .pointer (some ⟨p, 1, none⟩)), (34, .pointer (some ⟨p, 1 + j, none⟩)), (35, .int .u64 (x : Nat)), (36, .int .i64 (m : Nat)), (37, .int .u64 (y : Nat)), (38, .int .u64 (Z : Nat)), (39, .pointer (some ⟨p, 0, none⟩)), (40, .pointer (some ⟨p, 1, none⟩)), (41, .pointer (some ⟨p, 1 + j, none⟩))] (fun l wy => GI w p n (bif l 13 then ws.set j Z else ws) wy ∧ (l 13 = true → l 9 = true) ∧ (l 9 = true → l 6 = true)) (by kernel_rfl) (by kernel_rfl) (by kernel_rfl) (⟨⟨Has.drew HT2.out, Chg.drew HC2.out⟩, fun h => h, fun h => h⟩) ⟨?_, ?_, ?_, ?_, ?_, ?_, ?_, ?_, ?_, ?_, ?_, ?_, ?_, ?_, trivial⟩ ?hend
      · -- 0: 29 := Op.move t0
        intro aq wq lq hI hl hdone hlater hold hd ho
        have h0 : aq.tmps.getD 0 undef = .pointer (some ⟨p, 0, none⟩) := ho 0 (by kernel_rfl)
        clear hd ho hdone hlater hold
        exact Reg.step2_move (.tmp 0) rfl h0 hI trivial
      · -- 1: 30 := Op.move t1
        intro aq wq lq hI hl hdone hlater hold hd ho
        have h1 : aq.tmps.getD 1 undef = .int .i64 (m : Nat) := ho 1 (by kernel_rfl)
        clear hd ho hdone hlater hold
        exact Reg.step2_move (.tmp 1) rfl h1 hI trivial
      · -- 2: 31 := Op.binOp BinOp.quo 3 t30 (const (64:i64)) 3
        intro aq wq lq hI hl hdone hlater hold hd ho
        have h30 : aq.tmps.getD 30 undef = .int .i64 (m : Nat) := hd 30 (by kernel_rfl)
        clear hd ho hdone hlater hold
        rw [Array.getD_eq_getD_getElem?] at h30
        refine Reg.step2_val (.int .i64 (j : Nat)) ?_ rfl hI trivial
        simp [execOp, Act.eval, h30]
        try go_simp
      · -- 3: 32 := Op.nilCheck t29
        intro aq wq lq hI hl hdone hlater hold hd ho
        have h29 : aq.tmps.getD 29 undef = .pointer (some ⟨p, 0, none⟩) := hd 29 (by kernel_rfl)
        clear hd ho hdone hlater hold
        rw [Array.getD_eq_getD_getElem?] at h29
        refine Reg.step2_val (.pointer (some ⟨p, 0, none⟩)) ?_ rfl hI trivial
        go_simp
      · -- 4: 33 := Op.fieldAddr 51 t32 1
        intro aq wq lq hI hl hdone hlater hold hd ho
        have h32 : aq.tmps.getD 32 undef = .pointer (some ⟨p, 0, none⟩) := hd 32 (by kernel_rfl)
        clear hd ho hdone hlater hold
        rw [Array.getD_eq_getD_getElem?] at h32
        refine Reg.step2_val (.pointer (some ⟨p, 1, none⟩)) ?_ rfl hI trivial
        go_simp
      · -- 5: 34 := Op.indexAddr 49 t33 t31
        intro aq wq lq hI hl hdone hlater hold hd ho
        have h33 : aq.tmps.getD 33 undef = .pointer (some ⟨p, 1, none⟩) := hd 33 (by kernel_rfl)
        have h31 : aq.tmps.getD 31 undef = .int .i64 (j : Nat) := hd 31 (by kernel_rfl)
        clear hd ho hdone hlater hold
        rw [Array.getD_eq_getD_getElem?] at h33 h31
        refine Reg.step2_val (.pointer (some ⟨p, 1 + j, none⟩)) ?_ rfl hI trivial
        go_simp
      · -- 6: 35 := Op.load 48 t34
        intro aq wq lq hI hl hdone hlater hold hd ho
        have h34 : aq.tmps.getD 34 undef = .pointer (some ⟨p, 1 + j, none⟩) := hd 34 (by kernel_rfl)
        clear hd ho hdone hlater hold
        rw [Array.getD_eq_getD_getElem?] at h34
        have g9 : lq 9 = false := by cases h : lq 9 with | false => rfl | true => have := hI.2.2 h; rw [hl] at this; cases this
        have g13 : lq 13 = false := by cases h : lq 13 with | false => rfl | true => have := hI.2.1 h; rw [g9] at this; cases this
        have hJ := hI.1
        rw [g13] at hJ
        have e0 := HCW.out _ hJ.1
        refine Reg.step2_val (.int .u64 (x : Nat)) ?_ rfl ⟨hI.1, hI.2.1, fun _ => rfl⟩ trivial
        clear hI hJ
        go_simp
      · -- 7: 36 := Op.move t1
        intro aq wq lq hI hl hdone hlater hold hd ho
        have h1 : aq.tmps.getD 1 undef = .int .i64 (m : Nat) := ho 1 (by kernel_rfl)
        clear hd ho hdone hlater hold
        exact Reg.step2_move (.tmp 1) rfl h1 hI trivial
      · -- 8: 37 := Op.call ( value (Operand.func 21), args := #(t36), argTypes 
        intro aq wq lq hI hl hdone hlater hold hd ho
        have h36 : aq.tmps.getD 36 undef = .int .i64 (m : Nat) := hd 36 (by kernel_rfl)
        clear hd ho hdone hlater hold
        rw [Array.getD_eq_getD_getElem?] at h36
        refine Reg.step2_call 38 #[.int .i64 (m : Nat)] ?_ ((HBI.out wq).mono ?_)
        · simp [execOp]
          go_simp
        · rintro e w' ⟨rfl, rfl⟩
          exact ⟨_, rfl, rfl, hI, trivial⟩
      · -- 9: 38 := Op.binOp BinOp.andNot 48 t35 t37 48
        intro aq wq lq hI hl hdone hlater hold hd ho
        have h35 : aq.tmps.getD 35 undef = .int .u64 (x : Nat) := hd 35 (by kernel_rfl)
        have h37 : aq.tmps.getD 37 undef = .int .u64 (y : Nat) := hd 37 (by kernel_rfl)
        have gd6 : lq 6 = true := hdone 6 (by kernel_rfl)
        clear hd ho hdone hlater hold
        rw [Array.getD_eq_getD_getElem?] at h35 h37
        refine Reg.step2_val (.int .u64 (Z : Nat)) ?_ rfl ⟨hI.1, fun _ => rfl, fun _ => gd6⟩ trivial
        clear hI
        simp [execOp, Act.eval, h35, h37]
        try go_simp
      · -- 10: 39 := Op.nilCheck t29
        intro aq wq lq hI hl hdone hlater hold hd ho
        have h29 : aq.tmps.getD 29 undef = .pointer (some ⟨p, 0, none⟩) := hd 29 (by kernel_rfl)
        clear hd ho hdone hlater hold
        rw [Array.getD_eq_getD_getElem?] at h29
        refine Reg.step2_val (.pointer (some ⟨p, 0, none⟩)) ?_ rfl hI trivial
        go_simp
      · -- 11: 40 := Op.fieldAddr 51 t39 1
        intro aq wq lq hI hl hdone hlater hold hd ho
        have h39 : aq.tmps.getD 39 undef = .pointer (some ⟨p, 0, none⟩) := hd 39 (by kernel_rfl)
        clear hd ho hdone hlater hold
        rw [Array.getD_eq_getD_getElem?] at h39
        refine Reg.step2_val (.pointer (some ⟨p, 1, none⟩)) ?_ rfl hI trivial
        go_simp
      · -- 12: 41 := Op.indexAddr 49 t40 t31
        intro aq wq lq hI hl hdone hlater hold hd ho
        have h40 : aq.tmps.getD 40 undef = .pointer (some ⟨p, 1, none⟩) := hd 40 (by kernel_rfl)
        have h31 : aq.tmps.getD 31 undef = .int .i64 (j : Nat) := hd 31 (by kernel_rfl)
        clear hd ho hdone hlater hold
        rw [Array.getD_eq_getD_getElem?] at h40 h31
        refine Reg.step2_val (.pointer (some ⟨p, 1 + j, none⟩)) ?_ rfl hI trivial
        go_simp
      · -- 13: None := Op.store 48 t41 t38
        intro aq wq lq hI hl hdone hlater hold hd ho
        have h41 : aq.tmps.getD 41 undef = .pointer (some ⟨p, 1 + j, none⟩) := hd 41 (by kernel_rfl)
        have h38 : aq.tmps.getD 38 undef = .int .u64 (Z : Nat) := hd 38 (by kernel_rfl)
        have gd9 : lq 9 = true := hdone 9 (by kernel_rfl)
        clear hd ho hdone hlater hold
        rw [Array.getD_eq_getD_getElem?] at h41 h38
        have hJ := hI.1
        have hK := hI.2.2
        clear hI
        rw [show lq 13 = false from hl] at hJ
        have e0 := HCW.out _ hJ.1
        have f0 := Has.frozen hJ.1 (1 + j)
        refine Reg.step2_skip (wq.setCell ⟨p, 1 + j, none⟩ (.int .u64 (Z : Nat))) rfl ?_ ⟨⟨HST.out _ hJ.1, hJ.2.setCell (p := ⟨p, 1 + j, none⟩) (fun _ => by simp) _⟩, fun _ => gd9, hK⟩ trivial
        clear hJ hK
        simp [execOp]
        go_simp
      case hend =>
      intro wx hI
      simp only [Reg.fill, List.foldl_cons, List.foldl_nil, List.setIfInBounds_toArray, List.set_cons_zero, List.set_cons_succ]
      obtain ⟨hd1, hc1⟩ : GI w p n (ws.set j Z) wx := hI.1
      go_wp2_with fail
      go_ret
      exact ⟨rfl, _, hd1, HS'.out, hc1⟩
  · have ho : k < 0 ∨ (l.length : Int) ≤ k := by omega
    rw [hasL_out ho, putL_out ho]
    have hspn : Calls Tryd.prog 37 #[.pointer (some ⟨p, 0, none⟩), .int .i64 k] w fun e w' => e = .returned (.bool false) ∧ w = w' := (spans_t k w h).mono fun e w' ⟨he, hw⟩ => ⟨by rw [he, sp_no ho], hw⟩
    have HT := Lib.hid h
    clear ho hin h
    go_enter Tryd.func28, Tryd.ntmps28
    go_wp2_with fail
    refine hspn.mono ?_
    rintro e w1 ⟨rfl, rfl⟩
    clear hspn
    go_wp2_with fail
    go_ret
    exact ⟨rfl, _, HT.out, hs, Chg.refl _ _⟩
theorem put_nil (k : Int) (is : Bool) (w : World) : Calls Tryd.prog 28 #[.pointer none, .int .i64 k, .bool is] w fun e w' => e = .returned (.bool false) ∧ Below w.heap.size w w' := by
  go_enter Tryd.func28, Tryd.ntmps28
  go_wp2_with fail
  refine (spans_nil k w).mono ?_
  rintro e w1 ⟨rfl, rfl⟩
  go_wp2_with fail
  go_ret
  exact ⟨rfl, Below.refl _ _⟩
theorem put_any (k : Int) (is : Bool) (w : World) {R : List Nat} (h : SetAt w p R l) : Calls Tryd.prog 28 #[.pointer (some ⟨p, 0, none⟩), .int .i64 k, .bool is] w fun e w' => ∃ R', e = .returned (.bool (hasL l k)) ∧ SetAt w' p R' (putL l k is) ∧ (∀ k ∈ R', k ∈ R ∨ w.heap.size ≤ k) ∧ Chg (fun k => k ∈ R) w w' := by
  obtain ⟨ws, rfl, h1, h2, h3, h4⟩ := h
  refine (put_t k is w h1 h2 h4).mono ?_
  rintro e w' ⟨rfl, ws', k1, k2, k3⟩
  exact ⟨[p], rfl, ⟨ws', rfl, by rw [putL_length]; exact k1, k2, by rw [putL_length]; exact h3, by rw [putL_length]; exact h4⟩, fun k hk => .inl hk, k3⟩
theorem has_any (k : Int) (w : World) {R : List Nat} (h : SetAt w p R l) : Calls Tryd.prog 32 #[.pointer (some ⟨p, 0, none⟩), .int .i64 k] w fun e w' => e = .returned (.bool (hasL l k)) ∧ Below w.heap.size w w' := by
  obtain ⟨ws, rfl, h1, h2, h3, h4⟩ := h
  exact has_t k w h1 h2 h4
theorem size_any (w : World) {R : List Nat} (h : SetAt w p R l) : Calls Tryd.prog 44 #[.pointer (some ⟨p, 0, none⟩)] w fun e w' => e = .returned (.int .i64 l.length) ∧ Below w.heap.size w w' := by
  obtain ⟨ws, rfl, h1, h2, h3, h4⟩ := h
  exact (size_t w h1).mono fun e w' ⟨he, hw⟩ => ⟨he, by rw [← hw]; exact Below.refl _ _⟩
theorem sizes_nil (w : World) : Calls Tryd.prog 44 #[.pointer none] w fun e w' => e = .returned (.int .i64 0) ∧ Below w.heap.size w w' := (size_nil w).mono fun e w' ⟨he, hw⟩ => ⟨he, by rw [← hw]; exact Below.refl _ _⟩
set_option maxRecDepth 100000 in
theorem found_t (k : Int) (w : World) (h : TAt w p n ws) : Calls Tryd.prog 41 #[.pointer (some ⟨p, 0, none⟩), .int .i64 k] w fun e w' => e = .returned (.tuple #[.int .i64 (if spB n k = true then k else 0), .bool (spB n k)]) ∧ w = w' := by
  obtain ⟨B, hB⟩ : ∃ B, B = spB n k := ⟨_, rfl⟩
  have hspn := spans_t k w h
  rw [← hB] at hspn ⊢
  clear hB h
  cases B with
  | true =>
    rw [if_pos rfl]
    go_enter Tryd.func41, Tryd.ntmps41
    go_wp2_with fail
    refine hspn.mono ?_
    rintro e w1 ⟨rfl, rfl⟩
    clear hspn
    go_wp2_with fail
    go_ret2
    exact ⟨rfl, rfl⟩
  | false =>
    rw [if_neg (by decide)]
    go_enter Tryd.func41, Tryd.ntmps41
    go_wp2_with fail
    refine hspn.mono ?_
    rintro e w1 ⟨rfl, rfl⟩
    clear hspn
    go_wp2_with fail
    go_ret2
    exact ⟨rfl, rfl⟩
set_option maxRecDepth 100000 in
theorem tz_any (x : Nat) (hx : x < 18446744073709551616) (w : World) (hT : Tz w) : Calls Tryd.prog 39 #[.int .u64 (x : Nat)] w fun e w' => e = .returned (.int .i64 (Lib.ctz 64 x)) ∧ w = w' := by
  by_cases hx0 : x = 0
  · subst hx0
    go_enter Tryd.func39, Tryd.ntmps39
    go_wp2
    go_ret
    exact ⟨rfl, rfl⟩
  · obtain ⟨hlow, hk⟩ := Lib.lowest_bit 64 x hx0 hx
    obtain ⟨hi, htab⟩ := Lib.deBruijn64_at _ hk
    have hcell := hT.at_ hi
    have key := tz64_key x _ hx hx0 hlow
    rw [htab] at hcell
    obtain ⟨c, hc⟩ : ∃ c, c = Lib.ctz 64 x := ⟨_, rfl⟩
    rw [← hc] at hcell key hk hi ⊢
    obtain ⟨ix, hix⟩ : ∃ ix, ix = 2 ^ c * 285870213051353865 % 18446744073709551616 / 288230376151711744 := ⟨_, rfl⟩
    rw [← hix] at hcell key hi
    have hx1 : ((x : Int) == 0) = false := by simp; omega
    clear hlow htab hc hix hx0 hT
    go_enter Tryd.func39, Tryd.ntmps39
    go_wp2_with (simp only [key])
    go_ret
    exact ⟨rfl, rfl⟩
end
end Go.Proofs.YtkflccecdjfkiaaDoor.Bit
