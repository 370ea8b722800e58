/- Contracts of layer 9 (bits): Count, Copy, New. -/
import Derived.Test.YtkflccecdjfkiaaDoorBitQ
namespace Go.Proofs.YtkflccecdjfkiaaDoor.Bit
open Go.RowKit Go.Proofs.YtkflccecdjfkiaaDoor
set_option linter.unusedVariables false
section
variable {p : Nat} {n : Int} {ws : List Nat} {l : List Bool} {R : List Nat}
theorem last7 (q : Nat) : wrap64 (q : Int) % 128 = ((q % 128 : Nat) : Int) := by unfold wrap64; omega
theorem and_word (a b : Nat) (ha : a < 18446744073709551616) (hb : b < 18446744073709551616) : bits .and .u64 (a : Int) (b : Int) = ((a &&& b : Nat) : Int) := bits_and_u64_nat a b ha hb
set_option maxHeartbeats 1000000 in
set_option maxRecDepth 100000 in
theorem ones_any (x : Nat) (hx : x < 18446744073709551616) (w : World) : Calls Tryd.prog 45 #[.int .u64 (x : Nat)] w fun e w' => e = .returned (.int .i64 (popN 64 x)) ∧ w = w' := by
  obtain ⟨A1, hA1⟩ : ∃ a, a = x / 2 &&& 6148914691236517205 := ⟨_, rfl⟩
  obtain ⟨B1, hB1⟩ : ∃ a, a = x &&& 6148914691236517205 := ⟨_, rfl⟩
  obtain ⟨u1, hu1⟩ : ∃ a, a = A1 + B1 := ⟨_, rfl⟩
  obtain ⟨A2, hA2⟩ : ∃ a, a = u1 / 4 &&& 3689348814741910323 := ⟨_, rfl⟩
  obtain ⟨B2, hB2⟩ : ∃ a, a = u1 &&& 3689348814741910323 := ⟨_, rfl⟩
  obtain ⟨u2, hu2⟩ : ∃ a, a = A2 + B2 := ⟨_, rfl⟩
  obtain ⟨s3, hs3⟩ : ∃ a, a = u2 / 16 + u2 := ⟨_, rfl⟩
  obtain ⟨u3, hu3⟩ : ∃ a, a = s3 &&& 1085102592571150095 := ⟨_, rfl⟩
  obtain ⟨y, hy⟩ : ∃ a, a = u3 + u3 / 256 := ⟨_, rfl⟩
  obtain ⟨z, hz⟩ : ∃ a, a = y + y / 65536 := ⟨_, rfl⟩
  obtain ⟨q, hq⟩ : ∃ a, a = z + z / 4294967296 := ⟨_, rfl⟩
  obtain ⟨r0, r1, r2, r3, r4, r5, r6, r7⟩ := popcount x u1 u2 u3 hx (by rw [hu1, hA1, hB1]) (by rw [hu2, hA2, hB2]) (by rw [hu3, hs3]) y z hy hz
  rw [← hq] at r0 r7
  rw [← hs3] at r3
  have k1 : bits .and .u64 ((x : Int) / 2) 6148914691236517205 = (A1 : Int) := by rw [hA1]; exact and_word (x / 2) 6148914691236517205 (by omega) (by decide)
  have k2 : bits .and .u64 (x : Int) 6148914691236517205 = (B1 : Int) := by rw [hB1]; exact and_word x 6148914691236517205 hx (by decide)
  have k3 : IntKind.u64.wrap ((A1 : Int) + (B1 : Int)) = (u1 : Int) := by rw [IntKind.wrap_u64]; omega
  have k4 : bits .and .u64 ((u1 : Int) / 4) 3689348814741910323 = (A2 : Int) := by rw [hA2]; exact and_word (u1 / 4) 3689348814741910323 (by omega) (by decide)
  have k5 : bits .and .u64 (u1 : Int) 3689348814741910323 = (B2 : Int) := by rw [hB2]; exact and_word u1 3689348814741910323 r1 (by decide)
  have k6 : IntKind.u64.wrap ((A2 : Int) + (B2 : Int)) = (u2 : Int) := by rw [IntKind.wrap_u64]; omega
  have k7 : IntKind.u64.wrap ((u2 : Int) / 16 + (u2 : Int)) = (s3 : Int) := by rw [IntKind.wrap_u64]; omega
  have k8 : bits .and .u64 (s3 : Int) 1085102592571150095 = (u3 : Int) := by rw [hu3]; exact and_word s3 1085102592571150095 r3 (by decide)
  have k9 : IntKind.u64.wrap ((u3 : Int) + (u3 : Int) / 256) = (y : Int) := by rw [IntKind.wrap_u64]; omega
  have k10 : IntKind.u64.wrap ((y : Int) + (y : Int) / 65536) = (z : Int) := by rw [IntKind.wrap_u64]; omega
  have k11 : IntKind.u64.wrap ((z : Int) + (z : Int) / 4294967296) = (q : Int) := by rw [IntKind.wrap_u64]; omega
  have k12 : bits .and .i64 (wrap64 (q : Int)) 127 = (popN 64 x : Nat) := by
    rw [i64_and127, last7, r0]
  obtain ⟨P, hP⟩ : ∃ P, P = popN 64 x := ⟨_, rfl⟩
  rw [← hP] at k12 ⊢
  clear hA1 hB1 hu1 hA2 hB2 hu2 hs3 hu3 hy hz hq r0 r1 r2 r3 r4 r5 r6 r7 hx hP
  go_enter Tryd.func45, Tryd.ntmps45
  go_wp2
  go_ret
  exact ⟨rfl, rfl⟩
set_option maxHeartbeats 1000000 in
set_option maxRecDepth 100000 in
theorem count_t (w : World) (h : TAt w p (l.length : Nat) ws) (hs : WS ws l) (hl : l.length ≤ 4096) : Calls Tryd.prog 36 #[.pointer (some ⟨p, 0, none⟩)] w fun e w' => e = .returned (.int .i64 (cntL l)) ∧ w = w' := by
  have e0 := h.ldw
  have HS := Lib.hid hs
  have HC := Lib.hid (show cntN l (64 * 64) = cntL l from cntN_all (by omega))
  have hall : ∀ j, cntN l j ≤ j := cntN_le l
  have HLE := Lib.hid hall
  clear hs h hall hl
  go_enter Tryd.func36, Tryd.ntmps36
  go_wp2_with fail
  clear e0
  go_loopw [3, 12] (fun s i wr => ∃ c : Nat, c ≤ 64 ∧ i = .int .i64 c ∧ s = .int .i64 (cntN l (64 * c)) ∧ wr = w) (fun _ i _ => 64 - (intOf i).toNat)
  case atStart => exact ⟨0, by omega, rfl, rfl, rfl⟩
  case round =>
    obtain ⟨c, hc, rfl, rfl, hwr⟩ := hrel
    obtain rfl : w = wr := hwr.symm
    clear hwr
    by_cases hlt : c < 64
    · have hlt' : (c : Int) < 64 := by omega
      have hx := fun W => words_at ws hlt W
      have hlw := HS.out.lt c
      have htn := HS.out.turn hlt
      obtain ⟨x, hx1⟩ : ∃ x, x = wg ws c := ⟨_, rfl⟩
      rw [← hx1] at hlw htn
      simp only [← hx1] at hx
      have hon := ones_any x hlw w
      obtain ⟨q, hq⟩ : ∃ q, q = popN 64 x := ⟨_, rfl⟩
      rw [← hq] at hon htn
      obtain ⟨N, hN⟩ : ∃ N, N = cntN l (64 * c) := ⟨_, rfl⟩
      rw [← hN] at htn ⊢
      have hN2 : N ≤ 4096 := by rw [hN]; have := HLE.out (64 * c); omega
      have hq2 : q ≤ 64 := by rw [hq]; exact popN_le x 64
      have HTN := Lib.hid htn
      clear hx1 hlw htn hq hN
      go_wp2_with fail
      refine hon.mono ?_
      rintro e w1 ⟨rfl, rfl⟩
      clear hx
      go_wp2_with fail
      go_roundw
      case rel => exact ⟨c + 1, by omega, by go_num, by rw [HTN.out]; go_num, trivial⟩
      case measure => simp [intOf]; omega
    · obtain rfl : c = 64 := by omega
      rw [HC.out]
      go_wp2_with fail
      go_ret
      exact ⟨rfl, rfl⟩
theorem count_any (w : World) (h : SetAt w p R l) : Calls Tryd.prog 36 #[.pointer (some ⟨p, 0, none⟩)] w fun e w' => e = .returned (.int .i64 (cntL l)) ∧ Below w.heap.size w w' := by
  obtain ⟨ws, rfl, h1, h2, h3, h4⟩ := h
  exact (count_t w h1 h2 h4).mono fun e w' ⟨he, hw⟩ => ⟨he, by rw [← hw]; exact Below.refl _ _⟩
theorem count_nil (w : World) : Calls Tryd.prog 36 #[.pointer none] w fun e w' => e = .returned (.int .i64 0) ∧ Below w.heap.size w w' := by
  go_enter Tryd.func36, Tryd.ntmps36
  go_wp2
  go_ret
  exact ⟨rfl, Below.refl _ _⟩
set_option maxRecDepth 100000 in
theorem copy_any (w : World) (h : SetAt w p R l) : Calls Tryd.prog 27 #[.pointer (some ⟨p, 0, none⟩)] w fun e w' => ∃ p' R', e = .returned (.pointer (some ⟨p', 0, none⟩)) ∧ SetAt w' p' R' l ∧ (∀ k ∈ R', w.heap.size ≤ k) ∧ Below w.heap.size w w' := by
  obtain ⟨ws, rfl, h1, h2, h3, h4⟩ := h
  have e0 := h1.ld
  have HM := Lib.hid (TAt.made w (l.length : Nat) ws)
  go_enter Tryd.func27, Tryd.ntmps27
  go_wp2_with (first | with_reducible refine wl_alloc ?_)
  go_ret
  exact ⟨_, _, rfl, ⟨ws, rfl, HM.out, h2, h3, h4⟩, by simp, b_new _ _⟩
theorem copy_nil (w : World) : Calls Tryd.prog 27 #[.pointer none] w fun e w' => e = .returned (.pointer none) ∧ Below w.heap.size w w' := by
  go_enter Tryd.func27, Tryd.ntmps27
  go_wp2
  go_ret
  exact ⟨rfl, Below.refl _ _⟩
set_option maxRecDepth 100000 in
theorem new_yes (n : Int) (w : World) (hn : mayS n = true) : Calls Tryd.prog 26 #[.int .i64 n] w fun e w' => ∃ p R, e = .returned (.tuple #[.pointer (some ⟨p, 0, none⟩), .int .i64 0]) ∧ SetAt w' p R (List.replicate n.toNat false) ∧ (∀ k ∈ R, w.heap.size ≤ k) ∧ Below w.heap.size w w' := by
  obtain ⟨n1, n2⟩ := mayS_bd hn
  have HM := Lib.hid (TAt.made w n zs)
  have HL := Lib.hid (show (((List.replicate n.toNat false).length : Nat) : Int) = n by simp; omega)
  clear hn
  go_enter Tryd.func26, Tryd.ntmps26
  go_wp2_with (first | (refine wl_build1 n rfl ?_))
  go_ret2
  exact ⟨w.heap.size, [w.heap.size], rfl, ⟨zs, rfl, by rw [HL.out]; exact HM.out, WS.new _, by simp; omega, by simp; omega⟩, by simp, b_new _ _⟩
theorem new_no (n : Int) (w : World) (hn : mayS n = false) : Calls Tryd.prog 26 #[.int .i64 n] w fun e w' => e = .returned (.tuple #[.pointer none, .int .i64 2]) ∧ Below w.heap.size w w' := by
  by_cases h1 : n < 1
  · clear hn
    go_enter Tryd.func26, Tryd.ntmps26
    go_wp2
    go_ret2
    exact ⟨rfl, Below.refl _ _⟩
  · have h2 : 4096 < n := by
      rcases Int.lt_or_le 4096 n with h | h
      · exact h
      · rw [mayS_of (by omega) h] at hn; cases hn
    clear hn
    go_enter Tryd.func26, Tryd.ntmps26
    go_wp2
    go_ret2
    exact ⟨rfl, Below.refl _ _⟩
end
end Go.Proofs.YtkflccecdjfkiaaDoor.Bit
