/- Layer 6's laws: wakes, same. -/
import Derived.Test.YtonfafjacmifaaaTabAt
import Derived.Test.YtonfafjacmifaaaTabMo
import Derived.Test.YtonfafjacmifaaaTabPa
import Derived.Deep.DeepCutAuto
namespace Go.Proofs.Ytonfafjacmifaaa.Tab
open Go.RowKit Go.Proofs.Ytonfafjacmifaaa Go.Proofs.Ytonfafjacmifaaa.Lend
set_option linter.unusedVariables false

theorem Ints.row_set {w : World} {ao : Option Addr} {len cap q : Nat} {m : List Int} (h : Ints w ao len cap m) (hq : ∀ a, ao = some a → a.block ≠ q) (cs : Array Value) : Ints (w.setRow q cs) ao len cap m := ⟨Row.setRow h.row hq cs, h.le, h.nil⟩
theorem cells_on {w w1 : World} {p : Addr} {v : Value} (h : w.cell? p = some v) (hb : Below w.heap.size w w1) : w1.cell? p = some v := (hb.cell (World.block_lt_of_cell? w _ h)).trans h

set_option maxHeartbeats 1000000 in
set_option maxRecDepth 100000 in
theorem wakes_any (w : World) : Calls Try.prog 10 #[] w fun e w' => e = .returned (.bool true) ∧ Below w.heap.size w w' := by
  go_enter Try.func10, Try.ntmps10
  go_wp2_with (first | with_reducible refine wl_alloc ?_)
  refine (new_any 10 2 _).mono ?_
  rintro e w1 ⟨rfl, hb⟩
  rw [show nwE 10 2 = 0 from rfl, show nwN 10 2 = 10 from rfl, show nwK 10 2 = 2 from rfl]
  have g0 : Good 10 2 [] := Good.nil rfl
  have h1 := Lib.hid (TAt.made w1 10 2 [])
  have B1 := Lib.hid (b_nw hb (.cells (ta 10 2 []) 25))
  have e0 := h1.out.ld
  clear hb
  go_wp2_with (first | with_reducible refine wl_alloc ?_)
  refine (move_any 10 2 3 [] _ g0).mono ?_
  rintro e w2 ⟨rfl, hb⟩
  rw [show mvE 10 2 [] 3 = 0 from rfl, show mvN 10 2 [] 3 = 10 from rfl, show mvK 10 2 [] 3 = 2 from rfl, show mvM 10 2 [] 3 = [3] from rfl]
  have g1 : Good 10 2 [3] := (g0.push (b := 3) rfl).1
  have h2 := Lib.hid ((h1.out.on hb).new (.cells (ta 10 2 [3]) 25))
  have u2 := Lib.hid (TAt.made w2 10 2 [3])
  have B2 := Lib.hid (b_nw (b_on B1.out hb) (.cells (ta 10 2 [3]) 25))
  clear hb e0 h1 B1
  have f0 := u2.out.ld
  go_wp2_with (first | with_reducible refine wl_alloc ?_)
  refine (at_any 10 2 3 [3] _ g1).mono ?_
  rintro e w3 ⟨rfl, hb⟩
  rw [show atN 10 [3] 3 = 10 from rfl, show atE 10 3 = 0 from rfl]
  have h3 := Lib.hid (h2.out.on hb)
  have u3 := Lib.hid (u2.out.on hb)
  have B3 := Lib.hid (b_on B2.out hb)
  have e0 := h3.out.ld
  clear hb f0 h2 u2 B2
  go_wp2_with (first | with_reducible refine wl_alloc ?_)
  refine (at_any 10 2 3 [] _ g0).mono ?_
  rintro e w4 ⟨rfl, hb⟩
  rw [show atN 10 [] 3 = 3 from rfl, show atE 10 3 = 0 from rfl]
  have u4 := Lib.hid (u3.out.on hb)
  have B4 := Lib.hid (b_on B3.out hb)
  have f0 := u4.out.ld
  clear hb e0 h3 u3 B3
  go_wp2_with (first | with_reducible refine wl_alloc ?_)
  refine (left_any 10 2 [3] _ (by decide) (by decide) (by decide)).mono ?_
  rintro e w5 ⟨rfl, hb⟩
  have u5 := Lib.hid (u4.out.on hb)
  have B5 := Lib.hid (b_on B4.out hb)
  clear hb f0 u4 B4
  have f0 := u5.out.ld
  go_wp2_with (first | with_reducible refine wl_alloc ?_)
  refine (gen_any 10 2 [3] _ (by decide)).mono ?_
  rintro e w6 ⟨rfl, hb⟩
  have B6 := Lib.hid (b_on B5.out hb)
  clear hb f0
  go_wp2_with (first | with_reducible refine wl_alloc ?_)
  go_ret
  exact ⟨rfl, B6.out⟩

theorem mvd_step_no {m : List Int} {j : Nat} (h : ¬ (j : Int) ∈ m) : (mvd (j + 1) m).length = (mvd j m).length := by rw [mvd_succ, if_neg h]
theorem mvd_step_yes {m : List Int} {j : Nat} (h : (j : Int) ∈ m) : (mvd (j + 1) m).length = (mvd j m).length + 1 := by rw [mvd_succ, if_pos h]; simp
set_option maxHeartbeats 2000000 in
set_option maxRecDepth 100000 in
theorem same_any (n k : Int) (ro : Option Addr) (rl rc : Nat) (m : List Int) (w : World) (hr : Ints w ro rl rc m) (hg : Good n k m) :
    Calls Try.prog 11 #[.agg (ta n k m), .int .i64 n, .int .i64 k, .slice ro rl rc] w fun e w' => e = .returned (.bool true) ∧ Below w.heap.size w w' := by
  obtain ⟨g1, g2, g3, g4, g5⟩ := hg.bd
  have hlen := hr.len_eq
  have hl : rl ≤ 32 := by omega
  have hwl : IntKind.u64.wrap (rl : Int) = rl := by rw [wrap_u64]; omega
  obtain ⟨N, rfl⟩ := Int.eq_ofNat_of_zero_le (show 0 ≤ n by omega)
  have HT := Lib.hid (TAt.made w N k m)
  have HR := Lib.hid (hr.new (.cells (ta N k m) 25))
  have HB := Lib.hid (b_new w (.cells (ta N k m) 25))
  have HG := Lib.hid hg
  have e0 := HT.out.ld
  clear hr hg
  go_enter Try.func11, Try.ntmps11
  go_wp2_with fail
  refine (blocks_any _ _ _ _).mono ?_
  rintro e w1 ⟨rfl, hb⟩
  have HT1 := Lib.hid (HT.out.on hb)
  have HR1 := Lib.hid (HR.out.below hb)
  have HB1 := Lib.hid (b_on HB.out hb)
  clear hb e0 HT HR HB
  have e0 := HT1.out.ld
  go_wp2_with fail
  refine (left_any _ _ m _ g3 g4 g5).mono ?_
  rintro e w2 ⟨rfl, hb⟩
  have HT2 := Lib.hid (HT1.out.on hb)
  have HR2 := Lib.hid (HR1.out.below hb)
  have HB2 := Lib.hid (b_on HB1.out hb)
  clear hb e0 HT1 HR1 HB1
  have e0 := HT2.out.ld
  go_wp2_with fail
  refine (gen_any _ _ m _ g5).mono ?_
  rintro e w3 ⟨rfl, hb⟩
  have HT3 := Lib.hid (HT2.out.on hb)
  have HR3 := Lib.hid (HR2.out.below hb)
  have HB3 := Lib.hid (b_on HB2.out hb)
  clear hb e0 HT2 HR2 HB2
  have e0 := HT3.out.ld
  go_wp2_with fail
  refine (text_any _ _ m _ HG.out).mono ?_
  rintro e w4 ⟨rfl, hb⟩
  have HT4 := Lib.hid (HT3.out.on hb)
  have HR4 := Lib.hid (HR3.out.below hb)
  have HB4 := Lib.hid (b_on HB3.out hb)
  clear hb e0 HT3 HR3 HB3
  have e0 := HT4.out.ld
  go_wp2_with fail
  refine (reftext_any _ _ _ _ _ m _ HR4.out HG.out).mono ?_
  rintro e w5 ⟨rfl, hb⟩
  have HT5 := Lib.hid (HT4.out.on hb)
  have HR5 := Lib.hid (HR4.out.below hb)
  have HB5 := Lib.hid (b_on HB4.out hb)
  clear hb e0 HT4 HR4 HB4
  have e0 := HT5.out.ld
  go_wp2_with fail
  refine (moved_any _ _ m _ HG.out).mono ?_
  rintro e w6 ⟨va, vl, vc, rfl, hv, _, hb⟩
  rw [Int.toNat_natCast] at hv
  have HV := Lib.hid hv
  have HT6 := Lib.hid (HT5.out.on hb)
  have HR6 := Lib.hid (HR5.out.below hb)
  have HB6 := Lib.hid (b_on HB5.out hb)
  have HVL := Lib.hid hv.len_eq
  have hvl : vl ≤ N := by rw [← hv.len_eq]; exact mvd_length_le _ _
  clear hb hv e0 HT5 HR5 HB5
  go_wp2_with fail
  go_loopw [10, 11] (fun q i wr => ∃ c Q : Nat, c ≤ N + 2 ∧ i = .int .i64 ((c : Int) - 1) ∧ q = .int .i64 Q ∧ Q = (mvd (min (c - 1) N) m).length ∧ Below w6.heap.size w6 wr) (fun _ i _ => ((N : Int) + 1 - intOf i).toNat)
  case atStart => exact ⟨0, 0, by omega, rfl, rfl, by rw [show min (0 - 1) N = 0 by omega]; rfl, Below.refl _ _⟩
  case round =>
    obtain ⟨c, Q, hc, rfl, rfl, hQ, hbr⟩ := hrel
    have HTr := Lib.hid (HT6.out.on hbr)
    have HRr := Lib.hid (HR6.out.below hbr)
    have HVr := Lib.hid (HV.out.below hbr)
    have HBr := Lib.hid hbr
    have HQ := Lib.hid hQ
    have e0 := HTr.out.ld
    have hQ2 : Q ≤ 4096 := by rw [hQ]; have := mvd_length_le (min (c - 1) N) m; omega
    clear hbr hQ
    by_cases hlt : c ≤ N + 1
    · have hle : (c : Int) - 1 ≤ N := by omega
      by_cases hin : 1 ≤ c ∧ c ≤ N
      · obtain ⟨hc1, hc2⟩ := hin
        obtain ⟨J, rfl⟩ : ∃ J, c = J + 1 := ⟨c - 1, by omega⟩
        have hJ : ((J + 1 : Nat) : Int) - 1 = (J : Int) := by omega
        rw [hJ] at hle ⊢
        obtain ⟨y1, y2, y3⟩ := at_yes (m := m) (n := N) (b := J) (by omega) (by omega)
        obtain ⟨P, hP⟩ : ∃ P, P = plc N m J := ⟨_, rfl⟩
        rw [← hP] at y3
        have Y2 := Lib.hid y2
        have Y3 := Lib.hid y3
        have hmv : P ≠ J ↔ (J : Int) ∈ m := by rw [hP]; exact plc_moved (by omega)
        have HQ' := Lib.hid (show Q = (mvd J m).length by rw [HQ.out]; congr 2; omega)
        have hJN : (J : Int) < N := by omega
        by_cases hmem : (J : Int) ∈ m
        · have hne := hmv.2 hmem
          obtain ⟨k1, k2⟩ := mvd_at (j := J) (N := N) (by omega) hmem
          rw [HVL.out, ← HQ'.out] at k1
          rw [← HQ'.out] at k2
          obtain ⟨vb, vo, rfl, hcell⟩ := HVr.out.get (by omega)
          have hcq := hcell Q k1
          rw [k2] at hcq
          have HST := Lib.hid (mvd_step_yes hmem)
          have HHQ := Lib.hid hcq
          have hQl : (Q : Int) < (vl : Int) := by omega
          clear hmv hcell hcq k2 y1 y2 y3 hP
          go_wp2_with fail
          refine (at_any _ _ _ m _ HG.out).mono ?_
          rintro e w7 ⟨rfl, hb⟩
          rw [Y2.out, Y3.out]
          have HRs := Lib.hid (HRr.out.below hb)
          have HBs := Lib.hid (b_on HBr.out hb)
          have hcq := cells_on HHQ.out hb
          clear hb
          go_wp2_with fail
          refine (refat_any _ _ _ _ _ m _ HRs.out (by omega) (by omega) hl).mono ?_
          rintro e w8 ⟨rfl, rfl⟩
          rw [Y2.out, Y3.out]
          go_wp2_with fail
          go_roundw
          case rel => exact ⟨J + 2, Q + 1, by omega, by go_num, by go_num, by rw [show min (J + 2 - 1) N = J + 1 by omega, HST.out, HQ'.out], HBs.out⟩
          case measure => simp [intOf]; omega
        · have heq : P = J := by
            by_cases h : P = J
            · exact h
            · exact absurd (hmv.1 h) hmem
          have HST := Lib.hid (mvd_step_no hmem)
          have Y3 := Lib.hid (show atN N m J = J by rw [y3]; exact heq)
          clear hmv hmem y1 y2 y3 hP heq
          go_wp2_with fail
          refine (at_any _ _ _ m _ HG.out).mono ?_
          rintro e w7 ⟨rfl, hb⟩
          rw [Y2.out, Y3.out]
          have HRs := Lib.hid (HRr.out.below hb)
          have HBs := Lib.hid (b_on HBr.out hb)
          clear hb
          go_wp2_with fail
          refine (refat_any _ _ _ _ _ m _ HRs.out (by omega) (by omega) hl).mono ?_
          rintro e w8 ⟨rfl, rfl⟩
          rw [Y2.out, Y3.out]
          go_wp2_with fail
          go_roundw
          case rel => exact ⟨J + 2, Q, by omega, by go_num, rfl, by rw [show min (J + 2 - 1) N = J + 1 by omega, HST.out, HQ'.out], HBs.out⟩
          case measure => simp [intOf]; omega
      · obtain ⟨y1, y2, y3⟩ := at_no (m := m) (n := N) (b := (c : Int) - 1) (by omega)
        have Y2 := Lib.hid y2
        have Y3 := Lib.hid y3
        have HQ' := Lib.hid (show Q = (mvd (min (c + 1 - 1) N) m).length by rw [HQ.out]; congr 2; omega)
        clear y1 y2 y3
        go_wp2_with fail
        refine (at_any _ _ _ m _ HG.out).mono ?_
        rintro e w7 ⟨rfl, hb⟩
        rw [Y2.out, Y3.out]
        have HRs := Lib.hid (HRr.out.below hb)
        have HBs := Lib.hid (b_on HBr.out hb)
        clear hb
        go_wp2_with fail
        refine (refat_any _ _ _ _ _ m _ HRs.out (by omega) (by omega) hl).mono ?_
        rintro e w8 ⟨rfl, rfl⟩
        rw [Y2.out, Y3.out]
        go_wp2_with fail
        go_roundw
        case rel => exact ⟨c + 1, Q, by omega, by go_num, rfl, HQ'.out, HBs.out⟩
        case measure => simp [intOf]; omega
    · have hle : (N : Int) < (c : Int) - 1 := by omega
      have HQ' := Lib.hid (show (Q : Int) = vl by rw [HQ.out, show min (c - 1) N = N by omega, HVL.out])
      have hqv := HQ'.out
      go_wp2_with fail
      go_ret
      exact ⟨rfl, b_on HB6.out HBr.out⟩
end Go.Proofs.Ytonfafjacmifaaa.Tab
