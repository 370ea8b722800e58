/-
  The law DevFaults holds: a bad sector stays bad, a device that is gone stays gone, a lost write leaves what was there, and one that strays leaves it, too, and is elsewhere. Conditions: none but the row's own.
-/
import Derived.Test.YtcaibndlchkecaaRows
import Derived.Test.YtcaibndlchkecaaDevFM
import Derived.Test.YtcaibndlchkecaaDevO
import Derived.Test.YtcaibndlchkecaaDevF
import Derived.Test.YtcaibndlchkecaaArr
import Derived.WalkKit
import Derived.ProofKit
import Derived.OpenShut
import Derived.ShutString
import Derived.ChangeOld
import Derived.Below
import Derived.Carry
namespace Go.Proofs.Ytcaibndlchkecaa.devFaults
open Go.ChangeShapes Go.WideShapes Go.ChangeAt Go.RowKit
open Go.Proofs.Ytcaibndlchkecaa
open Go.ChangeMaps (open_string shut_string)
set_option linter.unusedVariables false

theorem own : ownKnob Try.prog.godebug = none := by kernel_rfl
theorem laidOut : laidOutB Try.prog = true := by kernel_rfl

theorem len4 {α : Type} : ∀ l : List α, l.length = 4 → ∃ z0 z1 z2 z3, l = [z0, z1, z2, z3]
  | [z0, z1, z2, z3], _ => ⟨z0, z1, z2, z3, rfl⟩

open Go.Proofs.Ytcaibndlchkecaa.Dev
theorem u8_nat {a : Int} (h : (Lit.int .u8 a).wf = true) : ∃ x : Nat, a = x ∧ x < 256 := by
  have := bounds_u8 h
  exact ⟨a.toNat, by omega, by omega⟩
theorem run_min20 (P : Program) (w : World) (t : TypeId) (ts : Array TypeId) (a c : Nat) : (Builtin.min_ ts t #[.int .i64 (a : Nat), .int .i64 (c : Nat)]).run P w = .ok (.int .i64 ((min a c : Nat) : Int)) w := by
  have e : ∀ a b : Nat, (if (b : Int) < a then (b : Int) else a) = ((min a b : Nat) : Int) := by intro a b; split <;> omega
  simp only [Builtin.min_, Builtin.min2, List.foldlM, Sem.run_bind, Sem.run_pure, Result.andThen]
  rw [e]
theorem mod3_u8 (q : Nat) (h : q < 256) : IntKind.u8.wrap ((q : Int).tmod 3) = ((q % 3 : Nat) : Int) := by
  rw [Int.tmod_eq_emod_of_nonneg (by omega), IntKind.wrap_u8']; omega

/-! ### STEP 1: THE WALK -/
set_option maxHeartbeats 8000000 in
set_option maxRecDepth 100000 in
theorem walk (a0f0 : Int) (a0f1 : Int) (a0f2 : Int) (a0f3 : Option Addr) (a0f3l a0f3c : Nat) (a0f3z : List Int) (w : World) (w0f0 : (Lit.int .u8 a0f0).wf = true) (w0f1 : (Lit.int .u8 a0f1).wf = true) (w0f2 : (Lit.int .u8 a0f2).wf = true) (w0f3 : Row .u8 w a0f3 a0f3l a0f3z) (w0f3l : a0f3l ≤ a0f3c) (w0f3m : a0f3c ≤ maxLen) (w0f3w : ∀ n ∈ a0f3z, (Lit.int .u8 n).wf = true) :
    Calls Try.prog 6 #[.agg #[.int .u8 a0f0, .int .u8 a0f1, .int .u8 a0f2, .slice a0f3 a0f3l a0f3c]] w fun e w' => e = .returned (.bool true) ∧ Below w.heap.size w w' := by
  obtain ⟨x, rfl, hx⟩ := u8_nat w0f0
  obtain ⟨y, rfl, hy⟩ := u8_nat w0f1
  obtain ⟨z, rfl, hz⟩ := u8_nat w0f2
  have HROW := Lib.hid w0f3
  have HWF := Lib.hid w0f3w
  clear w0f0 w0f1 w0f2 w0f3 w0f3w
  obtain ⟨w0, hw0⟩ : ∃ w0, w0 = w.alloc (.cells #[.int .u8 (x : Nat), .int .u8 (y : Nat), .int .u8 (z : Nat), .slice a0f3 a0f3l a0f3c] 74) := ⟨_, rfl⟩
  have hbox : Has w0 w.heap.size 74 [.int .u8 (x : Nat), .int .u8 (y : Nat), .int .u8 (z : Nat), .slice a0f3 a0f3l a0f3c] := by rw [hw0]; exact Has.new _ _ _
  have hB0 : Below w.heap.size w w0 := by rw [hw0]; exact (Below.refl _ _).alloc (Nat.le_refl _) _
  have hz0 : w0.heap.size = w.heap.size + 1 := by rw [hw0]; simp
  have HBOX := Lib.hid hbox
  have HB0 := Lib.hid hB0
  have HZ0 := Lib.hid hz0
  have h3 := hbox.cell 3
  simp only [List.getElem?_cons_succ, List.getElem?_cons_zero] at h3
  clear hbox hB0 hz0
  unfold maxLen at w0f3m
  go_enter Try.func6, Try.ntmps6
  go_wp2_with fail
  rw [← hw0]
  clear hw0
  go_wp2_with fail
  clear h3
  refine (new_own w0 _ (Below.refl _ _)).mono ?_
  rintro e w1 ⟨p, rfl, h1⟩
  have H1 := Lib.hid h1
  have hbx := HBOX.out.below h1.below HBOX.out.lt
  have b0 := hbx.cell 0
  have b1 := hbx.cell 1
  have b2 := hbx.cell 2
  simp only [List.getElem?_cons_succ, List.getElem?_cons_zero] at b0 b1 b2
  clear h1 hbx
  have mx : ((x : Nat) : Int).tmod 9 = ((x % 9 : Nat) : Int) := by rw [Int.tmod_eq_emod_of_nonneg (by omega)]; rfl
  have my : ((y : Nat) : Int).tmod 9 = ((y % 9 : Nat) : Int) := by rw [Int.tmod_eq_emod_of_nonneg (by omega)]; rfl
  have mz : ((z : Nat) : Int).tmod 9 = ((z % 9 : Nat) : Int) := by rw [Int.tmod_eq_emod_of_nonneg (by omega)]; rfl
  have vx : IntKind.i64.wrap ((x : Nat) : Int) = ((x : Nat) : Int) := by rw [IntKind.wrap_i64]; omega
  have vy : IntKind.i64.wrap ((y : Nat) : Int) = ((y : Nat) : Int) := by rw [IntKind.wrap_i64]; omega
  have vz : IntKind.i64.wrap ((z : Nat) : Int) = ((z : Nat) : Int) := by rw [IntKind.wrap_i64]; omega
  go_wp2_with fail
  go_quiet (fail)
  clear mx my mz vx vy vz b0 b1 b2
  obtain ⟨bn, hbn⟩ : ∃ bn, bn = x % 9 := ⟨_, rfl⟩
  obtain ⟨ln, hln⟩ : ∃ ln, ln = y % 9 := ⟨_, rfl⟩
  obtain ⟨tn, htn⟩ : ∃ tn, tn = z % 9 := ⟨_, rfl⟩
  rw [show ((x : Int) % 9) = ((x % 9 : Nat) : Int) from rfl, show ((y : Int) % 9) = ((y % 9 : Nat) : Int) from rfl, show ((z : Int) % 9) = ((z % 9 : Nat) : Int) from rfl, ← hbn, ← hln, ← htn]
  have hb9 : bn < 9 := by omega
  have hl9 : ln < 9 := by omega
  have ht9 : tn < 9 := by omega
  have H2 := Lib.hid (H1.out.drewN nq)
  clear hbn hln htn hx hy hz H1
  go_wp2_with fail
  refine (wakes_any _).mono ?_
  rintro e w2 ⟨rfl, hb2⟩
  have H3 := Lib.hid (H2.out.later hb2)
  clear hb2 H2
  by_cases e1 : bn = ln
  · have q1 : ((bn : Int) == (ln : Int)) = true := by simp [e1]
    clear e1
    go_wp2_with fail
    go_ret
    exact ⟨rfl, HB0.out.trans (H3.out.below.mono (by rw [HZ0.out]; omega))⟩
  · have q1 : ((bn : Int) == (ln : Int)) = false := by simp; omega
    by_cases e2 : bn = tn
    · have q2 : ((bn : Int) == (tn : Int)) = true := by simp [e2]
      clear e1 e2
      go_wp2_with fail
      go_ret
      exact ⟨rfl, HB0.out.trans (H3.out.below.mono (by rw [HZ0.out]; omega))⟩
    · have q2 : ((bn : Int) == (tn : Int)) = false := by simp; omega
      by_cases e3 : ln = tn
      · have q3 : ((ln : Int) == (tn : Int)) = true := by simp [e3]
        clear e1 e2 e3
        go_wp2_with fail
        go_ret
        exact ⟨rfl, HB0.out.trans (H3.out.below.mono (by rw [HZ0.out]; omega))⟩
      · have q3 : ((ln : Int) == (tn : Int)) = false := by simp; omega
        have NE1 := Lib.hid e1
        have NE2 := Lib.hid e2
        have NE3 := Lib.hid e3
        obtain ⟨t1, ht1⟩ : ∃ t, t = fullN ⟨#[111, 108, 100]⟩ := ⟨_, rfl⟩
        obtain ⟨t2, ht2⟩ : ∃ t, t = fullN ⟨#[108, 111, 115, 116]⟩ := ⟨_, rfl⟩
        obtain ⟨t3, ht3⟩ : ∃ t, t = fullN ⟨#[115, 116, 114, 97, 121, 115]⟩ := ⟨_, rfl⟩
        have Z1 := Lib.hid (show t1.size = 128 by rw [ht1]; exact fullN_size _)
        have Z2 := Lib.hid (show t2.size = 128 by rw [ht2]; exact fullN_size _)
        have Z3 := Lib.hid (show t3.size = 128 by rw [ht3]; exact fullN_size _)
        have T1 := Lib.hid ht1.symm
        have T2 := Lib.hid ht2.symm
        have T3 := Lib.hid ht3.symm
        have W1 := Lib.hid (first_write ln hl9 t1 Z1.out)
        have F1 := Lib.hid (first_flush ln hl9 t1 Z1.out)
        have S1 := Lib.hid (first_stick bn ln hb9 t1 e1)
        have SL := Lib.hid (secs9_l bn ln t1 hl9 e1)
        have ST := Lib.hid (secs9_t bn ln tn t1 ht9 e2 e3)
        have SN := Lib.hid (secs9_len bn ln t1)
        clear e1 e2 e3 ht1 ht2 ht3
        go_wp2_with fail
        refine (full_any _ _ (by decide)).mono ?_
        rintro e wf ⟨rfl, hb⟩
        rw [T1.out]
        have H4 := Lib.hid (H3.out.later hb)
        clear hb H3
        go_wp2_with fail
        refine (write_own (ln : Nat) t1 H4.out (by decide) (by rw [Z1.out]; decide)).mono ?_
        rintro e w5 ⟨rfl, h⟩
        rw [W1.out] at h
        have H5 := Lib.hid h
        clear h H4
        go_wp2_with fail
        refine (flush_own H5.out (show 1 ≤ 1000000000 by decide)).mono ?_
        rintro e w6 ⟨rfl, h⟩
        rw [F1.out] at h
        have H6 := Lib.hid h
        clear h H5
        go_wp2_with fail
        refine (stick_own (bn : Nat) H6.out (Nat.zero_le _)).mono ?_
        rintro e w7 ⟨rfl, h⟩
        rw [S1.out] at h
        have H7 := Lib.hid h
        clear h H6
        go_wp2_with fail
        refine (lose_own 1 H7.out (by decide)).mono ?_
        rintro e w8 ⟨rfl, h⟩
        have H8 := Lib.hid (show Own9 w0 p (mk9 (secs9 bn ln t1) [] 1 0 0 0 (bump 0) (bump 0)) w8 from h)
        clear h H7
        go_wp2_with fail
        refine (full_any _ _ (by decide)).mono ?_
        rintro e wf ⟨rfl, hb⟩
        rw [T2.out]
        have H9 := Lib.hid (H8.out.later hb)
        clear hb H8
        go_wp2_with fail
        refine (write_own (ln : Nat) t2 H9.out (Nat.zero_le _) (by rw [Z2.out]; decide)).mono ?_
        rintro e w10 ⟨rfl, h⟩
        rw [(mk9_lost SN.out ln hl9 t1 t2 SL.out Z2.out).2] at h
        rw [(mk9_lost SN.out ln hl9 t1 t2 SL.out Z2.out).1]
        have H10 := Lib.hid h
        clear h H9
        go_wp2_with fail
        refine (read_own (ln : Nat) H10.out (Nat.zero_le _)).mono ?_
        rintro e w11 ⟨rfl, h⟩
        rw [(mk9_read SN.out ln hl9 t1 SL.out).2.2] at h
        rw [(mk9_read SN.out ln hl9 t1 SL.out).2.1, (mk9_read SN.out ln hl9 t1 SL.out).1, mk9_reads_none ln t1 SL.out (fun y hy => by cases hy)]
        have H11 := Lib.hid h
        clear h H10
        go_wp2_with fail
        refine (stray_own 1 (tn : Nat) H11.out (by decide)).mono ?_
        rintro e w12 ⟨rfl, h⟩
        have H12 := Lib.hid (show Own9 w0 p (mk9 (secs9 bn ln t1) [] 0 1 (tn : Nat) (bump 0) (bump (bump 0)) (bump 0)) w12 from h)
        clear h H11
        go_wp2_with fail
        refine (full_any _ _ (by decide)).mono ?_
        rintro e wf ⟨rfl, hb⟩
        rw [T3.out]
        have H13 := Lib.hid (H12.out.later hb)
        clear hb H12
        go_wp2_with fail
        refine (write_own (ln : Nat) t3 H13.out (Nat.zero_le _) (by rw [Z3.out]; decide)).mono ?_
        rintro e w14 ⟨rfl, h⟩
        rw [(mk9_stray SN.out ln tn hl9 ht9 t1 (noughts 128) t3 SL.out ST.out Z3.out).2] at h
        rw [(mk9_stray SN.out ln tn hl9 ht9 t1 (noughts 128) t3 SL.out ST.out Z3.out).1]
        have H14 := Lib.hid h
        clear h H13
        go_wp2_with fail
        refine (read_own (ln : Nat) H14.out (show 1 ≤ 1000000000 by decide)).mono ?_
        rintro e w15 ⟨rfl, h⟩
        rw [(mk9_read SN.out ln hl9 t1 SL.out).2.2] at h
        rw [(mk9_read SN.out ln hl9 t1 SL.out).2.1, (mk9_read SN.out ln hl9 t1 SL.out).1, mk9_reads_none ln t1 SL.out (fun y hy => by rw [List.mem_singleton.1 hy]; exact fun e => NE3.out e.symm)]
        have H15 := Lib.hid h
        clear h H14
        go_wp2_with fail
        refine (read_own (tn : Nat) H15.out (show 1 ≤ 1000000000 by decide)).mono ?_
        rintro e w16 ⟨rfl, h⟩
        rw [(mk9_read SN.out tn ht9 (noughts 128) ST.out).2.2] at h
        rw [(mk9_read SN.out tn ht9 (noughts 128) ST.out).2.1, (mk9_read SN.out tn ht9 (noughts 128) ST.out).1, mk9_reads_one tn t3]
        have H16 := Lib.hid h
        clear h H15
        go_wp2_with fail
        refine (full_any _ _ (by decide)).mono ?_
        rintro e wf ⟨rfl, hb⟩
        rw [T1.out]
        have H17 := Lib.hid (H16.out.later hb)
        clear hb H16
        go_wp2_with fail
        refine (full_any _ _ (by decide)).mono ?_
        rintro e wf ⟨rfl, hb⟩
        rw [T1.out]
        have H18 := Lib.hid (H17.out.later hb)
        clear hb H17
        go_wp2_with fail
        refine (full_any _ _ (by decide)).mono ?_
        rintro e wf ⟨rfl, hb⟩
        rw [T3.out]
        have H19 := Lib.hid (H18.out.later hb)
        clear hb H18
        have HK := Lib.hid (show ∃ D, Stuck bn D ∧ Own9 w0 p D wf from ⟨_, stuck9 bn ln tn t1 t3 hb9 _ _ _ _, H19.out⟩)
        clear H19
        obtain ⟨m, hm⟩ : ∃ m, m = min a0f3l 20 := ⟨_, rfl⟩
        have hmin : ∀ W ts, (Builtin.min_ ts 3 #[.int .i64 (a0f3l : Nat), .int .i64 20]).run Try.prog W = .ok (.int .i64 (m : Int)) W := by
          intro W ts; rw [hm]; exact run_min20 _ _ _ _ a0f3l 20
        have hml : m ≤ a0f3l := by omega
        have hml' : m ≤ a0f3c := by omega
        have hm20 : m ≤ 20 := by omega
        clear hm
        go_wp2_with fail
        clear hmin
        go_loopw [132] (fun i wr => ∃ k : Nat, k ≤ m ∧ i = .int .i64 k ∧ ∃ D, Stuck bn D ∧ Own9 w0 p D wr) (fun i _ => m - (intOf i).toNat)
        case atStart => exact ⟨0, Nat.zero_le _, rfl, HK.out⟩
        case round =>
          obtain ⟨k, hk, rfl, D, hst, how⟩ := hrel
          clear HK
          have HST := Lib.hid hst
          have HO := Lib.hid how
          clear hst how
          by_cases hlt : k < m
          · obtain ⟨fb, fo, rfl, hcells⟩ := HROW.out.at_ (by omega)
            obtain ⟨q, hq, hq2⟩ : ∃ q : Nat, a0f3z.getD k 0 = q ∧ q < 256 := u8_nat (HWF.out _ (by
              rw [List.getD_eq_getElem?_getD, List.getElem?_eq_getElem (by rw [HROW.out.len_eq]; omega)]; exact List.getElem_mem _))
            have hcw := hcells k (by omega)
            rw [hq] at hcw
            have hc : wr.cell? ⟨fb, fo + k, none⟩ = some (.int .u8 (q : Nat)) := by
              have := World.block_lt_of_cell? w _ hcw
              rw [(HB0.out.trans (HO.out.below.mono (by rw [HZ0.out]; omega))).cell (p := ⟨fb, fo + k, none⟩) this]; exact hcw
            have hkm : (k : Int) < (m : Int) := by omega
            clear hcells hq hcw
            go_wp2_with fail
            · refine (flush_own HO.out (Nat.le_trans HST.out.few (by decide))).mono ?_
              rintro e w5 ⟨rfl, h5⟩
              have HS5 := Lib.hid HST.out.flush
              have H5 := Lib.hid h5
              clear h5 HO hc
              have HS6 := Lib.hid (HS5.out.read hb9)
              go_wp2_with fail
              refine (read_own (bn : Nat) H5.out (Nat.le_trans HS5.out.few (by decide))).mono ?_
              rintro e w6 ⟨rfl, h6⟩
              rw [HS6.out.1]
              rw [HS6.out.2] at h6
              have H6 := Lib.hid (show ∃ D, Stuck bn D ∧ Own9 w0 p D w6 from ⟨_, HS5.out, h6⟩)
              clear h6 H5
              go_wp2_with fail
              go_roundw
              case rel => exact ⟨k + 1, by omega, by go_num, H6.out⟩
              case measure => simp [intOf]; omega
            · refine (crash_own_one 1 71 HO.out (Nat.le_trans HST.out.few (by decide)) (by decide)).mono ?_
              rintro e w5 ⟨rfl, h5⟩
              have HS5 := Lib.hid (HST.out.crash [1])
              have H5 := Lib.hid h5
              clear h5 HO hc
              have HS6 := Lib.hid (HS5.out.read hb9)
              go_wp2_with fail
              refine (read_own (bn : Nat) H5.out (Nat.le_trans HS5.out.few (by decide))).mono ?_
              rintro e w6 ⟨rfl, h6⟩
              rw [HS6.out.1]
              rw [HS6.out.2] at h6
              have H6 := Lib.hid (show ∃ D, Stuck bn D ∧ Own9 w0 p D w6 from ⟨_, HS5.out, h6⟩)
              clear h6 H5
              go_wp2_with fail
              go_roundw
              case rel => exact ⟨k + 1, by omega, by go_num, H6.out⟩
              case measure => simp [intOf]; omega
            · refine (full_any _ _ (by decide)).mono ?_
              rintro e w4 ⟨rfl, hb4⟩
              have H4 := Lib.hid (HO.out.later hb4)
              clear hb4 HO hc
              go_wp2_with fail
              refine (write_own (bn : Nat) _ H4.out (Nat.le_trans HST.out.few (by decide)) (by rw [fullN_size]; decide)).mono ?_
              rintro e w5 ⟨rfl, h5⟩
              rw [(HST.out.write hb9 _ (fullN_size _)).1]
              rw [(HST.out.write hb9 _ (fullN_size _)).2] at h5
              have HS5 := HST
              have H5 := Lib.hid h5
              clear h5 H4
              have HS6 := Lib.hid (HS5.out.read hb9)
              go_wp2_with fail
              refine (read_own (bn : Nat) H5.out (Nat.le_trans HS5.out.few (by decide))).mono ?_
              rintro e w6 ⟨rfl, h6⟩
              rw [HS6.out.1]
              rw [HS6.out.2] at h6
              have H6 := Lib.hid (show ∃ D, Stuck bn D ∧ Own9 w0 p D w6 from ⟨_, HS5.out, h6⟩)
              clear h6 H5
              go_wp2_with fail
              go_roundw
              case rel => exact ⟨k + 1, by omega, by go_num, H6.out⟩
              case measure => simp [intOf]; omega
          · obtain rfl : k = m := by omega
            have GO := Lib.hid (fun i s => HST.out.gone i s)
            go_wp2_with fail
            refine (kill_own HO.out).mono ?_
            rintro e w5 ⟨rfl, h5⟩
            have H5 := Lib.hid h5
            clear h5 HO
            go_wp2_with fail
            refine (crash_own_nil H5.out (Nat.le_trans HST.out.few (by decide))).mono ?_
            rintro e w6 ⟨rfl, h6⟩
            have H6 := Lib.hid h6
            clear h6 H5
            go_wp2_with fail
            refine (read_own (ln : Nat) H6.out (by rw [(GO.out 0 t1).2.2.2.2.2]; exact Nat.zero_le _)).mono ?_
            rintro e w7 ⟨rfl, h7⟩
            rw [(GO.out (ln : Nat) t1).1]
            rw [(GO.out (ln : Nat) t1).2.1] at h7
            have H7 := Lib.hid h7
            clear h7 H6
            go_wp2_with fail
            refine (full_any _ _ (by decide)).mono ?_
            rintro e w8 ⟨rfl, hb8⟩
            have H8 := Lib.hid (H7.out.later hb8)
            clear hb8 H7
            go_wp2_with fail
            refine (write_own (ln : Nat) _ H8.out (by rw [(GO.out 0 t1).2.2.2.2.2]; exact Nat.zero_le _) (by rw [fullN_size]; decide)).mono ?_
            rintro e w9 ⟨rfl, h9⟩
            rw [(GO.out (ln : Nat) _).2.2.1]
            rw [(GO.out (ln : Nat) _).2.2.2.1] at h9
            have H9 := Lib.hid h9
            clear h9 H8
            go_wp2_with fail
            refine (dead_own H9.out).mono ?_
            rintro e w10 ⟨rfl, rfl⟩
            rw [(GO.out 0 t1).2.2.2.2.1]
            go_wp2_with fail
            go_ret
            exact ⟨rfl, HB0.out.trans (H9.out.below.mono (by rw [HZ0.out]; omega))⟩

/-! ### THE ROW's STEP -/
set_option maxRecDepth 100000 in
theorem lifted (os : Os) (started : os.Started) (H : Type) (enc : TypeId × Value → H) :
    ReturnsInHanded {} Try.checked os 6 .any (Rows.devFaultsSpec.pre6 enc Try.prog Try.f6 Rows.devFaultsRow.domain false) (Rows.devFaultsSpec.post enc Try.prog Try.f6 false true false false) := by
  refine returnsInHanded_of_change (C := Try.checked) own started (by kernel_rfl) Try.func6
    (ChangeSpec.witness6 (enc := enc) (C := Try.checked) false ⟨#[], #[.agg #[.int .u8 0, .int .u8 0, .int .u8 0, .slice none 0 0]], []⟩ 8 (by kernel_rfl) (by kernel_rfl) (by kernel_rfl) (by kernel_rfl)) ?_
  intro W base args ds gs before hval0 hW hcnd _
  have hval : ∀ (j : Nat) t v, Try.f6.params[j]? = some t → args[j]? = some v → Value.okWide Try.prog W .any base t v := hval0
  have hW' := hW
  obtain ⟨p, q, hA0, hV, rfl, hfz, hnd⟩ := hW
  have hA : DataW.TrodAll enc Try.prog W 0 (fun _ => true) true Try.f6.params.toList args.toList ds p := hA0
  rw [Try.params6] at hA hval
  obtain ⟨v0, vs0, d0, ds0, p0, q0, hargs, rfl, rfl, h0, r0⟩ := trodAll_cons hA
  obtain ⟨rfl, rfl, rfl⟩ := trodAll_nil r0
  obtain rfl : args = #[v0] := by cases args; simp_all
  obtain ⟨rfl, rfl⟩ := trodVars_none hV
  have k0 := h0
  have lt0 : ∀ x ∈ p0, x.block < W.heap.size := by obtain ⟨m, hm⟩ := k0; exact DataW.trod_lt m _ _ _ hm
  obtain ⟨cs0, rfl, hl0, hc0⟩ := open_struct_cells Try.underlying74 (by kernel_rfl) (by kernel_rfl) (hval 0 74 v0 rfl rfl) h0
  obtain ⟨y0_0, y0_1, y0_2, y0_3, rfl⟩ := len4 cs0 hl0
  obtain ⟨a0f0, rfl, w0f0⟩ := open_int_cell Try.underlying5 (hc0 0 _ _ rfl rfl)
  obtain ⟨a0f1, rfl, w0f1⟩ := open_int_cell Try.underlying5 (hc0 1 _ _ rfl rfl)
  obtain ⟨a0f2, rfl, w0f2⟩ := open_int_cell Try.underlying5 (hc0 2 _ _ rfl rfl)
  obtain ⟨a0f3, a0f3l, a0f3c, a0f3z, rfl, w0f3, w0f3l, w0f3m, w0f3w⟩ := open_ints_cell Try.underlying67 Try.underlying5 (by kernel_rfl) (hc0 3 _ _ rfl rfl)
  clear hA0 hval0
  refine (walk a0f0 a0f1 a0f2 a0f3 a0f3l a0f3c a0f3z W w0f0 w0f1 w0f2 w0f3 w0f3l w0f3m w0f3w).mono fun e W' ⟨he, bel⟩ => ?_
  subst he
  exact ⟨_, rfl, _, _, _, [], _, [], hW', trodAll_mk1 (shut_bool Try.underlying4 _), (trodAll_cons_mk (Below.trod laidOut (by kernel_rfl) (of_decide_eq_true (by kernel_rfl)) k0 bel lt0) trodAll_mk0), rfl, bel.frame _, fun h => by cases h⟩

theorem over : Rows.devFaultsRow.holds Try.pinned (OpenSpec.ofChange Rows.devFaultsSpec) :=
  OpenClaim.holds_of_wide 6 Try.f6 rfl rfl rfl rfl rfl rfl rfl ⟨rfl, rfl, rfl, rfl, rfl⟩ rfl rfl rfl rfl rfl (by kernel_rfl) Try.func6 (by kernel_rfl)
    (of_decide_eq_true (by kernel_rfl)) (by unfold Func.isWrapper; first | (rw [if_pos (by decide +kernel)]; kernel_rfl) | (rw [if_neg (by decide +kernel)]; exact ⟨rfl, rfl⟩))
    (fun os started H enc _ => lifted os started H enc)

/-- THE STATEMENT -/
theorem proved : Rows.DevFaultsSaid := over
#print axioms proved
end Go.Proofs.Ytcaibndlchkecaa.devFaults
