/- The law's 'same': a device and the reference's that say the same data are the same. -/
import Derived.Deep.DeepCutAuto
import Derived.Deep.RegionWith
import Derived.BigQuiet
import Derived.Deep.QuietTactic
import Derived.Test.YtlnocdmechidfaaRefDevF
import Derived.Test.YtlnocdmechidfaaDevO
namespace Go.Proofs.Ytlnocdmechidfaa.Dev
open Go Go.RowKit Go.Proofs.Ytlnocdmechidfaa
set_option linter.unusedVariables false

theorem mediaN_get (D : Dv) (j : Nat) (hj : j < D.n) : mediaN D (j : Int) = (D.secs[j]'hj).1 := by
  unfold mediaN
  rw [if_pos (by unfold hasB; simp; omega), Int.toNat_natCast, List.getElem?_eq_getElem hj]; rfl
set_option maxRecDepth 100000 in
set_option maxHeartbeats 4000000 in
theorem same_any {p sb m : Nat} {cv rv : Value} {B : RB} {D : Dv} (w : World) (h : DevAt w p sb cv D) (hr : RefAt w m B rv D) (h9 : D.n = 9) :
    Calls Try.prog 25 #[.pointer (some ⟨p, 0, none⟩), .pointer (some ⟨m, 0, none⟩)] w fun e w' => e = .returned (.bool true) ∧ ∃ n, w' = w.drewN n := by
  obtain ⟨nr, hnr⟩ : ∃ x, x = D.nr := ⟨_, rfl⟩
  obtain ⟨nw, hnw⟩ : ∃ x, x = D.nw := ⟨_, rfl⟩
  obtain ⟨nf, hnf⟩ : ∃ x, x = D.nf := ⟨_, rfl⟩
  obtain ⟨off, hoff⟩ : ∃ x, x = D.off := ⟨_, rfl⟩
  obtain ⟨ded, hded⟩ : ∃ x, x = D.dead := ⟨_, rfl⟩
  have HCO := Lib.hid (show ∀ W, DevAt W p sb cv D → Calls Try.prog 44 #[.pointer (some ⟨p, 0, none⟩)] W fun e w' => e = .returned (.tuple #[.int .i64 nr, .int .i64 nw, .int .i64 nf]) ∧ ∃ n, w' = W.drewN n from fun W hW => by rw [hnr, hnw, hnf]; exact count_any W hW)
  have HOF := Lib.hid (show ∀ W, DevAt W p sb cv D → Calls Try.prog 45 #[.pointer (some ⟨p, 0, none⟩)] W fun e w' => e = .returned (.bool off) ∧ W = w' from fun W hW => by rw [hoff]; exact off_any W hW)
  have HDE := Lib.hid (show ∀ W, DevAt W p sb cv D → Calls Try.prog 46 #[.pointer (some ⟨p, 0, none⟩)] W fun e w' => e = .returned (.bool ded) ∧ W = w' from fun W hW => by rw [hded]; exact dead_any W hW)
  have HD := Lib.hid h
  have HR := Lib.hid hr
  have HNR := Lib.hid hnr
  have HNW := Lib.hid hnw
  have HNF := Lib.hid hnf
  have HOFF := Lib.hid hoff
  have HDED := Lib.hid hded
  clear h hr hnr hnw hnf hoff hded
  go_enter Try.func25, Try.ntmps25
  go_wp2_with fail
  refine (HCO.out _ HD.out).mono ?_
  rintro e w1 ⟨rfl, n1, hw1⟩
  have hd : DevAt w1 p sb cv D := by rw [hw1]; exact HD.out.drewN n1
  have hr : RefAt w1 m B rv D := by rw [hw1]; exact HR.out.drewN n1
  have HW1 := Lib.hid hw1
  have HD1 := Lib.hid hd
  have HR1 := Lib.hid hr
  have c8 : w1.cell? ⟨m, 8, none⟩ = some (.bool off) := by rw [HOFF.out]; exact hr.c8
  have c9 : w1.cell? ⟨m, 9, none⟩ = some (.bool ded) := by rw [HDED.out]; exact hr.c9
  have c10 : w1.cell? ⟨m, 10, none⟩ = some (.int .i64 nr) := by rw [HNR.out]; exact hr.c10
  have c11 : w1.cell? ⟨m, 11, none⟩ = some (.int .i64 nw) := by rw [HNW.out]; exact hr.c11
  have c12 : w1.cell? ⟨m, 12, none⟩ = some (.int .i64 nf) := by rw [HNF.out]; exact hr.c12
  clear hw1 hd hr
  go_upto_region 3 with fail
  go_quiet (first
    | (go_at_call 45; exact Calls.quiet_of_same ((HOF.out _ (HD1.out.drewN _)).mono fun e w' ⟨he, hw⟩ => ⟨he, hw.symm⟩))
    | (go_at_call 46; exact Calls.quiet_of_same ((HDE.out _ (HD1.out.drewN _)).mono fun e w' ⟨he, hw⟩ => ⟨he, hw.symm⟩)))
  clear c8 c9 c10 c11 c12
  have HQ := Lib.hid (⟨n1 + nq, by rw [HW1.out, World.drewN_drewN]⟩ : ∃ n, w1.drewN nq = w.drewN n)
  have HD2 := Lib.hid (HD1.out.drewN nq)
  have HR2 := Lib.hid (HR1.out.drewN nq)
  obtain ⟨w2, hw2⟩ : ∃ w2, w2 = w1.drewN nq := ⟨_, rfl⟩
  rw [← hw2] at HQ HD2 HR2 ⊢
  clear hw2 HW1 HD1 HR1 HD HR
  go_wp2_with fail
  go_loopw [55] (fun i wr => ∃ j : Nat, j ≤ 9 ∧ i = .int .i64 j ∧ (∃ n, wr = w.drewN n) ∧ DevAt wr p sb cv D ∧ RefAt wr m B rv D) (fun i _ => 9 - (intOf i).toNat)
  case atStart => exact ⟨0, by omega, rfl, HQ.out, HD2.out, HR2.out⟩
  case round =>
    obtain ⟨j, hj, rfl, hq, hd, hr⟩ := hrel
    clear HQ HD2 HR2
    by_cases hlt : j < 9
    · have hji : (j : Int) < 9 := by omega
      have c1 : wr.cell? ⟨m, 1, none⟩ = some (.slice (some ⟨B.mb, 0, none⟩) 9 B.mc) := by rw [hr.c1, h9]
      obtain ⟨tm, htm⟩ : ∃ tm, tm = mediaN D (j : Int) := ⟨_, rfl⟩
      have cm : wr.cell? ⟨B.mb, j, none⟩ = some (.string tm) := by rw [htm, mediaN_get D j (by omega)]; exact hr.med j (by omega)
      have HM := Lib.hid (show ∀ W, DevAt W p sb cv D → Calls Try.prog 26 #[.pointer (some ⟨p, 0, none⟩), .int .i64 (j : Int)] W fun e w' => e = .returned (.string tm) ∧ W = w' from fun W hW => by rw [htm]; exact media_any (j : Int) W hW)
      have HD1 := Lib.hid hd
      have HR1 := Lib.hid hr
      have HQ1 := Lib.hid hq
      clear htm hd hr hq
      go_upto_region 8 with fail
      go_quiet ((go_at_call 26; exact Calls.quiet_of_same ((HM.out _ (HD1.out.drewN _)).mono fun e w' ⟨he, hw⟩ => ⟨he, hw.symm⟩)))
      have HQ2 := Lib.hid (show ∃ n, wr.drewN nq = w.drewN n by obtain ⟨n, e⟩ := HQ1.out; exact ⟨n + nq, by rw [e, World.drewN_drewN]⟩)
      go_wp2_with fail
      go_roundw
      case rel => exact ⟨j + 1, by omega, by go_num, HQ2.out, HD1.out.drewN nq, HR1.out.drewN nq⟩
      case measure => simp [intOf]; omega
    · obtain rfl : j = 9 := by omega
      have HQ1 := Lib.hid hq
      clear hd hr hq
      go_wp2_with fail
      go_ret
      exact ⟨rfl, HQ1.out⟩
end Go.Proofs.Ytlnocdmechidfaa.Dev
