/-
  The law WalHeals holds: with one copy of each record's block damaged, whichever, all records are told, and both copies are whole behind that. Conditions: none but the row's own.
-/
import Derived.Test.YtflanjcfkdjpjaaGreatDoorRows
import Derived.Test.YtflanjcfkdjpjaaGreatDoorL16
import Derived.Test.YtflanjcfkdjpjaaGreatDoorCards
import Derived.Test.YtflanjcfkdjpjaaGreatDoorTie
import Derived.WalkKit
import Derived.ProofKit
import Derived.OpenShut
import Derived.ShutString
import Derived.ChangeOld
import Derived.Below
import Derived.Carry
import Derived.Deep.DeepHandedRow

import Derived.Lib.LaidTab
namespace Go.Proofs.YtflanjcfkdjpjaaGreatDoor.walHeals
open Go.ChangeShapes Go.WideShapes Go.ChangeAt Go.RowKit
open Go.Proofs.YtflanjcfkdjpjaaGreatDoor
open Go.ChangeMaps (open_string shut_string)
set_option linter.unusedVariables false

theorem own : ownKnob Tryz.prog.godebug = none := by kernel_rfl
theorem laidOut : laidOutB Tryz.prog = true := by kernel_rfl


open Go.Proofs.YtflanjcfkdjpjaaGreatDoor.Wal Go.Proofs.YtflanjcfkdjpjaaGreatDoor.Mir Go.Proofs.YtflanjcfkdjpjaaGreatDoor.Rem Go.Proofs.YtflanjcfkdjpjaaGreatDoor.Dev Go.Proofs.YtflanjcfkdjpjaaGreatDoor.Rec
theorem and_one (m : Nat) (h : m < 256) : bits .and .u8 (m : Int) 1 = ((m % 2 : Nat) : Int) := by revert m; decide +kernel
theorem dev_at {w : World} {u pa pb s : Nat} (h : Has w u 26 [.pointer (some ⟨pa, 0, none⟩), .pointer (some ⟨pb, 0, none⟩)]) (hs : s < 2) : w.cell? ⟨u, s, none⟩ = some (.pointer (some ⟨pdOf pa pb s, 0, none⟩)) := by
  rcases (show s = 0 ∨ s = 1 by omega) with rfl | rfl <;> exact h.cell _
theorem Repairs_q {w0 w : World} {Y : List Nat} {q c mm tb bb R : Nat} {pd : Nat → Nat} {S : Nat → Sd} {G : Nat → Bool} (h : MG w0 Y mm tb bb q pd S G c R w) : Calls Tryz.prog 22 #[.pointer (some ⟨mm, 0, none⟩)] w fun e w' => e = .returned (.int .i64 (R : Nat)) ∧ w = w' := by
  have c2 := h.c2
  clear h
  go_enter Tryz.func22, Tryz.ntmps22
  go_wp2
  go_ret
  exact ⟨rfl, rfl⟩

/-! ### STEP 1: THE WALK -/
set_option maxHeartbeats 8000000 in
set_option maxRecDepth 100000 in
theorem walk (a0 : Int) (a1 : Int) (a2 : Int) (w : World) (w0 : (Lit.int .u8 a0).wf = true) (w1 : (Lit.int .u8 a1).wf = true) (w2 : (Lit.int .u8 a2).wf = true) :
    Calls Tryz.prog 4 #[.int .u8 a0, .int .u8 a1, .int .u8 a2] w fun e w' => e = .returned (.bool true) ∧ Below w.heap.size w w' := by
  obtain ⟨hn0, hn1⟩ := bounds_u8 w0
  obtain ⟨hs0, hs1⟩ := bounds_u8 w1
  obtain ⟨hy0, hy1⟩ := bounds_u8 w2
  clear w0 w1 w2
  obtain ⟨K, hK⟩ : ∃ x : Nat, (x : Int) = 1 + a0 % 5 := ⟨(1 + a0 % 5).toNat, by omega⟩
  have hK5 : K ≤ 5 := by omega
  have hk1 : a0 % 5 = (K : Int) - 1 := by omega
  have hk1' : Int.tmod a0 5 = (K : Int) - 1 := by rw [Int.tmod_eq_emod_of_nonneg hn0]; omega
  have hk2 : 1 + ((K : Int) - 1) = (K : Int) := by omega
  have hwa : IntKind.i64.wrap a0 = a0 := IntWalk.i64_in _ (by omega)
  have hwk : IntKind.i64.wrap ((K : Int) - 1) = (K : Int) - 1 := IntWalk.i64_in _ (by omega)
  have hwk2 : IntKind.i64.wrap (K : Int) = (K : Int) := IntWalk.i64_in _ (by omega)
  obtain ⟨A, rfl⟩ : ∃ A : Nat, a1 = (A : Int) := ⟨a1.toNat, by omega⟩
  obtain ⟨y, hy⟩ : ∃ y : UInt8, (y.toNat : Int) = 1 + a2 % 255 := ⟨UInt8.ofNat (1 + a2 % 255).toNat, by rw [UInt8.toNat_ofNat']; omega⟩
  have hyn : y ≠ 0 := fun e => by rw [e] at hy; simp at hy; omega
  have HYN := Lib.hid hyn
  clear hK hyn
  go_enter Tryz.func4, Tryz.ntmps4
  go_wp2_with fail
  refine (fresh_any w).mono ?_
  rintro e w1 ⟨pa, pb, mm, tb, bb, q, S, rfl, hm, h0, h1⟩
  have HCT := Lib.hid (Ct.new h0 h1 11 5)
  have HM := Lib.hid (hm.new (.cells #[.pointer (some ⟨pa, 0, none⟩), .pointer (some ⟨pb, 0, none⟩)] 26))
  have HD := Lib.hid (Has.new w1 [.pointer (some ⟨pa, 0, none⟩), .pointer (some ⟨pb, 0, none⟩)] 26)
  clear hm h0 h1
  obtain ⟨u, hu⟩ : ∃ u, u = w1.heap.size := ⟨_, rfl⟩
  rw [← hu] at HM HD
  go_wp2_with fail
  rw [← hu]
  clear hu
  refine (ring_any _).mono ?_
  rintro e w2 ⟨rfl, hb⟩
  have HM2 := Lib.hid (HM.out.later hb)
  have HD2 := Lib.hid (HD.out.below hb HD.out.lt)
  clear hb HM HD
  go_wp2_with fail
  refine (Open_w HM2.out HCT.out (by decide) (by decide) (by decide) (by decide) (by decide) (by decide) (by decide)).mono ?_
  rintro e w3 ⟨lb, tl, Z, S', v, rfl, hlw, hrs, hsm⟩
  obtain ⟨Y1, hY1⟩ : ∃ Y1, Y1 = Z ++ [u] := ⟨_, rfl⟩
  have HUY := Lib.hid (show u ∈ Y1 from by rw [hY1]; simp)
  rw [← hY1] at hlw
  have HL3 := Lib.hid hlw
  have HD3 := Lib.hid (HD2.out.same (hsm u (by simp)))
  clear hlw hrs hsm HM2 HD2 HCT hY1
  go_wp2_with fail
  refine (wakes_any _).mono ?_
  rintro e w4 ⟨rfl, hb⟩
  have HL4 := Lib.hid (HL3.out.later hb)
  have HD4 := Lib.hid (HD3.out.below hb HD3.out.lt)
  clear hb HL3 HD3
  go_wp2_with fail
  go_loopw [50] (fun i wr => ∃ (j : Nat) (S : Nat → Sd) (cc : Nat), j ≤ K ∧ i = .int .i64 j ∧ cc ≤ 44 + 8 * j ∧ LW w Y1 lb tl mm tb bb q (pdOf pa pb) S cc 0 11 5 (recK j) wr ∧ Has wr u 26 [.pointer (some ⟨pa, 0, none⟩), .pointer (some ⟨pb, 0, none⟩)]) (fun i _ => K - (intOf i).toNat)
  case atStart => exact ⟨0, S', 44, Nat.zero_le _, rfl, by omega, HL4.out, HD4.out⟩
  case round =>
    obtain ⟨j, S, cc, hj, rfl, hcc, hlw, hdv⟩ := hrel
    clear HL4 HD4
    by_cases hlt : j < K
    · have hji : (j : Int) < (K : Int) := by omega
      have hrune := run_rune (show j < 5 by omega)
      have hw32 : IntKind.i32.wrap (97 + (j : Int)) = 97 + (j : Int) := IntWalk.i32_in _ (by omega)
      have hw64 : IntKind.i64.wrap (97 + (j : Int)) = 97 + (j : Int) := IntWalk.i64_in _ (by omega)
      have HL := Lib.hid (hlw.new (.cells (encU (upK j)).toArray 67))
      have HU := Lib.hid (show URin (wr.heap.size :: Y1) (wr.alloc (.cells (encU (upK j)).toArray 67)) (.slice (some ⟨wr.heap.size, 0, none⟩) 1 1) [upK j] from ⟨ur_one _ _ _, fun j hj => by injection hj with hj; subst hj; simp⟩)
      have HD := Lib.hid (hdv.alloc (.cells (encU (upK j)).toArray 67))
      rw [show (encU (upK j)).toArray = #[.int .u8 1, .string ⟨#[107]⟩, .string (Lend.strOf [UInt8.ofNat (97 + j)]), .int .u64 0] from rfl] at HL HU HD
      obtain ⟨T, hT⟩ : ∃ T, T = Lend.strOf [UInt8.ofNat (97 + j)] := ⟨_, rfl⟩
      rw [← hT] at HL HU HD hrune
      clear hT
      clear hlw hdv
      have HWF := Lib.hid hlt
      go_wp2_with fail
      refine (App_w HL.out HU.out (by simp) (upK_ok j) (by rw [recK_len]; omega) (by omega)).mono ?_
      rintro e w5 ⟨rfl, S5, hlw, hsm⟩
      rw [← recK_snoc] at hlw
      have HL5 := Lib.hid (hlw.sub (Z := Y1) (fun i hi => by simp [hi]))
      have HD5 := Lib.hid (HD.out.same (hsm u (by simp [HUY.out])))
      clear hlw hsm HL HU HD hrune
      go_wp2_with fail
      go_roundw
      case rel => exact ⟨j + 1, S5, cc + 8, by omega, by go_num, by omega, HL5.out, HD5.out⟩
      case measure => simp [intOf]; omega
    · obtain rfl : j = K := by omega
      have hjj : ¬ (j : Int) < (j : Int) := by omega
      have HL5 := Lib.hid hlw
      have HD5 := Lib.hid hdv
      clear hlw hdv
      go_wp2_with fail
      refine (Sync_w HL5.out (by omega)).mono ?_
      rintro e w6 ⟨rfl, hlw, hz, hsm⟩
      have HL6 := Lib.hid hlw
      have HD6 := Lib.hid (HD5.out.same (hsm u HUY.out))
      clear hlw hz hsm HL5 HD5
      obtain ⟨sd, hsd⟩ : ∃ sd : Nat → Nat, ∀ i, sd i = A / 2 ^ i % 2 := ⟨fun i => A / 2 ^ i % 2, fun _ => rfl⟩
      have HSD := Lib.hid (show ∀ i, sd i < 2 from fun i => by rw [hsd]; omega)
      go_wp2_with fail
      go_loopw [67] (fun i wr => ∃ (t : Nat) (S2 : Nat → Sd), t ≤ j ∧ i = .int .i64 t ∧ MG w (lb :: tl :: Y1) mm tb bb q (pdOf pa pb) S2 noG cc 0 wr ∧ Pl S2 ∧ (∀ s, s < 2 → ∀ b : Nat, b < 16 → fS S2 s b = Hf (fS S) sd 11 y t s b) ∧ Has wr u 26 [.pointer (some ⟨pa, 0, none⟩), .pointer (some ⟨pb, 0, none⟩)]) (fun i _ => j - (intOf i).toNat)
      case atStart => exact ⟨0, S, Nat.zero_le _, rfl, HL6.out.lg.mg, HL6.out.ct.pl, fun _ _ _ _ => rfl, HD6.out⟩
      case round =>
        obtain ⟨t, S2, ht, rfl, hm, hpl, hf, hdv⟩ := hrel
        by_cases hlt2 : t < j
        · have hti : (t : Int) < (j : Int) := by omega
          obtain ⟨σ, hσ⟩ : ∃ σ, σ = sd t := ⟨_, rfl⟩
          have hσ2 : σ < 2 := by rw [hσ]; exact HSD.out t
          have hbits : bits .and .u8 ((A : Int) / 2 ^ t) 1 = (σ : Int) := by
            have e : ((A : Int) / 2 ^ t) = ((A / 2 ^ t : Nat) : Int) := by simp
            rw [e, and_one _ (Nat.lt_of_le_of_lt (Nat.div_le_self _ _) (by omega)), hσ, hsd]
          have hcell := dev_at hdv hσ2
          obtain ⟨ρ, hρ⟩ : ∃ ρ : Nat, (ρ : Int) = (11 + (t : Int)) % 5 := ⟨((11 + (t : Int)) % 5).toNat, by omega⟩
          have hρ5 : ρ < 5 := by omega
          have hbk : bk 3 5 (11 + (t : Int)) = ((3 + ρ : Nat) : Int) := by unfold bk; rw [← hρ]; omega
          have hm5 : (11 + (t : Int)) % 5 = (ρ : Int) := hρ.symm
          have hm5' : Int.tmod (11 + (t : Int)) 5 = (ρ : Int) := by rw [Int.tmod_eq_emod_of_nonneg (by omega), hρ]
          have hw11 : IntKind.i64.wrap (11 + (t : Int)) = 11 + (t : Int) := IntWalk.i64_in _ (by omega)
          have hw7 : IntKind.i64.wrap (7 + (ρ : Int)) = 7 + (ρ : Int) := IntWalk.i64_in _ (by omega)
          have hwρ : IntKind.i64.wrap (ρ : Int) = (ρ : Int) := IntWalk.i64_in _ (by omega)
          obtain ⟨η, hη⟩ : ∃ η : Nat, (η : Int) = a2 % 255 := ⟨(a2 % 255).toNat, by omega⟩
          have hη5 : η < 255 := by omega
          have hmy : a2 % 255 = (η : Int) := hη.symm
          have hmy' : Int.tmod a2 255 = (η : Int) := by rw [Int.tmod_eq_emod_of_nonneg hy0, hη]
          have hwη : IntKind.u8.wrap (η : Int) = (η : Int) := IntWalk.u8_in _ (by omega)
          have hwy : IntKind.u8.wrap (1 + (η : Int)) = 1 + (η : Int) := IntWalk.u8_in _ (by omega)
          have hyy : 1 + (η : Int) = (y.toNat : Int) := by omega
          have HM := Lib.hid hm
          have HP := Lib.hid hpl
          have HF := Lib.hid hf
          have HD := Lib.hid hdv
          have HBK := Lib.hid hbk
          have HSI := Lib.hid hσ
          have HYY := Lib.hid hyy
          clear hm hpl hf hdv hρ hbk hη hσ hyy hy
          go_wp2_with fail
          rw [HYY.out]
          refine (Garble_h HM.out HP.out HF.out (HSD.out t) HBK.out (by omega) (by omega) (pdOf pa pb σ) (by rw [HSI.out]) (7 + (ρ : Int)) (by omega)).mono ?_
          rintro e w7 ⟨rfl, S7, hm, hpl, hf, hsm⟩
          have HD7 := Lib.hid (HD.out.same (hsm u (by simp [HUY.out])))
          have HM7 := Lib.hid hm
          have HP7 := Lib.hid hpl
          have HF7 := Lib.hid hf
          clear hm hpl hf hsm HM HP HF HD hcell
          go_wp2_with fail
          go_roundw
          case rel => exact ⟨t + 1, S7, by omega, by go_num, HM7.out, HP7.out, HF7.out, HD7.out⟩
          case measure => simp [intOf]; omega
        · obtain rfl : t = j := by omega
          have hjj2 : ¬ (t : Int) < (t : Int) := by omega
          have HM := Lib.hid hm
          have HP := Lib.hid hpl
          have HF := Lib.hid hf
          have HD := Lib.hid hdv
          clear hm hpl hf hdv HD6
          go_wp2_with fail
          refine (ring_any _).mono ?_
          rintro e w8 ⟨rfl, hb⟩
          have HM8 := Lib.hid (HM.out.later hb)
          have HD8 := Lib.hid (HD.out.below hb HD.out.lt)
          clear hb HM HD
          go_wp2_with fail
          refine (Open_h (f := fS S) HM8.out HP.out HL6.out.ct (by rw [recK_len]; exact HF.out) (by rw [recK_len]; exact hK5) HSD.out HYN.out (by decide) (by decide) (by decide) (by decide) (by omega) (by omega)).mono ?_
          rintro e w9 ⟨lb2, tl2, Z2, S9, v2, rfl, hlw, hrz, hsm⟩
          obtain ⟨va2, vc2, rfl⟩ : ∃ a c, v2 = .slice a t c := by obtain ⟨a, c, h, _⟩ := hrz.rs; rw [recK_len] at h; exact ⟨a, c, h⟩
          rw [recK_len] at hlw
          have HL9 := Lib.hid hlw
          have HRZ9 := Lib.hid hrz
          have HD9 := Lib.hid (HD8.out.same (hsm u (by simp [HUY.out])))
          clear hlw hrz hsm HM8 HP HF HL6 HD8
          go_wp2_with fail
          refine (Repairs_q HL9.out.lg.mg).mono ?_
          rintro e w10 ⟨rfl, rfl⟩
          rw [Nat.zero_add]
          go_wp2_with fail
          obtain ⟨sd2, hsd2⟩ : ∃ s : Nat → Nat, ∀ i, s i = 1 - sd i := ⟨fun i => 1 - sd i, fun _ => rfl⟩
          have HSD2 := Lib.hid (show ∀ i, sd2 i < 2 from fun i => by rw [hsd2]; omega)
          obtain ⟨Y2, hY2⟩ : ∃ Y2, Y2 = Z2 ++ (lb :: tl :: Y1) := ⟨_, rfl⟩
          have HUY2 := Lib.hid (show u ∈ Y2 from by rw [hY2]; simp [HUY.out])
          have HZY2 := Lib.hid (show ∀ i ∈ Z2, i ∈ Y2 from fun i hi => by rw [hY2]; simp [hi])
          rw [← hY2] at HL9
          clear hY2
          go_loopw [107] (fun i wr => ∃ (m : Nat) (S3 : Nat → Sd), m ≤ t ∧ i = .int .i64 m ∧ MG w (lb2 :: tl2 :: Y2) mm tb bb q (pdOf pa pb) S3 noG (cc + 40) t wr ∧ Pl S3 ∧ (∀ s, s < 2 → ∀ b : Nat, b < 16 → fS S3 s b = Hf (fS S9) sd2 11 y m s b) ∧ Has wr u 26 [.pointer (some ⟨pa, 0, none⟩), .pointer (some ⟨pb, 0, none⟩)] ∧ RZ wr 0 Z2 (.slice va2 t vc2) 11 5 (recK t)) (fun i _ => t - (intOf i).toNat)
          case atStart => exact ⟨0, S9, Nat.zero_le _, rfl, by rw [← Nat.zero_add t]; exact HL9.out.lg.mg, HL9.out.ct.pl, fun _ _ _ _ => rfl, HD9.out, HRZ9.out⟩
          case round =>
            obtain ⟨m, S3, hm, rfl, hmg, hpl, hf, hdv, hrz⟩ := hrel
            clear HRZ9 HD9
            by_cases hlt3 : m < t
            · have hti : (m : Int) < (t : Int) := by omega
              have hti0 : (0 : Int) ≤ (m : Int) := by omega
              obtain ⟨a3, cap3, he3, hcl⟩ := hrz.rs
              obtain ⟨g3, off3, rfl, hcl2⟩ := hcl (by rw [recK_len]; omega)
              obtain ⟨uu, z0, z1, z2, hur⟩ := hcl2 m (by rw [recK_len]; exact hlt3)
              rw [recK_at] at hur
              obtain ⟨a4, cap4, rfl, hcu⟩ := hur.form
              obtain ⟨g4, off4, rfl, hcu2⟩ := hcu (by simp)
              have z3 : wr.cell? ⟨g4, off4 + 2, none⟩ = some (.string (Lend.strOf [UInt8.ofNat (97 + m)])) := hcu2 0 (by simp) 2 (by decide)
              injection he3 with he4 he5 he6
              subst he4
              have hrune := run_rune (show m < 5 by omega)
              have hw32 : IntKind.i32.wrap (97 + (m : Int)) = 97 + (m : Int) := IntWalk.i32_in _ (by omega)
              have hw64 : IntKind.i64.wrap (97 + (m : Int)) = 97 + (m : Int) := IntWalk.i64_in _ (by omega)
              obtain ⟨T, hT⟩ : ∃ T, T = Lend.strOf [UInt8.ofNat (97 + m)] := ⟨_, rfl⟩
              rw [← hT] at z3 hrune
              obtain ⟨σ, hσ⟩ : ∃ σ, σ = sd m := ⟨_, rfl⟩
              have hσ2 : σ < 2 := by rw [hσ]; exact HSD.out m
              have hbits : bits .and .u8 ((A : Int) / 2 ^ m) 1 = (σ : Int) := by
                have e : ((A : Int) / 2 ^ m) = ((A / 2 ^ m : Nat) : Int) := by simp
                rw [e, and_one _ (Nat.lt_of_le_of_lt (Nat.div_le_self _ _) (by omega)), hσ, hsd]
              obtain ⟨τ, hτ⟩ : ∃ τ, τ = sd2 m := ⟨_, rfl⟩
              have hτ2 : τ < 2 := by rw [hτ]; exact HSD2.out m
              have hστ : 1 - (σ : Int) = (τ : Int) := by rw [hτ, hsd2, ← hσ]; omega
              have hwτ : IntKind.u8.wrap (τ : Int) = (τ : Int) := IntWalk.u8_in _ (by omega)
              have hcell := dev_at hdv hτ2
              obtain ⟨ρ, hρ⟩ : ∃ ρ : Nat, (ρ : Int) = (11 + (m : Int)) % 5 := ⟨((11 + (m : Int)) % 5).toNat, by omega⟩
              have hρ5 : ρ < 5 := by omega
              have hbk : bk 3 5 (11 + (m : Int)) = ((3 + ρ : Nat) : Int) := by unfold bk; rw [← hρ]; omega
              have hm5 : (11 + (m : Int)) % 5 = (ρ : Int) := hρ.symm
              have hm5' : Int.tmod (11 + (m : Int)) 5 = (ρ : Int) := by rw [Int.tmod_eq_emod_of_nonneg (by omega), hρ]
              have hw11 : IntKind.i64.wrap (11 + (m : Int)) = 11 + (m : Int) := IntWalk.i64_in _ (by omega)
              have hw7 : IntKind.i64.wrap (7 + (ρ : Int)) = 7 + (ρ : Int) := IntWalk.i64_in _ (by omega)
              have hwρ : IntKind.i64.wrap (ρ : Int) = (ρ : Int) := IntWalk.i64_in _ (by omega)
              obtain ⟨η, hη⟩ : ∃ η : Nat, (η : Int) = a2 % 255 := ⟨(a2 % 255).toNat, by omega⟩
              have hη5 : η < 255 := by omega
              have hmy : a2 % 255 = (η : Int) := hη.symm
              have hmy' : Int.tmod a2 255 = (η : Int) := by rw [Int.tmod_eq_emod_of_nonneg hy0, hη]
              have hwη : IntKind.u8.wrap (η : Int) = (η : Int) := IntWalk.u8_in _ (by omega)
              have hwy : IntKind.u8.wrap (1 + (η : Int)) = 1 + (η : Int) := IntWalk.u8_in _ (by omega)
              have hyy : 1 + (η : Int) = (y.toNat : Int) := by omega
              have HM := Lib.hid hmg
              have HP := Lib.hid hpl
              have HF := Lib.hid hf
              have HD := Lib.hid hdv
              have HRZ := Lib.hid hrz
              have HBK := Lib.hid hbk
              have HSI := Lib.hid hτ
              have HYY := Lib.hid hyy
              clear hmg hpl hf hdv hρ hbk hη hσ hτ hyy hy hrz hcl hcl2 hur hcu hcu2 he5 he6 hT
              go_wp2_with fail
              rw [HYY.out]
              refine (Garble_h HM.out HP.out HF.out (HSD2.out m) HBK.out (by omega) (by omega) (pdOf pa pb τ) (by rw [HSI.out]) (7 + (ρ : Int)) (by omega)).mono ?_
              rintro e w7 ⟨rfl, S7, hm7, hpl, hf, hsm⟩
              have HD7 := Lib.hid (HD.out.same (hsm u (by simp [HUY2.out])))
              have HRZ7 := Lib.hid (HRZ.out.same (w' := w7) (fun i hi => hsm i (by simp [HZY2.out i hi])))
              have HM7 := Lib.hid hm7
              have HP7 := Lib.hid hpl
              have HF7 := Lib.hid hf
              clear hm7 hpl hf hsm HM HP HF HD HRZ hcell z0 z1 z2 z3 hrune
              go_wp2_with fail
              go_roundw
              case rel => exact ⟨m + 1, S7, by omega, by go_num, HM7.out, HP7.out, HF7.out, HD7.out, HRZ7.out⟩
              case measure => simp [intOf]; omega
            · obtain rfl : m = t := by omega
              have hjj3 : ¬ (m : Int) < (m : Int) := by omega
              have HM := Lib.hid hmg
              have HP := Lib.hid hpl
              have HF := Lib.hid hf
              clear hmg hpl hf hdv hrz
              go_wp2_with fail
              refine (ring_any _).mono ?_
              rintro e w8 ⟨rfl, hb⟩
              have HM8 := Lib.hid (HM.out.later hb)
              clear hb HM
              go_wp2_with fail
              refine (Open_h (f := fS S) HM8.out HP.out HL9.out.ct (by rw [recK_len]; exact HF.out) (by rw [recK_len]; exact hK5) HSD2.out HYN.out (by decide) (by decide) (by decide) (by decide) (by omega) (by omega)).mono ?_
              rintro e w9 ⟨lb3, tl3, Z3, S10, v3, rfl, hlw, hrz, hsm⟩
              obtain ⟨va3, vc3, rfl⟩ : ∃ a c, v3 = .slice a m c := by obtain ⟨a, c, h, _⟩ := hrz.rs; rw [recK_len] at h; exact ⟨a, c, h⟩
              have HB9 := Lib.hid hlw.lg.below
              clear hlw hrz hsm HM8
              go_wp2
              go_ret
              exact ⟨rfl, HB9.out⟩

set_option maxRecDepth 100000 in
theorem contract (H : Type) (enc : TypeId × Value → H) (W : World) (base : Nat) (args : Array Value) (ds gs : List (DataW H)) (before : List MemPlace)
    (hval0 : ∀ (j : Nat) t v, Tryz.f4.params[j]? = some t → args[j]? = some v → Value.okWide Tryz.prog W .any base t v)
    (hW : DataW.Whole enc Tryz.prog Tryz.f4.params.toList Rows.walHealsSpec.vars false W args.toList ds gs before) :
    Calls Tryz.prog 4 args W fun e W' => ∃ v, e = .returned v ∧ Rows.walHealsSpec.post enc Tryz.prog Tryz.f4 false true false false W args v W' := by
  have hval : ∀ (j : Nat) t v, Tryz.f4.params[j]? = some t → args[j]? = some v → Value.okWide Tryz.prog W .any base t v := hval0
  have hW' := hW
  obtain ⟨p, q, hA0, hV, rfl, hfz, hnd⟩ := hW
  have hA : DataW.TrodAll enc Tryz.prog W 0 (fun _ => true) true Tryz.f4.params.toList args.toList ds p := hA0
  rw [Tryz.params4] at hA hval
  obtain ⟨v0, vs0, d0, ds0, p0, q0, hargs, rfl, rfl, h0, r0⟩ := trodAll_cons hA
  obtain ⟨v1, vs1, d1, ds1, p1, q1, rfl, rfl, rfl, h1, r1⟩ := trodAll_cons r0
  obtain ⟨v2, vs2, d2, ds2, p2, q2, rfl, rfl, rfl, h2, r2⟩ := trodAll_cons r1
  obtain ⟨rfl, rfl, rfl⟩ := trodAll_nil r2
  obtain rfl : args = #[v0, v1, v2] := by cases args; simp_all
  obtain ⟨rfl, rfl⟩ := trodVars_none hV
  obtain ⟨a0, rfl, rfl, rfl, w0⟩ := open_int Tryz.underlying5 (hval 0 5 v0 rfl rfl) h0
  obtain ⟨a1, rfl, rfl, rfl, w1⟩ := open_int Tryz.underlying5 (hval 1 5 v1 rfl rfl) h1
  obtain ⟨a2, rfl, rfl, rfl, w2⟩ := open_int Tryz.underlying5 (hval 2 5 v2 rfl rfl) h2
  clear hA0 hval0
  refine (walk a0 a1 a2 W w0 w1 w2).mono fun e W' ⟨he, bel⟩ => ?_
  subst he
  exact ⟨_, rfl, _, _, _, [], _, [], hW', trodAll_mk1 (shut_bool Tryz.underlying4 _), (trodAll_cons_mk (shut_int Tryz.underlying5 w0) (trodAll_cons_mk (shut_int Tryz.underlying5 w1) (trodAll_cons_mk (shut_int Tryz.underlying5 w2) trodAll_mk0))), rfl, bel.frame _, fun h => by cases h⟩

noncomputable def laidWorld (os : Os) : World :=
  { World.holding Tryz.prog os ⟨#[], #[], []⟩ with heap := (((((World.holding Tryz.prog os ⟨#[], #[], []⟩).heap).modify 2 fun | .cells _ t frozen => .cells (#[.int .u8 128, .int .u8 191, .int .u8 160, .int .u8 191, .int .u8 128, .int .u8 159, .int .u8 144, .int .u8 191, .int .u8 128, .int .u8 143, .int .u8 0, .int .u8 0, .int .u8 0, .int .u8 0, .int .u8 0, .int .u8 0, .int .u8 0, .int .u8 0, .int .u8 0, .int .u8 0, .int .u8 0, .int .u8 0, .int .u8 0, .int .u8 0, .int .u8 0, .int .u8 0, .int .u8 0, .int .u8 0, .int .u8 0, .int .u8 0, .int .u8 0, .int .u8 0]) t frozen | o => o)).modify 1 fun | .cells _ t frozen => .cells ((Go.Pinned.utf8FirstZ.map fun z : Nat => Value.int .u8 (z : Int)).toArray) t frozen | o => o) }
theorem laid_met (os : Os) : laidMet Tryz.prog Rows.walHealsRow.laid ((laidWorld os).forCall (fun _ _ => 0) ⟨#[], #[.int .u8 0, .int .u8 0, .int .u8 0], []⟩).memory :=
  laidMet_of_run' 8 (by kernel_rfl) (by kernel_rfl)
theorem reads (os : Os) {H : Type} (enc : TypeId × Value → H) : ∃ places, DataW.whole enc Tryz.prog ((laidWorld os).forCall (fun _ _ => 0) ⟨#[], #[.int .u8 0, .int .u8 0, .int .u8 0], []⟩).memory Tryz.f4.params.toList Rows.walHealsSpec.vars false (#[.int .u8 0, .int .u8 0, .int .u8 0] : Array Value).toList 8 = some ([.lit (.int .u8 0), .lit (.int .u8 0), .lit (.int .u8 0)], [], places) :=
  ⟨[], by kernel_rfl⟩

set_option maxRecDepth 100000 in
theorem lifted (os : Os) (started : os.Started) (H : Type) (enc : TypeId × Value → H) (F : Stop.Interp) :
    ReturnsInHanded {} Tryz.checked os 4 .any ((OpenSpec.ofChange Rows.walHealsSpec).preRow enc Tryz.prog Tryz.f4 Rows.walHealsRow.domain false Rows.walHealsRow.laid) (((OpenSpec.ofChange Rows.walHealsSpec).at F).post enc Tryz.prog Tryz.f4 false true false false) := by
  obtain ⟨places, hx⟩ := reads os enc
  refine returnsInHanded_of_row (C := Tryz.checked) (s := OpenSpec.ofChange Rows.walHealsSpec) own started (by kernel_rfl) Tryz.func4
    (witness_row_at (enc := enc) (C := Tryz.checked) false (laidWorld os) #[.int .u8 0, .int .u8 0, .int .u8 0] rfl (by kernel_rfl) (by kernel_rfl) (by kernel_rfl)
      (OpenSpec.preRow_of_cond 8 hx (by kernel_rfl) (fun k hk => by cases hk) (by kernel_rfl) (laid_met os))) ?_
  intro W base args ds gs before hval hW _ _ _ hL _ _
  exact contract H enc W base args ds gs before hval hW 

theorem said : Rows.WalHealsSaid :=
  OpenClaim.holds_of_cond 4 Tryz.f4 rfl rfl rfl rfl rfl rfl rfl ⟨rfl, rfl, rfl, rfl, rfl⟩ rfl rfl rfl rfl rfl (by kernel_rfl) Tryz.func4 (by kernel_rfl)
    (of_decide_eq_true (by kernel_rfl)) (by unfold Func.isWrapper; first | (rw [if_pos (by decide +kernel)]; kernel_rfl) | (rw [if_neg (by decide +kernel)]; exact ⟨rfl, rfl⟩))
    (fun os started H enc _ F => by rw [OpenClaim.pre_eq_preRow]; exact lifted os started H enc F)

theorem plain (f : FuncId) (fn : Func) (hf : Tryz.pinned.checked.prog.funcNamed "treenail/treenaillaw13.WalHeals" = some f) (hfn : Tryz.pinned.checked.prog.funcs[f]? = some fn) :
    false = Tryz.pinned.checked.prog.looks [] ∧ ∀ (j : Nat) t, fn.params[j]? = some t → Tryz.pinned.checked.prog.wantsStandIn t = false := by
  obtain rfl : f = 4 := Option.some.inj ((show Tryz.prog.funcNamed "treenail/treenaillaw13.WalHeals" = some 4 by kernel_rfl).symm.trans hf) |>.symm
  obtain rfl : fn = Tryz.f4 := (Option.some.inj (Tryz.func4.symm.trans hfn)).symm
  refine ⟨by kernel_rfl, fun j t ht => ?_⟩
  rw [Tryz.params4] at ht
  rcases j with _ | _ | _ | j
  · obtain rfl : t = 5 := by simpa using ht.symm
    exact (show Tryz.prog.wantsStandIn 5 = false by kernel_rfl)
  · obtain rfl : t = 5 := by simpa using ht.symm
    exact (show Tryz.prog.wantsStandIn 5 = false by kernel_rfl)
  · obtain rfl : t = 5 := by simpa using ht.symm
    exact (show Tryz.prog.wantsStandIn 5 = false by kernel_rfl)
  · simp at ht

/-- THE STATEMENT -/
theorem proved : Rows.WalHealsCardSaid :=
  Claim7.holds_tied_plain_at .later [] _ _ _ _ said (fun _ h => by cases h) (by kernel_rfl) (fun _ h => by cases h) walHeals_row_tie rfl ⟨rfl, rfl⟩ (by kernel_rfl) rfl plain (by kernel_rfl)
#print axioms proved
end Go.Proofs.YtflanjcfkdjpjaaGreatDoor.walHeals
