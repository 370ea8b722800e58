/-
  The law RemapShapes holds: how many blocks there are is the document's answer; devices that may not be a pair, and sides and blocks that there aren't, are refused. Conditions: none but the row's own.
-/
import Derived.Test.YtpdickpipdaphaaGreatDoorRows
import Derived.Test.YtpdickpipdaphaaGreatDoorK12
import Derived.Test.YtpdickpipdaphaaGreatDoorCards
import Derived.Test.YtpdickpipdaphaaGreatDoorTie
import Derived.WalkKit
import Derived.ProofKit
import Derived.OpenShut
import Derived.ShutString
import Derived.ChangeOld
import Derived.Below
import Derived.Carry
import Derived.Deep.DeepHandedRow
import Derived.Lib.LaidTab
namespace Go.Proofs.YtpdickpipdaphaaGreatDoor.remapShapes
open Go.ChangeShapes Go.WideShapes Go.ChangeAt Go.RowKit
open Go.Proofs.YtpdickpipdaphaaGreatDoor
open Go.ChangeMaps (open_string shut_string)
set_option linter.unusedVariables false

theorem own : ownKnob Tryz.prog.godebug = none := by kernel_rfl
theorem laidOut : laidOutB Tryz.prog = true := by kernel_rfl

theorem len3 {α : Type} : ∀ l : List α, l.length = 3 → ∃ z0 z1 z2, l = [z0, z1, z2]
  | [z0, z1, z2], _ => ⟨z0, z1, z2, rfl⟩

open Go.Proofs.YtpdickpipdaphaaGreatDoor.Rem Go.Proofs.YtpdickpipdaphaaGreatDoor.Dev

/-! ### STEP 1: THE WALK -/
set_option maxHeartbeats 8000000 in
set_option maxRecDepth 100000 in
theorem walk (a0x0 a0x1 a0x2 : Int) (a1 : Int) (a2 : Int) (w : World) (w0x0 : (Lit.int .i64 a0x0).wf = true) (w0x1 : (Lit.int .i64 a0x1).wf = true) (w0x2 : (Lit.int .i64 a0x2).wf = true) (w1 : (Lit.int .i64 a1).wf = true) (w2 : (Lit.int .i64 a2).wf = true) :
    Calls Tryz.prog 5 #[.agg #[.int .i64 a0x0, .int .i64 a0x1, .int .i64 a0x2], .int .i64 a1, .int .i64 a2] w fun e w' => e = .returned (.bool true) ∧ Below w.heap.size w w' := by
  have hz0 : -9223372036854775808 ≤ a0x0 ∧ a0x0 ≤ 9223372036854775807 := by
    simp only [Lit.wf, Bool.and_eq_true, decide_eq_true_eq, show IntKind.i64.min = -9223372036854775808 from rfl, show IntKind.i64.max = 9223372036854775807 from rfl] at w0x0; omega
  clear w0x0 w0x1 w0x2 w1 w2
  obtain ⟨nn, hnn⟩ : ∃ nn, nn = (if Fit a0x0 a0x1 a0x2 then a0x0 - 4 - a0x2 else 0) := ⟨_, rfl⟩
  have HNN := Lib.hid hnn
  clear hnn
  have h0 := Has.new w [.int .i64 a0x0, .int .i64 a0x1, .int .i64 a0x2] 59
  have h7 := Has.new (w.alloc (.cells #[.int .i64 a0x0, .int .i64 a0x1, .int .i64 a0x2] 59)) [.int .i64 a0x0, .int .i64 a0x1] 61
  have hb := Tab.b_nw (Tab.b_new w (.cells #[.int .i64 a0x0, .int .i64 a0x1, .int .i64 a0x2] 59)) (.cells #[.int .i64 a0x0, .int .i64 a0x1] 61)
  have h0' := h0.alloc (.cells #[.int .i64 a0x0, .int .i64 a0x1] 61)
  have hsz : (w.alloc (.cells #[.int .i64 a0x0, .int .i64 a0x1, .int .i64 a0x2] 59)).heap.size = w.heap.size + 1 := by simp
  rw [hsz] at h7
  have H0 := Lib.hid h0'
  have H7 := Lib.hid h7
  have HB := Lib.hid hb
  clear h0 h7 hb h0' hsz
  go_enter Tryz.func5, Tryz.ntmps5
  go_upto_region 3 with fail
  go_cut [66] (fun x wx => x = .bool (decide (Fit a0x0 a0x1 a0x2)) ∧ Has wx w.heap.size 59 [.int .i64 a0x0, .int .i64 a0x1, .int .i64 a0x2] ∧ Has wx (w.heap.size + 1) 61 [.int .i64 a0x0, .int .i64 a0x1] ∧ Below w.heap.size w wx)
  case first =>
    go_wp2_with fail
    refine (right_any a0x0 a0x1 _).mono ?_
    rintro e w3 ⟨rfl, hb⟩
    have H03 := Lib.hid (H0.out.below hb H0.out.lt)
    have H73 := Lib.hid (H7.out.below hb H7.out.lt)
    have HB3 := Lib.hid (Tab.b_on HB.out hb)
    clear hb H0 H7 HB
    have c2 : w3.cell? ⟨w.heap.size, 2, none⟩ = some (.int .i64 a0x2) := H03.out.cell 2
    have c0 : w3.cell? ⟨w.heap.size, 0, none⟩ = some (.int .i64 a0x0) := H03.out.cell 0
    have c1 : w3.cell? ⟨w.heap.size, 1, none⟩ = some (.int .i64 a0x1) := H03.out.cell 1
    cases hR : shapeR a0x0 a0x1 with
    | false =>
      have hF := Lib.hid (show decide (Fit a0x0 a0x1 a0x2) = false from decide_eq_false fun h => by have := h.1; rw [hR] at this; cases this)
      clear hR
      go_wp2_with fail
      go_meet
      exact ⟨by rw [hF.out], H03.out, H73.out, HB3.out⟩
    | true =>
      have hr : (8 ≤ a0x0 ∧ a0x0 ≤ 4096) ∧ 128 ≤ a0x1 ∧ a0x1 ≤ 1024 := by have := hR; unfold shapeR at this; simp at this; omega
      obtain ⟨⟨r1, r2⟩, r3, r4⟩ := hr
      have HR := Lib.hid hR
      clear hR
      by_cases k1 : 0 ≤ a0x2
      · by_cases k2 : a0x2 ≤ 32
        · by_cases k3 : 2 ≤ a0x0 - 4 - a0x2
          · by_cases k4 : 8 + 2 * a0x2 ≤ a0x1 - 24
            · have hF := Lib.hid (show decide (Fit a0x0 a0x1 a0x2) = true from decide_eq_true ⟨HR.out, k1, k2, k3, k4⟩)
              go_wp2_with fail
              go_meet
              exact ⟨by rw [hF.out], H03.out, H73.out, HB3.out⟩
            · have hF := Lib.hid (show decide (Fit a0x0 a0x1 a0x2) = false from decide_eq_false fun h => k4 h.2.2.2.2)
              go_wp2_with fail
              go_meet
              exact ⟨by rw [hF.out]; try (simp; omega), H03.out, H73.out, HB3.out⟩
          · have hF := Lib.hid (show decide (Fit a0x0 a0x1 a0x2) = false from decide_eq_false fun h => k3 h.2.2.2.1)
            go_wp2_with fail
            go_meet
            exact ⟨by rw [hF.out]; try (simp; omega), H03.out, H73.out, HB3.out⟩
        · have hF := Lib.hid (show decide (Fit a0x0 a0x1 a0x2) = false from decide_eq_false fun h => k2 h.2.2.1)
          go_wp2_with fail
          go_meet
          exact ⟨by rw [hF.out]; try (simp; omega), H03.out, H73.out, HB3.out⟩
      · have hF := Lib.hid (show decide (Fit a0x0 a0x1 a0x2) = false from decide_eq_false fun h => k1 h.2.1)
        go_wp2_with fail
        go_meet
        exact ⟨by rw [hF.out], H03.out, H73.out, HB3.out⟩
  case rest =>
    obtain ⟨rfl, h0, h7, hb⟩ := hcut
    have H03 := Lib.hid h0
    have H73 := Lib.hid h7
    have HB3 := Lib.hid hb
    clear h0 h7 hb H0 H7 HB
    go_upto_if 66 with fail
    go_cut [8] (fun x wx => x = .int .i64 nn ∧ wx = wc)
    case first =>
      have c2 : wc.cell? ⟨w.heap.size, 2, none⟩ = some (.int .i64 a0x2) := H03.out.cell 2
      have c0 : wc.cell? ⟨w.heap.size, 0, none⟩ = some (.int .i64 a0x0) := H03.out.cell 0
      by_cases hF : Fit a0x0 a0x1 a0x2
      · have HI := Lib.hid (show nn = a0x0 - 4 - a0x2 by rw [HNN.out, if_pos hF])
        have hd : decide (Fit a0x0 a0x1 a0x2) = true := decide_eq_true hF
        have hr : (8 ≤ a0x0 ∧ a0x0 ≤ 4096) ∧ 128 ≤ a0x1 ∧ a0x1 ≤ 1024 := by have := hF.1; unfold shapeR at this; simp at this; omega
        obtain ⟨⟨r1, r2⟩, r3, r4⟩ := hr
        obtain ⟨_, k1, k2, k3, k4⟩ := hF
        rw [hd]
        clear hd
        go_wp2_with fail
        go_meet
        exact ⟨by rw [HI.out], rfl⟩
      · have HI := Lib.hid (show nn = 0 by rw [HNN.out, if_neg hF])
        have hd : decide (Fit a0x0 a0x1 a0x2) = false := decide_eq_false hF
        rw [hd]
        clear hd hF
        go_wp2_with fail
        go_meet
        exact ⟨by rw [HI.out], rfl⟩
    case rest =>
      obtain ⟨rfl, rfl⟩ := hcut
      have HW0 := Lib.hid (Below.refl wc.heap.size wc)
      go_wp2_with fail
      refine (fresh_any wc).mono ?_
      rintro e w4 ⟨pa, pb, q, S, rfl, hc, hn0, hn1⟩
      have HC4 := Lib.hid hc
      have HN := Lib.hid (show ∀ t, t < 2 → New (S t) from fun t ht => by
        by_cases h : t = 0
        · rw [h]; exact hn0
        · rw [show t = 1 by omega]; exact hn1)
      clear hc hn0 hn1 HW0
      go_wp2_with fail
      refine (wakes_any _).mono ?_
      rintro e w5 ⟨rfl, hb⟩
      have HC5 := Lib.hid (HC4.out.later hb)
      clear hb HC4
      have hb0 := HC5.out.below
      have c2 := (H03.out.below hb0 H03.out.lt).cell 2
      have d0 := (H73.out.below hb0 H73.out.lt).cell 0
      have d1 := (H73.out.below hb0 H73.out.lt).cell 1
      simp only [List.getElem?_cons_zero, List.getElem?_cons_succ] at c2 d0 d1
      clear hb0
      go_wp2_with fail
      refine (blocks_c a0x0 a0x1 a0x2 _).mono ?_
      rintro e w6 ⟨rfl, hb⟩
      rw [← HNN.out]
      have HC6 := Lib.hid (HC5.out.later hb)
      clear hb HC5
      clear c2 d0 d1
      go_wp2_with fail
      refine (new_yes 21 128 w6 rfl).mono ?_
      rintro e w7 ⟨d, sd, hd1, hd2, rfl, hd, hb⟩
      have HC7 := Lib.hid (HC6.out.later hb)
      have HD7 := Lib.hid hd
      clear hb hd hd1 hd2 HC6
      go_wp2_with fail
      refine (format_same_c HC7.out).mono ?_
      rintro e w8 ⟨rfl, hb⟩
      have HC8 := Lib.hid (HC7.out.later hb)
      have HD8 := Lib.hid (HD7.out.below hb (Nat.le_refl _))
      clear hb HC7 HD7
      go_wp2_with fail
      refine (format_unlike_c HC8.out HD8.out).mono ?_
      rintro e w9 ⟨rfl, hb⟩
      have HC9 := Lib.hid (HC8.out.later hb)
      have HD9 := Lib.hid (HD8.out.below hb (Nat.le_refl _))
      clear hb HC8 HD8
      go_wp2_with fail
      refine (format_nil_c (.pointer (some ⟨pb, 0, none⟩)) _ ⟨_, rfl⟩).mono ?_
      rintro e w10 ⟨rfl, hb⟩
      have HC10 := Lib.hid (HC9.out.later hb)
      have HD10 := Lib.hid (HD9.out.below hb (Nat.le_refl _))
      clear hb HC9 HD9
      go_wp2_with fail
      refine (devices_any w10).mono ?_
      rintro e w11 ⟨pu, pv, rfl, ht⟩
      have HT := Lib.hid ht
      clear ht
      go_wp2_with fail
      refine (open_new HT.out).mono ?_
      rintro e w12 ⟨rfl, hb⟩
      have HC12 := Lib.hid (HC10.out.later hb)
      have HD12 := Lib.hid (HD10.out.below hb (Nat.le_refl _))
      clear hb HT HC10 HD10
      go_wp2_with fail
      refine (replace_unlike_c HC12.out (by omega) HD12.out).mono ?_
      rintro e w13 ⟨rfl, hb⟩
      have HC13 := Lib.hid (HC12.out.later hb)
      have HD13 := Lib.hid (HD12.out.below hb (Nat.le_refl _))
      clear hb HC12 HD12
      go_wp2_with fail
      refine (replace_same_c HC13.out (by omega)).mono ?_
      rintro e w14 ⟨rfl, hb⟩
      have HC14 := Lib.hid (HC13.out.later hb)
      have HD14 := Lib.hid (HD13.out.below hb (Nat.le_refl _))
      clear hb HC13 HD13
      go_wp2_with fail
      refine (replace_nil_c HC14.out).mono ?_
      rintro e w15 ⟨rfl, hb⟩
      have HC15 := Lib.hid (HC14.out.later hb)
      clear hb HC14
      go_wp2_with fail
      refine (n_read 0 0 _).mono ?_
      rintro e w16 ⟨rfl, hb⟩
      have HC16 := Lib.hid (HC15.out.later hb)
      clear hb HC15
      go_wp2_with fail
      refine (n_write 0 0 _ _).mono ?_
      rintro e w17 ⟨rfl, hb⟩
      have HC17 := Lib.hid (HC16.out.later hb)
      clear hb HC16
      go_wp2_with fail
      refine (n_move 0 0 _).mono ?_
      rintro e w18 ⟨rfl, hb⟩
      have HC18 := Lib.hid (HC17.out.later hb)
      clear hb HC17
      go_wp2_with fail
      refine (n_flush 0 _).mono ?_
      rintro e w19 ⟨rfl, hb⟩
      have HC19 := Lib.hid (HC18.out.later hb)
      clear hb HC18
      go_wp2_with fail
      refine (n_device 0 _).mono ?_
      rintro e w20 ⟨rfl, hb⟩
      have HC20 := Lib.hid (HC19.out.later hb)
      clear hb HC19
      go_wp2_with fail
      refine (n_alive 0 _).mono ?_
      rintro e w21 ⟨rfl, hb⟩
      have HC21 := Lib.hid (HC20.out.later hb)
      clear hb HC20
      go_wp2_with fail
      refine (n_table 0 _).mono ?_
      rintro e w22 ⟨rfl, hb⟩
      have HC22 := Lib.hid (HC21.out.later hb)
      clear hb HC21
      go_wp2_with fail
      refine (Tab.blocks_any 0 0 [] _).mono ?_
      rintro e w23 ⟨rfl, hb⟩
      have HC23 := Lib.hid (HC22.out.later hb)
      clear hb HC22
      go_wp2_with fail
      refine (n_replace 0 _ _).mono ?_
      rintro e w24 ⟨rfl, hb⟩
      have HC24 := Lib.hid (HC23.out.later hb)
      clear hb HC23
      by_cases hbad : a1 < 0 ∨ 1 < a1
      · have HWE := Lib.hid (show wantE a1 a2 = 2 from if_pos hbad)
        have hwe : wantE a1 a2 ≠ 0 := by rw [HWE.out]; decide
        have HBAD := Lib.hid hbad
        rcases hbad with hb1 | hb1
        all_goals (
          go_wp2_with fail
          refine (read_w a1 a2 HC24.out hwe).mono ?_
          rintro e w25 ⟨rfl, hb⟩
          rw [HWE.out]
          have HC25 := Lib.hid (HC24.out.later hb)
          clear hb HC24
          go_wp2_with fail
          refine (full7_any _ _ (by decide)).mono ?_
          rintro e w26 ⟨rfl, hb⟩
          have HC26 := Lib.hid (HC25.out.later hb)
          clear hb HC25
          go_wp2_with fail
          refine (write_w a1 a2 _ HC26.out hwe).mono ?_
          rintro e w27 ⟨rfl, hb⟩
          rw [HWE.out]
          have HC27 := Lib.hid (HC26.out.later hb)
          clear hb HC26
          go_wp2_with fail
          refine (device_w a1 HC27.out HBAD.out).mono ?_
          rintro e w28 ⟨rfl, hb⟩
          have HC28 := Lib.hid (HC27.out.later hb)
          clear hb HC27
          go_wp2_with fail
          refine (alive_w a1 HC28.out HBAD.out).mono ?_
          rintro e w29 ⟨rfl, hb⟩
          have HC29 := Lib.hid (HC28.out.later hb)
          clear hb HC28
          go_wp2_with fail
          go_ret
          exact ⟨rfl, HB3.out.trans (HC29.out.below.mono HB3.out.size)⟩)
      · obtain ⟨s, rfl⟩ : ∃ s : Nat, a1 = (s : Int) := ⟨a1.toNat, by omega⟩
        have hs : s < 2 := by omega
        by_cases hbb : a2 < 0 ∨ 12 ≤ a2
        · have HWE := Lib.hid (show wantE (s : Int) a2 = 3 by unfold wantE; rw [if_neg hbad, if_pos hbb])
          have hwe : wantE (s : Int) a2 ≠ 0 := by rw [HWE.out]; decide
          have HBAD := Lib.hid hbb
          rcases hbb with hb1 | hb1
          all_goals (
            go_wp2_with fail
            refine (read_w (s : Int) a2 HC24.out hwe).mono ?_
            rintro e w25 ⟨rfl, hb⟩
            rw [HWE.out]
            have HC25 := Lib.hid (HC24.out.later hb)
            clear hb HC24
            go_wp2_with fail
            refine (full7_any _ _ (by decide)).mono ?_
            rintro e w26 ⟨rfl, hb⟩
            have HC26 := Lib.hid (HC25.out.later hb)
            clear hb HC25
            go_wp2_with fail
            refine (write_w (s : Int) a2 _ HC26.out hwe).mono ?_
            rintro e w27 ⟨rfl, hb⟩
            rw [HWE.out]
            have HC27 := Lib.hid (HC26.out.later hb)
            clear hb HC26
            go_wp2_with fail
            refine (device_c HC27.out hs).mono ?_
            rintro e w28 ⟨rfl, hb⟩
            have HC28 := Lib.hid (HC27.out.later hb)
            clear hb HC27
            go_wp2_with fail
            refine (alive_c HC28.out hs).mono ?_
            rintro e w29 ⟨rfl, hb⟩
            have HC29 := Lib.hid (HC28.out.later hb)
            clear hb HC28
            go_wp2_with fail
            go_ret
            exact ⟨rfl, HB3.out.trans (HC29.out.below.mono HB3.out.size)⟩)
        · obtain ⟨b, rfl⟩ : ∃ b : Nat, a2 = (b : Int) := ⟨a2.toNat, by omega⟩
          have hb12 : b < 12 := by omega
          have hm0 := (HN.out s hs).1
          have hpl : 4 ≤ pl (S s) b ∧ pl (S s) b < 20 := by
            have := pl_bd (s := S s) (by rw [hm0]; exact Tab.Good.nil rfl) hb12
            rw [hm0] at this; simp at this; omega
          have HBF := Lib.hid (((HN.out s hs).2 _ hpl.1 hpl.2).2)
          have HE := Lib.hid (show wrE (S s) b = 0 by unfold wrE; rw [HBF.out]; simp)
          clear hm0 hpl
          go_wp2_with fail
          refine (read_c HC24.out hs hb12 (by omega)).mono ?_
          rintro e w25 ⟨rfl, hcp, _⟩
          rw [HBF.out, if_neg (by decide), if_neg (by decide)]
          have HC25 := Lib.hid hcp
          clear hcp HC24
          go_wp2_with fail
          refine (full7_any _ _ (by decide)).mono ?_
          rintro e w26 ⟨rfl, hb⟩
          have HC26 := Lib.hid (HC25.out.later hb)
          clear hb HC25
          go_wp2_with fail
          refine (write_c HC26.out hs hb12 (fullN_size _) (by omega) (HN.out s hs).spare).mono ?_
          rintro e w27 ⟨S2, rfl, _, hcp, _⟩
          rw [HE.out]
          have HC27 := Lib.hid hcp
          clear hcp HC26
          go_wp2_with fail
          refine (device_c HC27.out hs).mono ?_
          rintro e w28 ⟨rfl, hb⟩
          have HC28 := Lib.hid (HC27.out.later hb)
          clear hb HC27
          go_wp2_with fail
          refine (alive_c HC28.out hs).mono ?_
          rintro e w29 ⟨rfl, hb⟩
          have HC29 := Lib.hid (HC28.out.later hb)
          clear hb HC28
          go_wp2_with fail
          go_ret
          exact ⟨rfl, HB3.out.trans (HC29.out.below.mono HB3.out.size)⟩

set_option maxRecDepth 100000 in
theorem contract (H : Type) (enc : TypeId × Value → H) (W : World) (base : Nat) (args : Array Value) (ds gs : List (DataW H)) (before : List MemPlace)
    (hval0 : ∀ (j : Nat) t v, Tryz.f5.params[j]? = some t → args[j]? = some v → Value.okWide Tryz.prog W .any base t v)
    (hW : DataW.Whole enc Tryz.prog Tryz.f5.params.toList Rows.remapShapesSpec.vars false W args.toList ds gs before) :
    Calls Tryz.prog 5 args W fun e W' => ∃ v, e = .returned v ∧ Rows.remapShapesSpec.post enc Tryz.prog Tryz.f5 false true false false W args v W' := by
  have hval : ∀ (j : Nat) t v, Tryz.f5.params[j]? = some t → args[j]? = some v → Value.okWide Tryz.prog W .any base t v := hval0
  have hW' := hW
  obtain ⟨p, q, hA0, hV, rfl, hfz, hnd⟩ := hW
  have hA : DataW.TrodAll enc Tryz.prog W 0 (fun _ => true) true Tryz.f5.params.toList args.toList ds p := hA0
  rw [Tryz.params5] at hA hval
  obtain ⟨v0, vs0, d0, ds0, p0, q0, hargs, rfl, rfl, h0, r0⟩ := trodAll_cons hA
  obtain ⟨v1, vs1, d1, ds1, p1, q1, rfl, rfl, rfl, h1, r1⟩ := trodAll_cons r0
  obtain ⟨v2, vs2, d2, ds2, p2, q2, rfl, rfl, rfl, h2, r2⟩ := trodAll_cons r1
  obtain ⟨rfl, rfl, rfl⟩ := trodAll_nil r2
  obtain rfl : args = #[v0, v1, v2] := by cases args; simp_all
  obtain ⟨rfl, rfl⟩ := trodVars_none hV
  have k0 := h0
  have lt0 : ∀ x ∈ p0, x.block < W.heap.size := by obtain ⟨m, hm⟩ := k0; exact DataW.trod_lt m _ _ _ hm
  obtain ⟨cs0, rfl, hl0, hc0⟩ := open_arr Tryz.underlying59 (by kernel_rfl) (by kernel_rfl) (hval 0 59 v0 rfl rfl) h0
  obtain ⟨y0_0, y0_1, y0_2, rfl⟩ := len3 cs0 hl0
  obtain ⟨a0x0, rfl, w0x0⟩ := open_int_cell Tryz.underlying3 (hc0 0 _ rfl)
  obtain ⟨a0x1, rfl, w0x1⟩ := open_int_cell Tryz.underlying3 (hc0 1 _ rfl)
  obtain ⟨a0x2, rfl, w0x2⟩ := open_int_cell Tryz.underlying3 (hc0 2 _ rfl)
  obtain ⟨a1, rfl, rfl, rfl, w1⟩ := open_int Tryz.underlying3 (hval 1 3 v1 rfl rfl) h1
  obtain ⟨a2, rfl, rfl, rfl, w2⟩ := open_int Tryz.underlying3 (hval 2 3 v2 rfl rfl) h2
  clear hA0 hval0
  refine (walk a0x0 a0x1 a0x2 a1 a2 W w0x0 w0x1 w0x2 w1 w2).mono fun e W' ⟨he, bel⟩ => ?_
  subst he
  exact ⟨_, rfl, _, _, _, [], _, [], hW', trodAll_mk1 (shut_bool Tryz.underlying4 _), (trodAll_cons_mk (Below.trod laidOut (by kernel_rfl) (of_decide_eq_true (by kernel_rfl)) k0 bel lt0) (trodAll_cons_mk (shut_int Tryz.underlying3 w1) (trodAll_cons_mk (shut_int Tryz.underlying3 w2) trodAll_mk0))), rfl, bel.frame _, fun h => by cases h⟩

noncomputable def laidWorld (os : Os) : World :=
  { World.holding Tryz.prog os ⟨#[], #[], []⟩ with heap := (((((World.holding Tryz.prog os ⟨#[], #[], []⟩).heap).modify 2 fun | .cells _ t frozen => .cells (#[.int .u8 128, .int .u8 191, .int .u8 160, .int .u8 191, .int .u8 128, .int .u8 159, .int .u8 144, .int .u8 191, .int .u8 128, .int .u8 143, .int .u8 0, .int .u8 0, .int .u8 0, .int .u8 0, .int .u8 0, .int .u8 0, .int .u8 0, .int .u8 0, .int .u8 0, .int .u8 0, .int .u8 0, .int .u8 0, .int .u8 0, .int .u8 0, .int .u8 0, .int .u8 0, .int .u8 0, .int .u8 0, .int .u8 0, .int .u8 0, .int .u8 0, .int .u8 0]) t frozen | o => o)).modify 1 fun | .cells _ t frozen => .cells ((Go.Pinned.utf8FirstZ.map fun z : Nat => Value.int .u8 (z : Int)).toArray) t frozen | o => o) }
theorem laid_met (os : Os) : laidMet Tryz.prog Rows.remapShapesRow.laid ((laidWorld os).forCall (fun _ _ => 0) ⟨#[], #[.agg #[.int .i64 0, .int .i64 0, .int .i64 0], .int .i64 0, .int .i64 0], []⟩).memory :=
  laidMet_of_run' 8 (by kernel_rfl) (by kernel_rfl)
theorem reads (os : Os) {H : Type} (enc : TypeId × Value → H) : ∃ places, DataW.whole enc Tryz.prog ((laidWorld os).forCall (fun _ _ => 0) ⟨#[], #[.agg #[.int .i64 0, .int .i64 0, .int .i64 0], .int .i64 0, .int .i64 0], []⟩).memory Tryz.f5.params.toList Rows.remapShapesSpec.vars false (#[.agg #[.int .i64 0, .int .i64 0, .int .i64 0], .int .i64 0, .int .i64 0] : Array Value).toList 8 = some ([.agg [.lit (.int .i64 0), .lit (.int .i64 0), .lit (.int .i64 0)], .lit (.int .i64 0), .lit (.int .i64 0)], [], places) :=
  ⟨[], by kernel_rfl⟩

set_option maxRecDepth 100000 in
theorem lifted (os : Os) (started : os.Started) (H : Type) (enc : TypeId × Value → H) (F : Stop.Interp) :
    ReturnsInHanded {} Tryz.checked os 5 .any ((OpenSpec.ofChange Rows.remapShapesSpec).preRow enc Tryz.prog Tryz.f5 Rows.remapShapesRow.domain false Rows.remapShapesRow.laid) (((OpenSpec.ofChange Rows.remapShapesSpec).at F).post enc Tryz.prog Tryz.f5 false true false false) := by
  obtain ⟨places, hx⟩ := reads os enc
  refine returnsInHanded_of_row (C := Tryz.checked) (s := OpenSpec.ofChange Rows.remapShapesSpec) own started (by kernel_rfl) Tryz.func5
    (witness_row_at (enc := enc) (C := Tryz.checked) false (laidWorld os) #[.agg #[.int .i64 0, .int .i64 0, .int .i64 0], .int .i64 0, .int .i64 0] rfl (by kernel_rfl) (by kernel_rfl) (by kernel_rfl)
      (OpenSpec.preRow_of_cond 8 hx (by kernel_rfl) (fun k hk => by cases hk) (by kernel_rfl) (laid_met os))) ?_
  intro W base args ds gs before hval hW _ _ _ hL _ _
  exact contract H enc W base args ds gs before hval hW

theorem said : Rows.RemapShapesSaid :=
  OpenClaim.holds_of_cond 5 Tryz.f5 rfl rfl rfl rfl rfl rfl rfl ⟨rfl, rfl, rfl, rfl, rfl⟩ rfl rfl rfl rfl rfl (by kernel_rfl) Tryz.func5 (by kernel_rfl)
    (of_decide_eq_true (by kernel_rfl)) (by unfold Func.isWrapper; first | (rw [if_pos (by decide +kernel)]; kernel_rfl) | (rw [if_neg (by decide +kernel)]; exact ⟨rfl, rfl⟩))
    (fun os started H enc _ F => by rw [OpenClaim.pre_eq_preRow]; exact lifted os started H enc F)

theorem plain (f : FuncId) (fn : Func) (hf : Tryz.pinned.checked.prog.funcNamed "treenail/treenaillaw07.RemapShapes" = some f) (hfn : Tryz.pinned.checked.prog.funcs[f]? = some fn) :
    false = Tryz.pinned.checked.prog.looks [] ∧ ∀ (j : Nat) t, fn.params[j]? = some t → Tryz.pinned.checked.prog.wantsStandIn t = false := by
  obtain rfl : f = 5 := Option.some.inj ((show Tryz.prog.funcNamed "treenail/treenaillaw07.RemapShapes" = some 5 by kernel_rfl).symm.trans hf) |>.symm
  obtain rfl : fn = Tryz.f5 := (Option.some.inj (Tryz.func5.symm.trans hfn)).symm
  refine ⟨by kernel_rfl, fun j t ht => ?_⟩
  rw [Tryz.params5] at ht
  rcases j with _ | _ | _ | j
  · obtain rfl : t = 59 := by simpa using ht.symm
    exact (show Tryz.prog.wantsStandIn 59 = false by kernel_rfl)
  · obtain rfl : t = 3 := by simpa using ht.symm
    exact (show Tryz.prog.wantsStandIn 3 = false by kernel_rfl)
  · obtain rfl : t = 3 := by simpa using ht.symm
    exact (show Tryz.prog.wantsStandIn 3 = false by kernel_rfl)
  · simp at ht

/-- THE STATEMENT -/
theorem proved : Rows.RemapShapesCardSaid :=
  Claim7.holds_tied_plain_at .later [] _ _ _ _ said (fun _ h => by cases h) (by kernel_rfl) (fun _ h => by cases h) remapShapes_row_tie rfl ⟨rfl, rfl⟩ (by kernel_rfl) rfl plain (by kernel_rfl)
#print axioms proved
end Go.Proofs.YtpdickpipdaphaaGreatDoor.remapShapes
