/-
  The law RemapSpares holds: as many bad sectors as there are spares are stood for; each one more is told; the other side isn't touched. Conditions: none but the row's own.
-/
import Derived.Test.YtpdickpipdaphaaGreatDoorRows
import Derived.Test.YtpdickpipdaphaaGreatDoorK12
import Derived.Test.YtpdickpipdaphaaGreatDoorCards
import Derived.Test.YtpdickpipdaphaaGreatDoorTie
import Derived.WalkKit
import Derived.ProofKit
import Derived.OpenShut
import Derived.ShutString
import Derived.ChangeOld
import Derived.Below
import Derived.Carry
import Derived.Deep.DeepHandedRow
import Derived.Lib.LaidTab
namespace Go.Proofs.YtpdickpipdaphaaGreatDoor.remapSpares
open Go.ChangeShapes Go.WideShapes Go.ChangeAt Go.RowKit
open Go.Proofs.YtpdickpipdaphaaGreatDoor
open Go.ChangeMaps (open_string shut_string)
set_option linter.unusedVariables false

theorem own : ownKnob Tryz.prog.godebug = none := by kernel_rfl
theorem laidOut : laidOutB Tryz.prog = true := by kernel_rfl


open Go.Proofs.YtpdickpipdaphaaGreatDoor.Rem Go.Proofs.YtpdickpipdaphaaGreatDoor.Dev
open Go.Proofs.YtpdickpipdaphaaGreatDoor.Tab (atN atE at_yes mvd zero_bool owns_map_on owns_map_same)
open Go.Maps (int_keyed keyOf_int_mk)
theorem run_minC (P : Program) (w : World) (t : TypeId) (ts : Array TypeId) (a c : Nat) : (Builtin.min_ ts t #[.int .i64 (a : Nat), .int .i64 (c : Nat)]).run P w = .ok (.int .i64 ((min a c : Nat) : Int)) w := by
  have e : ∀ a b : Nat, (if (b : Int) < a then (b : Int) else a) = ((min a b : Nat) : Int) := by intro a b; split <;> omega
  simp only [Builtin.min_, Builtin.min2, List.foldlM, Sem.run_bind, Sem.run_pure, Result.andThen]
  rw [e]

/-! ### STEP 1: THE WALK -/
set_option maxHeartbeats 8000000 in
set_option maxRecDepth 100000 in
theorem walk (a0 : Option Addr) (a0l a0c : Nat) (a0z : List Int) (a1 : Bool) (w : World) (w0 : Row .u8 w a0 a0l a0z) (w0l : a0l ≤ a0c) (w0m : a0c ≤ maxLen) (w0w : ∀ n ∈ a0z, (Lit.int .u8 n).wf = true) :
    Calls Tryz.prog 7 #[.slice a0 a0l a0c, .bool a1] w fun e w' => e = .returned (.bool true) ∧ Below w.heap.size w w' := by
  obtain ⟨hr0, hlc0, hcm0, hwf0⟩ := And.intro w0 (And.intro w0l (And.intro w0m w0w))
  have R0 := Lib.hid hr0
  have WF := Lib.hid hwf0
  have HLZ := Lib.hid hr0.len_eq
  clear hr0 hwf0 w0
  unfold maxLen at hcm0
  have hmm := @run_makeMap Tryz.prog
  obtain ⟨tn, htn⟩ : ∃ t, t = fullN ⟨#[110, 101, 119]⟩ := ⟨_, rfl⟩
  have HTN := Lib.hid htn
  have HTS := Lib.hid (show tn.size = 128 by rw [htn]; exact fullN_size _)
  clear htn
  go_enter Tryz.func7, Tryz.ntmps7
  go_wp2_with fail
  refine (fresh_any w).mono ?_
  rintro e w1 ⟨pa, pb, q, S0, rfl, hc, h0, h1⟩
  have HC := Lib.hid hc
  have H0 := Lib.hid h0
  have H1 := Lib.hid h1
  clear hc h0 h1
  go_wp2_with fail
  refine (wakes_any _).mono ?_
  rintro e w2 ⟨rfl, hb⟩
  have HC2 := Lib.hid (HC.out.later hb)
  clear hb HC
  go_upto_if 34 with fail
  go_cut [9, 10] (fun x y wx => ∃ s : Nat, s < 2 ∧ x = .int .i64 s ∧ y = .pointer (some ⟨pdOf pa pb s, 0, none⟩) ∧ wx = w2)
  case first =>
    cases a1 with
    | false =>
      go_wp2_with fail
      go_meet
      exact ⟨0, by omega, rfl, rfl, rfl⟩
    | true =>
      go_wp2_with fail
      go_meet
      exact ⟨1, by omega, rfl, rfl, rfl⟩
  case rest =>
    obtain ⟨s, hs, rfl, rfl, rfl⟩ := hcut
    obtain ⟨s1, hs1⟩ : ∃ s1, s1 = 1 - s := ⟨_, rfl⟩
    have hs12 : s1 < 2 := by omega
    have hne1 : s1 ≠ s := by omega
    have hsub : (1 : Int) - (s : Int) = (s1 : Int) := by omega
    have HNEW := Lib.hid (show ∀ t, t < 2 → New (S0 t) from fun t ht => by
      by_cases h : t = 0
      · rw [h]; exact H0.out
      · rw [show t = 1 by omega]; exact H1.out)
    clear hs1 H0 H1
    have hmade := World.ownsMap_made (H := Unit) wc Tryz.prog 3 (plainElem (H := Unit) Tryz.prog 4)
    have hc3 := HC2.out.new (.map #[] 0)
    obtain ⟨mb, hmb⟩ : ∃ b, b = wc.heap.size := ⟨_, rfl⟩
    rw [← hmb] at hmade hc3
    have HM := Lib.hid hmade
    have HC3 := Lib.hid hc3
    obtain ⟨mm, hm⟩ : ∃ mm, mm = min a0l 20 := ⟨_, rfl⟩
    have hmin : ∀ W ts, (Builtin.min_ ts 3 #[.int .i64 (a0l : Nat), .int .i64 20]).run Tryz.prog W = .ok (.int .i64 (mm : Int)) W := by
      intro W ts; rw [hm]; exact run_minC _ _ _ _ a0l 20
    have hml : mm ≤ a0l := by omega
    have hml' : mm ≤ a0c := by omega
    have hm20 : mm ≤ 20 := by omega
    clear hm hmade hc3 HC2
    go_wp2_with fail
    rw [← hmb]
    clear hmin hmb
    go_loopw [43] (fun i wr => ∃ (c n : Nat) (S : Nat → Sd) (D : DataW Unit), c ≤ mm ∧ i = .int .i64 c ∧ n ≤ c ∧ Mk (S s).m D ∧ Spare (S s) ∧ (S s1).m = [] ∧ (S s1).B 4 = false ∧ Spare (S s1) ∧ wr.ownsMap Tryz.prog 3 (plainElem (H := Unit) Tryz.prog 4) mb n D ∧ CP w [mb] q (pdOf pa pb) S (4 + 4 * c) wr) (fun i _ => mm - (intOf i).toNat)
    case atStart => exact ⟨0, 0, S0, _, Nat.zero_le _, rfl, Nat.le_refl _, (by rw [(HNEW.out s hs).1]; exact Mk.start), (HNEW.out s hs).spare, (HNEW.out s1 hs12).1, ((HNEW.out s1 hs12).2 4 (by omega) (by omega)).2, (HNEW.out s1 hs12).spare, HM.out, HC3.out⟩
    case round =>
      obtain ⟨c, n, S, D, hc, rfl, hn, hmk, hsp, ho1, ho2, ho3, hmp, hcp⟩ := hrel
      clear HM HC3
      have HMK := Lib.hid hmk
      have HSP := Lib.hid hsp
      have HO := Lib.hid (And.intro ho1 (And.intro ho2 ho3))
      have HM := Lib.hid hmp
      have HC := Lib.hid hcp
      have HG := Lib.hid (hcp.good hs)
      have hbw := hcp.below
      clear hmk hsp ho1 ho2 ho3 hmp hcp
      by_cases hlt : c < mm
      · obtain ⟨zb, zo, rfl, hcell⟩ := (R0.out.below hbw (Nat.le_refl _)).at_ (by omega)
        have hz := hcell c (by omega)
        obtain ⟨y, hy⟩ : ∃ y, y = a0z.getD c 0 := ⟨_, rfl⟩
        have hyb : 0 ≤ y ∧ y ≤ 255 := by
          have := bounds_u8 (WF.out y (by rw [hy, List.getD_eq_getElem?_getD, List.getElem?_eq_getElem (by rw [HLZ.out]; omega)]; exact List.getElem_mem _))
          omega
        rw [← hy] at hz
        obtain ⟨x, hx⟩ : ∃ x : Nat, (x : Int) = y % 12 := ⟨(y % 12).toNat, by omega⟩
        have hx12 : x < 12 := by omega
        have hwy : IntKind.i64.wrap y = y := IntWalk.i64_in _ (by omega)
        have hmod : Int.tmod y 12 = (x : Int) := by rw [Int.tmod_eq_emod_of_nonneg hyb.1, hx]
        have hmod' : y % 12 = (x : Int) := hx.symm
        obtain ⟨hy0, hy1⟩ := hyb
        obtain ⟨p1, p2, p3⟩ := pl_bd HG.out hx12
        obtain ⟨q1, q2, q3⟩ := at_yes (m := (S s).m) (n := 12) (b := (x : Int)) (by omega) (by omega)
        obtain ⟨ix, hix⟩ : ∃ ix, ix = pl (S s) x := ⟨_, rfl⟩
        obtain ⟨P, hP⟩ : ∃ P, P = Tab.plc 12 (S s).m x := ⟨_, rfl⟩
        rw [← hP] at p3 q3
        rw [← hix] at p1 p2 p3
        have HAT := Lib.hid (And.intro q2 q3)
        have HIX := Lib.hid hix
        have hg4 : (S s).m.length ≤ 4 := by have := HG.out.len; omega
        have HP3 := Lib.hid p3
        clear hcell hy hx hP q1 q2 q3 hix p3
        go_wp2_with fail
        refine (table_c HC.out hs).mono ?_
        rintro e w3 ⟨rfl, hb⟩
        have HC3 := Lib.hid (HC.out.later hb)
        have HM3 := Lib.hid (owns_map_on HM.out hb)
        clear hb HC HM hz
        go_wp2_with fail
        refine (Tab.at_any 12 4 x (S s).m _ HG.out).mono ?_
        rintro e w4 ⟨rfl, hb⟩
        rw [HAT.out.1, HAT.out.2]
        have HC4 := Lib.hid (HC3.out.later hb)
        have HM4 := Lib.hid (owns_map_on HM3.out hb)
        clear hb HC3 HM3
        have hPb : 0 ≤ P ∧ P ≤ 1000 := by have := HP3.out; omega
        obtain ⟨hPb0, hPb1⟩ := hPb
        go_wp2_with fail
        refine (stick_c HC4.out hs (i := ix) p1 (by omega) (by omega) (4 + P) HP3.out.symm).mono ?_
        rintro e w5 ⟨S1, rfl, hk, hcp, hsm⟩
        have HC5 := Lib.hid hcp
        have HM5 := Lib.hid (owns_map_keep HM4.out hsm (by simp))
        have HK := Lib.hid hk
        clear hk hcp hsm HC4 HM4
        go_wp2_with fail
        refine (table_c HC5.out hs).mono ?_
        rintro e w6 ⟨rfl, hb⟩
        have HC6 := Lib.hid (HC5.out.later hb)
        have HM6 := Lib.hid (owns_map_on HM5.out hb)
        have hm1 : (S1 s).m = (S s).m := HK.out.2.1
        rw [hm1]
        clear hb HC5 HM5
        go_wp2_with fail
        refine (Tab.left_any 12 4 (S s).m _ (by decide) (by decide) (by omega)).mono ?_
        rintro e w7 ⟨rfl, hb⟩
        have HC7 := Lib.hid (HC6.out.later hb)
        have HM7 := Lib.hid (owns_map_on HM6.out hb)
        clear hb HC6 HM6
        go_wp2_with fail
        refine (full7_any _ _ (by decide)).mono ?_
        rintro e w8 ⟨rfl, hb⟩
        rw [← HTN.out]
        have HC8 := Lib.hid (HC7.out.later hb)
        have HM8 := Lib.hid (owns_map_on HM7.out hb)
        have HM1 := Lib.hid hm1
        clear hb HC7 HM7 hm1
        have hpl1 : pl (S1 s) x = ix := by rw [HIX.out]; unfold pl; rw [HM1.out]
        have hbad : (S1 s).B ix = true := by rw [HK.out.2.2.1, upd_same]
        have hsp1 : Spare (S1 s) := fun j h1 h2 => by
          rw [HM1.out] at h1
          rw [HK.out.2.2.1, upd_ne _ _ (by omega)]; exact HSP.out j h1 h2
        have HSP1 := Lib.hid hsp1
        have HPL := Lib.hid (And.intro hpl1 hbad)
        clear hpl1 hbad hsp1
        obtain ⟨L, hL⟩ : ∃ L, L = (S s).m.length := ⟨_, rfl⟩
        have HL := Lib.hid hL
        rw [← hL]
        rw [← hL] at hg4 p2
        clear hL
        by_cases hfull : L < 4
        · have HE := Lib.hid (show wrE (S1 s) x = 0 by unfold wrE; rw [HM1.out, ← HL.out, if_neg (by omega)])
          go_wp2_with fail
          refine (write_c HC8.out hs hx12 HTS.out (by omega) HSP1.out).mono ?_
          rintro e w9 ⟨S2, rfl, hw, hcp, hsm⟩
          rw [HE.out]
          have HC9 := Lib.hid hcp
          have hm9 := owns_map_keep HM8.out hsm (by simp)
          have HM9 := Lib.hid hm9
          have HW := Lib.hid hw
          have hm2 : (S2 s).m = (S s).m ++ [(x : Int)] := by rw [hw.m, HPL.out.1, HPL.out.2, HM1.out, if_pos ⟨rfl, by rw [← HL.out]; exact hfull⟩]
          have hp2 : pl (S2 s) x = 16 + L := by
            have := Tab.plc_snoc 12 (S s).m (x : Int) (x : Int)
            unfold pl
            rw [hm2, this, if_pos rfl, HL.out]; omega
          have hv2 : (S2 s).V (16 + L) = tn := by have := hw.at_ HE.out; rwa [hp2] at this
          have hb2 : (S2 s).B (16 + L) = false := by
            rw [hw.bad, HK.out.2.2.1, upd_ne _ _ (by omega)]; exact HSP.out L (by rw [HL.out]; exact Nat.le_refl _) hfull
          have HM2 := Lib.hid (And.intro hm2 (And.intro hp2 (And.intro hv2 hb2)))
          have hpw := Tab.int_wf (x := (x : Int)) (by omega) (by omega)
          have HPW := Lib.hid hpw
          have HNL := Lib.hid (show n < maxLen by unfold maxLen; omega)
          clear hcp hsm hw hm2 hp2 hv2 hb2 hpw hm9 HC8 HM8
          go_wp2_with (at_mapUpdate; refine wpList_mapUpdate_own _ rfl _ _ _ 71 rfl 3 4 (int_keyed Tryz.underlying3) Tryz.underlying71 (plainElem (H := Unit) Tryz.prog 4) mb n D rfl HM9.out HNL.out _ _ (.int .i64 (x : Int)) rfl rfl (keyOf_int_mk Tryz.underlying3 HPW.out) (.lit (.bool true)) [] (plainElem_bool Tryz.underlying4 true) ?_)
          intro w10 hown hgrow
          have HC10 := Lib.hid (CP.map HC9.out (by simp) hgrow)
          have HM10 := Lib.hid hown
          have HMK2 := Lib.hid (Mk.push HMK.out (HM9.out.tidy (int_keyed Tryz.underlying3)) x hx12)
          clear hown hgrow HC9 HM9
          go_wp2_with fail
          refine (read_c HC10.out hs hx12 (by omega)).mono ?_
          rintro e w11 ⟨rfl, hcp, hsm⟩
          rw [HM2.out.2.1, HM2.out.2.2.1, HM2.out.2.2.2]
          have HC11 := Lib.hid hcp
          have HM11 := Lib.hid (owns_map_keep HM10.out hsm (by simp))
          clear hcp hsm HC10 HM10
          go_wp2_with fail
          refine (full7_any _ _ (by decide)).mono ?_
          rintro e w12 ⟨rfl, hb⟩
          rw [← HTN.out]
          have HC12 := Lib.hid (HC11.out.later hb)
          have HM12 := Lib.hid (owns_map_on HM11.out hb)
          clear hb HC11 HM11
          go_wp2_with fail
          go_roundw
          case rel =>
            have hoth := HW.out.oth s1 hs12 hne1
            have hk1 : S1 s1 = S s1 := HK.out.1 s1 hne1
            refine ⟨c + 1, n + 1, S2, _, by omega, by go_num, by omega, (by rw [HM2.out.1]; exact HMK2.out), fun j h1 h2 => ?_, (by rw [hoth.1, hk1]; exact HO.out.1), (by rw [hoth.2.1, hk1]; exact HO.out.2.1), fun j h1 h2 => ?_, HM12.out, HC12.out.mono (by omega)⟩
            · rw [HM2.out.1, List.length_append, ← HL.out] at h1
              rw [HW.out.bad]; exact HSP1.out j (by rw [HM1.out, ← HL.out]; simp at h1; omega) h2
            · rw [hoth.1, hk1] at h1
              rw [hoth.2.1, hk1]; exact HO.out.2.2 j h1 h2
          case measure => simp [intOf]; omega
        · obtain rfl : L = 4 := by omega
          have HE := Lib.hid (show wrE (S1 s) x = 9 by unfold wrE; rw [HM1.out, ← HL.out, HPL.out.1, HPL.out.2]; rfl)
          go_wp2_with fail
          refine (write_c HC8.out hs hx12 HTS.out (by omega) HSP1.out).mono ?_
          rintro e w9 ⟨S2, rfl, hw, hcp, hsm⟩
          rw [HE.out]
          have HC9 := Lib.hid hcp
          have HM9 := Lib.hid (owns_map_keep HM8.out hsm (by simp))
          have HW := Lib.hid hw
          have hm2 : (S2 s).m = (S s).m := by rw [hw.m, HM1.out, if_neg (by rw [← HL.out]; omega)]
          have HM2 := Lib.hid hm2
          clear hcp hsm hw hm2 HC8 HM8
          go_wp2_with fail
          go_roundw
          case rel =>
            have hoth := HW.out.oth s1 hs12 hne1
            have hk1 : S1 s1 = S s1 := HK.out.1 s1 hne1
            refine ⟨c + 1, n, S2, D, by omega, by go_num, by omega, (by rw [HM2.out]; exact HMK.out), fun j h1 h2 => ?_, (by rw [hoth.1, hk1]; exact HO.out.1), (by rw [hoth.2.1, hk1]; exact HO.out.2.1), fun j h1 h2 => ?_, HM9.out, HC9.out.mono (by omega)⟩
            · rw [HM2.out, ← HL.out] at h1; omega
            · rw [hoth.1, hk1] at h1
              rw [hoth.2.1, hk1]; exact HO.out.2.2 j h1 h2
          case measure => simp [intOf]; omega
      · obtain ⟨tt, hto⟩ : ∃ t, t = fullN ⟨#[111, 116, 104, 101, 114]⟩ := ⟨_, rfl⟩
        have HTO := Lib.hid hto
        have HTOS := Lib.hid (show tt.size = 128 by rw [hto]; exact fullN_size _)
        clear hto
        go_wp2_with fail
        refine (table_c HC.out hs12).mono ?_
        rintro e w3 ⟨rfl, hb⟩
        rw [HO.out.1]
        have HC3 := Lib.hid (HC.out.later hb)
        have HM3 := Lib.hid (owns_map_on HM.out hb)
        clear hb HC HM
        go_wp2_with fail
        refine (Tab.gen_any 12 4 [] _ (by decide)).mono ?_
        rintro e w4 ⟨rfl, hb⟩
        have HC4 := Lib.hid (HC3.out.later hb)
        have HM4 := Lib.hid (owns_map_on HM3.out hb)
        clear hb HC3 HM3
        go_wp2_with fail
        refine (table_c HC4.out hs).mono ?_
        rintro e w5 ⟨rfl, hb⟩
        have HC5 := Lib.hid (HC4.out.later hb)
        have HM5 := Lib.hid (owns_map_on HM4.out hb)
        clear hb HC4 HM4
        go_wp2_with fail
        refine (Tab.moved_any 12 4 (S s).m _ HG.out).mono ?_
        rintro e w6 ⟨va, vl, vc, rfl, hv, _, hb⟩
        have HC6 := Lib.hid (HC5.out.later hb)
        have hm6 := owns_map_on HM5.out hb
        have hlen6 := fun ty => hm6.len Tryz.underlying71 ty
        have hvl : (mvd 12 (S s).m).length = vl := hv.len_eq
        rw [HMK.out.size, hvl] at hlen6
        clear hb hv hm6 hvl HC5 HM5
        go_wp2_with fail
        refine (full7_any _ _ (by decide)).mono ?_
        rintro e w7 ⟨rfl, hb⟩
        rw [← HTO.out]
        have HC7 := Lib.hid (HC6.out.later hb)
        have HE := Lib.hid (show wrE (S s1) 0 = 0 by
          have : pl (S s1) 0 = 4 := by unfold pl; rw [HO.out.1]; rfl
          unfold wrE; rw [this, HO.out.2.1]; simp)
        clear hb HC6
        go_wp2_with fail
        refine (write_c HC7.out hs12 (b := 0) (by omega) HTOS.out (by omega) HO.out.2.2).mono ?_
        rintro e w8 ⟨S2, rfl, _, hcp, _⟩
        rw [HE.out]
        have HB := Lib.hid hcp.below
        clear hcp HC7
        go_wp2_with fail
        go_ret
        exact ⟨rfl, HB.out⟩

set_option maxRecDepth 100000 in
theorem contract (H : Type) (enc : TypeId × Value → H) (W : World) (base : Nat) (args : Array Value) (ds gs : List (DataW H)) (before : List MemPlace)
    (hval0 : ∀ (j : Nat) t v, Tryz.f7.params[j]? = some t → args[j]? = some v → Value.okWide Tryz.prog W .any base t v)
    (hW : DataW.Whole enc Tryz.prog Tryz.f7.params.toList Rows.remapSparesSpec.vars false W args.toList ds gs before) :
    Calls Tryz.prog 7 args W fun e W' => ∃ v, e = .returned v ∧ Rows.remapSparesSpec.post enc Tryz.prog Tryz.f7 false true false false W args v W' := by
  have hval : ∀ (j : Nat) t v, Tryz.f7.params[j]? = some t → args[j]? = some v → Value.okWide Tryz.prog W .any base t v := hval0
  have hW' := hW
  obtain ⟨p, q, hA0, hV, rfl, hfz, hnd⟩ := hW
  have hA : DataW.TrodAll enc Tryz.prog W 0 (fun _ => true) true Tryz.f7.params.toList args.toList ds p := hA0
  rw [Tryz.params7] at hA hval
  obtain ⟨v0, vs0, d0, ds0, p0, q0, hargs, rfl, rfl, h0, r0⟩ := trodAll_cons hA
  obtain ⟨v1, vs1, d1, ds1, p1, q1, rfl, rfl, rfl, h1, r1⟩ := trodAll_cons r0
  obtain ⟨rfl, rfl, rfl⟩ := trodAll_nil r1
  obtain rfl : args = #[v0, v1] := by cases args; simp_all
  obtain ⟨rfl, rfl⟩ := trodVars_none hV
  have k0 := h0
  have lt0 : ∀ x ∈ p0, x.block < W.heap.size := by obtain ⟨m, hm⟩ := k0; exact DataW.trod_lt m _ _ _ hm
  obtain ⟨a0', l0', c0', rfl⟩ := okWide_slice Tryz.underlying52 (hval 0 52 v0 rfl rfl)
  obtain ⟨a0, a0l, a0c, a0z, he0, w0, w0l, w0m, w0w⟩ := open_ints_cell (c := .slice a0' l0' c0') Tryz.underlying52 Tryz.underlying5 (by kernel_rfl) (by obtain ⟨m, hm⟩ := h0; exact ⟨m, _, hm⟩)
  simp only [Value.slice.injEq] at he0
  obtain ⟨rfl, rfl, rfl⟩ := he0
  obtain ⟨a1, rfl, rfl, rfl⟩ := open_bool Tryz.underlying4 (hval 1 4 v1 rfl rfl) h1
  clear hA0 hval0
  refine (walk a0' l0' c0' a0z a1 W w0 w0l w0m w0w).mono fun e W' ⟨he, bel⟩ => ?_
  subst he
  exact ⟨_, rfl, _, _, _, [], _, [], hW', trodAll_mk1 (shut_bool Tryz.underlying4 _), (trodAll_cons_mk (Below.trod laidOut (by kernel_rfl) (of_decide_eq_true (by kernel_rfl)) k0 bel lt0) (trodAll_cons_mk (shut_bool Tryz.underlying4 _) trodAll_mk0)), rfl, bel.frame _, fun h => by cases h⟩

noncomputable def laidWorld (os : Os) : World :=
  { World.holding Tryz.prog os ⟨#[], #[], []⟩ with heap := (((((World.holding Tryz.prog os ⟨#[], #[], []⟩).heap).modify 2 fun | .cells _ t frozen => .cells (#[.int .u8 128, .int .u8 191, .int .u8 160, .int .u8 191, .int .u8 128, .int .u8 159, .int .u8 144, .int .u8 191, .int .u8 128, .int .u8 143, .int .u8 0, .int .u8 0, .int .u8 0, .int .u8 0, .int .u8 0, .int .u8 0, .int .u8 0, .int .u8 0, .int .u8 0, .int .u8 0, .int .u8 0, .int .u8 0, .int .u8 0, .int .u8 0, .int .u8 0, .int .u8 0, .int .u8 0, .int .u8 0, .int .u8 0, .int .u8 0, .int .u8 0, .int .u8 0]) t frozen | o => o)).modify 1 fun | .cells _ t frozen => .cells ((Go.Pinned.utf8FirstZ.map fun z : Nat => Value.int .u8 (z : Int)).toArray) t frozen | o => o) }
theorem laid_met (os : Os) : laidMet Tryz.prog Rows.remapSparesRow.laid ((laidWorld os).forCall (fun _ _ => 0) ⟨#[], #[.slice none 0 0, .bool false], []⟩).memory :=
  laidMet_of_run' 8 (by kernel_rfl) (by kernel_rfl)
theorem reads (os : Os) {H : Type} (enc : TypeId × Value → H) : ∃ places, DataW.whole enc Tryz.prog ((laidWorld os).forCall (fun _ _ => 0) ⟨#[], #[.slice none 0 0, .bool false], []⟩).memory Tryz.f7.params.toList Rows.remapSparesSpec.vars false (#[.slice none 0 0, .bool false] : Array Value).toList 8 = some ([.nil, .lit (.bool false)], [], places) :=
  ⟨[], by kernel_rfl⟩

set_option maxRecDepth 100000 in
theorem lifted (os : Os) (started : os.Started) (H : Type) (enc : TypeId × Value → H) (F : Stop.Interp) :
    ReturnsInHanded {} Tryz.checked os 7 .any ((OpenSpec.ofChange Rows.remapSparesSpec).preRow enc Tryz.prog Tryz.f7 Rows.remapSparesRow.domain false Rows.remapSparesRow.laid) (((OpenSpec.ofChange Rows.remapSparesSpec).at F).post enc Tryz.prog Tryz.f7 false true false false) := by
  obtain ⟨places, hx⟩ := reads os enc
  refine returnsInHanded_of_row (C := Tryz.checked) (s := OpenSpec.ofChange Rows.remapSparesSpec) own started (by kernel_rfl) Tryz.func7
    (witness_row_at (enc := enc) (C := Tryz.checked) false (laidWorld os) #[.slice none 0 0, .bool false] rfl (by kernel_rfl) (by kernel_rfl) (by kernel_rfl)
      (OpenSpec.preRow_of_cond 8 hx (by kernel_rfl) (fun k hk => by cases hk) (by kernel_rfl) (laid_met os))) ?_
  intro W base args ds gs before hval hW _ _ _ hL _ _
  exact contract H enc W base args ds gs before hval hW

theorem said : Rows.RemapSparesSaid :=
  OpenClaim.holds_of_cond 7 Tryz.f7 rfl rfl rfl rfl rfl rfl rfl ⟨rfl, rfl, rfl, rfl, rfl⟩ rfl rfl rfl rfl rfl (by kernel_rfl) Tryz.func7 (by kernel_rfl)
    (of_decide_eq_true (by kernel_rfl)) (by unfold Func.isWrapper; first | (rw [if_pos (by decide +kernel)]; kernel_rfl) | (rw [if_neg (by decide +kernel)]; exact ⟨rfl, rfl⟩))
    (fun os started H enc _ F => by rw [OpenClaim.pre_eq_preRow]; exact lifted os started H enc F)

theorem plain (f : FuncId) (fn : Func) (hf : Tryz.pinned.checked.prog.funcNamed "treenail/treenaillaw07.RemapSpares" = some f) (hfn : Tryz.pinned.checked.prog.funcs[f]? = some fn) :
    false = Tryz.pinned.checked.prog.looks [] ∧ ∀ (j : Nat) t, fn.params[j]? = some t → Tryz.pinned.checked.prog.wantsStandIn t = false := by
  obtain rfl : f = 7 := Option.some.inj ((show Tryz.prog.funcNamed "treenail/treenaillaw07.RemapSpares" = some 7 by kernel_rfl).symm.trans hf) |>.symm
  obtain rfl : fn = Tryz.f7 := (Option.some.inj (Tryz.func7.symm.trans hfn)).symm
  refine ⟨by kernel_rfl, fun j t ht => ?_⟩
  rw [Tryz.params7] at ht
  rcases j with _ | _ | j
  · obtain rfl : t = 52 := by simpa using ht.symm
    exact (show Tryz.prog.wantsStandIn 52 = false by kernel_rfl)
  · obtain rfl : t = 4 := by simpa using ht.symm
    exact (show Tryz.prog.wantsStandIn 4 = false by kernel_rfl)
  · simp at ht

/-- THE STATEMENT -/
theorem proved : Rows.RemapSparesCardSaid :=
  Claim7.holds_tied_plain_at .later [] _ _ _ _ said (fun _ h => by cases h) (by kernel_rfl) (fun _ h => by cases h) remapSpares_row_tie rfl ⟨rfl, rfl⟩ (by kernel_rfl) rfl plain (by kernel_rfl)
#print axioms proved
end Go.Proofs.YtpdickpipdaphaaGreatDoor.remapSpares
