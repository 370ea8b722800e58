/-
  The law RemapReplaces holds: a device that stands in a side's place has the table that the side had; opened anew it is so; the other side's blocks read what they did. Conditions: none but the row's own.
-/
import Derived.Test.YtpdickpipdaphaaGreatDoorRows
import Derived.Test.YtpdickpipdaphaaGreatDoorK12
import Derived.Test.YtpdickpipdaphaaGreatDoorCards
import Derived.Test.YtpdickpipdaphaaGreatDoorTie
import Derived.WalkKit
import Derived.ProofKit
import Derived.OpenShut
import Derived.ShutString
import Derived.ChangeOld
import Derived.Below
import Derived.Carry
import Derived.Deep.DeepHandedRow
import Derived.Lib.LaidTab
namespace Go.Proofs.YtpdickpipdaphaaGreatDoor.remapReplaces
open Go.ChangeShapes Go.WideShapes Go.ChangeAt Go.RowKit
open Go.Proofs.YtpdickpipdaphaaGreatDoor
open Go.ChangeMaps (open_string shut_string)
set_option linter.unusedVariables false

theorem own : ownKnob Tryz.prog.godebug = none := by kernel_rfl
theorem laidOut : laidOutB Tryz.prog = true := by kernel_rfl


open Go.Proofs.YtpdickpipdaphaaGreatDoor.Rem Go.Proofs.YtpdickpipdaphaaGreatDoor.Dev
theorem run_minC (P : Program) (w : World) (t : TypeId) (ts : Array TypeId) (a c : Nat) : (Builtin.min_ ts t #[.int .i64 (a : Nat), .int .i64 (c : Nat)]).run P w = .ok (.int .i64 ((min a c : Nat) : Int)) w := by
  have e : ∀ a b : Nat, (if (b : Int) < a then (b : Int) else a) = ((min a b : Nat) : Int) := by intro a b; split <;> omega
  simp only [Builtin.min_, Builtin.min2, List.foldlM, Sem.run_bind, Sem.run_pure, Result.andThen]
  rw [e]
/-- no block's sector is bad -/
def Clean (s : Sd) : Prop := ∀ i, 4 ≤ i → i < 20 → s.B i = false

/-! ### STEP 1: THE WALK -/
set_option maxHeartbeats 8000000 in
set_option maxRecDepth 100000 in
theorem walk (a0 : Option Addr) (a0l a0c : Nat) (a0z : List Int) (a1 : Bool) (w : World) (w0 : Row .u8 w a0 a0l a0z) (w0l : a0l ≤ a0c) (w0m : a0c ≤ maxLen) (w0w : ∀ n ∈ a0z, (Lit.int .u8 n).wf = true) :
    Calls Tryz.prog 6 #[.slice a0 a0l a0c, .bool a1] w fun e w' => e = .returned (.bool true) ∧ Below w.heap.size w w' := by
  obtain ⟨hr0, hlc0, hcm0, hwf0⟩ := And.intro w0 (And.intro w0l (And.intro w0m w0w))
  have R0 := Lib.hid hr0
  have WF := Lib.hid hwf0
  have HLZ := Lib.hid hr0.len_eq
  clear hr0 hwf0 w0
  unfold maxLen at hcm0
  obtain ⟨tt, htt⟩ : ∃ t, t = fullN ⟨#[115, 116, 97, 121, 115]⟩ := ⟨_, rfl⟩
  have HTT := Lib.hid htt
  have HTS := Lib.hid (show tt.size = 128 by rw [htt]; exact fullN_size _)
  clear htt
  go_enter Tryz.func6, Tryz.ntmps6
  go_wp2_with fail
  refine (fresh_any w).mono ?_
  rintro e w1 ⟨pa, pb, q, S0, rfl, hc, h0, h1⟩
  have HC := Lib.hid hc
  have HNEW := Lib.hid (show ∀ t, t < 2 → New (S0 t) from fun t ht => by
    by_cases h : t = 0
    · rw [h]; exact h0
    · rw [show t = 1 by omega]; exact h1)
  clear hc h0 h1
  go_wp2_with fail
  refine (wakes_any _).mono ?_
  rintro e w2 ⟨rfl, hb⟩
  have HC2 := Lib.hid (HC.out.later hb)
  clear hb HC
  obtain ⟨mm, hm⟩ : ∃ mm, mm = min a0l 6 := ⟨_, rfl⟩
  have hmin : ∀ W ts, (Builtin.min_ ts 3 #[.int .i64 (a0l : Nat), .int .i64 6]).run Tryz.prog W = .ok (.int .i64 (mm : Int)) W := by
    intro W ts; rw [hm]; exact run_minC _ _ _ _ a0l 6
  have hml : mm ≤ a0l := by omega
  have hml' : mm ≤ a0c := by omega
  have hm6 : mm ≤ 6 := by omega
  clear hm
  go_wp2_with fail
  clear hmin
  go_loopw [41] (fun i wr => ∃ (c : Nat) (S : Nat → Sd), c ≤ mm ∧ i = .int .i64 c ∧ (∀ t, t < 2 → Clean (S t)) ∧ CP w [] q (pdOf pa pb) S (4 + 4 * c) wr) (fun i _ => mm - (intOf i).toNat)
  case atStart => exact ⟨0, S0, Nat.zero_le _, rfl, fun t ht i h1 h2 => ((HNEW.out t ht).2 i h1 h2).2, HC2.out⟩
  case round =>
    obtain ⟨c, S, hc, rfl, hcl, hcp⟩ := hrel
    have HC := Lib.hid hcp
    have HCL := Lib.hid hcl
    have hbw := hcp.below
    clear hcp hcl HC2
    by_cases hlt : c < mm
    · obtain ⟨zb, zo, rfl, hcell⟩ := (R0.out.below hbw (Nat.le_refl _)).at_ (by omega)
      have hz := hcell c (by omega)
      obtain ⟨y, hy⟩ : ∃ y, y = a0z.getD c 0 := ⟨_, rfl⟩
      have hyb : 0 ≤ y ∧ y ≤ 255 := by
        have := bounds_u8 (WF.out y (by rw [hy, List.getD_eq_getElem?_getD, List.getElem?_eq_getElem (by rw [HLZ.out]; omega)]; exact List.getElem_mem _))
        omega
      rw [← hy] at hz
      obtain ⟨s, hs⟩ : ∃ s : Nat, (s : Int) = y % 2 := ⟨(y % 2).toNat, by omega⟩
      obtain ⟨h, hh⟩ : ∃ h : Nat, (h : Int) = y / 2 := ⟨(y / 2).toNat, by omega⟩
      obtain ⟨x, hx⟩ : ∃ x : Nat, (x : Int) = (h : Int) % 12 := ⟨((h : Int) % 12).toNat, by omega⟩
      have hs2 : s < 2 := by omega
      have hx12 : x < 12 := by omega
      have hh127 : h ≤ 127 := by omega
      have e1 : Int.tmod y 2 = (s : Int) := by rw [Int.tmod_eq_emod_of_nonneg hyb.1, hs]
      have e2 : Int.tdiv y 2 = (h : Int) := by rw [Int.tdiv_eq_ediv_of_nonneg hyb.1, hh]
      have e3 : Int.tmod (h : Int) 12 = (x : Int) := by rw [Int.tmod_eq_emod_of_nonneg (by omega), hx]
      have e1' : y % 2 = (s : Int) := hs.symm
      have e2' : y / 2 = (h : Int) := hh.symm
      have e3' : (h : Int) % 12 = (x : Int) := hx.symm
      have f1 : IntKind.u8.wrap (s : Int) = s := by simp [IntKind.wrap, IntKind.bits, IntKind.signed]; omega
      have f2 : IntKind.u8.wrap (h : Int) = h := by simp [IntKind.wrap, IntKind.bits, IntKind.signed]; omega
      obtain ⟨hy0, hy1⟩ := hyb
      clear hcell hy hs hh hx
      go_wp2_with fail
      refine (move_c HC.out hs2 hx12 (by omega)).mono ?_
      rintro e w3 ⟨S1, rfl, hmv, hno, hcp, _⟩
      have HC3 := Lib.hid hcp
      have HCL3 := Lib.hid (show ∀ t, t < 2 → Clean (S1 t) from fun t ht => by
        have hB : (S1 t).B = (S t).B := by
          by_cases hl : (S s).m.length < 4
          · by_cases e : t = s
            · rw [e]; exact (hmv hl).2.1
            · exact ((hmv hl).1 t ht e).2.1
          · rw [hno hl]
        intro i i1 i2
        rw [hB]; exact HCL.out t ht i i1 i2)
      clear hmv hno hcp hz e1 e2 e3 e1' e2' e3' f1 f2
      go_wp2_with fail
      go_roundw
      case rel => exact ⟨c + 1, S1, by omega, by go_num, HCL3.out, HC3.out.mono (by omega)⟩
      case measure => simp [intOf]; omega
    · go_upto_if 57 with fail
      go_cut [11, 12, 13] (fun x y z wx => ∃ s s1 : Nat, s < 2 ∧ s1 = 1 - s ∧ s = (if a1 then 1 else 0) ∧ x = .int .i64 s ∧ y = .pointer (some ⟨pdOf pa pb s, 0, none⟩) ∧ z = .pointer (some ⟨pdOf pa pb s1, 0, none⟩) ∧ wx = wr)
      case first =>
        cases a1 with
        | false =>
          go_wp2_with fail
          go_meet
          exact ⟨0, 1, by omega, rfl, rfl, rfl, rfl, rfl, rfl⟩
        | true =>
          go_wp2_with fail
          go_meet
          exact ⟨1, 0, by omega, rfl, rfl, rfl, rfl, rfl, rfl⟩
      case rest =>
        obtain ⟨s, s1, hs, hs1, hsa, rfl, rfl, rfl, rfl⟩ := hcut
        have hs12 : s1 < 2 := by omega
        have hne1 : s1 ≠ s := by omega
        have hsub : (1 : Int) - (s : Int) = (s1 : Int) := by omega
        have HSA := Lib.hid hsa
        have HG := Lib.hid (HC.out.good hs12)
        have HGS := Lib.hid (HC.out.good hs)
        obtain ⟨p1, p2, p3⟩ := pl_bd HG.out (b := 2) (by omega)
        have hl4 : (S s1).m.length ≤ 4 := by have := HG.out.len; omega
        have HBD := Lib.hid (HCL.out s1 hs12 (pl (S s1) 2) p1 (by omega))
        have HE := Lib.hid (show wrE (S s1) 2 = 0 by unfold wrE; rw [HBD.out]; simp)
        have HSP := Lib.hid (show Spare (S s1) from fun j _ h2 => HCL.out s1 hs12 (16 + j) (by omega) (by omega))
        have HP1 := Lib.hid p1
        clear hs1 hsa p1 p2 p3 hl4 hlt
        go_wp2_with fail
        refine (full7_any _ _ (by decide)).mono ?_
        rintro e w3 ⟨rfl, hb⟩
        rw [← HTT.out]
        have HC3 := Lib.hid (HC.out.later hb)
        clear hb HC
        go_wp2_with fail
        refine (write_c HC3.out hs12 (b := 2) (by omega) HTS.out (by omega) HSP.out).mono ?_
        rintro e w4 ⟨S1, rfl, hw, hcp, _⟩
        rw [HE.out]
        have HC4 := Lib.hid hcp
        have hm1 : (S1 s1).m = (S s1).m := by rw [hw.m, HBD.out]; simp
        have hp1 : pl (S1 s1) 2 = pl (S s1) 2 := by unfold pl; rw [hm1]
        have hv1 : (S1 s1).V (pl (S s1) 2) = tt := by have := hw.at_ HE.out; rwa [hp1] at this
        have hb1 : (S1 s1).B (pl (S s1) 2) = false := by rw [hw.bad]; exact HBD.out
        have hm0 : (S1 s).m = (S s).m := (hw.oth s hs (fun e => hne1 e.symm)).1
        have H1 := Lib.hid (And.intro hm1 (And.intro hv1 (And.intro hb1 hm0)))
        clear hcp hw hm1 hp1 hv1 hb1 hm0 HC3
        go_wp2_with fail
        refine (flush_c HC4.out hs12 (by omega)).mono ?_
        rintro e w5 ⟨rfl, hcp, _⟩
        have HC5 := Lib.hid hcp
        clear hcp HC4
        go_wp2_with fail
        refine (table_c HC5.out hs).mono ?_
        rintro e w6 ⟨rfl, hb⟩
        rw [H1.out.2.2.2]
        have HC6 := Lib.hid (HC5.out.later hb)
        clear hb HC5
        go_wp2_with fail
        refine (Tab.text_any 12 4 (S s).m _ HGS.out).mono ?_
        rintro e w7 ⟨rfl, hb⟩
        have HC7 := Lib.hid (HC6.out.later hb)
        obtain ⟨T, hT⟩ : ∃ T, T = Tab.txS (S s).m := ⟨_, rfl⟩
        rw [← hT]
        have HT := Lib.hid hT
        clear hb HC6 hT
        go_wp2_with fail
        refine (kill_c HC7.out hs).mono ?_
        rintro e w8 ⟨rfl, hcp, _⟩
        have HC8 := Lib.hid hcp
        clear hcp HC7
        go_wp2_with fail
        refine (new_yes 20 128 w8 rfl).mono ?_
        rintro e w9 ⟨d, sd, hd1, hd2, rfl, hd, hb⟩
        have HB9 := Lib.hid hb
        have HD9 := Lib.hid hd
        have HC9 := Lib.hid (HC8.out.later hb)
        clear hb hd
        go_wp2_with fail
        refine (alive_d HC9.out hs).mono ?_
        rintro e w10 ⟨rfl, hb⟩
        have HB10 := Lib.hid (HB9.out.trans (hb.mono HB9.out.size))
        have HD10 := Lib.hid (HD9.out.below hb (Nat.le_refl _))
        clear hb HC9 HB9 HD9
        go_wp2_with fail
        refine (replace_c HC8.out hs HB10.out HD10.out hd1 hd2 (by omega)).mono ?_
        rintro e w11 ⟨S2, rfl, hoth, hm2, hcp⟩
        have HC11 := Lib.hid hcp
        have HO := Lib.hid (hoth s1 hs12 hne1)
        have HM2 := Lib.hid (show (S2 s).m = (S s).m by rw [hm2]; exact H1.out.2.2.2)
        have hpd : upd (pdOf pa pb) s d s = d := upd_same _ _ _
        clear hcp hoth hm2 HC8 HB10 HD10 hd1 hd2
        go_wp2_with fail
        refine (alive_c HC11.out hs).mono ?_
        rintro e w12 ⟨rfl, hb⟩
        have HC12 := Lib.hid (HC11.out.later hb)
        clear hb HC11
        go_wp2_with fail
        refine (device_c HC12.out hs).mono ?_
        rintro e w13 ⟨rfl, hb⟩
        rw [hpd]
        have HC13 := Lib.hid (HC12.out.later hb)
        clear hb HC12
        have hne := neq_same w13 ⟨d, 0, none⟩
        go_wp2_with fail
        clear hne
        refine (table_c HC13.out hs).mono ?_
        rintro e w14 ⟨rfl, hb⟩
        rw [HM2.out]
        have HC14 := Lib.hid (HC13.out.later hb)
        clear hb HC13
        go_wp2_with fail
        refine (Tab.text_any 12 4 (S s).m _ HGS.out).mono ?_
        rintro e w15 ⟨rfl, hb⟩
        rw [← HT.out]
        have HC15 := Lib.hid (HC14.out.later hb)
        have HPD := Lib.hid hpd
        clear hb HC14 hpd
        go_upto_if 117 with fail
        go_cut [17, 18] (fun x y wx => x = .pointer (some ⟨upd (pdOf pa pb) s d 0, 0, none⟩) ∧ y = .pointer (some ⟨upd (pdOf pa pb) s d 1, 0, none⟩) ∧ wx = w15)
        case first =>
          cases a1 with
          | false =>
            obtain rfl : s = 0 := HSA.out
            obtain rfl : s1 = 1 := by omega
            go_wp2_with fail
            go_meet
            exact ⟨rfl, rfl, rfl⟩
          | true =>
            obtain rfl : s = 1 := HSA.out
            obtain rfl : s1 = 0 := by omega
            go_wp2_with fail
            go_meet
            exact ⟨rfl, rfl, rfl⟩
        case rest =>
          obtain ⟨rfl, rfl, rfl⟩ := hcut
          go_wp2_with fail
          refine (open_c HC15.out (by omega)).mono ?_
          rintro e w16 ⟨q2, P, rfl, hcp, hpb, _⟩
          have HC16 := Lib.hid hcp
          have HP16 := Lib.hid hpb
          clear hcp hpb HC15
          have hp2 : pl (S2 s1) 2 = pl (S s1) 2 := by unfold pl; rw [HO.out.1, H1.out.1]
          have hv2 : (S2 s1).V (pl (S s1) 2) = tt := by rw [HO.out.2.2 _ HP1.out]; exact H1.out.2.1
          have hb2 : (S2 s1).B (pl (S s1) 2) = false := by rw [HO.out.2.1]; exact H1.out.2.2.1
          have H2 := Lib.hid (And.intro hp2 (And.intro hv2 hb2))
          clear hp2 hv2 hb2
          go_wp2_with fail
          refine (read_c HC16.out hs12 (b := 2) (by omega) (by omega)).mono ?_
          rintro e w17 ⟨rfl, hcp, hsm⟩
          rw [H2.out.1, H2.out.2.1, H2.out.2.2]
          have HC17 := Lib.hid hcp
          have HP17 := Lib.hid (HP16.out.same fun k hk => hsm k (by simp [hk]))
          clear hcp hsm HC16 HP16
          go_wp2_with fail
          refine (full7_any _ _ (by decide)).mono ?_
          rintro e w18 ⟨rfl, hb⟩
          rw [← HTT.out]
          have HC18 := Lib.hid (HC17.out.later hb)
          have HP18 := Lib.hid (HP17.out.later hb)
          clear hb HC17 HP17
          go_wp2_with fail
          refine (table_c HC18.out hs).mono ?_
          rintro e w19 ⟨rfl, hb⟩
          rw [HM2.out]
          have HC19 := Lib.hid (HC18.out.later hb)
          have HP19 := Lib.hid (HP18.out.later hb)
          clear hb HC18 HP18
          go_wp2_with fail
          refine (Tab.text_any 12 4 (S s).m _ HGS.out).mono ?_
          rintro e w20 ⟨rfl, hb⟩
          rw [← HT.out]
          have HC20 := Lib.hid (HC19.out.later hb)
          have HP20 := Lib.hid (HP19.out.later hb)
          have HG2 := Lib.hid (HC20.out.good hs12)
          clear hb HC19 HP19
          go_wp2_with fail
          refine (table_c HC20.out hs12).mono ?_
          rintro e w21 ⟨rfl, hb⟩
          have HC21 := Lib.hid (HC20.out.later hb)
          have HP21 := Lib.hid (HP20.out.later hb)
          clear hb HC20 HP20
          go_wp2_with fail
          refine (Tab.text_any 12 4 (S2 s1).m _ HG2.out).mono ?_
          rintro e w22 ⟨rfl, hb⟩
          have HC22 := Lib.hid (HC21.out.later hb)
          have HP22 := Lib.hid (HP21.out.later hb)
          obtain ⟨T2, hT2⟩ : ∃ T, T = Tab.txS (S2 s1).m := ⟨_, rfl⟩
          rw [← hT2]
          have HT2 := Lib.hid hT2
          clear hb HC21 HP21 hT2
          go_wp2_with fail
          refine (table_p HP22.out hs12).mono ?_
          rintro e w23 ⟨rfl, hb⟩
          have HC23 := Lib.hid (HC22.out.later hb)
          clear hb HC22 HP22
          go_wp2_with fail
          refine (Tab.text_any 12 4 (S2 s1).m _ HG2.out).mono ?_
          rintro e w24 ⟨rfl, hb⟩
          rw [← HT2.out]
          have HB := Lib.hid (HC23.out.later hb).below
          clear hb HC23
          go_wp2_with fail
          go_ret
          exact ⟨rfl, HB.out⟩

set_option maxRecDepth 100000 in
theorem contract (H : Type) (enc : TypeId × Value → H) (W : World) (base : Nat) (args : Array Value) (ds gs : List (DataW H)) (before : List MemPlace)
    (hval0 : ∀ (j : Nat) t v, Tryz.f6.params[j]? = some t → args[j]? = some v → Value.okWide Tryz.prog W .any base t v)
    (hW : DataW.Whole enc Tryz.prog Tryz.f6.params.toList Rows.remapReplacesSpec.vars false W args.toList ds gs before) :
    Calls Tryz.prog 6 args W fun e W' => ∃ v, e = .returned v ∧ Rows.remapReplacesSpec.post enc Tryz.prog Tryz.f6 false true false false W args v W' := by
  have hval : ∀ (j : Nat) t v, Tryz.f6.params[j]? = some t → args[j]? = some v → Value.okWide Tryz.prog W .any base t v := hval0
  have hW' := hW
  obtain ⟨p, q, hA0, hV, rfl, hfz, hnd⟩ := hW
  have hA : DataW.TrodAll enc Tryz.prog W 0 (fun _ => true) true Tryz.f6.params.toList args.toList ds p := hA0
  rw [Tryz.params6] at hA hval
  obtain ⟨v0, vs0, d0, ds0, p0, q0, hargs, rfl, rfl, h0, r0⟩ := trodAll_cons hA
  obtain ⟨v1, vs1, d1, ds1, p1, q1, rfl, rfl, rfl, h1, r1⟩ := trodAll_cons r0
  obtain ⟨rfl, rfl, rfl⟩ := trodAll_nil r1
  obtain rfl : args = #[v0, v1] := by cases args; simp_all
  obtain ⟨rfl, rfl⟩ := trodVars_none hV
  have k0 := h0
  have lt0 : ∀ x ∈ p0, x.block < W.heap.size := by obtain ⟨m, hm⟩ := k0; exact DataW.trod_lt m _ _ _ hm
  obtain ⟨a0', l0', c0', rfl⟩ := okWide_slice Tryz.underlying52 (hval 0 52 v0 rfl rfl)
  obtain ⟨a0, a0l, a0c, a0z, he0, w0, w0l, w0m, w0w⟩ := open_ints_cell (c := .slice a0' l0' c0') Tryz.underlying52 Tryz.underlying5 (by kernel_rfl) (by obtain ⟨m, hm⟩ := h0; exact ⟨m, _, hm⟩)
  simp only [Value.slice.injEq] at he0
  obtain ⟨rfl, rfl, rfl⟩ := he0
  obtain ⟨a1, rfl, rfl, rfl⟩ := open_bool Tryz.underlying4 (hval 1 4 v1 rfl rfl) h1
  clear hA0 hval0
  refine (walk a0' l0' c0' a0z a1 W w0 w0l w0m w0w).mono fun e W' ⟨he, bel⟩ => ?_
  subst he
  exact ⟨_, rfl, _, _, _, [], _, [], hW', trodAll_mk1 (shut_bool Tryz.underlying4 _), (trodAll_cons_mk (Below.trod laidOut (by kernel_rfl) (of_decide_eq_true (by kernel_rfl)) k0 bel lt0) (trodAll_cons_mk (shut_bool Tryz.underlying4 _) trodAll_mk0)), rfl, bel.frame _, fun h => by cases h⟩

noncomputable def laidWorld (os : Os) : World :=
  { World.holding Tryz.prog os ⟨#[], #[], []⟩ with heap := (((((World.holding Tryz.prog os ⟨#[], #[], []⟩).heap).modify 2 fun | .cells _ t frozen => .cells (#[.int .u8 128, .int .u8 191, .int .u8 160, .int .u8 191, .int .u8 128, .int .u8 159, .int .u8 144, .int .u8 191, .int .u8 128, .int .u8 143, .int .u8 0, .int .u8 0, .int .u8 0, .int .u8 0, .int .u8 0, .int .u8 0, .int .u8 0, .int .u8 0, .int .u8 0, .int .u8 0, .int .u8 0, .int .u8 0, .int .u8 0, .int .u8 0, .int .u8 0, .int .u8 0, .int .u8 0, .int .u8 0, .int .u8 0, .int .u8 0, .int .u8 0, .int .u8 0]) t frozen | o => o)).modify 1 fun | .cells _ t frozen => .cells ((Go.Pinned.utf8FirstZ.map fun z : Nat => Value.int .u8 (z : Int)).toArray) t frozen | o => o) }
theorem laid_met (os : Os) : laidMet Tryz.prog Rows.remapReplacesRow.laid ((laidWorld os).forCall (fun _ _ => 0) ⟨#[], #[.slice none 0 0, .bool false], []⟩).memory :=
  laidMet_of_run' 8 (by kernel_rfl) (by kernel_rfl)
theorem reads (os : Os) {H : Type} (enc : TypeId × Value → H) : ∃ places, DataW.whole enc Tryz.prog ((laidWorld os).forCall (fun _ _ => 0) ⟨#[], #[.slice none 0 0, .bool false], []⟩).memory Tryz.f6.params.toList Rows.remapReplacesSpec.vars false (#[.slice none 0 0, .bool false] : Array Value).toList 8 = some ([.nil, .lit (.bool false)], [], places) :=
  ⟨[], by kernel_rfl⟩

set_option maxRecDepth 100000 in
theorem lifted (os : Os) (started : os.Started) (H : Type) (enc : TypeId × Value → H) (F : Stop.Interp) :
    ReturnsInHanded {} Tryz.checked os 6 .any ((OpenSpec.ofChange Rows.remapReplacesSpec).preRow enc Tryz.prog Tryz.f6 Rows.remapReplacesRow.domain false Rows.remapReplacesRow.laid) (((OpenSpec.ofChange Rows.remapReplacesSpec).at F).post enc Tryz.prog Tryz.f6 false true false false) := by
  obtain ⟨places, hx⟩ := reads os enc
  refine returnsInHanded_of_row (C := Tryz.checked) (s := OpenSpec.ofChange Rows.remapReplacesSpec) own started (by kernel_rfl) Tryz.func6
    (witness_row_at (enc := enc) (C := Tryz.checked) false (laidWorld os) #[.slice none 0 0, .bool false] rfl (by kernel_rfl) (by kernel_rfl) (by kernel_rfl)
      (OpenSpec.preRow_of_cond 8 hx (by kernel_rfl) (fun k hk => by cases hk) (by kernel_rfl) (laid_met os))) ?_
  intro W base args ds gs before hval hW _ _ _ hL _ _
  exact contract H enc W base args ds gs before hval hW

theorem said : Rows.RemapReplacesSaid :=
  OpenClaim.holds_of_cond 6 Tryz.f6 rfl rfl rfl rfl rfl rfl rfl ⟨rfl, rfl, rfl, rfl, rfl⟩ rfl rfl rfl rfl rfl (by kernel_rfl) Tryz.func6 (by kernel_rfl)
    (of_decide_eq_true (by kernel_rfl)) (by unfold Func.isWrapper; first | (rw [if_pos (by decide +kernel)]; kernel_rfl) | (rw [if_neg (by decide +kernel)]; exact ⟨rfl, rfl⟩))
    (fun os started H enc _ F => by rw [OpenClaim.pre_eq_preRow]; exact lifted os started H enc F)

theorem plain (f : FuncId) (fn : Func) (hf : Tryz.pinned.checked.prog.funcNamed "treenail/treenaillaw07.RemapReplaces" = some f) (hfn : Tryz.pinned.checked.prog.funcs[f]? = some fn) :
    false = Tryz.pinned.checked.prog.looks [] ∧ ∀ (j : Nat) t, fn.params[j]? = some t → Tryz.pinned.checked.prog.wantsStandIn t = false := by
  obtain rfl : f = 6 := Option.some.inj ((show Tryz.prog.funcNamed "treenail/treenaillaw07.RemapReplaces" = some 6 by kernel_rfl).symm.trans hf) |>.symm
  obtain rfl : fn = Tryz.f6 := (Option.some.inj (Tryz.func6.symm.trans hfn)).symm
  refine ⟨by kernel_rfl, fun j t ht => ?_⟩
  rw [Tryz.params6] at ht
  rcases j with _ | _ | j
  · obtain rfl : t = 52 := by simpa using ht.symm
    exact (show Tryz.prog.wantsStandIn 52 = false by kernel_rfl)
  · obtain rfl : t = 4 := by simpa using ht.symm
    exact (show Tryz.prog.wantsStandIn 4 = false by kernel_rfl)
  · simp at ht

/-- THE STATEMENT -/
theorem proved : Rows.RemapReplacesCardSaid :=
  Claim7.holds_tied_plain_at .later [] _ _ _ _ said (fun _ h => by cases h) (by kernel_rfl) (fun _ h => by cases h) remapReplaces_row_tie rfl ⟨rfl, rfl⟩ (by kernel_rfl) rfl plain (by kernel_rfl)
#print axioms proved
end Go.Proofs.YtpdickpipdaphaaGreatDoor.remapReplaces
