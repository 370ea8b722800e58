/-
  The law WalCuts holds: behind a cut no record of before is there, however many there were, and wherever the power fails then; a record that is appended then is. Conditions: none but the row's own.
-/
import Derived.Test.YtflanjcfkdjpjaaGreatDoorRows
import Derived.Test.YtflanjcfkdjpjaaGreatDoorL15
import Derived.Test.YtflanjcfkdjpjaaGreatDoorCards
import Derived.Test.YtflanjcfkdjpjaaGreatDoorTie
import Derived.Test.YtflanjcfkdjpjaaGreatDoorL16
import Derived.WalkKit
import Derived.ProofKit
import Derived.OpenShut
import Derived.ShutString
import Derived.ChangeOld
import Derived.Below
import Derived.Carry
import Derived.Deep.DeepHandedRow

import Derived.Lib.LaidTab
namespace Go.Proofs.YtflanjcfkdjpjaaGreatDoor.walCuts
open Go.ChangeShapes Go.WideShapes Go.ChangeAt Go.RowKit
open Go.Proofs.YtflanjcfkdjpjaaGreatDoor
open Go.ChangeMaps (open_string shut_string)
set_option linter.unusedVariables false

theorem own : ownKnob Tryz.prog.godebug = none := by kernel_rfl
theorem laidOut : laidOutB Tryz.prog = true := by kernel_rfl


open Go.Proofs.YtflanjcfkdjpjaaGreatDoor.Wal Go.Proofs.YtflanjcfkdjpjaaGreatDoor.Mir Go.Proofs.YtflanjcfkdjpjaaGreatDoor.Rem Go.Proofs.YtflanjcfkdjpjaaGreatDoor.Dev Go.Proofs.YtflanjcfkdjpjaaGreatDoor.Rec
/-- what stands between the laps -/
structure CutsI (w : World) (u pa pb nf : Nat) (fs : List Int) (fv : Value) (k : Nat) (lv : Value) (wr : World) : Prop where
  all : ∃ Y lb tl mm tb bb q S cc n c R, lv = .pointer (some ⟨lb, 0, none⟩) ∧ LW w Y lb tl mm tb bb q (pdOf pa pb) S cc R n c [] wr ∧ u ∈ Y ∧ FatesZ wr Y fv nf fs ∧ cc ≤ 100 + 1000 * k ∧ R ≤ 100000 ∧ 1 ≤ n ∧ n ≤ 1 + 100 * k ∧ 0 ≤ c ∧ c < 4294967296
  dev : Has wr u 26 [.pointer (some ⟨pa, 0, none⟩), .pointer (some ⟨pb, 0, none⟩)]

/-! ### STEP 1: THE WALK -/
set_option maxHeartbeats 8000000 in
set_option maxRecDepth 100000 in
theorem walk (a0 : Int) (a1 : Int) (a2 : Option Addr) (a2l a2c : Nat) (a2z : List Int) (w : World) (w0 : (Lit.int .u8 a0).wf = true) (w1 : (Lit.int .u8 a1).wf = true) (w2 : Row .u8 w a2 a2l a2z) (w2l : a2l ≤ a2c) (w2m : a2c ≤ maxLen) (w2w : ∀ n ∈ a2z, (Lit.int .u8 n).wf = true) :
    Calls Tryz.prog 6 #[.int .u8 a0, .int .u8 a1, .slice a2 a2l a2c] w fun e w' => e = .returned (.bool true) ∧ Below w.heap.size w w' := by
  obtain ⟨hn0, hn1⟩ := bounds_u8 w0
  obtain ⟨hl0, hl1⟩ := bounds_u8 w1
  have W2 := Lib.hid w2
  have W2W := Lib.hid w2w
  have HLZ := Lib.hid w2.len_eq
  unfold maxLen at w2m
  clear w0 w1 w2 w2w
  go_enter Tryz.func6, Tryz.ntmps6
  go_wp2_with fail
  refine (fresh_any w).mono ?_
  rintro e w1 ⟨pa, pb, mm, tb, bb, q, S, rfl, hm, h0, h1⟩
  have HCT := Lib.hid (Ct.new h0 h1 1 0)
  have HM := Lib.hid (hm.new (.cells #[.pointer (some ⟨pa, 0, none⟩), .pointer (some ⟨pb, 0, none⟩)] 26))
  have HD := Lib.hid (Has.new w1 [.pointer (some ⟨pa, 0, none⟩), .pointer (some ⟨pb, 0, none⟩)] 26)
  clear hm h0 h1
  obtain ⟨u, hu⟩ : ∃ u, u = w1.heap.size := ⟨_, rfl⟩
  rw [← hu] at HM HD
  go_wp2_with fail
  rw [← hu]
  clear hu
  refine (ring_any _).mono ?_
  rintro e w2 ⟨rfl, hb⟩
  have HM2 := Lib.hid (HM.out.later hb)
  have HD2 := Lib.hid (HD.out.below hb HD.out.lt)
  clear hb HM HD
  go_wp2_with fail
  refine (Open_w HM2.out HCT.out (by decide) (by decide) (by decide) (by decide) (by decide) (by decide) (by decide)).mono ?_
  rintro e w3 ⟨lb, tl, Z, S', v, rfl, hlw, hrs, hsm⟩
  have HL3 := Lib.hid hlw
  have HD3 := Lib.hid (HD2.out.same (hsm u (by simp)))
  clear hlw hrs hsm HM2 HD2 HCT
  go_wp2_with fail
  refine (wakes_any _).mono ?_
  rintro e w4 ⟨rfl, hb⟩
  have HL4 := Lib.hid (HL3.out.later hb)
  have HD4 := Lib.hid (HD3.out.below hb HD3.out.lt)
  clear hb HL3 HD3
  obtain ⟨m0, hm0⟩ : ∃ m0, m0 = min a2l 10 := ⟨_, rfl⟩
  have hmin : ∀ W ts, (Builtin.min_ ts 3 #[.int .i64 (a2l : Nat), .int .i64 10]).run Tryz.prog W = .ok (.int .i64 (m0 : Int)) W := by
    intro W ts; rw [hm0]; exact run_minC _ _ _ _ a2l 10
  have hml : m0 ≤ a2l := by omega
  have hml' : m0 ≤ a2c := by omega
  have hm10 : m0 ≤ 10 := by omega
  clear hm0
  go_wp2_with fail
  go_loopw [13, 55] (fun v i wr => ∃ (t : Nat) (fs : List Int), t ≤ m0 ∧ i = .int .i64 t ∧ fs.length = t ∧ (∀ f ∈ fs, f ≤ 9223372036854775807) ∧ wr.ownsRow w4.heap.size 73 1 v t (fs.map (Value.int .i64)) ∧ Below w4.heap.size w4 wr) (fun _ i _ => m0 - (intOf i).toNat)
  case atStart => exact ⟨0, [], Nat.zero_le _, rfl, rfl, (fun f hf => by cases hf), World.ownsRow_nil _ _ _ _, Below.refl _ _⟩
  case round =>
    obtain ⟨t, fs, ht, rfl, hfl, hfb, hown, hbel⟩ := hrel
    by_cases hlt : t < m0
    · have hti : (t : Int) < (m0 : Int) := by omega
      obtain ⟨fb, fo, rfl, hcells⟩ := (W2.out.below HL4.out.lg.below (Nat.le_refl _)).at_ (by omega)
      have hcw := hcells t (by omega)
      have hlw := World.block_lt_of_cell? _ _ hcw
      obtain ⟨f, hf⟩ : ∃ f, f = a2z.getD t 0 := ⟨_, rfl⟩
      have hfw : 0 ≤ f ∧ f ≤ 255 := bounds_u8 (W2W.out f (by rw [hf, List.getD_eq_getElem?_getD, List.getElem?_eq_getElem (by rw [HLZ.out]; omega)]; exact List.getElem_mem _))
      have hc : wr.cell? ⟨fb, fo + t, none⟩ = some (.int .u8 f) := by rw [hbel.cell (p := ⟨fb, fo + t, none⟩) hlw, hf]; exact hcw
      obtain ⟨hf0, hf1⟩ := hfw
      have hwf : IntKind.i64.wrap f = f := IntWalk.i64_in _ (by omega)
      obtain ⟨i0, hi, hz0, hz1, hz2⟩ := info_parts info_fate13
      have HFL := Lib.hid hfl
      have HFB := Lib.hid (show ∀ g ∈ fs ++ [f], g ≤ 9223372036854775807 from fun g hg => by
        rcases List.mem_append.1 hg with hg | hg
        · exact hfb g hg
        · rw [List.mem_singleton.1 hg]; omega)
      have hsz := hbel.size
      clear hcells hcw hf hlw hfl hfb
      go_wp2_with (at_builtin; refine wpList_append_own _ rfl _ _ 72 rfl w4.heap.size 73 i0 (.int .i64 0) 1 8 Tryz.underlying72 hi hz0 hz1 hz2 rfl (by decide) _ _ _ rfl (hown.alloc _) ⟨wr.heap.size, 0, none⟩ 1 1 [.int .i64 f] rfl rfl ?c1 ?c2 ?c3 ?c4 ?c5 ?_)
      case c1 =>
        intro j u hj
        match j, hj with
        | 0, hj => simp at hj; subst hj; simp [Addr.add]
      case c2 => intro u hu; simp at hu; subst hu; rfl
      case c3 => unfold maxLen; omega
      case c4 => omega
      case c5 => simp; omega
      intro v' wn hown' hgrow _
      have HB' := Lib.hid (show Below w4.heap.size w4 wn from (hbel.alloc (by omega) _).grown hgrow (by simp; omega) (fun q hq => (hown.lt q hq).1))
      have HO' := Lib.hid hown'
      clear hown' hgrow hown hbel hc
      go_wp2_with fail
      go_roundw
      case rel => exact ⟨t + 1, fs ++ [f], by omega, by go_num, by rw [List.length_append, HFL.out]; rfl, HFB.out, by rw [List.map_append]; exact HO'.out, HB'.out⟩
      case measure => simp [intOf]; omega
    · obtain rfl : t = m0 := by omega
      have hnt : ¬ (t : Int) < (t : Int) := by omega
      obtain ⟨L, hL⟩ : ∃ x : Nat, (x : Int) = a1 % 6 := ⟨(a1 % 6).toNat, by omega⟩
      obtain ⟨N, hN⟩ : ∃ x : Nat, (x : Int) = a0 % 6 := ⟨(a0 % 6).toNat, by omega⟩
      have hL6 : L ≤ 5 := by omega
      have hN6 : N ≤ 5 := by omega
      have hm1 : a1 % 6 = (L : Int) := hL.symm
      have hm1' : Int.tmod a1 6 = (L : Int) := by rw [Int.tmod_eq_emod_of_nonneg hl0, hL]
      have hm2 : a0 % 6 = (N : Int) := hN.symm
      have hm2' : Int.tmod a0 6 = (N : Int) := by rw [Int.tmod_eq_emod_of_nonneg hn0, hN]
      have hwL : IntKind.u8.wrap (L : Int) = L := IntWalk.u8_in _ (by omega)
      have hwN : IntKind.u8.wrap (N : Int) = N := IntWalk.u8_in _ (by omega)
      have hwN2 : IntKind.i64.wrap (N : Int) = N := IntWalk.i64_in _ (by omega)
      have hw1 : IntKind.u8.wrap (1 + (L : Int)) = 1 + (L : Int) := IntWalk.u8_in _ (by omega)
      obtain ⟨Zf, hzf, _, hlf⟩ := HL4.out.lg.freshV hbel (fun j hj => hown.lt j hj)
      have HLF := Lib.hid (show LW w (Zf ++ (Z ++ [u])) lb tl mm tb bb q (pdOf pa pb) S' (4 + 40) 0 1 0 [] wr from ⟨hlf, HL4.out.ct⟩)
      have HFF := Lib.hid (fates_mono (Y := Zf ++ (Z ++ [u])) (fates_own hown hfl hzf) (fun j hj => by simp [hj]))
      have HFB := Lib.hid hfb
      have HD5 := Lib.hid (HD4.out.below hbel HD4.out.lt)
      clear hL hN hown hbel hfb hzf hlf HL4 HD4 W2 W2W HLZ hfl hmin
      go_wp2_with fail
      go_loopw [10, 68] (fun lv i wq => ∃ k : Nat, k ≤ L + 1 ∧ i = .int .u8 k ∧ CutsI w u pa pb t fs _ k lv wq) (fun _ i _ => L + 1 - (intOf i).toNat)
      case atStart =>
        exact ⟨0, by omega, rfl, ⟨_, lb, tl, mm, tb, bb, q, S', 4 + 40, 1, 0, 0, rfl, HLF.out, by simp, HFF.out, by omega, by omega, by omega, by omega, by omega, by omega⟩, HD5.out⟩
      case round =>
        obtain ⟨k, hk, rfl, ⟨Y, lb, tl, mm, tb, bb, q, S, cc, n, c, R, rfl, hlw, huY, hff, hcc, hR, hn1', hn2, hc0, hc1⟩, hdv⟩ := hrel
        clear HLF HFF HD5
        obtain ⟨wq, hwq⟩ : ∃ x : World, x = wr := ⟨_, rfl⟩
        subst hwq
        have HLW := Lib.hid hlw
        have HUY := Lib.hid huY
        have HFF := Lib.hid hff
        have HDV := Lib.hid hdv
        have HC := Lib.hid (And.intro hc0 hc1)
        clear hlw huY hff hdv hc0 hc1
        by_cases hlt : k < L + 1
        · have hkl : (k : Int) < 1 + (L : Int) := by omega
          have hk8 : IntKind.u8.wrap ((k : Int) + 1) = (k : Int) + 1 := IntWalk.u8_in _ (by omega)
          go_wp2_with fail
          go_loopw [73] (fun i ws => ∃ (j : Nat) (S2 : Nat → Sd) (cc2 : Nat) (r : List (List Up)), j ≤ N ∧ i = .int .i64 j ∧ r.length = j ∧ cc2 ≤ cc + 8 * j ∧ LW w Y lb tl mm tb bb q (pdOf pa pb) S2 cc2 R n c r ws ∧ Same Y wq ws) (fun i _ => N - (intOf i).toNat)
          case atStart => exact ⟨0, S, cc, [], by omega, rfl, rfl, by omega, HLW.out, Rem.Same.refl _ _⟩
          case round =>
            obtain ⟨j, S2, cc2, r, hj, rfl, hrl, hcc2, hlw, hsm⟩ := hrel
            by_cases hjn : j < N
            · have hjn' : (j : Int) < (N : Int) := by omega
              have HL := Lib.hid (hlw.new (.cells (encU upS).toArray 67))
              have HU := Lib.hid (show URin (wr.heap.size :: Y) (wr.alloc (.cells (encU upS).toArray 67)) (.slice (some ⟨wr.heap.size, 0, none⟩) 1 1) [upS] from ⟨ur_one _ _ _, fun j hj => by injection hj with hj; subst hj; simp⟩)
              have HS := Lib.hid (show Same Y wq (wr.alloc (.cells (encU upS).toArray 67)) from fun i hi => (Below.heap_alloc _ _ _ (hlw.lg.y i hi).2).trans (hsm i hi))
              rw [show (encU upS).toArray = #[.int .u8 1, .string ⟨#[115, 97, 109, 101]⟩, .string ⟨#[115, 97, 109, 101]⟩, .int .u64 0] from rfl] at HL HU HS
              have HRL := Lib.hid hrl
              clear hlw hsm hrl
              go_wp2_with fail
              refine (App_w HL.out HU.out (by simp) upS_ok (by rw [HRL.out]; omega) (by omega)).mono ?_
              rintro e w5 ⟨rfl, S3, hlw3, hsm3⟩
              have HL3 := Lib.hid (hlw3.sub (Z := Y) (fun i hi => by simp [hi]))
              have HS3 := Lib.hid (show Same Y wq w5 from fun i hi => (hsm3 i (by simp [hi])).trans (HS.out i hi))
              clear hlw3 hsm3 HL HU HS
              go_wp2_with fail
              go_roundw
              case rel => exact ⟨j + 1, S3, cc2 + 8, r ++ [[upS]], by omega, by go_num, by rw [List.length_append, HRL.out]; rfl, by omega, HL3.out, HS3.out⟩
              case measure => simp [intOf]; omega
            · obtain rfl : j = N := by omega
              have hjn' : ¬ (j : Int) < (j : Int) := by omega
              have HL4 := Lib.hid hlw
              have HF4 := Lib.hid (HFF.out.keep hsm)
              have HD4 := Lib.hid (HDV.out.same (hsm u HUY.out))
              have HRL := Lib.hid hrl
              clear hlw hsm HLW HFF HDV hrl
              go_wp2_with fail
              refine (Sync_w HL4.out (by omega)).mono ?_
              rintro e w5 ⟨rfl, hlw, hz, hsm⟩
              have HL5 := Lib.hid hlw
              have HZ5 := Lib.hid hz
              have HF5 := Lib.hid (HF4.out.keep hsm)
              have HD5 := Lib.hid (HD4.out.same (hsm u HUY.out))
              clear hlw hz hsm HL4 HF4 HD4
              go_wp2_with fail
              refine (Cut_x HL5.out (by rw [HRL.out]; omega)).mono ?_
              rintro e w6 ⟨rfl, hlw, hch⟩
              have hsm := HL5.out.lg.same_y hch
              obtain ⟨hd0, hd1⟩ := chL_bd HC.out.1 HC.out.2 r n
              have HDB := Lib.hid (And.intro hd0 hd1)
              obtain ⟨m, hm⟩ : ∃ m, m = n + r.length + 5 := ⟨_, rfl⟩
              obtain ⟨dd, hdd⟩ : ∃ dd, dd = chL n c r := ⟨_, rfl⟩
              rw [HRL.out] at hm hlw ⊢
              rw [← hm] at hlw ⊢
              rw [← hdd] at hlw HDB ⊢
              have hm1'' : 1 ≤ m := by omega
              have hm2'' : m ≤ 20 + 100 * k := by omega
              have HL6 := Lib.hid hlw
              have HZ6 := Lib.hid (Go.Proofs.YtflanjcfkdjpjaaGreatDoor.Wal.CZ.chg HZ5.out (hch.mono (fun i _ e => by simp [e])))
              have HF6 := Lib.hid (HF5.out.keep hsm)
              have HD6 := Lib.hid (HD5.out.same (hsm u HUY.out))
              have d0 := HD6.out.cell 0
              have d1 := HD6.out.cell 1
              simp only [List.getElem?_cons_zero, List.getElem?_cons_succ] at d0 d1
              clear hlw hch hsm HL5 HZ5 HF5 HD5 hd0 hd1 hm hdd HC
              go_wp2_with fail
              refine (Crash_w HL6.out HZ6.out (s := 0) (by omega) (by omega) HF6.out HFB.out pa rfl).mono ?_
              rintro e w7 ⟨rfl, hlw, hz, hsm⟩
              have HL7 := Lib.hid hlw
              have HZ7 := Lib.hid hz
              have HF7 := Lib.hid (HF6.out.keep hsm)
              have HD7 := Lib.hid (HD6.out.same (hsm u HUY.out))
              clear d0 d1
              have d0 := HD7.out.cell 0
              have d1 := HD7.out.cell 1
              simp only [List.getElem?_cons_zero, List.getElem?_cons_succ] at d0 d1
              clear hlw hz hsm HL6 HZ6 HF6 HD6
              go_wp2_with fail
              refine (Crash_w HL7.out HZ7.out (s := 1) (by omega) (by omega) HF7.out HFB.out pb rfl).mono ?_
              rintro e w8 ⟨rfl, hlw, hz, hsm⟩
              have HL8 := Lib.hid hlw
              have HF8 := Lib.hid (HF7.out.keep hsm)
              have HD8 := Lib.hid (HD7.out.same (hsm u HUY.out))
              clear d0 d1
              have d0 := HD8.out.cell 0
              have d1 := HD8.out.cell 1
              simp only [List.getElem?_cons_zero, List.getElem?_cons_succ] at d0 d1
              clear hlw hz hsm HL7 HZ7 HF7 HD7
              go_wp2_with fail
              refine (again2_any HL8.out.lg.mg.cp HL8.out.ct.pl (by omega)).mono ?_
              rintro e w9 ⟨mm2, tb2, bb2, q2, rfl, hm9, hp9, hsm⟩
              have HM9 := Lib.hid hm9
              have HF9 := Lib.hid (fates_mono (Y := q :: mm :: tb :: bb :: lb :: tl :: Y) (HF8.out.keep (fun i hi => hsm i (by simp [hi]))) (fun i hi => by simp [hi]))
              have HD9 := Lib.hid (HD8.out.same (hsm u (by simp [HUY.out])))
              have HCT := Lib.hid HL8.out.ct
              clear hm9 hp9 hsm d0 d1 HL8 HF8 HD8
              go_wp2_with fail
              refine (ring_any _).mono ?_
              rintro e w10 ⟨rfl, hb⟩
              have HM10 := Lib.hid (HM9.out.later hb)
              have HF10 := Lib.hid (HF9.out.keep (show Rem.Same (q :: mm :: tb :: bb :: lb :: tl :: Y) w9 w10 from fun i hi => hb.block i (HM9.out.y i hi).2))
              have HD10 := Lib.hid (HD9.out.below hb HD9.out.lt)
              clear hb HM9 HF9 HD9
              go_wp2_with fail
              refine (Open_w HM10.out (HCT.out) (by simp) (by omega) (by omega) HDB.out.1 HDB.out.2 (by omega) (by omega)).mono ?_
              rintro e w11 ⟨lb2, tl2, Z2, S11, v2, rfl, hlw, hrs, hsm⟩
              obtain ⟨va2, vc2, rfl⟩ : ∃ a c, v2 = .slice a 0 c := by obtain ⟨a, c, h, _⟩ := hrs; exact ⟨a, c, h⟩
              obtain ⟨Y2, hY2⟩ : ∃ Y2, Y2 = Z2 ++ (q :: mm :: tb :: bb :: lb :: tl :: Y) := ⟨_, rfl⟩
              have hsub : ∀ i ∈ (q :: mm :: tb :: bb :: lb :: tl :: Y), i ∈ Y2 := fun i hi => by rw [hY2]; exact List.mem_append_right _ hi
              have HUY2 := Lib.hid (hsub u (by simp [HUY.out]))
              rw [← hY2] at hlw
              have HL11 := Lib.hid hlw
              have HF11 := Lib.hid (fates_mono (Y := Y2) (HF10.out.keep hsm) hsub)
              have HD11 := Lib.hid (HD10.out.same (hsm u (by simp [HUY.out])))
              have HL12 := Lib.hid (hlw.new (.cells (encU upS).toArray 67))
              have HU12 := Lib.hid (show URin (w11.heap.size :: Y2) (w11.alloc (.cells (encU upS).toArray 67)) (.slice (some ⟨w11.heap.size, 0, none⟩) 1 1) [upS] from ⟨ur_one _ _ _, fun j hj => by injection hj with hj; subst hj; simp⟩)
              have HF12 := Lib.hid (HF11.out.keep (show Rem.Same Y2 w11 (w11.alloc (.cells (encU upS).toArray 67)) from fun i hi => Below.heap_alloc _ _ _ (hlw.lg.y i hi).2))
              have HD12 := Lib.hid (HD11.out.alloc (.cells (encU upS).toArray 67))
              rw [show (encU upS).toArray = #[.int .u8 1, .string ⟨#[115, 97, 109, 101]⟩, .string ⟨#[115, 97, 109, 101]⟩, .int .u64 0] from rfl] at HL12 HU12 HF12 HD12
              clear hlw hrs hsm hsub hY2 HM10 HF10 HD10 HCT HL11 HF11 HD11 HUY
              go_wp2_with fail
              refine (App_w HL12.out HU12.out (by simp) upS_ok (by decide) (by omega)).mono ?_
              rintro e w13 ⟨rfl, S13, hlw, hsm⟩
              have HL13 := Lib.hid (hlw.sub (Z := Y2) (fun i hi => by simp [hi]))
              have HF13 := Lib.hid (HF12.out.keep (fun i hi => hsm i (by simp [hi])))
              have HD13 := Lib.hid (HD12.out.same (hsm u (by simp [HUY2.out])))
              clear hlw hsm HL12 HU12 HF12 HD12
              go_wp2_with fail
              refine (Sync_w HL13.out (by omega)).mono ?_
              rintro e w14 ⟨rfl, hlw, hz, hsm⟩
              have HL14 := Lib.hid hlw
              have HF14 := Lib.hid (HF13.out.keep hsm)
              have HD14 := Lib.hid (HD13.out.same (hsm u HUY2.out))
              clear hlw hz hsm HL13 HF13 HD13
              go_wp2_with fail
              refine (ring_any _).mono ?_
              rintro e w15 ⟨rfl, hb⟩
              have HL15 := Lib.hid (HL14.out.later hb)
              have HF15 := Lib.hid (HF14.out.keep (show Rem.Same Y2 w14 w15 from fun i hi => hb.block i (HL14.out.lg.y i hi).2))
              have HD15 := Lib.hid (HD14.out.below hb HD14.out.lt)
              clear hb HL14 HF14 HD14
              go_wp2_with fail
              refine (Open_w HL15.out.lg.mg HL15.out.ct (by simp) (by omega) (by omega) HDB.out.1 HDB.out.2 (by omega) (by omega)).mono ?_
              rintro e w16 ⟨lb3, tl3, Z3, S16, v3, rfl, hlw, hrs, hsm⟩
              obtain ⟨va3, vc3, rfl⟩ : ∃ a c, v3 = .slice a 1 c := by obtain ⟨a, c, h, _⟩ := hrs; exact ⟨a, c, h⟩
              have HL16 := Lib.hid (HL15.out.back (hlw.lg.mg.sub (Z := lb2 :: tl2 :: Y2) (fun i hi => by simp at hi ⊢; rcases hi with rfl | rfl | hi <;> simp [*])) hsm hlw.ct)
              have HF16 := Lib.hid (HF15.out.keep (fun i hi => hsm i (by simp [hi])))
              have HD16 := Lib.hid (HD15.out.same (hsm u (by simp [HUY2.out])))
              clear hlw hrs hsm HL15 HF15 HD15
              go_wp2_with fail
              refine (Cut_x HL16.out (by simp; omega)).mono ?_
              rintro e w17 ⟨rfl, hlw, hch⟩
              have hsm := HL16.out.lg.same_y hch
              have HL17 := Lib.hid hlw
              have HF17 := Lib.hid (HF16.out.keep hsm)
              have HD17 := Lib.hid (HD16.out.same (hsm u HUY2.out))
              have HDC := Lib.hid (chL_bd HDB.out.1 HDB.out.2 ([] ++ [[upS]]) m)
              clear hlw hch hsm HL16 HF16 HD16
              go_wp2_with fail
              go_roundw
              case rel => exact ⟨k + 1, by omega, by go_num, ⟨Y2, lb2, tl2, mm2, tb2, bb2, q2, S16, _, _, _, _, rfl, HL17.out, HUY2.out, HF17.out, by omega, by omega, by simp; omega, by simp; omega, HDC.out.1, HDC.out.2⟩, HD17.out⟩
              case measure => simp [intOf]; omega
        · have hkl : ¬ (k : Int) < 1 + (L : Int) := by omega
          have HB := Lib.hid HLW.out.lg.below
          go_wp2_with fail
          go_ret
          exact ⟨rfl, HB.out⟩

set_option maxRecDepth 100000 in
theorem contract (H : Type) (enc : TypeId × Value → H) (W : World) (base : Nat) (args : Array Value) (ds gs : List (DataW H)) (before : List MemPlace)
    (hval0 : ∀ (j : Nat) t v, Tryz.f6.params[j]? = some t → args[j]? = some v → Value.okWide Tryz.prog W .any base t v)
    (hW : DataW.Whole enc Tryz.prog Tryz.f6.params.toList Rows.walCutsSpec.vars false W args.toList ds gs before) :
    Calls Tryz.prog 6 args W fun e W' => ∃ v, e = .returned v ∧ Rows.walCutsSpec.post enc Tryz.prog Tryz.f6 false true false false W args v W' := by
  have hval : ∀ (j : Nat) t v, Tryz.f6.params[j]? = some t → args[j]? = some v → Value.okWide Tryz.prog W .any base t v := hval0
  have hW' := hW
  obtain ⟨p, q, hA0, hV, rfl, hfz, hnd⟩ := hW
  have hA : DataW.TrodAll enc Tryz.prog W 0 (fun _ => true) true Tryz.f6.params.toList args.toList ds p := hA0
  rw [Tryz.params6] at hA hval
  obtain ⟨v0, vs0, d0, ds0, p0, q0, hargs, rfl, rfl, h0, r0⟩ := trodAll_cons hA
  obtain ⟨v1, vs1, d1, ds1, p1, q1, rfl, rfl, rfl, h1, r1⟩ := trodAll_cons r0
  obtain ⟨v2, vs2, d2, ds2, p2, q2, rfl, rfl, rfl, h2, r2⟩ := trodAll_cons r1
  obtain ⟨rfl, rfl, rfl⟩ := trodAll_nil r2
  obtain rfl : args = #[v0, v1, v2] := by cases args; simp_all
  obtain ⟨rfl, rfl⟩ := trodVars_none hV
  obtain ⟨a0, rfl, rfl, rfl, w0⟩ := open_int Tryz.underlying5 (hval 0 5 v0 rfl rfl) h0
  obtain ⟨a1, rfl, rfl, rfl, w1⟩ := open_int Tryz.underlying5 (hval 1 5 v1 rfl rfl) h1
  have k2 := h2
  have lt2 : ∀ x ∈ p2, x.block < W.heap.size := by obtain ⟨m, hm⟩ := k2; exact DataW.trod_lt m _ _ _ hm
  obtain ⟨a2', l2', c2', rfl⟩ := okWide_slice Tryz.underlying44 (hval 2 44 v2 rfl rfl)
  obtain ⟨a2, a2l, a2c, a2z, he2, w2, w2l, w2m, w2w⟩ := open_ints_cell (c := .slice a2' l2' c2') Tryz.underlying44 Tryz.underlying5 (by kernel_rfl) (by obtain ⟨m, hm⟩ := h2; exact ⟨m, _, hm⟩)
  simp only [Value.slice.injEq] at he2
  obtain ⟨rfl, rfl, rfl⟩ := he2
  clear hA0 hval0
  refine (walk a0 a1 a2' l2' c2' a2z W w0 w1 w2 w2l w2m w2w).mono fun e W' ⟨he, bel⟩ => ?_
  subst he
  exact ⟨_, rfl, _, _, _, [], _, [], hW', trodAll_mk1 (shut_bool Tryz.underlying4 _), (trodAll_cons_mk (shut_int Tryz.underlying5 w0) (trodAll_cons_mk (shut_int Tryz.underlying5 w1) (trodAll_cons_mk (Below.trod laidOut (by kernel_rfl) (of_decide_eq_true (by kernel_rfl)) k2 bel lt2) trodAll_mk0))), rfl, bel.frame _, fun h => by cases h⟩

noncomputable def laidWorld (os : Os) : World :=
  { World.holding Tryz.prog os ⟨#[], #[], []⟩ with heap := (((((World.holding Tryz.prog os ⟨#[], #[], []⟩).heap).modify 2 fun | .cells _ t frozen => .cells (#[.int .u8 128, .int .u8 191, .int .u8 160, .int .u8 191, .int .u8 128, .int .u8 159, .int .u8 144, .int .u8 191, .int .u8 128, .int .u8 143, .int .u8 0, .int .u8 0, .int .u8 0, .int .u8 0, .int .u8 0, .int .u8 0, .int .u8 0, .int .u8 0, .int .u8 0, .int .u8 0, .int .u8 0, .int .u8 0, .int .u8 0, .int .u8 0, .int .u8 0, .int .u8 0, .int .u8 0, .int .u8 0, .int .u8 0, .int .u8 0, .int .u8 0, .int .u8 0]) t frozen | o => o)).modify 1 fun | .cells _ t frozen => .cells ((Go.Pinned.utf8FirstZ.map fun z : Nat => Value.int .u8 (z : Int)).toArray) t frozen | o => o) }
theorem laid_met (os : Os) : laidMet Tryz.prog Rows.walCutsRow.laid ((laidWorld os).forCall (fun _ _ => 0) ⟨#[], #[.int .u8 0, .int .u8 0, .slice none 0 0], []⟩).memory :=
  laidMet_of_run' 8 (by kernel_rfl) (by kernel_rfl)
theorem reads (os : Os) {H : Type} (enc : TypeId × Value → H) : ∃ places, DataW.whole enc Tryz.prog ((laidWorld os).forCall (fun _ _ => 0) ⟨#[], #[.int .u8 0, .int .u8 0, .slice none 0 0], []⟩).memory Tryz.f6.params.toList Rows.walCutsSpec.vars false (#[.int .u8 0, .int .u8 0, .slice none 0 0] : Array Value).toList 8 = some ([.lit (.int .u8 0), .lit (.int .u8 0), .nil], [], places) :=
  ⟨[], by kernel_rfl⟩

set_option maxRecDepth 100000 in
theorem lifted (os : Os) (started : os.Started) (H : Type) (enc : TypeId × Value → H) (F : Stop.Interp) :
    ReturnsInHanded {} Tryz.checked os 6 .any ((OpenSpec.ofChange Rows.walCutsSpec).preRow enc Tryz.prog Tryz.f6 Rows.walCutsRow.domain false Rows.walCutsRow.laid) (((OpenSpec.ofChange Rows.walCutsSpec).at F).post enc Tryz.prog Tryz.f6 false true false false) := by
  obtain ⟨places, hx⟩ := reads os enc
  refine returnsInHanded_of_row (C := Tryz.checked) (s := OpenSpec.ofChange Rows.walCutsSpec) own started (by kernel_rfl) Tryz.func6
    (witness_row_at (enc := enc) (C := Tryz.checked) false (laidWorld os) #[.int .u8 0, .int .u8 0, .slice none 0 0] rfl (by kernel_rfl) (by kernel_rfl) (by kernel_rfl)
      (OpenSpec.preRow_of_cond 8 hx (by kernel_rfl) (fun k hk => by cases hk) (by kernel_rfl) (laid_met os))) ?_
  intro W base args ds gs before hval hW _ _ _ hL _ _
  exact contract H enc W base args ds gs before hval hW 

theorem said : Rows.WalCutsSaid :=
  OpenClaim.holds_of_cond 6 Tryz.f6 rfl rfl rfl rfl rfl rfl rfl ⟨rfl, rfl, rfl, rfl, rfl⟩ rfl rfl rfl rfl rfl (by kernel_rfl) Tryz.func6 (by kernel_rfl)
    (of_decide_eq_true (by kernel_rfl)) (by unfold Func.isWrapper; first | (rw [if_pos (by decide +kernel)]; kernel_rfl) | (rw [if_neg (by decide +kernel)]; exact ⟨rfl, rfl⟩))
    (fun os started H enc _ F => by rw [OpenClaim.pre_eq_preRow]; exact lifted os started H enc F)

theorem plain (f : FuncId) (fn : Func) (hf : Tryz.pinned.checked.prog.funcNamed "treenail/treenaillaw13.WalCuts" = some f) (hfn : Tryz.pinned.checked.prog.funcs[f]? = some fn) :
    false = Tryz.pinned.checked.prog.looks [] ∧ ∀ (j : Nat) t, fn.params[j]? = some t → Tryz.pinned.checked.prog.wantsStandIn t = false := by
  obtain rfl : f = 6 := Option.some.inj ((show Tryz.prog.funcNamed "treenail/treenaillaw13.WalCuts" = some 6 by kernel_rfl).symm.trans hf) |>.symm
  obtain rfl : fn = Tryz.f6 := (Option.some.inj (Tryz.func6.symm.trans hfn)).symm
  refine ⟨by kernel_rfl, fun j t ht => ?_⟩
  rw [Tryz.params6] at ht
  rcases j with _ | _ | _ | j
  · obtain rfl : t = 5 := by simpa using ht.symm
    exact (show Tryz.prog.wantsStandIn 5 = false by kernel_rfl)
  · obtain rfl : t = 5 := by simpa using ht.symm
    exact (show Tryz.prog.wantsStandIn 5 = false by kernel_rfl)
  · obtain rfl : t = 44 := by simpa using ht.symm
    exact (show Tryz.prog.wantsStandIn 44 = false by kernel_rfl)
  · simp at ht

/-- THE STATEMENT -/
theorem proved : Rows.WalCutsCardSaid :=
  Claim7.holds_tied_plain_at .later [] _ _ _ _ said (fun _ h => by cases h) (by kernel_rfl) (fun _ h => by cases h) walCuts_row_tie rfl ⟨rfl, rfl⟩ (by kernel_rfl) rfl plain (by kernel_rfl)
#print axioms proved
end Go.Proofs.YtflanjcfkdjpjaaGreatDoor.walCuts
