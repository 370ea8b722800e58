/-
  The law MirrorRefuses holds: blocks that there aren't, images of another size, and nil ones, are refused. Conditions: none but the row's own.
-/
import Derived.Test.YtcjfooikmaipdaaGreatDoorRows
import Derived.Test.YtcjfooikmaipdaaGreatDoorK13
import Derived.Test.YtcjfooikmaipdaaGreatDoorCards
import Derived.Test.YtcjfooikmaipdaaGreatDoorTie
import Derived.WalkKit
import Derived.ProofKit
import Derived.OpenShut
import Derived.ShutString
import Derived.ChangeOld
import Derived.Below
import Derived.Carry
import Derived.Deep.DeepHandedRow
import Derived.Lib.LaidTab
namespace Go.Proofs.YtcjfooikmaipdaaGreatDoor.mirrorRefuses
open Go.ChangeShapes Go.WideShapes Go.ChangeAt Go.RowKit
open Go.Proofs.YtcjfooikmaipdaaGreatDoor
open Go.ChangeMaps (open_string shut_string)
set_option linter.unusedVariables false

theorem own : ownKnob Tryz.prog.godebug = none := by kernel_rfl
theorem laidOut : laidOutB Tryz.prog = true := by kernel_rfl


open Go.Proofs.YtcjfooikmaipdaaGreatDoor.Mir Go.Proofs.YtcjfooikmaipdaaGreatDoor.Rem Go.Proofs.YtcjfooikmaipdaaGreatDoor.Dev
theorem run_maxZ (P : Program) (w : World) (t : TypeId) (ts : Array TypeId) (x : Int) : (Builtin.max_ ts t #[.int .i64 0, .int .i64 x]).run P w = .ok (.int .i64 (max 0 x)) w := by
  have e : (if (0 : Int) < x then x else 0) = max 0 x := by split <;> omega
  simp only [Builtin.max_, Builtin.max2, List.foldlM, Sem.run_bind, Sem.run_pure, Result.andThen]
  simp [e]
/-- what doesn't begin as images do is none -/
theorem no_mark {t : ByteArray} {x : UInt8} (hx : x ≠ 84) (h : t.data.toList.head? = some x) (a g k : Int) : wh (some t) a g k = false := by
  refine wh_no ?_ _ _ _
  have hm : Env.mkB t.data.toList = false := by
    unfold Env.mkB
    cases hl : t.data.toList with
    | nil => rw [hl] at h; cases h
    | cons y l =>
      rw [hl] at h
      have hy : y = x := by simpa using h
      subst hy
      simp only [List.take_succ_cons]
      rw [beq_eq_false_iff_ne]
      intro e
      have := (List.cons.inj e).1
      exact hx this
  unfold Env.opE
  rw [if_neg (by unfold Env.opB; rw [hm]; simp)]
  decide

/-! ### STEP 1: THE WALK -/
set_option maxHeartbeats 8000000 in
set_option maxRecDepth 100000 in
theorem walk (a0 : Int) (a1 : Int) (w : World) (w0 : (Lit.int .i64 a0).wf = true) (w1 : (Lit.int .i64 a1).wf = true) :
    Calls Tryz.prog 7 #[.int .i64 a0, .int .i64 a1] w fun e w' => e = .returned (.bool true) ∧ Below w.heap.size w w' := by
  clear w0 w1
  obtain ⟨M, hM⟩ : ∃ M : Nat, (M : Int) = max 0 a1 := ⟨(max 0 a1).toNat, by omega⟩
  obtain ⟨L, hL⟩ : ∃ L : Nat, L = M % 300 := ⟨_, rfl⟩
  have hmr : max 0 a1 % 300 = (L : Int) := by omega
  have hL3 : L < 300 := by omega
  have hq1 : (⟨#[105]⟩ : ByteArray).size * L ≤ 140737488355328 := by
    have : (⟨#[105]⟩ : ByteArray).size = 1 := rfl
    rw [this]; omega
  have HQ1 := Lib.hid hq1
  have HQ2 := Lib.hid (show L ≤ 9223372036854775807 by omega)
  clear hq1
  obtain ⟨I, hI⟩ : ∃ I : ByteArray, I = ⟨(Lib.repeatL (⟨#[105]⟩ : ByteArray).data.toList L).toArray⟩ := ⟨_, rfl⟩
  have hIs : I.size = L := by rw [hI]; show (Lib.repeatL _ L).toArray.size = L; rw [List.size_toArray, Lib.repeatL_length]; simp
  have HI := Lib.hid hI
  have HIS := Lib.hid hIs
  clear hM hL hI hIs
  go_enter Tryz.func7, Tryz.ntmps7
  go_wp2_with fail
  refine (fresh_any w).mono ?_
  rintro e w1 ⟨pa, pb, mm, tb, bb, q, S, rfl, hm, h0, h1⟩
  have HPL := Lib.hid (Pl.new h0 h1)
  have HV := Lib.hid (show ∀ s, s < 2 → ∀ b, b < 14 → cont S noG s b = some (noughts 128) from fun s hs b hb => by
    have hp := Pl.new h0 h1
    rw [cont_V hp hs hb rfl]
    rcases (show s = 0 ∨ s = 1 by omega) with rfl | rfl
    · rw [(h0.2 (4 + b) (by omega) (by omega)).1]
    · rw [(h1.2 (4 + b) (by omega) (by omega)).1])
  have HM := Lib.hid (hm.new (.cells #[.pointer (some ⟨pa, 0, none⟩), .pointer (some ⟨pb, 0, none⟩)] 25))
  clear hm h0 h1
  go_wp2_with fail
  refine (wakes_any _).mono ?_
  rintro e w2 ⟨rfl, hb⟩
  have HM2 := Lib.hid (HM.out.later hb)
  clear hb HM
  go_wp2_with fail
  refine (Tryz.strings_Repeat _ L _ HQ2.out HQ1.out).mono ?_
  rintro e w3 ⟨rfl, hb⟩
  rw [← HI.out]
  have HM3 := Lib.hid (HM2.out.later hb)
  clear hb HM2 hmr
  by_cases hin : a0 < 0 ∨ 14 ≤ a0
  · have hrf : rfE a0 = 3 := by unfold rfE; rw [if_pos hin]
    have hir : irE a0 I.size = 3 := by unfold irE; rw [if_pos (by rw [hrf]; decide)]
    have HRF := Lib.hid hrf
    have HIR := Lib.hid hir
    clear hrf hir
    rcases hin with hin | hin
    all_goals
      go_wp2_with fail
      refine (Heal_no HM3.out a0 I (by rw [HIR.out]; decide)).mono ?_
      rintro e w4 ⟨rfl, hb⟩
      rw [HIR.out]
      have HM4 := Lib.hid (HM3.out.later hb)
      clear hb HM3
      go_wp2_with fail
      refine (Images_no HM4.out a0 HRF.out).mono ?_
      rintro e w5 ⟨rfl, hb⟩
      have HM5 := Lib.hid (HM4.out.later hb)
      clear hb HM4
      go_wp2_with fail
      refine (Read_no HM5.out a0 0 0 HRF.out).mono ?_
      rintro e w6 ⟨rfl, hb⟩
      have HM6 := Lib.hid (HM5.out.later hb)
      clear hb HM5
      go_wp2_with fail
      refine (Check_no HM6.out a0 0 0 HRF.out).mono ?_
      rintro e w7 ⟨rfl, hb⟩
      have HM7 := Lib.hid (HM6.out.later hb)
      clear hb HM6
      go_wp2_with fail
      refine (Write_no HM7.out a0 I (by rw [HIR.out]; decide)).mono ?_
      rintro e w8 ⟨rfl, hb⟩
      rw [HIR.out]
      have HB8 := Lib.hid (HM7.out.later hb).below
      clear hb HM7
      go_wp2_with fail
      refine (New_n _).mono ?_
      rintro e w9 ⟨rfl, rfl⟩
      go_wp2_with fail
      refine (Images_n 0 _).mono ?_
      rintro e w9 ⟨rfl, rfl⟩
      go_wp2_with fail
      refine (Heal_n 0 ⟨#[]⟩ _).mono ?_
      rintro e w9 ⟨rfl, rfl⟩
      go_wp2_with fail
      refine (Check_n 0 0 0 _).mono ?_
      rintro e w9 ⟨rfl, hb⟩
      have HB9 := Lib.hid (HB8.out.trans (hb.mono HB8.out.size))
      clear hb
      go_wp2_with fail
      refine (Read_n 0 0 0 _).mono ?_
      rintro e w10 ⟨rfl, hb⟩
      have HB10 := Lib.hid (HB9.out.trans (hb.mono HB9.out.size))
      clear hb
      go_wp2_with fail
      refine (Write_n 0 ⟨#[]⟩ _).mono ?_
      rintro e w11 ⟨rfl, rfl⟩
      go_wp2_with fail
      refine (Flush_n _).mono ?_
      rintro e w11 ⟨rfl, rfl⟩
      go_wp2_with fail
      refine (Repairs_n _).mono ?_
      rintro e w11 ⟨rfl, rfl⟩
      go_wp2_with fail
      refine (Bad_n _).mono ?_
      rintro e w11 ⟨rfl, rfl⟩
      go_wp2_with fail
      refine (Degraded_n _).mono ?_
      rintro e w11 ⟨rfl, rfl⟩
      go_wp2_with fail
      refine (Pair_n _).mono ?_
      rintro e w11 ⟨rfl, rfl⟩
      go_wp2
      go_ret
      exact ⟨rfl, HB10.out⟩
  · obtain ⟨b, rfl⟩ : ∃ b : Nat, a0 = b := ⟨a0.toNat, by omega⟩
    have hb14 : b < 14 := by omega
    have hb0 : ¬ (b : Int) < 0 := by omega
    have hb1 : ¬ 14 ≤ (b : Int) := by omega
    have hrf : rfE (b : Int) = 0 := by unfold rfE; rw [if_neg hin]
    have hn0 : (noughts 128).data.toList.head? = some 0 := rfl
    clear hin
    by_cases hz : L = 128
    · have hz2 : I.size = 128 := by rw [HIS.out, hz]
      have hz3 : ¬ (I.size : Int) ≠ 128 := by omega
      have hz4 : (I.size : Int) = 128 := by omega
      have HZ := Lib.hid hz2
      have hI1 : I.data.toList.head? = some 105 := by rw [HI.out, hz]; rfl
      have HI1 := Lib.hid hI1
      clear hI1 hz hrf hn0
      go_wp2_with fail
      refine (Heal_m HM3.out hb14 HZ.out (by omega) (by omega)).mono ?_
      rintro e w4 ⟨S1, rfl, hst, hm, hsm⟩
      have hall : ∀ s, s < 2 → cont S1 noG s b = some I := fun s hs => by
        by_cases e : cont S noG s b = some I
        · rw [hst.kept hs (fun h => h.2 e)]; exact e
        · exact hst.got HPL.out.nb HM3.out.good hs hb14 ⟨al_mem.2 ⟨hs, rfl⟩, e⟩ rfl
      have HPL1 := Lib.hid (HPL.out.st hst)
      have HF := Lib.hid (show fnd S1 noG b 0 0 = none from fnd_2 (by rw [hall 0 (by omega)]; exact no_mark (by decide) HI1.out _ _ _) (by rw [hall 1 (by omega)]; exact no_mark (by decide) HI1.out _ _ _))
      have HA := Lib.hid hall
      have HM4 := Lib.hid hm
      have hh : hSum S noG b I (al noG) ≤ 2 := hSum_le _
      have HHS := Lib.hid hh
      clear hst hm hsm hall HM3 hh
      generalize hSum S noG b I (al noG) = hs at HM4 HHS ⊢
      go_wp2_with fail
      refine (Images_m HM4.out hb14 (by omega) (HA.out 0 (by omega)) (HA.out 1 (by omega))).mono ?_
      rintro e w5 ⟨z, cap, rfl, -, -, -, hm, hsm⟩
      have HM5 := Lib.hid hm
      clear hm hsm HM4
      go_wp2_with fail
      refine (Read_none HM5.out hb14 (by omega) 0 0 HF.out).mono ?_
      rintro e w6 ⟨rfl, hm, hsm⟩
      rw [lsR_no]
      have HM6 := Lib.hid hm
      clear hm hsm HM5
      go_wp2_with fail
      refine (Check_none HM6.out hb14 (by omega) 0 0 HF.out).mono ?_
      rintro e w7 ⟨rfl, hm, hsm⟩
      rw [lsR_no]
      have HM7 := Lib.hid hm
      clear hm hsm HM6
      go_wp2_with fail
      refine (Write_m HM7.out HPL1.out.nb hb14 HZ.out (by omega)).mono ?_
      rintro e w8 ⟨S2, rfl, hst, hm, hsm⟩
      rw [lsE_no]
      have HB8 := Lib.hid hm.below
      clear hst hm hsm HM7
      go_wp2_with fail
      refine (New_n _).mono ?_
      rintro e w9 ⟨rfl, rfl⟩
      go_wp2_with fail
      refine (Images_n 0 _).mono ?_
      rintro e w9 ⟨rfl, rfl⟩
      go_wp2_with fail
      refine (Heal_n 0 ⟨#[]⟩ _).mono ?_
      rintro e w9 ⟨rfl, rfl⟩
      go_wp2_with fail
      refine (Check_n 0 0 0 _).mono ?_
      rintro e w9 ⟨rfl, hb⟩
      have HB9 := Lib.hid (HB8.out.trans (hb.mono HB8.out.size))
      clear hb
      go_wp2_with fail
      refine (Read_n 0 0 0 _).mono ?_
      rintro e w10 ⟨rfl, hb⟩
      have HB10 := Lib.hid (HB9.out.trans (hb.mono HB9.out.size))
      clear hb
      go_wp2_with fail
      refine (Write_n 0 ⟨#[]⟩ _).mono ?_
      rintro e w11 ⟨rfl, rfl⟩
      go_wp2_with fail
      refine (Flush_n _).mono ?_
      rintro e w11 ⟨rfl, rfl⟩
      go_wp2_with fail
      refine (Repairs_n _).mono ?_
      rintro e w11 ⟨rfl, rfl⟩
      go_wp2_with fail
      refine (Bad_n _).mono ?_
      rintro e w11 ⟨rfl, rfl⟩
      go_wp2_with fail
      refine (Degraded_n _).mono ?_
      rintro e w11 ⟨rfl, rfl⟩
      go_wp2_with fail
      refine (Pair_n _).mono ?_
      rintro e w11 ⟨rfl, rfl⟩
      go_wp2
      go_ret
      exact ⟨rfl, HB10.out⟩
    · have hz2 : ¬ I.size = 128 := by rw [HIS.out]; exact hz
      have hz3 : (I.size : Int) ≠ 128 := by omega
      have hir : irE (b : Int) I.size = 2 := by unfold irE; rw [if_neg (by rw [hrf]; simp), if_neg hz2]
      have HIR := Lib.hid hir
      have HF := Lib.hid (show fnd S noG b 0 0 = none from fnd_2 (by rw [HV.out 0 (by omega) b hb14]; exact no_mark (by decide) hn0 _ _ _) (by rw [HV.out 1 (by omega) b hb14]; exact no_mark (by decide) hn0 _ _ _))
      clear hir hz hz2 hrf hn0
      go_wp2_with fail
      refine (Heal_no HM3.out (b : Int) I (by rw [HIR.out]; decide)).mono ?_
      rintro e w4 ⟨rfl, hb⟩
      rw [HIR.out]
      have HM4 := Lib.hid (HM3.out.later hb)
      clear hb HM3
      go_wp2_with fail
      refine (Images_m HM4.out hb14 (by omega) (HV.out 0 (by omega) b hb14) (HV.out 1 (by omega) b hb14)).mono ?_
      rintro e w5 ⟨z, cap, rfl, -, -, -, hm, hsm⟩
      have HM5 := Lib.hid hm
      clear hm hsm HM4
      go_wp2_with fail
      refine (Read_none HM5.out hb14 (by omega) 0 0 HF.out).mono ?_
      rintro e w6 ⟨rfl, hm, hsm⟩
      rw [lsR_no]
      have HM6 := Lib.hid hm
      clear hm hsm HM5
      go_wp2_with fail
      refine (Check_none HM6.out hb14 (by omega) 0 0 HF.out).mono ?_
      rintro e w7 ⟨rfl, hm, hsm⟩
      rw [lsR_no]
      have HM7 := Lib.hid hm
      clear hm hsm HM6
      go_wp2_with fail
      refine (Write_no HM7.out (b : Int) I (by rw [HIR.out]; decide)).mono ?_
      rintro e w8 ⟨rfl, hb⟩
      rw [HIR.out]
      have HB8 := Lib.hid (HM7.out.later hb).below
      clear hb HM7
      go_wp2_with fail
      refine (New_n _).mono ?_
      rintro e w9 ⟨rfl, rfl⟩
      go_wp2_with fail
      refine (Images_n 0 _).mono ?_
      rintro e w9 ⟨rfl, rfl⟩
      go_wp2_with fail
      refine (Heal_n 0 ⟨#[]⟩ _).mono ?_
      rintro e w9 ⟨rfl, rfl⟩
      go_wp2_with fail
      refine (Check_n 0 0 0 _).mono ?_
      rintro e w9 ⟨rfl, hb⟩
      have HB9 := Lib.hid (HB8.out.trans (hb.mono HB8.out.size))
      clear hb
      go_wp2_with fail
      refine (Read_n 0 0 0 _).mono ?_
      rintro e w10 ⟨rfl, hb⟩
      have HB10 := Lib.hid (HB9.out.trans (hb.mono HB9.out.size))
      clear hb
      go_wp2_with fail
      refine (Write_n 0 ⟨#[]⟩ _).mono ?_
      rintro e w11 ⟨rfl, rfl⟩
      go_wp2_with fail
      refine (Flush_n _).mono ?_
      rintro e w11 ⟨rfl, rfl⟩
      go_wp2_with fail
      refine (Repairs_n _).mono ?_
      rintro e w11 ⟨rfl, rfl⟩
      go_wp2_with fail
      refine (Bad_n _).mono ?_
      rintro e w11 ⟨rfl, rfl⟩
      go_wp2_with fail
      refine (Degraded_n _).mono ?_
      rintro e w11 ⟨rfl, rfl⟩
      go_wp2_with fail
      refine (Pair_n _).mono ?_
      rintro e w11 ⟨rfl, rfl⟩
      go_wp2
      go_ret
      exact ⟨rfl, HB10.out⟩

set_option maxRecDepth 100000 in
theorem contract (H : Type) (enc : TypeId × Value → H) (W : World) (base : Nat) (args : Array Value) (ds gs : List (DataW H)) (before : List MemPlace)
    (hval0 : ∀ (j : Nat) t v, Tryz.f7.params[j]? = some t → args[j]? = some v → Value.okWide Tryz.prog W .any base t v)
    (hW : DataW.Whole enc Tryz.prog Tryz.f7.params.toList Rows.mirrorRefusesSpec.vars false W args.toList ds gs before) :
    Calls Tryz.prog 7 args W fun e W' => ∃ v, e = .returned v ∧ Rows.mirrorRefusesSpec.post enc Tryz.prog Tryz.f7 false true false false W args v W' := by
  have hval : ∀ (j : Nat) t v, Tryz.f7.params[j]? = some t → args[j]? = some v → Value.okWide Tryz.prog W .any base t v := hval0
  have hW' := hW
  obtain ⟨p, q, hA0, hV, rfl, hfz, hnd⟩ := hW
  have hA : DataW.TrodAll enc Tryz.prog W 0 (fun _ => true) true Tryz.f7.params.toList args.toList ds p := hA0
  rw [Tryz.params7] at hA hval
  obtain ⟨v0, vs0, d0, ds0, p0, q0, hargs, rfl, rfl, h0, r0⟩ := trodAll_cons hA
  obtain ⟨v1, vs1, d1, ds1, p1, q1, rfl, rfl, rfl, h1, r1⟩ := trodAll_cons r0
  obtain ⟨rfl, rfl, rfl⟩ := trodAll_nil r1
  obtain rfl : args = #[v0, v1] := by cases args; simp_all
  obtain ⟨rfl, rfl⟩ := trodVars_none hV
  obtain ⟨a0, rfl, rfl, rfl, w0⟩ := open_int Tryz.underlying3 (hval 0 3 v0 rfl rfl) h0
  obtain ⟨a1, rfl, rfl, rfl, w1⟩ := open_int Tryz.underlying3 (hval 1 3 v1 rfl rfl) h1
  clear hA0 hval0
  refine (walk a0 a1 W w0 w1).mono fun e W' ⟨he, bel⟩ => ?_
  subst he
  exact ⟨_, rfl, _, _, _, [], _, [], hW', trodAll_mk1 (shut_bool Tryz.underlying4 _), (trodAll_cons_mk (shut_int Tryz.underlying3 w0) (trodAll_cons_mk (shut_int Tryz.underlying3 w1) trodAll_mk0)), rfl, bel.frame _, fun h => by cases h⟩

noncomputable def laidWorld (os : Os) : World :=
  { World.holding Tryz.prog os ⟨#[], #[], []⟩ with heap := (((((World.holding Tryz.prog os ⟨#[], #[], []⟩).heap).modify 2 fun | .cells _ t frozen => .cells (#[.int .u8 128, .int .u8 191, .int .u8 160, .int .u8 191, .int .u8 128, .int .u8 159, .int .u8 144, .int .u8 191, .int .u8 128, .int .u8 143, .int .u8 0, .int .u8 0, .int .u8 0, .int .u8 0, .int .u8 0, .int .u8 0, .int .u8 0, .int .u8 0, .int .u8 0, .int .u8 0, .int .u8 0, .int .u8 0, .int .u8 0, .int .u8 0, .int .u8 0, .int .u8 0, .int .u8 0, .int .u8 0, .int .u8 0, .int .u8 0, .int .u8 0, .int .u8 0]) t frozen | o => o)).modify 1 fun | .cells _ t frozen => .cells ((Go.Pinned.utf8FirstZ.map fun z : Nat => Value.int .u8 (z : Int)).toArray) t frozen | o => o) }
theorem laid_met (os : Os) : laidMet Tryz.prog Rows.mirrorRefusesRow.laid ((laidWorld os).forCall (fun _ _ => 0) ⟨#[], #[.int .i64 0, .int .i64 0], []⟩).memory :=
  laidMet_of_run' 8 (by kernel_rfl) (by kernel_rfl)
theorem reads (os : Os) {H : Type} (enc : TypeId × Value → H) : ∃ places, DataW.whole enc Tryz.prog ((laidWorld os).forCall (fun _ _ => 0) ⟨#[], #[.int .i64 0, .int .i64 0], []⟩).memory Tryz.f7.params.toList Rows.mirrorRefusesSpec.vars false (#[.int .i64 0, .int .i64 0] : Array Value).toList 8 = some ([.lit (.int .i64 0), .lit (.int .i64 0)], [], places) :=
  ⟨[], by kernel_rfl⟩

set_option maxRecDepth 100000 in
theorem lifted (os : Os) (started : os.Started) (H : Type) (enc : TypeId × Value → H) (F : Stop.Interp) :
    ReturnsInHanded {} Tryz.checked os 7 .any ((OpenSpec.ofChange Rows.mirrorRefusesSpec).preRow enc Tryz.prog Tryz.f7 Rows.mirrorRefusesRow.domain false Rows.mirrorRefusesRow.laid) (((OpenSpec.ofChange Rows.mirrorRefusesSpec).at F).post enc Tryz.prog Tryz.f7 false true false false) := by
  obtain ⟨places, hx⟩ := reads os enc
  refine returnsInHanded_of_row (C := Tryz.checked) (s := OpenSpec.ofChange Rows.mirrorRefusesSpec) own started (by kernel_rfl) Tryz.func7
    (witness_row_at (enc := enc) (C := Tryz.checked) false (laidWorld os) #[.int .i64 0, .int .i64 0] rfl (by kernel_rfl) (by kernel_rfl) (by kernel_rfl)
      (OpenSpec.preRow_of_cond 8 hx (by kernel_rfl) (fun k hk => by cases hk) (by kernel_rfl) (laid_met os))) ?_
  intro W base args ds gs before hval hW _ _ _ hL _ _
  exact contract H enc W base args ds gs before hval hW

theorem said : Rows.MirrorRefusesSaid :=
  OpenClaim.holds_of_cond 7 Tryz.f7 rfl rfl rfl rfl rfl rfl rfl ⟨rfl, rfl, rfl, rfl, rfl⟩ rfl rfl rfl rfl rfl (by kernel_rfl) Tryz.func7 (by kernel_rfl)
    (of_decide_eq_true (by kernel_rfl)) (by unfold Func.isWrapper; first | (rw [if_pos (by decide +kernel)]; kernel_rfl) | (rw [if_neg (by decide +kernel)]; exact ⟨rfl, rfl⟩))
    (fun os started H enc _ F => by rw [OpenClaim.pre_eq_preRow]; exact lifted os started H enc F)

theorem plain (f : FuncId) (fn : Func) (hf : Tryz.pinned.checked.prog.funcNamed "treenail/treenaillaw08.MirrorRefuses" = some f) (hfn : Tryz.pinned.checked.prog.funcs[f]? = some fn) :
    false = Tryz.pinned.checked.prog.looks [] ∧ ∀ (j : Nat) t, fn.params[j]? = some t → Tryz.pinned.checked.prog.wantsStandIn t = false := by
  obtain rfl : f = 7 := Option.some.inj ((show Tryz.prog.funcNamed "treenail/treenaillaw08.MirrorRefuses" = some 7 by kernel_rfl).symm.trans hf) |>.symm
  obtain rfl : fn = Tryz.f7 := (Option.some.inj (Tryz.func7.symm.trans hfn)).symm
  refine ⟨by kernel_rfl, fun j t ht => ?_⟩
  rw [Tryz.params7] at ht
  rcases j with _ | _ | j
  · obtain rfl : t = 3 := by simpa using ht.symm
    exact (show Tryz.prog.wantsStandIn 3 = false by kernel_rfl)
  · obtain rfl : t = 3 := by simpa using ht.symm
    exact (show Tryz.prog.wantsStandIn 3 = false by kernel_rfl)
  · simp at ht

/-- THE STATEMENT -/
theorem proved : Rows.MirrorRefusesCardSaid :=
  Claim7.holds_tied_plain_at .later [] _ _ _ _ said (fun _ h => by cases h) (by kernel_rfl) (fun _ h => by cases h) mirrorRefuses_row_tie rfl ⟨rfl, rfl⟩ (by kernel_rfl) rfl plain (by kernel_rfl)
#print axioms proved
end Go.Proofs.YtcjfooikmaipdaaGreatDoor.mirrorRefuses
