/-
  The law SpaceGens holds: generations rise by one, up to the last one, and stay there. Conditions: none but the row's own.
-/
import Derived.Test.YtkflccecdjfkiaaDoorRows
import Derived.Test.YtkflccecdjfkiaaDoorSpL
import Derived.Test.YtkflccecdjfkiaaDoorBitM
import Derived.Test.YtkflccecdjfkiaaDoorCards
import Derived.Test.YtkflccecdjfkiaaDoorTie
import Derived.Test.YtkflccecdjfkiaaDoorArr
import Derived.WalkKit
import Derived.ProofKit
import Derived.OpenShut
import Derived.ShutString
import Derived.ChangeOld
import Derived.Below
import Derived.Carry
import Derived.Deep.DeepHandedRow

import Derived.Lib.LaidTab
namespace Go.Proofs.YtkflccecdjfkiaaDoor.spaceGens
open Go.ChangeShapes Go.WideShapes Go.ChangeAt Go.RowKit
open Go.Proofs.YtkflccecdjfkiaaDoor
open Go.ChangeMaps (open_string shut_string)
set_option linter.unusedVariables false

theorem own : ownKnob Tryd.prog.godebug = none := by kernel_rfl
theorem laidOut : laidOutB Tryd.prog = true := by kernel_rfl


open Go.Proofs.YtkflccecdjfkiaaDoor.Spc
open Go.Proofs.YtkflccecdjfkiaaDoor.Bit
theorem u64_wrap (n : Int) : IntKind.u64.wrap n = n % 18446744073709551616 := by simp [IntKind.wrap, IntKind.bits, IntKind.signed]

/-! ### STEP 1: THE WALK -/
set_option maxHeartbeats 8000000 in
set_option maxRecDepth 100000 in
theorem walk (a0 : Int) (a1 : Int) (w : World) (w0 : (Lit.int .u64 a0).wf = true) (w1 : (Lit.int .u8 a1).wf = true) (hT : Bit.Tz w) :
    Calls Tryd.prog 6 #[.int .u64 a0, .int .u8 a1] w fun e w' => e = .returned (.bool true) ∧ Below w.heap.size w w' := by
  have HT := Lib.hid hT
  clear hT
  have hg := bounds_u64 w0
  have hn := bounds_u8 w1
  obtain ⟨d, hd⟩ : ∃ d : Nat, (d : Int) = a1 % 20 := ⟨(a1 % 20).toNat, by omega⟩
  have hd20 : d < 20 := by omega
  have hdw : IntKind.u64.wrap (d : Int) = d := by rw [u64_wrap]; omega
  have hmod : Int.tmod a1 20 = (d : Int) := by rw [Int.tmod_eq_emod_of_nonneg hn.1]; omega
  have hmod' : a1 % 20 = (d : Int) := hd.symm
  obtain ⟨l, hl⟩ : ∃ l, l = IntKind.u64.wrap (a0 + d) := ⟨_, rfl⟩
  have hl2 : l = (a0 + d) % 18446744073709551616 := by rw [hl, u64_wrap]
  have HLE := Lib.hid (show l < a0 ∨ (a0 ≤ l ∧ l = a0 + d) by omega)
  have HG := Lib.hid hg
  have HL2 := Lib.hid (show 0 ≤ l ∧ l < 18446744073709551616 by omega)
  have hl' := hl.symm
  obtain ⟨hn0, hn1⟩ := hn
  clear w0 w1 hg hd hl hl2
  by_cases hlt : l < a0
  · go_enter Tryd.func6, Tryd.ntmps6
    go_wp2_with fail
    refine (wakes_any _ HT.out).mono ?_
    rintro e w1 ⟨rfl, hb⟩
    go_wp2_with fail
    go_ret
    exact ⟨rfl, hb⟩
  · have hle : a0 ≤ l := by omega
    have HLD := Lib.hid (show l = a0 + d by have := HLE.out; omega)
    clear hlt
    go_enter Tryd.func6, Tryd.ntmps6
    go_wp2_with fail
    refine (new_yes 4 1 a0 l _ (by simp [mayP, hle]) (by exact HG.out.1) (by exact HL2.out.2)).mono ?_
    rintro e w1 ⟨p, R, rfl, hs, hR, hb⟩
    have O1 := Lib.hid (Own.of hs hR (Below.refl _ w) hb HT.out)
    clear hs hR hb
    go_wp2_with fail
    refine (wakes_any _ O1.out.tw).mono ?_
    rintro e w2 ⟨rfl, hb⟩
    have O2 := Lib.hid (O1.out.on hb)
    clear hb O1
    go_wp2_with fail
    go_loopw [37] (fun i wr => ∃ (k : Nat) (R : List Nat) (S : Sp), k ≤ 25 ∧ i = .int .u64 k ∧ Own w p R S wr ∧ S.last = l ∧ S.gen = a0 + (min k d : Nat)) (fun i _ => 25 - (intOf i).toNat)
    case atStart => exact ⟨0, R, _, by decide, rfl, O2.out, rfl, by simp [Sp.fresh]⟩
    case round =>
      obtain ⟨k, R1, S, hk, rfl, ho, hla, hge⟩ := hrel
      clear O2
      have HO := Lib.hid ho
      have HLA := Lib.hid hla
      have HGE := Lib.hid hge
      by_cases hkt : k < 25
      · have hkt' : (k : Int) < 25 := by omega
        have hkw : IntKind.u64.wrap ((k : Int) + 1) = (k : Int) + 1 := by rw [u64_wrap]; omega
        obtain ⟨X, hX⟩ : ∃ X, X = IntKind.u64.wrap (a0 + (k : Int)) := ⟨_, rfl⟩
        obtain ⟨W, hW⟩ : ∃ W, W = IntKind.u64.wrap (X + 1) := ⟨_, rfl⟩
        have hX2 : X = (a0 + (k : Int)) % 18446744073709551616 := by rw [hX, u64_wrap]
        have hW2 : W = (X + 1) % 18446744073709551616 := by rw [hW, u64_wrap]
        have hXX := hX.symm
        have hWW := hW.symm
        have HXW := Lib.hid (And.intro hX2 hW2)
        by_cases hkd : k < d
        · have hlt : S.gen < S.last := by rw [hge, hla, HLD.out]; omega
          obtain ⟨y1, y2, y3⟩ := step_yes hlt
          have hWe : W = a0 + (k : Int) + 1 := by have := HLD.out; have := HL2.out; have := HG.out; omega
          have hN : stepN S = W := by rw [y2, hge, hWe, show min k d = k by omega]
          have hWl : W ≤ l := by rw [hWe, HLD.out]; omega
          have hWa : a0 < W := by omega
          have HN := Lib.hid hN
          have HY1 := Lib.hid y1
          have HSG := Lib.hid (show S.step.gen = W ∧ S.step.last = l by rw [y3]; exact ⟨by show S.gen + 1 = W; rw [← hN, y2], hla⟩)
          have HWE := Lib.hid hWe
          clear ho hla hge hlt y1 y2 y3 hN hX hW hX2 hW2 hWe
          go_wp2_with fail
          refine (step_any _ HO.out.at_).mono ?_
          rintro e w3 ⟨rfl, hk3⟩
          rw [HN.out, HY1.out]
          obtain ⟨R3, o3, _, _⟩ := HO.out.kept hk3
          have O3 := Lib.hid o3
          clear hk3 o3
          go_wp2_with fail
          refine (gen_any _ O3.out.at_).mono ?_
          rintro e w4 ⟨rfl, hb⟩
          rw [HSG.out.1]
          have O4 := Lib.hid (O3.out.on hb)
          clear hb
          go_wp2_with fail
          go_roundw
          case rel => exact ⟨k + 1, R3, S.step, by omega, by go_num, O4.out, HSG.out.2, by rw [HSG.out.1, HWE.out, show min (k + 1) d = k + 1 by omega]; omega⟩
          case measure => simp [intOf]; omega
        · have hlt : ¬ S.gen < S.last := by rw [hge, hla, HLD.out]; omega
          obtain ⟨y1, y2, y3⟩ := step_no hlt
          have HNO := Lib.hid (show ¬ (W ≤ l ∧ a0 < W) by have := HLD.out; have := HL2.out; have := HG.out; omega)
          have HY1 := Lib.hid y1
          have HY2 := Lib.hid y2
          have HY3 := Lib.hid y3
          have HGL := Lib.hid (show S.gen = l by rw [hge, HLD.out, show min k d = d by omega])
          have HGN := Lib.hid (show S.gen = a0 + (min (k + 1) d : Nat) by rw [hge, show min k d = d by omega, show min (k + 1) d = d by omega])
          clear ho hla hge hlt y1 y2 y3 hX hW hX2 hW2
          by_cases hwl : W ≤ l
          · have hwa : W ≤ a0 := by have := HNO.out; omega
            go_wp2_with fail
            refine (step_any _ HO.out.at_).mono ?_
            rintro e w3 ⟨rfl, hk3⟩
            rw [HY1.out, HY2.out]
            rw [HY3.out] at hk3
            obtain ⟨R3, o3, _, _⟩ := HO.out.kept hk3
            have O3 := Lib.hid o3
            clear hk3 o3
            go_wp2_with fail
            refine (gen_any _ O3.out.at_).mono ?_
            rintro e w4 ⟨rfl, hb⟩
            rw [HGL.out]
            have O4 := Lib.hid (O3.out.on hb)
            clear hb
            go_wp2_with fail
            go_roundw
            case rel => exact ⟨k + 1, R3, S, by omega, by go_num, O4.out, HLA.out, HGN.out⟩
            case measure => simp [intOf]; omega
          · have hwl' : l < W := by omega
            clear hwl
            go_wp2_with fail
            refine (step_any _ HO.out.at_).mono ?_
            rintro e w3 ⟨rfl, hk3⟩
            rw [HY1.out, HY2.out]
            rw [HY3.out] at hk3
            obtain ⟨R3, o3, _, _⟩ := HO.out.kept hk3
            have O3 := Lib.hid o3
            clear hk3 o3
            go_wp2_with fail
            refine (gen_any _ O3.out.at_).mono ?_
            rintro e w4 ⟨rfl, hb⟩
            rw [HGL.out]
            have O4 := Lib.hid (O3.out.on hb)
            clear hb
            go_wp2_with fail
            go_roundw
            case rel => exact ⟨k + 1, R3, S, by omega, by go_num, O4.out, HLA.out, HGN.out⟩
            case measure => simp [intOf]; omega
      · have B := Lib.hid ho.bel
        clear ho hla hge
        go_wp2_with fail
        go_ret
        exact ⟨rfl, B.out⟩

set_option maxRecDepth 100000 in
theorem contract (H : Type) (enc : TypeId × Value → H) (W : World) (base : Nat) (args : Array Value) (ds gs : List (DataW H)) (before : List MemPlace)
    (hval0 : ∀ (j : Nat) t v, Tryd.f6.params[j]? = some t → args[j]? = some v → Value.okWide Tryd.prog W .any base t v)
    (hW : DataW.Whole enc Tryd.prog Tryd.f6.params.toList Rows.spaceGensSpec.vars false W args.toList ds gs before)
    (hlm : laidMet Tryd.prog Rows.spaceGensRow.laid W) :
    Calls Tryd.prog 6 args W fun e W' => ∃ v, e = .returned v ∧ Rows.spaceGensSpec.post enc Tryd.prog Tryd.f6 false true false false W args v W' := by
  have hval : ∀ (j : Nat) t v, Tryd.f6.params[j]? = some t → args[j]? = some v → Value.okWide Tryd.prog W .any base t v := hval0
  have hW' := hW
  obtain ⟨p, q, hA0, hV, rfl, hfz, hnd⟩ := hW
  have hA : DataW.TrodAll enc Tryd.prog W 0 (fun _ => true) true Tryd.f6.params.toList args.toList ds p := hA0
  rw [Tryd.params6] at hA hval
  obtain ⟨v0, vs0, d0, ds0, p0, q0, hargs, rfl, rfl, h0, r0⟩ := trodAll_cons hA
  obtain ⟨v1, vs1, d1, ds1, p1, q1, rfl, rfl, rfl, h1, r1⟩ := trodAll_cons r0
  obtain ⟨rfl, rfl, rfl⟩ := trodAll_nil r1
  obtain rfl : args = #[v0, v1] := by cases args; simp_all
  obtain ⟨rfl, rfl⟩ := trodVars_none hV
  obtain ⟨a0, rfl, rfl, rfl, w0⟩ := open_int Tryd.underlying23 (hval 0 23 v0 rfl rfl) h0
  obtain ⟨a1, rfl, rfl, rfl, w1⟩ := open_int Tryd.underlying5 (hval 1 5 v1 rfl rfl) h1
  clear hA0 hval0
  refine (walk a0 a1 W w0 w1 (Bit.tz_of hlm)).mono fun e W' ⟨he, bel⟩ => ?_
  subst he
  exact ⟨_, rfl, _, _, _, [], _, [], hW', trodAll_mk1 (shut_bool Tryd.underlying4 _), (trodAll_cons_mk (shut_int Tryd.underlying23 w0) (trodAll_cons_mk (shut_int Tryd.underlying5 w1) trodAll_mk0)), rfl, bel.frame _, fun h => by cases h⟩

noncomputable def laidWorld (os : Os) : World :=
  { World.holding Tryd.prog os ⟨#[], #[], []⟩ with heap := (((World.holding Tryd.prog os ⟨#[], #[], []⟩).heap).modify 0 fun | .cells _ t frozen => .cells (#[.int .u8 0, .int .u8 1, .int .u8 56, .int .u8 2, .int .u8 57, .int .u8 49, .int .u8 28, .int .u8 3, .int .u8 61, .int .u8 58, .int .u8 42, .int .u8 50, .int .u8 38, .int .u8 29, .int .u8 17, .int .u8 4, .int .u8 62, .int .u8 47, .int .u8 59, .int .u8 36, .int .u8 45, .int .u8 43, .int .u8 51, .int .u8 22, .int .u8 53, .int .u8 39, .int .u8 33, .int .u8 30, .int .u8 24, .int .u8 18, .int .u8 12, .int .u8 5, .int .u8 63, .int .u8 55, .int .u8 48, .int .u8 27, .int .u8 60, .int .u8 41, .int .u8 37, .int .u8 16, .int .u8 46, .int .u8 35, .int .u8 44, .int .u8 21, .int .u8 52, .int .u8 32, .int .u8 23, .int .u8 11, .int .u8 54, .int .u8 26, .int .u8 40, .int .u8 15, .int .u8 34, .int .u8 20, .int .u8 31, .int .u8 10, .int .u8 25, .int .u8 14, .int .u8 19, .int .u8 9, .int .u8 13, .int .u8 8, .int .u8 7, .int .u8 6]) t frozen | o => o) }
theorem laid_met (os : Os) : laidMet Tryd.prog Rows.spaceGensRow.laid ((laidWorld os).forCall (fun _ _ => 0) ⟨#[], #[.int .u64 0, .int .u8 0], []⟩).memory :=
  laidMet_of_run' 8 (by kernel_rfl) (by kernel_rfl)
theorem reads (os : Os) {H : Type} (enc : TypeId × Value → H) : ∃ places, DataW.whole enc Tryd.prog ((laidWorld os).forCall (fun _ _ => 0) ⟨#[], #[.int .u64 0, .int .u8 0], []⟩).memory Tryd.f6.params.toList Rows.spaceGensSpec.vars false (#[.int .u64 0, .int .u8 0] : Array Value).toList 8 = some ([.lit (.int .u64 0), .lit (.int .u8 0)], [], places) :=
  ⟨[], by kernel_rfl⟩

set_option maxRecDepth 100000 in
theorem lifted (os : Os) (started : os.Started) (H : Type) (enc : TypeId × Value → H) (F : Stop.Interp) :
    ReturnsInHanded {} Tryd.checked os 6 .any ((OpenSpec.ofChange Rows.spaceGensSpec).preRow enc Tryd.prog Tryd.f6 Rows.spaceGensRow.domain false Rows.spaceGensRow.laid) (((OpenSpec.ofChange Rows.spaceGensSpec).at F).post enc Tryd.prog Tryd.f6 false true false false) := by
  obtain ⟨places, hx⟩ := reads os enc
  refine returnsInHanded_of_row (C := Tryd.checked) (s := OpenSpec.ofChange Rows.spaceGensSpec) own started (by kernel_rfl) Tryd.func6
    (witness_row_at (enc := enc) (C := Tryd.checked) false (laidWorld os) #[.int .u64 0, .int .u8 0] rfl (by kernel_rfl) (by kernel_rfl) (by kernel_rfl)
      (OpenSpec.preRow_of_cond 8 hx (by kernel_rfl) (fun k hk => by cases hk) (by kernel_rfl) (laid_met os))) ?_
  intro W base args ds gs before hval hW _ _ _ hL _ _
  exact contract H enc W base args ds gs before hval hW hL

theorem said : Rows.SpaceGensSaid :=
  OpenClaim.holds_of_cond 6 Tryd.f6 rfl rfl rfl rfl rfl rfl rfl ⟨rfl, rfl, rfl, rfl, rfl⟩ rfl rfl rfl rfl rfl (by kernel_rfl) Tryd.func6 (by kernel_rfl)
    (of_decide_eq_true (by kernel_rfl)) (by unfold Func.isWrapper; first | (rw [if_pos (by decide +kernel)]; kernel_rfl) | (rw [if_neg (by decide +kernel)]; exact ⟨rfl, rfl⟩))
    (fun os started H enc _ F => by rw [OpenClaim.pre_eq_preRow]; exact lifted os started H enc F)

theorem plain (f : FuncId) (fn : Func) (hf : Tryd.pinned.checked.prog.funcNamed "treenail/treenaillaw10.SpaceGens" = some f) (hfn : Tryd.pinned.checked.prog.funcs[f]? = some fn) :
    false = Tryd.pinned.checked.prog.looks [] ∧ ∀ (j : Nat) t, fn.params[j]? = some t → Tryd.pinned.checked.prog.wantsStandIn t = false := by
  obtain rfl : f = 6 := Option.some.inj ((show Tryd.prog.funcNamed "treenail/treenaillaw10.SpaceGens" = some 6 by kernel_rfl).symm.trans hf) |>.symm
  obtain rfl : fn = Tryd.f6 := (Option.some.inj (Tryd.func6.symm.trans hfn)).symm
  refine ⟨by kernel_rfl, fun j t ht => ?_⟩
  rw [Tryd.params6] at ht
  rcases j with _ | _ | j
  · obtain rfl : t = 23 := by simpa using ht.symm
    exact (show Tryd.prog.wantsStandIn 23 = false by kernel_rfl)
  · obtain rfl : t = 5 := by simpa using ht.symm
    exact (show Tryd.prog.wantsStandIn 5 = false by kernel_rfl)
  · simp at ht

/-- THE STATEMENT -/
theorem proved : Rows.SpaceGensCardSaid :=
  Claim7.holds_tied_plain_at .later [] _ _ _ _ said (fun _ h => by cases h) (by kernel_rfl) (fun _ h => by cases h) spaceGens_row_tie rfl ⟨rfl, rfl⟩ (by kernel_rfl) rfl plain (by kernel_rfl)
#print axioms proved
end Go.Proofs.YtkflccecdjfkiaaDoor.spaceGens
