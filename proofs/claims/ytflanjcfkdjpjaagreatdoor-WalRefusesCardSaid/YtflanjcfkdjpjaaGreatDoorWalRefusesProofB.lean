/-
  The law WalRefuses holds: rings that may not be, and nil ones, are refused. Conditions: none but the row's own.
-/
import Derived.Test.YtflanjcfkdjpjaaGreatDoorRows
import Derived.Test.YtflanjcfkdjpjaaGreatDoorL15
import Derived.Test.YtflanjcfkdjpjaaGreatDoorCards
import Derived.Test.YtflanjcfkdjpjaaGreatDoorTie
import Derived.Test.YtflanjcfkdjpjaaGreatDoorL16
import Derived.WalkKit
import Derived.ProofKit
import Derived.OpenShut
import Derived.ShutString
import Derived.ChangeOld
import Derived.Below
import Derived.Carry
import Derived.Deep.DeepHandedRow

import Derived.Lib.LaidTab
namespace Go.Proofs.YtflanjcfkdjpjaaGreatDoor.walRefuses
open Go.ChangeShapes Go.WideShapes Go.ChangeAt Go.RowKit
open Go.Proofs.YtflanjcfkdjpjaaGreatDoor
open Go.ChangeMaps (open_string shut_string)
set_option linter.unusedVariables false

theorem own : ownKnob Tryz.prog.godebug = none := by kernel_rfl
theorem laidOut : laidOutB Tryz.prog = true := by kernel_rfl

theorem len2 {α : Type} : ∀ l : List α, l.length = 2 → ∃ z0 z1, l = [z0, z1]
  | [z0, z1], _ => ⟨z0, z1, rfl⟩

open Go.Proofs.YtflanjcfkdjpjaaGreatDoor.Wal Go.Proofs.YtflanjcfkdjpjaaGreatDoor.Mir Go.Proofs.YtflanjcfkdjpjaaGreatDoor.Rem Go.Proofs.YtflanjcfkdjpjaaGreatDoor.Dev Go.Proofs.YtflanjcfkdjpjaaGreatDoor.Rec

/-! ### STEP 1: THE WALK -/
set_option maxHeartbeats 4000000 in
set_option maxRecDepth 100000 in
theorem walk (a0x0 a0x1 : Int) (w : World) (w0x0 : (Lit.int .i64 a0x0).wf = true) (w0x1 : (Lit.int .i64 a0x1).wf = true) :
    Calls Tryz.prog 5 #[.agg #[.int .i64 a0x0, .int .i64 a0x1]] w fun e w' => e = .returned (.bool true) ∧ Below w.heap.size w w' := by
  obtain ⟨hx0, hx1⟩ := And.intro (bounds_i64 w0x0) (bounds_i64 w0x1)
  clear w0x0 w0x1
  obtain ⟨hb1, hb2⟩ := hx0
  obtain ⟨hb3, hb4⟩ := hx1
  obtain ⟨g0, hg0⟩ : ∃ x, x = w.alloc (.cells #[.int .i64 a0x0, .int .i64 a0x1] 70) := ⟨_, rfl⟩
  have HB0 := Lib.hid (show Below w.heap.size w g0 from by rw [hg0]; exact Rec.below_new _ _)
  have HX0 := Lib.hid (show Has g0 w.heap.size 70 [.int .i64 a0x0, .int .i64 a0x1] from by rw [hg0]; exact Has.new _ _ _)
  obtain ⟨u0, hu0⟩ : ∃ x, x = w.heap.size := ⟨_, rfl⟩
  rw [← hu0] at HX0
  have HU0 := Lib.hid hu0
  go_enter Tryz.func5, Tryz.ntmps5
  go_wp2_with fail
  rw [← hg0, ← hu0]
  clear hg0 hu0
  refine (fresh_any g0).mono ?_
  rintro e w1 ⟨pa, pb, mm, tb, bb, q, S, rfl, hm, h0, h1⟩
  have HPL := Lib.hid (Pl.new h0 h1)
  have hx1 := HX0.out.below hm.below HX0.out.lt
  have HM1 := Lib.hid (hm.later (Rec.below_new w1 (.cells #[.pointer (some ⟨pa, 0, none⟩), .pointer (some ⟨pb, 0, none⟩)] 26)))
  have hx2 := hx1.alloc (.cells #[.pointer (some ⟨pa, 0, none⟩), .pointer (some ⟨pb, 0, none⟩)] 26)
  have HX2 := Lib.hid hx2
  have x0 := hx2.cell 0
  have x1 := hx2.cell 1
  simp only [List.getElem?_cons_zero, List.getElem?_cons_succ] at x0 x1
  clear hm h0 h1 hx1 hx2
  by_cases hr : RgB a0x0 a0x1
  · have HR := Lib.hid hr
    obtain ⟨r1, r2, r3, r4⟩ := hr
    have r5 : a0x0 ≤ 16 := by omega
    have r6 : a0x1 ≤ 16 - a0x0 := by omega
    have hw : IntKind.i64.wrap (16 - a0x0) = 16 - a0x0 := IntWalk.i64_in _ (by omega)
    clear r4
    go_wp2_with fail
    refine (Open_yes HM1.out HR.out (rgB_rg HR.out (by decide) (by decide) (by decide) (by decide)) HPL.out (by decide) (by decide)).mono ?_
    rintro e w2 ⟨lb, tl, Z, r, gg, Rr, S', v, rfl, hlg, _, _, _, _, _, hrz, _, _⟩
    have HB2 := Lib.hid hlg.below
    have hx3 := HX0.out.below hlg.below HX0.out.lt
    have x0 := hx3.cell 0
    have x1 := hx3.cell 1
    simp only [List.getElem?_cons_zero, List.getElem?_cons_succ] at x0 x1
    clear hx3 hlg hrz HM1 HX2
    go_wp2_with fail
    refine (ring_any _).mono ?_
    rintro e w3 ⟨rfl, hb⟩
    have HB3 := Lib.hid (HB2.out.trans (hb.mono HB2.out.size))
    clear hb
    go_wp2_with fail
    refine (Open_nil (.pointer none) _ _ _ _ _).mono ?_
    rintro e w4 ⟨rfl, hb⟩
    have HB4 := Lib.hid (HB3.out.trans (hb.mono HB3.out.size))
    clear hb
    go_wp2_with fail
    refine (Next_n _).mono ?_
    rintro e w5 ⟨rfl, rfl⟩
    go_wp2_with fail
    refine (Cut_nil _).mono ?_
    rintro e w5 ⟨rfl, rfl⟩
    go_wp2_with fail
    refine (wakes_any _).mono ?_
    rintro e w5 ⟨rfl, hb⟩
    have HB5 := Lib.hid (below_nw (HB4.out.trans (hb.mono HB4.out.size)) (.cells #[.int .u8 2, .string ⟨#[97]⟩, .string ⟨#[]⟩, .int .u64 0] 67))
    clear hb
    go_wp2_with fail
    refine (Append_nil _ _).mono ?_
    rintro e w6 ⟨rfl, rfl⟩
    go_wp2_with fail
    refine (Sync_nil _).mono ?_
    rintro e w6 ⟨rfl, rfl⟩
    go_wp2_with fail
    refine (Left_n _).mono ?_
    rintro e w6 ⟨rfl, rfl⟩
    go_wp2_with fail
    refine (Room_nil _).mono ?_
    rintro e w6 ⟨rfl, rfl⟩
    go_wp2
    go_ret
    exact ⟨rfl, HB0.out.trans (HB5.out.mono HB0.out.size)⟩
  · have HN := Lib.hid hr
    have hcase : a0x1 < 2 ∨ (2 ≤ a0x1 ∧ 256 < a0x1) ∨ (2 ≤ a0x1 ∧ a0x1 ≤ 256 ∧ a0x0 < 0) ∨ (2 ≤ a0x1 ∧ a0x1 ≤ 256 ∧ 0 ≤ a0x0 ∧ 16 < a0x0) ∨ (2 ≤ a0x1 ∧ a0x1 ≤ 256 ∧ 0 ≤ a0x0 ∧ a0x0 ≤ 16 ∧ 16 - a0x0 < a0x1) := by
      by_cases h1 : a0x1 < 2
      · exact .inl h1
      · by_cases h2 : 256 < a0x1
        · exact .inr (.inl ⟨by omega, h2⟩)
        · by_cases h3 : a0x0 < 0
          · exact .inr (.inr (.inl ⟨by omega, by omega, h3⟩))
          · by_cases h4 : 16 < a0x0
            · exact .inr (.inr (.inr (.inl ⟨by omega, by omega, by omega, h4⟩)))
            · refine .inr (.inr (.inr (.inr ⟨by omega, by omega, by omega, by omega, ?_⟩)))
              have : ¬ (a0x0 ≤ 16 - a0x1) := fun h => hr ⟨by omega, by omega, by omega, h⟩
              omega
    clear hr
    go_wp2_with fail
    refine (Open_no HM1.out HN.out).mono ?_
    rintro e w2 ⟨rfl, hb⟩
    have HB2 := Lib.hid (HM1.out.below.trans (hb.mono HM1.out.below.size))
    have hx3 := HX2.out.below hb HX2.out.lt
    have x0 := hx3.cell 0
    have x1 := hx3.cell 1
    simp only [List.getElem?_cons_zero, List.getElem?_cons_succ] at x0 x1
    clear hx3 hb HM1 HX2 HPL
    rcases hcase with r1 | ⟨r1, r2⟩ | ⟨r1, r2, r3⟩ | ⟨r1, r2, r3, r4⟩ | ⟨r1, r2, r3, r4, r5⟩
    · have r1' : ¬ 2 ≤ a0x1 := by omega
      clear r1
      go_wp2_with fail
      refine (ring_any _).mono ?_
      rintro e w3 ⟨rfl, hb⟩
      have HB3 := Lib.hid (HB2.out.trans (hb.mono HB2.out.size))
      clear hb
      go_wp2_with fail
      refine (Open_nil (.pointer none) _ _ _ _ _).mono ?_
      rintro e w4 ⟨rfl, hb⟩
      have HB4 := Lib.hid (HB3.out.trans (hb.mono HB3.out.size))
      clear hb
      go_wp2_with fail
      refine (Next_n _).mono ?_
      rintro e w5 ⟨rfl, rfl⟩
      go_wp2_with fail
      refine (Cut_nil _).mono ?_
      rintro e w5 ⟨rfl, rfl⟩
      go_wp2_with fail
      refine (wakes_any _).mono ?_
      rintro e w5 ⟨rfl, hb⟩
      have HB5 := Lib.hid (below_nw (HB4.out.trans (hb.mono HB4.out.size)) (.cells #[.int .u8 2, .string ⟨#[97]⟩, .string ⟨#[]⟩, .int .u64 0] 67))
      clear hb
      go_wp2_with fail
      refine (Append_nil _ _).mono ?_
      rintro e w6 ⟨rfl, rfl⟩
      go_wp2_with fail
      refine (Sync_nil _).mono ?_
      rintro e w6 ⟨rfl, rfl⟩
      go_wp2_with fail
      refine (Left_n _).mono ?_
      rintro e w6 ⟨rfl, rfl⟩
      go_wp2_with fail
      refine (Room_nil _).mono ?_
      rintro e w6 ⟨rfl, rfl⟩
      go_wp2
      go_ret
      exact ⟨rfl, HB0.out.trans (HB5.out.mono HB0.out.size)⟩
    · have r2' : ¬ a0x1 ≤ 256 := by omega
      clear r2
      go_wp2_with fail
      refine (ring_any _).mono ?_
      rintro e w3 ⟨rfl, hb⟩
      have HB3 := Lib.hid (HB2.out.trans (hb.mono HB2.out.size))
      clear hb
      go_wp2_with fail
      refine (Open_nil (.pointer none) _ _ _ _ _).mono ?_
      rintro e w4 ⟨rfl, hb⟩
      have HB4 := Lib.hid (HB3.out.trans (hb.mono HB3.out.size))
      clear hb
      go_wp2_with fail
      refine (Next_n _).mono ?_
      rintro e w5 ⟨rfl, rfl⟩
      go_wp2_with fail
      refine (Cut_nil _).mono ?_
      rintro e w5 ⟨rfl, rfl⟩
      go_wp2_with fail
      refine (wakes_any _).mono ?_
      rintro e w5 ⟨rfl, hb⟩
      have HB5 := Lib.hid (below_nw (HB4.out.trans (hb.mono HB4.out.size)) (.cells #[.int .u8 2, .string ⟨#[97]⟩, .string ⟨#[]⟩, .int .u64 0] 67))
      clear hb
      go_wp2_with fail
      refine (Append_nil _ _).mono ?_
      rintro e w6 ⟨rfl, rfl⟩
      go_wp2_with fail
      refine (Sync_nil _).mono ?_
      rintro e w6 ⟨rfl, rfl⟩
      go_wp2_with fail
      refine (Left_n _).mono ?_
      rintro e w6 ⟨rfl, rfl⟩
      go_wp2_with fail
      refine (Room_nil _).mono ?_
      rintro e w6 ⟨rfl, rfl⟩
      go_wp2
      go_ret
      exact ⟨rfl, HB0.out.trans (HB5.out.mono HB0.out.size)⟩
    · have r3' : ¬ 0 ≤ a0x0 := by omega
      clear r3
      go_wp2_with fail
      refine (ring_any _).mono ?_
      rintro e w3 ⟨rfl, hb⟩
      have HB3 := Lib.hid (HB2.out.trans (hb.mono HB2.out.size))
      clear hb
      go_wp2_with fail
      refine (Open_nil (.pointer none) _ _ _ _ _).mono ?_
      rintro e w4 ⟨rfl, hb⟩
      have HB4 := Lib.hid (HB3.out.trans (hb.mono HB3.out.size))
      clear hb
      go_wp2_with fail
      refine (Next_n _).mono ?_
      rintro e w5 ⟨rfl, rfl⟩
      go_wp2_with fail
      refine (Cut_nil _).mono ?_
      rintro e w5 ⟨rfl, rfl⟩
      go_wp2_with fail
      refine (wakes_any _).mono ?_
      rintro e w5 ⟨rfl, hb⟩
      have HB5 := Lib.hid (below_nw (HB4.out.trans (hb.mono HB4.out.size)) (.cells #[.int .u8 2, .string ⟨#[97]⟩, .string ⟨#[]⟩, .int .u64 0] 67))
      clear hb
      go_wp2_with fail
      refine (Append_nil _ _).mono ?_
      rintro e w6 ⟨rfl, rfl⟩
      go_wp2_with fail
      refine (Sync_nil _).mono ?_
      rintro e w6 ⟨rfl, rfl⟩
      go_wp2_with fail
      refine (Left_n _).mono ?_
      rintro e w6 ⟨rfl, rfl⟩
      go_wp2_with fail
      refine (Room_nil _).mono ?_
      rintro e w6 ⟨rfl, rfl⟩
      go_wp2
      go_ret
      exact ⟨rfl, HB0.out.trans (HB5.out.mono HB0.out.size)⟩
    · have r4' : ¬ a0x0 ≤ 16 := by omega
      clear r4
      go_wp2_with fail
      refine (ring_any _).mono ?_
      rintro e w3 ⟨rfl, hb⟩
      have HB3 := Lib.hid (HB2.out.trans (hb.mono HB2.out.size))
      clear hb
      go_wp2_with fail
      refine (Open_nil (.pointer none) _ _ _ _ _).mono ?_
      rintro e w4 ⟨rfl, hb⟩
      have HB4 := Lib.hid (HB3.out.trans (hb.mono HB3.out.size))
      clear hb
      go_wp2_with fail
      refine (Next_n _).mono ?_
      rintro e w5 ⟨rfl, rfl⟩
      go_wp2_with fail
      refine (Cut_nil _).mono ?_
      rintro e w5 ⟨rfl, rfl⟩
      go_wp2_with fail
      refine (wakes_any _).mono ?_
      rintro e w5 ⟨rfl, hb⟩
      have HB5 := Lib.hid (below_nw (HB4.out.trans (hb.mono HB4.out.size)) (.cells #[.int .u8 2, .string ⟨#[97]⟩, .string ⟨#[]⟩, .int .u64 0] 67))
      clear hb
      go_wp2_with fail
      refine (Append_nil _ _).mono ?_
      rintro e w6 ⟨rfl, rfl⟩
      go_wp2_with fail
      refine (Sync_nil _).mono ?_
      rintro e w6 ⟨rfl, rfl⟩
      go_wp2_with fail
      refine (Left_n _).mono ?_
      rintro e w6 ⟨rfl, rfl⟩
      go_wp2_with fail
      refine (Room_nil _).mono ?_
      rintro e w6 ⟨rfl, rfl⟩
      go_wp2
      go_ret
      exact ⟨rfl, HB0.out.trans (HB5.out.mono HB0.out.size)⟩
    · have r5' : decide (a0x1 ≤ 16 - a0x0) = false := decide_eq_false (by omega)
      have hw : IntKind.i64.wrap (16 - a0x0) = 16 - a0x0 := IntWalk.i64_in _ (by omega)
      clear r5
      go_wp2_with fail
      refine (ring_any _).mono ?_
      rintro e w3 ⟨rfl, hb⟩
      have HB3 := Lib.hid (HB2.out.trans (hb.mono HB2.out.size))
      clear hb
      go_wp2_with fail
      refine (Open_nil (.pointer none) _ _ _ _ _).mono ?_
      rintro e w4 ⟨rfl, hb⟩
      have HB4 := Lib.hid (HB3.out.trans (hb.mono HB3.out.size))
      clear hb
      go_wp2_with fail
      refine (Next_n _).mono ?_
      rintro e w5 ⟨rfl, rfl⟩
      go_wp2_with fail
      refine (Cut_nil _).mono ?_
      rintro e w5 ⟨rfl, rfl⟩
      go_wp2_with fail
      refine (wakes_any _).mono ?_
      rintro e w5 ⟨rfl, hb⟩
      have HB5 := Lib.hid (below_nw (HB4.out.trans (hb.mono HB4.out.size)) (.cells #[.int .u8 2, .string ⟨#[97]⟩, .string ⟨#[]⟩, .int .u64 0] 67))
      clear hb
      go_wp2_with fail
      refine (Append_nil _ _).mono ?_
      rintro e w6 ⟨rfl, rfl⟩
      go_wp2_with fail
      refine (Sync_nil _).mono ?_
      rintro e w6 ⟨rfl, rfl⟩
      go_wp2_with fail
      refine (Left_n _).mono ?_
      rintro e w6 ⟨rfl, rfl⟩
      go_wp2_with fail
      refine (Room_nil _).mono ?_
      rintro e w6 ⟨rfl, rfl⟩
      go_wp2
      go_ret
      exact ⟨rfl, HB0.out.trans (HB5.out.mono HB0.out.size)⟩

set_option maxRecDepth 100000 in
theorem contract (H : Type) (enc : TypeId × Value → H) (W : World) (base : Nat) (args : Array Value) (ds gs : List (DataW H)) (before : List MemPlace)
    (hval0 : ∀ (j : Nat) t v, Tryz.f5.params[j]? = some t → args[j]? = some v → Value.okWide Tryz.prog W .any base t v)
    (hW : DataW.Whole enc Tryz.prog Tryz.f5.params.toList Rows.walRefusesSpec.vars false W args.toList ds gs before) :
    Calls Tryz.prog 5 args W fun e W' => ∃ v, e = .returned v ∧ Rows.walRefusesSpec.post enc Tryz.prog Tryz.f5 false true false false W args v W' := by
  have hval : ∀ (j : Nat) t v, Tryz.f5.params[j]? = some t → args[j]? = some v → Value.okWide Tryz.prog W .any base t v := hval0
  have hW' := hW
  obtain ⟨p, q, hA0, hV, rfl, hfz, hnd⟩ := hW
  have hA : DataW.TrodAll enc Tryz.prog W 0 (fun _ => true) true Tryz.f5.params.toList args.toList ds p := hA0
  rw [Tryz.params5] at hA hval
  obtain ⟨v0, vs0, d0, ds0, p0, q0, hargs, rfl, rfl, h0, r0⟩ := trodAll_cons hA
  obtain ⟨rfl, rfl, rfl⟩ := trodAll_nil r0
  obtain rfl : args = #[v0] := by cases args; simp_all
  obtain ⟨rfl, rfl⟩ := trodVars_none hV
  have k0 := h0
  have lt0 : ∀ x ∈ p0, x.block < W.heap.size := by obtain ⟨m, hm⟩ := k0; exact DataW.trod_lt m _ _ _ hm
  obtain ⟨cs0, rfl, hl0, hc0⟩ := open_arr Tryz.underlying70 (by kernel_rfl) (by kernel_rfl) (hval 0 70 v0 rfl rfl) h0
  obtain ⟨y0_0, y0_1, rfl⟩ := len2 cs0 hl0
  obtain ⟨a0x0, rfl, w0x0⟩ := open_int_cell Tryz.underlying3 (hc0 0 _ rfl)
  obtain ⟨a0x1, rfl, w0x1⟩ := open_int_cell Tryz.underlying3 (hc0 1 _ rfl)
  clear hA0 hval0
  refine (walk a0x0 a0x1 W w0x0 w0x1).mono fun e W' ⟨he, bel⟩ => ?_
  subst he
  exact ⟨_, rfl, _, _, _, [], _, [], hW', trodAll_mk1 (shut_bool Tryz.underlying4 _), (trodAll_cons_mk (Below.trod laidOut (by kernel_rfl) (of_decide_eq_true (by kernel_rfl)) k0 bel lt0) trodAll_mk0), rfl, bel.frame _, fun h => by cases h⟩

noncomputable def laidWorld (os : Os) : World :=
  { World.holding Tryz.prog os ⟨#[], #[], []⟩ with heap := (((((World.holding Tryz.prog os ⟨#[], #[], []⟩).heap).modify 2 fun | .cells _ t frozen => .cells (#[.int .u8 128, .int .u8 191, .int .u8 160, .int .u8 191, .int .u8 128, .int .u8 159, .int .u8 144, .int .u8 191, .int .u8 128, .int .u8 143, .int .u8 0, .int .u8 0, .int .u8 0, .int .u8 0, .int .u8 0, .int .u8 0, .int .u8 0, .int .u8 0, .int .u8 0, .int .u8 0, .int .u8 0, .int .u8 0, .int .u8 0, .int .u8 0, .int .u8 0, .int .u8 0, .int .u8 0, .int .u8 0, .int .u8 0, .int .u8 0, .int .u8 0, .int .u8 0]) t frozen | o => o)).modify 1 fun | .cells _ t frozen => .cells ((Go.Pinned.utf8FirstZ.map fun z : Nat => Value.int .u8 (z : Int)).toArray) t frozen | o => o) }
theorem laid_met (os : Os) : laidMet Tryz.prog Rows.walRefusesRow.laid ((laidWorld os).forCall (fun _ _ => 0) ⟨#[], #[.agg #[.int .i64 0, .int .i64 0]], []⟩).memory :=
  laidMet_of_run' 8 (by kernel_rfl) (by kernel_rfl)
theorem reads (os : Os) {H : Type} (enc : TypeId × Value → H) : ∃ places, DataW.whole enc Tryz.prog ((laidWorld os).forCall (fun _ _ => 0) ⟨#[], #[.agg #[.int .i64 0, .int .i64 0]], []⟩).memory Tryz.f5.params.toList Rows.walRefusesSpec.vars false (#[.agg #[.int .i64 0, .int .i64 0]] : Array Value).toList 8 = some ([.agg [.lit (.int .i64 0), .lit (.int .i64 0)]], [], places) :=
  ⟨[], by kernel_rfl⟩

set_option maxRecDepth 100000 in
theorem lifted (os : Os) (started : os.Started) (H : Type) (enc : TypeId × Value → H) (F : Stop.Interp) :
    ReturnsInHanded {} Tryz.checked os 5 .any ((OpenSpec.ofChange Rows.walRefusesSpec).preRow enc Tryz.prog Tryz.f5 Rows.walRefusesRow.domain false Rows.walRefusesRow.laid) (((OpenSpec.ofChange Rows.walRefusesSpec).at F).post enc Tryz.prog Tryz.f5 false true false false) := by
  obtain ⟨places, hx⟩ := reads os enc
  refine returnsInHanded_of_row (C := Tryz.checked) (s := OpenSpec.ofChange Rows.walRefusesSpec) own started (by kernel_rfl) Tryz.func5
    (witness_row_at (enc := enc) (C := Tryz.checked) false (laidWorld os) #[.agg #[.int .i64 0, .int .i64 0]] rfl (by kernel_rfl) (by kernel_rfl) (by kernel_rfl)
      (OpenSpec.preRow_of_cond 8 hx (by kernel_rfl) (fun k hk => by cases hk) (by kernel_rfl) (laid_met os))) ?_
  intro W base args ds gs before hval hW _ _ _ hL _ _
  exact contract H enc W base args ds gs before hval hW 

theorem said : Rows.WalRefusesSaid :=
  OpenClaim.holds_of_cond 5 Tryz.f5 rfl rfl rfl rfl rfl rfl rfl ⟨rfl, rfl, rfl, rfl, rfl⟩ rfl rfl rfl rfl rfl (by kernel_rfl) Tryz.func5 (by kernel_rfl)
    (of_decide_eq_true (by kernel_rfl)) (by unfold Func.isWrapper; first | (rw [if_pos (by decide +kernel)]; kernel_rfl) | (rw [if_neg (by decide +kernel)]; exact ⟨rfl, rfl⟩))
    (fun os started H enc _ F => by rw [OpenClaim.pre_eq_preRow]; exact lifted os started H enc F)

theorem plain (f : FuncId) (fn : Func) (hf : Tryz.pinned.checked.prog.funcNamed "treenail/treenaillaw13.WalRefuses" = some f) (hfn : Tryz.pinned.checked.prog.funcs[f]? = some fn) :
    false = Tryz.pinned.checked.prog.looks [] ∧ ∀ (j : Nat) t, fn.params[j]? = some t → Tryz.pinned.checked.prog.wantsStandIn t = false := by
  obtain rfl : f = 5 := Option.some.inj ((show Tryz.prog.funcNamed "treenail/treenaillaw13.WalRefuses" = some 5 by kernel_rfl).symm.trans hf) |>.symm
  obtain rfl : fn = Tryz.f5 := (Option.some.inj (Tryz.func5.symm.trans hfn)).symm
  refine ⟨by kernel_rfl, fun j t ht => ?_⟩
  rw [Tryz.params5] at ht
  rcases j with _ | j
  · obtain rfl : t = 70 := by simpa using ht.symm
    exact (show Tryz.prog.wantsStandIn 70 = false by kernel_rfl)
  · simp at ht

/-- THE STATEMENT -/
theorem proved : Rows.WalRefusesCardSaid :=
  Claim7.holds_tied_plain_at .later [] _ _ _ _ said (fun _ h => by cases h) (by kernel_rfl) (fun _ h => by cases h) walRefuses_row_tie rfl ⟨rfl, rfl⟩ (by kernel_rfl) rfl plain (by kernel_rfl)
#print axioms proved
end Go.Proofs.YtflanjcfkdjpjaaGreatDoor.walRefuses
