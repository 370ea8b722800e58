/-
  The law TableParses holds: the table of all bytes, of every count of blocks and spares, is the document's, or its error. Conditions: none but the row's own.
-/
import Derived.Test.YtonfafjacmifaaaRows
import Derived.Test.YtonfafjacmifaaaTabL
import Derived.WalkKit
import Derived.ProofKit
import Derived.OpenShut
import Derived.ShutString
import Derived.ChangeOld
import Derived.Below
namespace Go.Proofs.Ytonfafjacmifaaa.tableParses
open Go.ChangeShapes Go.WideShapes Go.ChangeAt Go.RowKit
open Go.ChangeMaps (open_string shut_string)
set_option linter.unusedVariables false      -- a walk need not use every 'w<i>' (that an integer argument fits its kind)

theorem own : ownKnob Try.prog.godebug = none := by kernel_rfl

open Go.Proofs.Ytonfafjacmifaaa.Tab

/-! ### STEP 1: THE WALK: the Go text returns true. 'Grown w w'': the world has at most new blocks (Derived/RowKit3.lean). Part the cases AHEAD of 'go_enter' where a test parts the walk; take each callee by a contract of your own. -/
set_option maxHeartbeats 8000000 in
set_option maxRecDepth 100000 in
theorem walk (a0 : ByteArray) (a1 : Int) (a2 : Int) (w0 : a0.size ≤ maxLen) (w1 : (Lit.int .i64 a1).wf = true) (w2 : (Lit.int .i64 a2).wf = true) (w : World) :
    Calls Try.prog 4 #[.string a0, .int .i64 a1, .int .i64 a2] w fun e w' => e = .returned (.bool true) ∧ Below w.heap.size w w' := by
  unfold maxLen at w0
  go_enter Try.func4, Try.ntmps4
  go_upto_region 1 with fail
  go_cut [0] (fun s wx => ∃ u : ByteArray, s = .string u ∧ u.size ≤ 90 ∧ Below w.heap.size w wx)
  case first =>
    go_wp2
    all_goals (go_meet; exact ⟨_, rfl, by first | omega | (simp; omega), Below.refl _ _⟩)
  case rest =>
    obtain ⟨u, rfl, hu, hb⟩ := hcut
    go_upto_region 2 with fail
    go_cut [29, 30, 31] (fun s l i wx => ∃ (b : Nat) (n k : Int), s = .slice (some ⟨b, 0, none⟩) 2 2 ∧ l = .int .i64 2 ∧ i = .int .i64 0 ∧ Has wx b 37 [.int .i64 a1, .int .i64 a2, .int .i64 n, .int .i64 k] ∧ Below w.heap.size w wx)
    case first =>
      go_wp2
      all_goals (go_meet; exact ⟨_, _, _, rfl, rfl, rfl, Has.new _ _ _, b_nw hb _⟩)
    case rest =>
      obtain ⟨b, n, k, rfl, rfl, rfl, hx, hb2⟩ := hcut
      have HX := Lib.hid hx
      have HB2 := Lib.hid hb2
      clear hb hb2 hx
      go_wp2_with (first | with_reducible refine wl_alloc ?_)
      go_loopw [31] (fun i wr => ∃ c : Nat, c ≤ 2 ∧ i = .int .i64 c ∧ Has wr b 37 [.int .i64 a1, .int .i64 a2, .int .i64 n, .int .i64 k] ∧ Below w.heap.size w wr) (fun i _ => 2 - (intOf i).toNat)
      case atStart => exact ⟨0, by decide, rfl, HX.out, HB2.out⟩
      case round =>
        obtain ⟨c, hc, rfl, hx, hbr⟩ := hrel
        clear HX HB2
        by_cases hlt : c < 2
        · have hlt' : (c : Int) < 2 := by omega
          obtain ⟨X, Y, hX, hY⟩ : ∃ X Y : Int, wr.cell? ⟨b, c * 2, none⟩ = some (.int .i64 X) ∧ wr.cell? ⟨b, c * 2 + 1, none⟩ = some (.int .i64 Y) := by
            match c, hlt with
            | 0, _ => exact ⟨_, _, hx.cell 0, hx.cell 1⟩
            | 1, _ => exact ⟨_, _, hx.cell 2, hx.cell 3⟩
          have HX := Lib.hid hx
          have HB := Lib.hid hbr
          clear hx hbr
          obtain ⟨q, hq⟩ : ∃ q, q = wr.heap.size := ⟨_, rfl⟩
          have hxq : Has (wr.alloc (.cells #[.int .i64 X, .int .i64 Y] 37)) q 37 [.int .i64 X, .int .i64 Y] := by rw [hq]; exact Has.new _ _ _
          have HXQ := Lib.hid hxq
          have HX1 := Lib.hid (HX.out.alloc (.cells #[.int .i64 X, .int .i64 Y] 37))
          have HB1 := Lib.hid (b_nw HB.out (.cells #[.int .i64 X, .int .i64 Y] 37))
          obtain ⟨E, hE⟩ : ∃ E, E = paE u.data.toList X Y := ⟨_, rfl⟩
          have hHE := Lib.hid hE
          clear hxq hE
          go_wp2_with (first | with_reducible refine wl_alloc ?_)
          rw [← hq]
          clear hq hX hY
          refine (parse_any u X Y _ (by omega)).mono ?_
          rintro e w4 ⟨rfl, hb⟩
          rw [← hHE.out]
          have ht4 := TAt.made w4 (psN u.data.toList X Y) (psK u.data.toList X Y) (paM u.data.toList X Y)
          have HX4 := Lib.hid ((HX1.out.below hb HX1.out.lt).alloc (.cells (ta (psN u.data.toList X Y) (psK u.data.toList X Y) (paM u.data.toList X Y)) 25))
          have hxq4 := (HXQ.out.below hb HXQ.out.lt).alloc (.cells (ta (psN u.data.toList X Y) (psK u.data.toList X Y) (paM u.data.toList X Y)) 25)
          have HB4 := Lib.hid (b_nw (b_on HB1.out hb) (.cells (ta (psN u.data.toList X Y) (psK u.data.toList X Y) (paM u.data.toList X Y)) 25))
          have HXQ4 := Lib.hid hxq4
          have HT4 := Lib.hid ht4
          have d0 := hxq4.cell 0
          have d1 := hxq4.cell 1
          simp only [List.getElem?_cons_zero, List.getElem?_cons_succ] at d0 d1
          clear hb ht4 hxq4 HXQ HX1 HB1
          go_wp2_with (first | with_reducible refine wl_alloc ?_)
          refine (refparse_any u X Y _ (by omega)).mono ?_
          rintro e w5 ⟨ro, rl, rc, rfl, hi, hb⟩
          rw [← hHE.out]
          have HR5 := Lib.hid hi
          have HX5 := Lib.hid (HX4.out.below hb HX4.out.lt)
          have hxq5 := HXQ4.out.below hb HXQ4.out.lt
          have ht5 := HT4.out.on hb
          have HB5 := Lib.hid (b_on HB4.out hb)
          clear d0 d1 hi hb HXQ4 HT4 HX4 HB4
          have d0 : w5.cell? ⟨q, 0, none⟩ = some (.int .i64 X) := hxq5.cell 0
          have d1 : w5.cell? ⟨q, 1, none⟩ = some (.int .i64 Y) := hxq5.cell 1
          by_cases h0 : E = 0
          · have hp0 : paE u.data.toList X Y = 0 := by rw [← hHE.out]; exact h0
            obtain ⟨p1, p2⟩ := ps_ok hp0
            have p3 := paM_ok hp0
            have hgood := Lib.hid (pa_good (paE_zero hp0).1 (paE_zero hp0).2)
            rw [p1, p2, p3] at ht5 ⊢
            rw [p3] at HR5
            have e0 := ht5.ld
            subst h0
            clear ht5 hxq5 p1 p2 p3 hp0
            go_wp2_with (first | with_reducible refine wl_alloc ?_)
            refine (same_any X Y _ _ _ (paL u.data.toList) _ HR5.out hgood.out).mono ?_
            rintro e w6 ⟨rfl, hb⟩
            have HX6 := Lib.hid (HX5.out.below hb HX5.out.lt)
            have HB6 := Lib.hid (b_on HB5.out hb)
            clear d0 d1 e0 hb
            go_wp2_with (first | with_reducible refine wl_alloc ?_)
            go_roundw
            case rel => exact ⟨c + 1, by omega, by go_num, HX6.out, HB6.out⟩
            case measure => simp [intOf]; omega
          · have hp0 : paE u.data.toList X Y ≠ 0 := by rw [← hHE.out]; exact h0
            obtain ⟨p1, p2⟩ := ps_bad hp0
            have p3 := paM_no hp0
            rw [p1, p2, p3] at ht5 ⊢
            have e0 := ht5.ld
            have h0' : (E == 0) = false := by simpa using h0
            clear ht5 hxq5 p1 p2 p3 hp0
            go_wp2_with (first | with_reducible refine wl_alloc ?_)
            refine (blocks_any _ _ _ _).mono ?_
            rintro e w6 ⟨rfl, hb⟩
            have HX6 := Lib.hid (HX5.out.below hb HX5.out.lt)
            have HB6 := Lib.hid (b_on HB5.out hb)
            clear d0 d1 e0 hb
            go_wp2_with (first | with_reducible refine wl_alloc ?_)
            go_roundw
            case rel => exact ⟨c + 1, by omega, by go_num, HX6.out, HB6.out⟩
            case measure => simp [intOf]; omega
        · obtain rfl : c = 2 := by omega
          go_wp2_with (first | with_reducible refine wl_alloc ?_)
          refine (wakes_any _).mono ?_
          rintro e w4 ⟨rfl, hb⟩
          have HB := Lib.hid (b_on hbr hb)
          clear hb hx hbr
          go_wp2_with (first | with_reducible refine wl_alloc ?_)
          go_ret
          exact ⟨rfl, HB.out⟩

/-! ### THE ROW's STEP: WRITTEN OUT: LEAVE IT -/
set_option maxRecDepth 100000 in
theorem lifted (os : Os) (started : os.Started) (H : Type) (enc : TypeId × Value → H) :
    ReturnsInHanded {} Try.checked os 4 .any (Rows.tableParsesSpec.pre6 enc Try.prog Try.f4 Rows.tableParsesRow.domain false) (Rows.tableParsesSpec.post enc Try.prog Try.f4 false true false false) := by
  refine returnsInHanded_of_change (C := Try.checked) own started (by kernel_rfl) Try.func4
    (ChangeSpec.witness6 (enc := enc) (C := Try.checked) false ⟨#[], #[.string ByteArray.empty, .int .i64 0, .int .i64 0], []⟩ 8 (by kernel_rfl) (by kernel_rfl) (by kernel_rfl) (by kernel_rfl)) ?_
  intro W base args ds gs before hval0 hW hcnd _
  have hval : ∀ (j : Nat) t v, Try.f4.params[j]? = some t → args[j]? = some v → Value.okWide Try.prog W .any base t v := hval0
  have hW' := hW
  obtain ⟨p, q, hA0, hV, rfl, hfz, hnd⟩ := hW
  have hA : DataW.TrodAll enc Try.prog W 0 (fun _ => true) true Try.f4.params.toList args.toList ds p := hA0
  rw [Try.params4] at hA hval
  obtain ⟨v0, vs0, d0, ds0, p0, q0, hargs, rfl, rfl, h0, r0⟩ := trodAll_cons hA
  obtain ⟨v1, vs1, d1, ds1, p1, q1, rfl, rfl, rfl, h1, r1⟩ := trodAll_cons r0
  obtain ⟨v2, vs2, d2, ds2, p2, q2, rfl, rfl, rfl, h2, r2⟩ := trodAll_cons r1
  obtain ⟨rfl, rfl, rfl⟩ := trodAll_nil r2
  obtain rfl : args = #[v0, v1, v2] := by cases args; simp_all
  obtain ⟨rfl, rfl⟩ := trodVars_none hV
  obtain ⟨a0, rfl, rfl, rfl, w0⟩ := open_string Try.underlying9 (hval 0 9 v0 rfl rfl) h0
  obtain ⟨a1, rfl, rfl, rfl, w1⟩ := open_int Try.underlying3 (hval 1 3 v1 rfl rfl) h1
  obtain ⟨a2, rfl, rfl, rfl, w2⟩ := open_int Try.underlying3 (hval 2 3 v2 rfl rfl) h2
  clear hA0 hval0
  refine (walk a0 a1 a2 w0 w1 w2 W).mono fun e W' ⟨he, hg⟩ => ?_
  subst he
  exact ⟨_, rfl, _, _, _, [], _, [], hW', trodAll_mk1 (shut_bool Try.underlying4 _), (trodAll_cons_mk (shut_string Try.underlying9 w0) (trodAll_cons_mk (shut_int Try.underlying3 w1) (trodAll_cons_mk (shut_int Try.underlying3 w2) trodAll_mk0))), rfl, hg.frame _, fun h => by cases h⟩

theorem over : Rows.tableParsesRow.holds Try.pinned (OpenSpec.ofChange Rows.tableParsesSpec) :=
  OpenClaim.holds_of_wide 4 Try.f4 rfl rfl rfl rfl rfl rfl rfl ⟨rfl, rfl, rfl, rfl, rfl⟩ rfl rfl rfl rfl rfl (by kernel_rfl) Try.func4 (by kernel_rfl)
    (of_decide_eq_true (by kernel_rfl)) (by unfold Func.isWrapper; first | (rw [if_pos (by decide +kernel)]; kernel_rfl) | (rw [if_neg (by decide +kernel)]; exact ⟨rfl, rfl⟩))
    (fun os started H enc _ => lifted os started H enc)

/-- ████ THE STATEMENT ████ -/
theorem proved : Rows.TableParsesSaid :=
  over
#print axioms proved
end Go.Proofs.Ytonfafjacmifaaa.tableParses
