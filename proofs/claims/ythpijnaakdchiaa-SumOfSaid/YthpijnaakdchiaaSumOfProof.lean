/-
  The law SumOf holds: the check of every text, and of every text behind another one, is the document's, and of a nil table it is 0. Conditions: none but the row's own.
-/
import Derived.Test.YthpijnaakdchiaaRows
import Derived.Test.YthpijnaakdchiaaSumW
import Derived.WalkKit
import Derived.ProofKit
import Derived.OpenShut
import Derived.ShutString
import Derived.ChangeOld
import Derived.Below
namespace Go.Proofs.Ythpijnaakdchiaa.sumOf
open Go.ChangeShapes Go.WideShapes Go.ChangeAt Go.RowKit
open Go.ChangeMaps (open_string shut_string)
set_option linter.unusedVariables false      -- a walk need not use every 'w<i>' (that an integer argument fits its kind)

theorem own : ownKnob Try.prog.godebug = none := by kernel_rfl

open Go.Proofs.Ythpijnaakdchiaa.Sum

/-! ### STEP 1: THE WALK: the Go text returns true. 'Grown w w'': the world has at most new blocks (Derived/RowKit3.lean). Part the cases AHEAD of 'go_enter' where a test parts the walk; take each callee by a contract of your own. -/
set_option maxHeartbeats 2000000 in
set_option maxRecDepth 100000 in
theorem walk (a0 : ByteArray) (a1 : ByteArray) (w0 : a0.size ≤ maxLen) (w1 : a1.size ≤ maxLen) (w : World) :
    Calls Try.prog 3 #[.string a0, .string a1] w fun e w' => e = .returned (.bool true) ∧ Below w.heap.size w w' := by
  clear w0 w1
  go_enter Try.func3, Try.ntmps3
  go_upto_region 1 with fail
  go_cut [0, 1] (fun s t wx => ∃ u v : ByteArray, s = .string u ∧ t = .string v ∧ u.size ≤ 300 ∧ v.size ≤ 300 ∧ Below w.heap.size w wx)
  case first =>
    go_quiet (fail)
    go_wp2
    all_goals (go_meet; exact ⟨_, _, rfl, rfl, by first | omega | (simp; omega), by first | omega | (simp; omega), below_drewN (Below.refl _ _) _⟩)
  case rest =>
    obtain ⟨u, v, rfl, rfl, hu, hv, hb⟩ := hcut
    have hs := hb.size
    have huv : (u ++ v).size ≤ 1000000 := by rw [ByteArray.size_append]; omega
    obtain ⟨x, hx⟩ : ∃ x, x = chk 0 (u ++ v).data.toList := ⟨_, rfl⟩
    have hxr : Reg x := by rw [hx]; exact chk_lt _ _
    have hxw := u64_reg x hxr
    have HX2 := Lib.hid (show chk 0 (cat [u, v]) = x by rw [hx, cat_two])
    have HX3 := Lib.hid (show chk (chk 0 (cat [u])) v.data.toList = x by rw [hx, chk_append, cat_one]; simp)
    have HX1 := Lib.hid hx.symm
    have HU := Lib.hid (chk_lt 0 (cat [u]))
    have HXW := Lib.hid hxw
    have HUV := Lib.hid huv
    clear hxr hx hxw huv
    go_wp2_with fail
    refine (make_any _).mono ?_
    rintro e w2 ⟨b, rfl, hbb, ht, hb2⟩
    have hb2 : Below w.heap.size w w2 := hb.trans (hb2.mono hs)
    have hs2 := hb2.size
    clear hb hs hbb
    have HT2 := Lib.hid ht
    clear ht
    go_wp2_with fail
    refine (wakes_any _).mono ?_
    rintro e w3 ⟨rfl, hb3⟩
    have HT3 := Lib.hid (HT2.out.below hb3 (Nat.le_refl _))
    have hb3 : Below w.heap.size w w3 := hb2.trans (hb3.mono hs2)
    have hs3 := hb3.size
    clear hb2 hs2 HT2
    have HR := Lib.hid (StrRow.two w3 u v 9)
    have HT4 := Lib.hid (HT3.out.below ((Below.refl w3.heap.size w3).alloc (Nat.le_refl _) (.cells #[.string u, .string v] 9)) (Nat.le_refl _))
    have HB4 := Lib.hid (hb3.alloc hs3 (.cells #[.string u, .string v] 9))
    clear hb3 hs3 HT3
    go_wp2_with fail
    refine (of_any b _ 2 2 [u, v] _ HT4.out HR.out (by decide) (by simp; omega)).mono ?_
    rintro e w4 ⟨rfl, n4, hw4⟩
    rw [HX2.out]
    have HT5 := Lib.hid (show IsTab w4 b by rw [hw4]; exact HT4.out.drewN n4)
    have hb4 : Below w.heap.size w w4 := by rw [hw4]; exact below_drewN HB4.out _
    have hs4 := hb4.size
    clear hw4 HT4 HB4 HR
    have hxw := HXW.out
    go_wp2_with fail
    clear hxw
    refine (refOf_any (u ++ v) _ HUV.out).mono ?_
    rintro e w' ⟨rfl, rfl⟩
    rw [HX1.out]
    have HR := Lib.hid (StrRow.one w4 u 9)
    have HT6 := Lib.hid (HT5.out.below ((Below.refl w4.heap.size w4).alloc (Nat.le_refl _) (.cells #[.string u] 9)) (Nat.le_refl _))
    have HB6 := Lib.hid (hb4.alloc hs4 (.cells #[.string u] 9))
    clear hb4 hs4 HT5
    go_wp2_with fail
    refine (of_any b _ 1 1 [u] _ HT6.out HR.out (by decide) (by simp; omega)).mono ?_
    rintro e w5 ⟨rfl, n5, hw5⟩
    have HT7 := Lib.hid (show IsTab w5 b by rw [hw5]; exact HT6.out.drewN n5)
    have hb5 : Below w.heap.size w w5 := by rw [hw5]; exact below_drewN HB6.out _
    clear hw5 HT6 HB6 HR
    go_wp2_with fail
    refine (on_any b _ v _ HT7.out HU.out (by omega)).mono ?_
    rintro e w6 ⟨rfl, n6, hw6⟩
    rw [HX3.out]
    have hb6 : Below w.heap.size w w6 := by rw [hw6]; exact below_drewN hb5 _
    have hs6 := hb6.size
    clear hw6 hb5 HT7
    have hxw := HXW.out
    go_wp2_with fail
    clear hxw
    refine (refOf_any (u ++ v) _ HUV.out).mono ?_
    rintro e w' ⟨rfl, rfl⟩
    rw [HX1.out]
    have HR := Lib.hid (StrRow.one w6 u 9)
    have HB7 := Lib.hid (hb6.alloc hs6 (.cells #[.string u] 9))
    clear hb6 hs6
    go_wp2_with fail
    refine (of_nil _ 1 1 [u] _ HR.out (by decide)).mono ?_
    rintro e w' ⟨rfl, rfl⟩
    go_wp2_with fail
    refine (on_nil 5 u _).mono ?_
    rintro e w' ⟨rfl, rfl⟩
    go_wp2_with fail
    go_ret
    exact ⟨rfl, HB7.out⟩

/-! ### THE ROW's STEP: WRITTEN OUT: LEAVE IT -/
set_option maxRecDepth 100000 in
theorem lifted (os : Os) (started : os.Started) (H : Type) (enc : TypeId × Value → H) :
    ReturnsInHanded {} Try.checked os 3 .any (Rows.sumOfSpec.pre6 enc Try.prog Try.f3 Rows.sumOfRow.domain false) (Rows.sumOfSpec.post enc Try.prog Try.f3 false true false false) := by
  refine returnsInHanded_of_change (C := Try.checked) own started (by kernel_rfl) Try.func3
    (ChangeSpec.witness6 (enc := enc) (C := Try.checked) false ⟨#[], #[.string ByteArray.empty, .string ByteArray.empty], []⟩ 8 (by kernel_rfl) (by kernel_rfl) (by kernel_rfl) (by kernel_rfl)) ?_
  intro W base args ds gs before hval0 hW hcnd _
  have hval : ∀ (j : Nat) t v, Try.f3.params[j]? = some t → args[j]? = some v → Value.okWide Try.prog W .any base t v := hval0
  have hW' := hW
  obtain ⟨p, q, hA0, hV, rfl, hfz, hnd⟩ := hW
  have hA : DataW.TrodAll enc Try.prog W 0 (fun _ => true) true Try.f3.params.toList args.toList ds p := hA0
  rw [Try.params3] at hA hval
  obtain ⟨v0, vs0, d0, ds0, p0, q0, hargs, rfl, rfl, h0, r0⟩ := trodAll_cons hA
  obtain ⟨v1, vs1, d1, ds1, p1, q1, rfl, rfl, rfl, h1, r1⟩ := trodAll_cons r0
  obtain ⟨rfl, rfl, rfl⟩ := trodAll_nil r1
  obtain rfl : args = #[v0, v1] := by cases args; simp_all
  obtain ⟨rfl, rfl⟩ := trodVars_none hV
  obtain ⟨a0, rfl, rfl, rfl, w0⟩ := open_string Try.underlying9 (hval 0 9 v0 rfl rfl) h0
  obtain ⟨a1, rfl, rfl, rfl, w1⟩ := open_string Try.underlying9 (hval 1 9 v1 rfl rfl) h1
  clear hA0 hval0
  refine (walk a0 a1 w0 w1 W).mono fun e W' ⟨he, hg⟩ => ?_
  subst he
  exact ⟨_, rfl, _, _, _, [], _, [], hW', trodAll_mk1 (shut_bool Try.underlying4 _), (trodAll_cons_mk (shut_string Try.underlying9 w0) (trodAll_cons_mk (shut_string Try.underlying9 w1) trodAll_mk0)), rfl, hg.frame _, fun h => by cases h⟩

theorem over : Rows.sumOfRow.holds Try.pinned (OpenSpec.ofChange Rows.sumOfSpec) :=
  OpenClaim.holds_of_wide 3 Try.f3 rfl rfl rfl rfl rfl rfl rfl ⟨rfl, rfl, rfl, rfl, rfl⟩ rfl rfl rfl rfl rfl (by kernel_rfl) Try.func3 (by kernel_rfl)
    (of_decide_eq_true (by kernel_rfl)) (by unfold Func.isWrapper; first | (rw [if_pos (by decide +kernel)]; kernel_rfl) | (rw [if_neg (by decide +kernel)]; exact ⟨rfl, rfl⟩))
    (fun os started H enc _ => lifted os started H enc)

/-- ████ THE STATEMENT ████ -/
theorem proved : Rows.SumOfSaid :=
  over
#print axioms proved
end Go.Proofs.Ythpijnaakdchiaa.sumOf
