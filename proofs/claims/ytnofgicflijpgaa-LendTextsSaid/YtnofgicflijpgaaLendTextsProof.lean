/-
  The law LendTexts holds: the text at the beginning of all bytes, and what is left, are the document's, and a text with its length ahead is read again if it is short enough. Conditions: none but the row's own.
-/
import Derived.Test.YtnofgicflijpgaaRows
import Derived.Test.YtnofgicflijpgaaRefLend
import Derived.WalkKit
import Derived.ProofKit
import Derived.OpenShut
import Derived.ShutString
import Derived.ChangeOld
import Derived.Below
namespace Go.Proofs.Ytnofgicflijpgaa.lendTexts
open Go.ChangeShapes Go.WideShapes Go.ChangeAt Go.RowKit
open Go.ChangeMaps (open_string shut_string)
set_option linter.unusedVariables false      -- a walk need not use every 'w<i>' (that an integer argument fits its kind)

theorem own : ownKnob Try.prog.godebug = none := by kernel_rfl

open Go.Proofs.Ytnofgicflijpgaa.Lend

/-! ### STEP 1: THE WALK: the Go text returns true. 'Grown w w'': the world has at most new blocks (Derived/RowKit3.lean). Part the cases AHEAD of 'go_enter' where a test parts the walk; take each callee by a contract of your own. -/
set_option maxHeartbeats 2000000 in
set_option maxRecDepth 100000 in
theorem walk (a0 : ByteArray) (a1 : ByteArray) (w0 : a0.size ≤ maxLen) (w1 : a1.size ≤ maxLen) (w : World) :
    Calls Try.prog 5 #[.string a0, .string a1] w fun e w' => e = .returned (.bool true) ∧ Below w.heap.size w w' := by
  clear w0 w1
  go_enter Try.func5, Try.ntmps5
  go_upto_region 1 with fail
  go_cut [0, 1] (fun s t wx => ∃ u v : ByteArray, s = .string u ∧ t = .string v ∧ u.size ≤ 300 ∧ v.size ≤ 50 ∧ Below w.heap.size w wx)
  case first =>
    go_quiet (fail)
    go_wp2
    all_goals (go_meet; exact ⟨_, _, rfl, rfl, by first | omega | (simp; omega), by first | omega | (simp; omega), below_drewN (Below.refl _ _) _⟩)
  case rest =>
    obtain ⟨u, v, rfl, rfl, hu, hv, hb⟩ := hcut
    have hs := hb.size
    go_wp2_with fail
    refine (split_any u _ (by omega)).mono ?_
    rintro e w2 ⟨rfl, hb2⟩
    have hb2 : Below w.heap.size w w2 := hb.trans (hb2.mono hs)
    have hs2 := hb2.size
    clear hb hs
    go_wp2_with fail
    refine (refsplit_any u _ (by omega)).mono ?_
    rintro e w3 ⟨rfl, hb3⟩
    have hb3 : Below w.heap.size w w3 := hb2.trans (hb3.mono hs2)
    have hs3 := hb3.size
    clear hb2 hs2
    go_wp2_with fail
    refine (join_any u _ (by omega)).mono ?_
    rintro e w4 ⟨rfl, hb4⟩
    have hb4 : Below w.heap.size w w4 := hb3.trans (hb4.mono hs3)
    have hs4 := hb4.size
    clear hb3 hs3
    by_cases hle : u.size ≤ 255
    · have hj := jn_yes u v hle
      obtain ⟨t, ht⟩ : ∃ t, t = strOf (jnS u.data.toList) := ⟨_, rfl⟩
      rw [← ht] at hj
      obtain ⟨hj1, hj2, hj3, hj4, hj5⟩ := hj
      rw [← ht, hj1]
      have hts1 : t.size ≤ u.size + 1 := by omega
      have hts2 : u.size + 1 ≤ t.size := by omega
      have hbq : ((t.size : Int) == (u.size : Int) + 1) = true := by simp; omega
      have H3 := Lib.hid hj3
      have H4 := Lib.hid hj4
      have H5 := Lib.hid hj5
      clear ht hj1 hj2 hj3 hj4 hj5
      have htv : (t ++ v).size ≤ 1000000 := by rw [ByteArray.size_append]; omega
      go_wp2_with fail
      refine (split_any (t ++ v) _ htv).mono ?_
      rintro e w5 ⟨rfl, hb5⟩
      rw [H3.out, H4.out, H5.out]
      have hb5 : Below w.heap.size w w5 := hb4.trans (hb5.mono hs4)
      have hs5 := hb5.size
      clear hb4 hs4
      go_wp2_with fail
      refine (wakes_any _).mono ?_
      rintro e w6 ⟨rfl, hb6⟩
      have hb6 : Below w.heap.size w w6 := hb5.trans (hb6.mono hs5)
      clear hb5 hs5
      have HB := Lib.hid hb6
      clear hb6
      go_wp2_with fail
      go_ret
      exact ⟨rfl, HB.out⟩
    · have hgt : 255 < u.size := by omega
      have hj := jn_no u hgt
      rw [hj.1, hj.2]
      clear hj
      go_wp2_with fail
      refine (wakes_any _).mono ?_
      rintro e w5 ⟨rfl, hb5⟩
      have HB := Lib.hid (hb4.trans (hb5.mono hs4))
      clear hb5 hb4
      go_wp2_with fail
      go_ret
      exact ⟨rfl, HB.out⟩

/-! ### THE ROW's STEP: WRITTEN OUT: LEAVE IT -/
set_option maxRecDepth 100000 in
theorem lifted (os : Os) (started : os.Started) (H : Type) (enc : TypeId × Value → H) :
    ReturnsInHanded {} Try.checked os 5 .any (Rows.lendTextsSpec.pre6 enc Try.prog Try.f5 Rows.lendTextsRow.domain false) (Rows.lendTextsSpec.post enc Try.prog Try.f5 false true false false) := by
  refine returnsInHanded_of_change (C := Try.checked) own started (by kernel_rfl) Try.func5
    (ChangeSpec.witness6 (enc := enc) (C := Try.checked) false ⟨#[], #[.string ByteArray.empty, .string ByteArray.empty], []⟩ 8 (by kernel_rfl) (by kernel_rfl) (by kernel_rfl) (by kernel_rfl)) ?_
  intro W base args ds gs before hval0 hW hcnd _
  have hval : ∀ (j : Nat) t v, Try.f5.params[j]? = some t → args[j]? = some v → Value.okWide Try.prog W .any base t v := hval0
  have hW' := hW
  obtain ⟨p, q, hA0, hV, rfl, hfz, hnd⟩ := hW
  have hA : DataW.TrodAll enc Try.prog W 0 (fun _ => true) true Try.f5.params.toList args.toList ds p := hA0
  rw [Try.params5] at hA hval
  obtain ⟨v0, vs0, d0, ds0, p0, q0, hargs, rfl, rfl, h0, r0⟩ := trodAll_cons hA
  obtain ⟨v1, vs1, d1, ds1, p1, q1, rfl, rfl, rfl, h1, r1⟩ := trodAll_cons r0
  obtain ⟨rfl, rfl, rfl⟩ := trodAll_nil r1
  obtain rfl : args = #[v0, v1] := by cases args; simp_all
  obtain ⟨rfl, rfl⟩ := trodVars_none hV
  obtain ⟨a0, rfl, rfl, rfl, w0⟩ := open_string Try.underlying9 (hval 0 9 v0 rfl rfl) h0
  obtain ⟨a1, rfl, rfl, rfl, w1⟩ := open_string Try.underlying9 (hval 1 9 v1 rfl rfl) h1
  clear hA0 hval0
  refine (walk a0 a1 w0 w1 W).mono fun e W' ⟨he, hg⟩ => ?_
  subst he
  exact ⟨_, rfl, _, _, _, [], _, [], hW', trodAll_mk1 (shut_bool Try.underlying4 _), (trodAll_cons_mk (shut_string Try.underlying9 w0) (trodAll_cons_mk (shut_string Try.underlying9 w1) trodAll_mk0)), rfl, hg.frame _, fun h => by cases h⟩

theorem over : Rows.lendTextsRow.holds Try.pinned (OpenSpec.ofChange Rows.lendTextsSpec) :=
  OpenClaim.holds_of_wide 5 Try.f5 rfl rfl rfl rfl rfl rfl rfl ⟨rfl, rfl, rfl, rfl, rfl⟩ rfl rfl rfl rfl rfl (by kernel_rfl) Try.func5 (by kernel_rfl)
    (of_decide_eq_true (by kernel_rfl)) (by unfold Func.isWrapper; first | (rw [if_pos (by decide +kernel)]; kernel_rfl) | (rw [if_neg (by decide +kernel)]; exact ⟨rfl, rfl⟩))
    (fun os started H enc _ => lifted os started H enc)

/-- ████ THE STATEMENT ████ -/
theorem proved : Rows.LendTextsSaid :=
  over
#print axioms proved
end Go.Proofs.Ytnofgicflijpgaa.lendTexts
