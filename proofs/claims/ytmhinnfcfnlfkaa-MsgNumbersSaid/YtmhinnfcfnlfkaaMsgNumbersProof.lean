/-
  The law MsgNumbers holds: which values are numbers, and which, is the document's answer; each number's value is it again. Conditions: none but the row's own.
-/
import Derived.Test.YtmhinnfcfnlfkaaRows
import Derived.Test.YtmhinnfcfnlfkaaMsgL
import Derived.WalkKit
import Derived.ProofKit
import Derived.OpenShut
import Derived.ShutString
import Derived.ChangeOld
import Derived.Below
namespace Go.Proofs.Ytmhinnfcfnlfkaa.msgNumbers
open Go.ChangeShapes Go.WideShapes Go.ChangeAt Go.RowKit
open Go.ChangeMaps (open_string shut_string)
set_option linter.unusedVariables false      -- a walk need not use every 'w<i>' (that an integer argument fits its kind)

theorem own : ownKnob Try.prog.godebug = none := by kernel_rfl

open Go.Proofs.Ytmhinnfcfnlfkaa.Msg Go.Proofs.Ytmhinnfcfnlfkaa.Rec

/-! ### STEP 1: THE WALK: the Go text returns true. 'Grown w w'': the world has at most new blocks (Derived/RowKit3.lean). Part the cases AHEAD of 'go_enter' where a test parts the walk; take each callee by a contract of your own. -/
set_option maxHeartbeats 4000000 in
set_option maxRecDepth 100000 in
theorem walk (a0 : ByteArray) (a1 : Int) (w0 : a0.size ≤ maxLen) (w1 : (Lit.int .u64 a1).wf = true) (w : World) :
    Calls Try.prog 5 #[.string a0, .int .u64 a1] w fun e w' => e = .returned (.bool true) ∧ Below w.heap.size w w' := by
  obtain ⟨l, rfl⟩ : ∃ l, a0 = Lend.strOf l := ⟨a0.data.toList, Lend.strOf_ext rfl⟩
  have hn := bounds_u64 w1
  have h0 : 0 ≤ a1 := by omega
  have h1 : a1 < 18446744073709551616 := by omega
  unfold maxLen at w0
  have hsl : l.length ≤ 9223372036854775807 := by rw [← ssize]; omega
  have HNU := Lib.hid (fun W => number_any l W hsl)
  have HVA := Lib.hid (fun W => value_any a1 W h0 h1)
  have HNV := Lib.hid (show ∀ W, Calls Try.prog 16 #[.string (Lend.strOf (Lend.encN a1 8))] W fun e w' => e = .returned (.tuple #[.int .u64 a1, .bool true]) ∧ Below W.heap.size W w' from fun W => by
    have h := number_any (Lend.encN a1 8) W (by rw [Lend.encN_length]; omega)
    rw [numN_enc h0 h1, numB_enc] at h
    exact h)
  have HPU := Lib.hid (fun W => put8 h0 h1 W)
  generalize Lend.strOf (Lend.encN a1 8) = E at *
  by_cases h8 : l.length = 8
  · have HB := Lib.hid (show numB l = true by simp [numB, h8])
    rw [HB.out] at HNU
    have hsz : (Lend.strOf l).size = 8 := by rw [ssize]; exact h8
    have HG := Lib.hid (fun W => get8 l W h8)
    have HV2 := Lib.hid (show ∀ W, Calls Try.prog 18 #[.int .u64 (numN l)] W fun e w' => e = .returned (.string (Lend.strOf l)) ∧ Below W.heap.size W w' from fun W => by
      have h := value_any (numN l) W (numN_bd l).1 (numN_bd l).2
      rw [enc_numN h8] at h
      exact h)
    generalize numN l = z at *
    generalize Lend.strOf l = T at *
    clear HB hsl w1 hn w0 h0 h1 h8
    go_enter Try.func5, Try.ntmps5
    go_wp2_with fail
    refine (HNU.out _).mono ?_
    rintro e w1 ⟨rfl, hb1⟩
    have HB1 := Lib.hid hb1
    clear hb1
    go_wp2_with fail
    refine (HG.out _).mono ?_
    rintro e w2 ⟨rfl, rfl⟩
    go_wp2_with fail
    refine (HVA.out _).mono ?_
    rintro e w2 ⟨rfl, hb2⟩
    have HB2 := Lib.hid (below_on HB1.out hb2)
    clear hb2
    go_wp2_with fail
    refine (HNV.out _).mono ?_
    rintro e w3 ⟨rfl, hb3⟩
    have HB3 := Lib.hid (below_on HB2.out hb3)
    clear hb3
    go_wp2_with fail
    refine (HPU.out _).mono ?_
    rintro e w4 ⟨rfl, hb4⟩
    have HB4 := Lib.hid (below_on HB3.out hb4)
    clear hb4
    go_wp2_with fail
    refine (wakes_any _).mono ?_
    rintro e w5 ⟨rfl, hb5⟩
    have HB5 := Lib.hid (below_on HB4.out hb5)
    clear hb5
    go_wp2_with fail
    refine (HVA.out _).mono ?_
    rintro e w6 ⟨rfl, hb6⟩
    have HB6 := Lib.hid (below_on HB5.out hb6)
    clear hb6
    go_wp2_with fail
    refine (HV2.out _).mono ?_
    rintro e w7 ⟨rfl, hb7⟩
    have HB7 := Lib.hid (below_on HB6.out hb7)
    clear hb7
    go_wp2_with fail
    go_ret
    exact ⟨rfl, HB7.out⟩
  · have HB := Lib.hid (show numB l = false by simp [numB, h8])
    rw [HB.out] at HNU
    have HZ := Lib.hid (show numN l = 0 by rw [numN, if_neg h8])
    rw [HZ.out] at HNU
    have hsz : ¬ ((Lend.strOf l).size : Int) = 8 := by rw [ssize]; omega
    generalize Lend.strOf l = T at *
    clear HB HZ hsl w1 hn h0 h1 h8
    go_enter Try.func5, Try.ntmps5
    go_wp2_with fail
    refine (HNU.out _).mono ?_
    rintro e w1 ⟨rfl, hb1⟩
    have HB1 := Lib.hid hb1
    clear hb1
    go_wp2_with fail
    refine (HVA.out _).mono ?_
    rintro e w2 ⟨rfl, hb2⟩
    have HB2 := Lib.hid (below_on HB1.out hb2)
    clear hb2
    go_wp2_with fail
    refine (HNV.out _).mono ?_
    rintro e w3 ⟨rfl, hb3⟩
    have HB3 := Lib.hid (below_on HB2.out hb3)
    clear hb3
    go_wp2_with fail
    refine (HPU.out _).mono ?_
    rintro e w4 ⟨rfl, hb4⟩
    have HB4 := Lib.hid (below_on HB3.out hb4)
    clear hb4
    go_wp2_with fail
    refine (wakes_any _).mono ?_
    rintro e w5 ⟨rfl, hb5⟩
    have HB5 := Lib.hid (below_on HB4.out hb5)
    clear hb5
    go_wp2_with fail
    refine (HVA.out _).mono ?_
    rintro e w6 ⟨rfl, hb6⟩
    have HB6 := Lib.hid (below_on HB5.out hb6)
    clear hb6
    go_wp2_with fail
    go_ret
    exact ⟨rfl, HB6.out⟩

/-! ### THE ROW's STEP: WRITTEN OUT: LEAVE IT -/
set_option maxRecDepth 100000 in
theorem lifted (os : Os) (started : os.Started) (H : Type) (enc : TypeId × Value → H) :
    ReturnsInHanded {} Try.checked os 5 .any (Rows.msgNumbersSpec.pre6 enc Try.prog Try.f5 Rows.msgNumbersRow.domain false) (Rows.msgNumbersSpec.post enc Try.prog Try.f5 false true false false) := by
  refine returnsInHanded_of_change (C := Try.checked) own started (by kernel_rfl) Try.func5
    (ChangeSpec.witness6 (enc := enc) (C := Try.checked) false ⟨#[], #[.string ByteArray.empty, .int .u64 0], []⟩ 8 (by kernel_rfl) (by kernel_rfl) (by kernel_rfl) (by kernel_rfl)) ?_
  intro W base args ds gs before hval0 hW hcnd _
  have hval : ∀ (j : Nat) t v, Try.f5.params[j]? = some t → args[j]? = some v → Value.okWide Try.prog W .any base t v := hval0
  have hW' := hW
  obtain ⟨p, q, hA0, hV, rfl, hfz, hnd⟩ := hW
  have hA : DataW.TrodAll enc Try.prog W 0 (fun _ => true) true Try.f5.params.toList args.toList ds p := hA0
  rw [Try.params5] at hA hval
  obtain ⟨v0, vs0, d0, ds0, p0, q0, hargs, rfl, rfl, h0, r0⟩ := trodAll_cons hA
  obtain ⟨v1, vs1, d1, ds1, p1, q1, rfl, rfl, rfl, h1, r1⟩ := trodAll_cons r0
  obtain ⟨rfl, rfl, rfl⟩ := trodAll_nil r1
  obtain rfl : args = #[v0, v1] := by cases args; simp_all
  obtain ⟨rfl, rfl⟩ := trodVars_none hV
  obtain ⟨a0, rfl, rfl, rfl, w0⟩ := open_string Try.underlying9 (hval 0 9 v0 rfl rfl) h0
  obtain ⟨a1, rfl, rfl, rfl, w1⟩ := open_int Try.underlying24 (hval 1 24 v1 rfl rfl) h1
  clear hA0 hval0
  refine (walk a0 a1 w0 w1 W).mono fun e W' ⟨he, hg⟩ => ?_
  subst he
  exact ⟨_, rfl, _, _, _, [], _, [], hW', trodAll_mk1 (shut_bool Try.underlying4 _), (trodAll_cons_mk (shut_string Try.underlying9 w0) (trodAll_cons_mk (shut_int Try.underlying24 w1) trodAll_mk0)), rfl, hg.frame _, fun h => by cases h⟩

theorem over : Rows.msgNumbersRow.holds Try.pinned (OpenSpec.ofChange Rows.msgNumbersSpec) :=
  OpenClaim.holds_of_wide 5 Try.f5 rfl rfl rfl rfl rfl rfl rfl ⟨rfl, rfl, rfl, rfl, rfl⟩ rfl rfl rfl rfl rfl (by kernel_rfl) Try.func5 (by kernel_rfl)
    (of_decide_eq_true (by kernel_rfl)) (by unfold Func.isWrapper; first | (rw [if_pos (by decide +kernel)]; kernel_rfl) | (rw [if_neg (by decide +kernel)]; exact ⟨rfl, rfl⟩))
    (fun os started H enc _ => lifted os started H enc)

/-- ████ THE STATEMENT ████ -/
theorem proved : Rows.MsgNumbersSaid :=
  over
#print axioms proved
end Go.Proofs.Ytmhinnfcfnlfkaa.msgNumbers
