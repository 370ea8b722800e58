/-
  The law SumMore holds: the check of a text with more behind is the same for all texts of the same check, and for no others. Conditions: none but the row's own.
-/
import Derived.Test.YthpijnaakdchiaaRows
import Derived.Test.YthpijnaakdchiaaSumW
import Derived.WalkKit
import Derived.ProofKit
import Derived.OpenShut
import Derived.ShutString
import Derived.ChangeOld
import Derived.Below
namespace Go.Proofs.Ythpijnaakdchiaa.sumMore
open Go.ChangeShapes Go.WideShapes Go.ChangeAt Go.RowKit
open Go.ChangeMaps (open_string shut_string)
set_option linter.unusedVariables false      -- a walk need not use every 'w<i>' (that an integer argument fits its kind)

theorem own : ownKnob Try.prog.godebug = none := by kernel_rfl

open Go.Proofs.Ythpijnaakdchiaa.Sum

/-! ### STEP 1: THE WALK: the Go text returns true. 'Grown w w'': the world has at most new blocks (Derived/RowKit3.lean). Part the cases AHEAD of 'go_enter' where a test parts the walk; take each callee by a contract of your own. -/
set_option maxHeartbeats 4000000 in
set_option maxRecDepth 100000 in
theorem walk (a0 : ByteArray) (a1 : ByteArray) (a2 : ByteArray) (w0 : a0.size ≤ maxLen) (w1 : a1.size ≤ maxLen) (w2 : a2.size ≤ maxLen) (w : World) :
    Calls Try.prog 7 #[.string a0, .string a1, .string a2] w fun e w' => e = .returned (.bool true) ∧ Below w.heap.size w w' := by
  clear w0 w1 w2
  go_enter Try.func7, Try.ntmps7
  go_wp2_with fail
  refine (make_any _).mono ?_
  rintro e w2 ⟨b, rfl, hbb, ht, hb2⟩
  have HT2 := Lib.hid ht
  clear hbb ht
  go_upto_region 2 with fail
  go_cut [0, 1, 2, 7] (fun s t r p wx => ∃ u v m : ByteArray, s = .string u ∧ t = .string v ∧ r = .string m ∧ p = .pointer (some ⟨b, 0, none⟩) ∧ u.size ≤ 200 ∧ v.size ≤ 200 ∧ m.size ≤ 200 ∧ IsTab wx b ∧ Below w.heap.size w wx)
  case first =>
    go_quiet (fail)
    go_wp2
    all_goals (go_meet; exact ⟨_, _, _, rfl, rfl, rfl, rfl, by first | omega | (simp; omega), by first | omega | (simp; omega), by first | omega | (simp; omega), HT2.out.drewN _, below_drewN hb2 _⟩)
  case rest =>
    obtain ⟨u, v, m, rfl, rfl, rfl, rfl, hu, hv, hm, ht, hb⟩ := hcut
    have hs := hb.size
    have HT := Lib.hid ht
    clear HT2 hb2 ht
    have hum : (u ++ m).size ≤ 1000000 := by rw [ByteArray.size_append]; omega
    obtain ⟨p, hp⟩ : ∃ p, p = chk 0 u.data.toList := ⟨_, rfl⟩
    obtain ⟨q, hq⟩ : ∃ q, q = chk 0 v.data.toList := ⟨_, rfl⟩
    obtain ⟨x, hx⟩ : ∃ x, x = chk p m.data.toList := ⟨_, rfl⟩
    obtain ⟨y, hy⟩ : ∃ y, y = chk q m.data.toList := ⟨_, rfl⟩
    have hpr : Reg p := by rw [hp]; exact chk_lt _ _
    have hqr : Reg q := by rw [hq]; exact chk_lt _ _
    have HPR := Lib.hid hpr
    have HQR := Lib.hid hqr
    have HX2 := Lib.hid (show chk 0 (u ++ m).data.toList = x by rw [hx, hp, chk_append]; simp)
    have HY2 := Lib.hid (show chk 0 (v ++ m).data.toList = y by rw [hy, hq, chk_append]; simp)
    have HE := Lib.hid (show x = y ↔ p = q from ⟨fun h => chk_inj p q m.data.toList hpr hqr (by rw [← hx, ← hy]; exact h), fun h => by rw [hx, hy, h]⟩)
    have HN := Lib.hid (show chk p (⟨#[]⟩ : ByteArray).data.toList = p from chk_nil p hpr)
    have HP := Lib.hid hp.symm
    have HQ := Lib.hid hq.symm
    have HX := Lib.hid hx.symm
    have HY := Lib.hid hy.symm
    clear hpr hqr hx hy hp hq
    have HUM := Lib.hid hum
    clear hum
    go_wp2_with fail
    refine (of1_any b u _ HT.out (by omega)).mono ?_
    rintro e w3 ⟨rfl, ht3, hb3⟩
    have hb3 : Below w.heap.size w w3 := hb.trans (hb3.mono hs)
    have hs3 := hb3.size
    have HT3 := Lib.hid ht3
    clear hb hs ht3 HT
    rw [HP.out]
    go_wp2_with fail
    refine (on1_any b p m _ HT3.out HPR.out (by omega)).mono ?_
    rintro e w4 ⟨rfl, ht4, hb4⟩
    have hb4 : Below w.heap.size w w4 := hb3.trans (hb4.mono hs3)
    have hs4 := hb4.size
    have HT4 := Lib.hid ht4
    clear hb3 hs3 ht4 HT3
    rw [HX.out]
    go_wp2_with fail
    refine (of1_any b v _ HT4.out (by omega)).mono ?_
    rintro e w5 ⟨rfl, ht5, hb5⟩
    have hb5 : Below w.heap.size w w5 := hb4.trans (hb5.mono hs4)
    have hs5 := hb5.size
    have HT5 := Lib.hid ht5
    clear hb4 hs4 ht5 HT4
    rw [HQ.out]
    go_wp2_with fail
    refine (on1_any b q m _ HT5.out HQR.out (by omega)).mono ?_
    rintro e w6 ⟨rfl, ht6, hb6⟩
    have hb6 : Below w.heap.size w w6 := hb5.trans (hb6.mono hs5)
    have hs6 := hb6.size
    have HT6 := Lib.hid ht6
    clear hb5 hs5 ht6 HT5
    rw [HY.out]
    go_wp2_with fail
    refine (wakes_any _).mono ?_
    rintro e w7 ⟨rfl, hb7⟩
    have HT7 := Lib.hid (HT6.out.below hb7 (Nat.le_refl _))
    have hb7 : Below w.heap.size w w7 := hb6.trans (hb7.mono hs6)
    have hs7 := hb7.size
    clear hb6 hs6 HT6
    go_wp2_with fail
    refine (of1_any b (u ++ m) _ HT7.out HUM.out).mono ?_
    rintro e w8 ⟨rfl, ht8, hb8⟩
    have hb8 : Below w.heap.size w w8 := hb7.trans (hb8.mono hs7)
    have hs8 := hb8.size
    have HT8 := Lib.hid ht8
    clear hb7 hs7 ht8 HT7
    rw [HX2.out]
    go_wp2_with fail
    refine (of2_any b v m _ HT8.out (by omega) (by omega)).mono ?_
    rintro e w9 ⟨rfl, ht9, hb9⟩
    have hb9 : Below w.heap.size w w9 := hb8.trans (hb9.mono hs8)
    have hs9 := hb9.size
    have HT9 := Lib.hid ht9
    clear hb8 hs8 ht9 HT8
    rw [HY2.out]
    go_wp2_with fail
    refine (of1_any b u _ HT9.out (by omega)).mono ?_
    rintro e w10 ⟨rfl, ht10, hb10⟩
    have hb10 : Below w.heap.size w w10 := hb9.trans (hb10.mono hs9)
    have hs10 := hb10.size
    have HT10 := Lib.hid ht10
    clear hb9 hs9 ht10 HT9
    rw [HP.out]
    go_wp2_with fail
    refine (of1_any b v _ HT10.out (by omega)).mono ?_
    rintro e w11 ⟨rfl, ht11, hb11⟩
    have hb11 : Below w.heap.size w w11 := hb10.trans (hb11.mono hs10)
    have hs11 := hb11.size
    have HT11 := Lib.hid ht11
    clear hb10 hs10 ht11 HT10
    rw [HQ.out]
    have hE := HE.out
    by_cases hpq : p = q
    · have h1 : ((x : Int) == (y : Int)) = true := by
        have := hE.2 hpq
        simp; omega
      have h2 : ((p : Int) == (q : Int)) = true := by simp; omega
      clear hE hpq
      go_wp2_with fail
      clear h1 h2
      refine (of1_any b u _ HT11.out (by omega)).mono ?_
      rintro e w12 ⟨rfl, ht12, hb12⟩
      have hb12 : Below w.heap.size w w12 := hb11.trans (hb12.mono hs11)
      have hs12 := hb12.size
      have HT12 := Lib.hid ht12
      clear hb11 hs11 ht12 HT11
      rw [HP.out]
      go_wp2_with fail
      refine (on1_any b p _ _ HT12.out HPR.out (by decide)).mono ?_
      rintro e w13 ⟨rfl, ht13, hb13⟩
      have hb13 : Below w.heap.size w w13 := hb12.trans (hb13.mono hs12)
      have hs13 := hb13.size
      have HT13 := Lib.hid ht13
      clear hb12 hs12 ht13 HT12
      rw [HN.out]
      go_wp2_with fail
      refine (of1_any b u _ HT13.out (by omega)).mono ?_
      rintro e w14 ⟨rfl, ht14, hb14⟩
      have HB14 := Lib.hid (hb13.trans (hb14.mono hs13))
      clear hb13 hs13 ht14 HT13 hb14
      rw [HP.out]
      go_wp2_with fail
      go_ret
      exact ⟨rfl, HB14.out⟩
    · have h1 : ((x : Int) == (y : Int)) = false := by
        have : ¬ x = y := fun h => hpq (hE.1 h)
        simp; omega
      have h2 : ((p : Int) == (q : Int)) = false := by simp; omega
      clear hE hpq
      go_wp2_with fail
      clear h1 h2
      refine (of1_any b u _ HT11.out (by omega)).mono ?_
      rintro e w12 ⟨rfl, ht12, hb12⟩
      have hb12 : Below w.heap.size w w12 := hb11.trans (hb12.mono hs11)
      have hs12 := hb12.size
      have HT12 := Lib.hid ht12
      clear hb11 hs11 ht12 HT11
      rw [HP.out]
      go_wp2_with fail
      refine (on1_any b p _ _ HT12.out HPR.out (by decide)).mono ?_
      rintro e w13 ⟨rfl, ht13, hb13⟩
      have hb13 : Below w.heap.size w w13 := hb12.trans (hb13.mono hs12)
      have hs13 := hb13.size
      have HT13 := Lib.hid ht13
      clear hb12 hs12 ht13 HT12
      rw [HN.out]
      go_wp2_with fail
      refine (of1_any b u _ HT13.out (by omega)).mono ?_
      rintro e w14 ⟨rfl, ht14, hb14⟩
      have HB14 := Lib.hid (hb13.trans (hb14.mono hs13))
      clear hb13 hs13 ht14 HT13 hb14
      rw [HP.out]
      go_wp2_with fail
      go_ret
      exact ⟨rfl, HB14.out⟩

/-! ### THE ROW's STEP: WRITTEN OUT: LEAVE IT -/
set_option maxRecDepth 100000 in
theorem lifted (os : Os) (started : os.Started) (H : Type) (enc : TypeId × Value → H) :
    ReturnsInHanded {} Try.checked os 7 .any (Rows.sumMoreSpec.pre6 enc Try.prog Try.f7 Rows.sumMoreRow.domain false) (Rows.sumMoreSpec.post enc Try.prog Try.f7 false true false false) := by
  refine returnsInHanded_of_change (C := Try.checked) own started (by kernel_rfl) Try.func7
    (ChangeSpec.witness6 (enc := enc) (C := Try.checked) false ⟨#[], #[.string ByteArray.empty, .string ByteArray.empty, .string ByteArray.empty], []⟩ 8 (by kernel_rfl) (by kernel_rfl) (by kernel_rfl) (by kernel_rfl)) ?_
  intro W base args ds gs before hval0 hW hcnd _
  have hval : ∀ (j : Nat) t v, Try.f7.params[j]? = some t → args[j]? = some v → Value.okWide Try.prog W .any base t v := hval0
  have hW' := hW
  obtain ⟨p, q, hA0, hV, rfl, hfz, hnd⟩ := hW
  have hA : DataW.TrodAll enc Try.prog W 0 (fun _ => true) true Try.f7.params.toList args.toList ds p := hA0
  rw [Try.params7] at hA hval
  obtain ⟨v0, vs0, d0, ds0, p0, q0, hargs, rfl, rfl, h0, r0⟩ := trodAll_cons hA
  obtain ⟨v1, vs1, d1, ds1, p1, q1, rfl, rfl, rfl, h1, r1⟩ := trodAll_cons r0
  obtain ⟨v2, vs2, d2, ds2, p2, q2, rfl, rfl, rfl, h2, r2⟩ := trodAll_cons r1
  obtain ⟨rfl, rfl, rfl⟩ := trodAll_nil r2
  obtain rfl : args = #[v0, v1, v2] := by cases args; simp_all
  obtain ⟨rfl, rfl⟩ := trodVars_none hV
  obtain ⟨a0, rfl, rfl, rfl, w0⟩ := open_string Try.underlying9 (hval 0 9 v0 rfl rfl) h0
  obtain ⟨a1, rfl, rfl, rfl, w1⟩ := open_string Try.underlying9 (hval 1 9 v1 rfl rfl) h1
  obtain ⟨a2, rfl, rfl, rfl, w2⟩ := open_string Try.underlying9 (hval 2 9 v2 rfl rfl) h2
  clear hA0 hval0
  refine (walk a0 a1 a2 w0 w1 w2 W).mono fun e W' ⟨he, hg⟩ => ?_
  subst he
  exact ⟨_, rfl, _, _, _, [], _, [], hW', trodAll_mk1 (shut_bool Try.underlying4 _), (trodAll_cons_mk (shut_string Try.underlying9 w0) (trodAll_cons_mk (shut_string Try.underlying9 w1) (trodAll_cons_mk (shut_string Try.underlying9 w2) trodAll_mk0))), rfl, hg.frame _, fun h => by cases h⟩

theorem over : Rows.sumMoreRow.holds Try.pinned (OpenSpec.ofChange Rows.sumMoreSpec) :=
  OpenClaim.holds_of_wide 7 Try.f7 rfl rfl rfl rfl rfl rfl rfl ⟨rfl, rfl, rfl, rfl, rfl⟩ rfl rfl rfl rfl rfl (by kernel_rfl) Try.func7 (by kernel_rfl)
    (of_decide_eq_true (by kernel_rfl)) (by unfold Func.isWrapper; first | (rw [if_pos (by decide +kernel)]; kernel_rfl) | (rw [if_neg (by decide +kernel)]; exact ⟨rfl, rfl⟩))
    (fun os started H enc _ => lifted os started H enc)

/-- ████ THE STATEMENT ████ -/
theorem proved : Rows.SumMoreSaid :=
  over
#print axioms proved
end Go.Proofs.Ythpijnaakdchiaa.sumMore
