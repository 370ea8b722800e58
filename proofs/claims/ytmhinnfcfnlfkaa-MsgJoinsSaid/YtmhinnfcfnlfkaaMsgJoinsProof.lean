/-
  The law MsgJoins holds: the update that does what two do is the document's. Conditions: none but the row's own.
-/
import Derived.Test.YtmhinnfcfnlfkaaRows
import Derived.Test.YtmhinnfcfnlfkaaDuo
import Derived.Test.YtmhinnfcfnlfkaaArr
import Derived.WalkKit
import Derived.ProofKit
import Derived.OpenShut
import Derived.ShutString
import Derived.ChangeOld
import Derived.Below
import Derived.Carry
namespace Go.Proofs.Ytmhinnfcfnlfkaa.msgJoins
open Go.ChangeShapes Go.WideShapes Go.ChangeAt Go.RowKit
open Go.Proofs.Ytmhinnfcfnlfkaa
open Go.ChangeMaps (open_string shut_string)
set_option linter.unusedVariables false

theorem own : ownKnob Try.prog.godebug = none := by kernel_rfl
theorem laidOut : laidOutB Try.prog = true := by kernel_rfl

theorem len3 {α : Type} : ∀ l : List α, l.length = 3 → ∃ z0 z1 z2, l = [z0, z1, z2]
  | [z0, z1, z2], _ => ⟨z0, z1, z2, rfl⟩

open Go.Proofs.Ytmhinnfcfnlfkaa.Msg Go.Proofs.Ytmhinnfcfnlfkaa.Rec

/-! ### STEP 1: THE WALK -/
set_option maxHeartbeats 4000000 in
set_option maxRecDepth 100000 in
theorem walk (a0f0 : Int) (a0f1 : ByteArray) (a0f2 : Int) (a1f0 : Int) (a1f1 : ByteArray) (a1f2 : Int) (w : World) (w0f0 : (Lit.int .u8 a0f0).wf = true) (w0f1 : a0f1.size ≤ maxLen) (w0f2 : (Lit.int .u64 a0f2).wf = true) (w1f0 : (Lit.int .u8 a1f0).wf = true) (w1f1 : a1f1.size ≤ maxLen) (w1f2 : (Lit.int .u64 a1f2).wf = true) :
    Calls Try.prog 4 #[.agg #[.int .u8 a0f0, .string a0f1, .int .u64 a0f2], .agg #[.int .u8 a1f0, .string a1f1, .int .u64 a1f2]] w fun e w' => e = .returned (.bool true) ∧ Below w.heap.size w w' := by
  have hk := bounds_u8 w0f0
  have hd := bounds_u64 w0f2
  have hk' := bounds_u8 w1f0
  have hd' := bounds_u64 w1f2
  unfold maxLen at w0f1 w1f1
  obtain ⟨x, hx⟩ : ∃ x : Up, x = ⟨a0f0, [], a0f1.data.toList, a0f2⟩ := ⟨_, rfl⟩
  obtain ⟨y, hy⟩ : ∃ x : Up, x = ⟨a1f0, [], a1f1.data.toList, a1f2⟩ := ⟨_, rfl⟩
  have hwx : WfU x := by rw [hx]; exact ⟨by show 0 ≤ a0f0; omega, by show a0f0 ≤ 255; omega, by show 0 ≤ a0f2; omega, by show a0f2 < 18446744073709551616; omega⟩
  have hwy : WfU y := by rw [hy]; exact ⟨by show 0 ≤ a1f0; omega, by show a1f0 ≤ 255; omega, by show 0 ≤ a1f2; omega, by show a1f2 < 18446744073709551616; omega⟩
  have hlx : (tmM x).val.length ≤ 9223372036854775807 := by
    show (if 1 + x.kind % 3 = 1 then x.val else []).length ≤ _
    rw [hx]; split
    · show a0f1.data.toList.length ≤ _; simp; omega
    · simp
  have hly : (tmM y).val.length ≤ 9223372036854775807 := by
    show (if 1 + y.kind % 3 = 1 then y.val else []).length ≤ _
    rw [hy]; split
    · show a1f1.data.toList.length ≤ _; simp; omega
    · simp
  have ex : (.agg #[.int .u8 a0f0, .string a0f1, .int .u64 a0f2] : Value) = ag3 x := by rw [hx]; show _ = Value.agg #[.int .u8 a0f0, .string (Lend.strOf a0f1.data.toList), .int .u64 a0f2]; rw [← Lend.strOf_ext rfl]
  have ey : (.agg #[.int .u8 a1f0, .string a1f1, .int .u64 a1f2] : Value) = ag3 y := by rw [hy]; show _ = Value.agg #[.int .u8 a1f0, .string (Lend.strOf a1f1.data.toList), .int .u64 a1f2]; rw [← Lend.strOf_ext rfl]
  have HTX := Lib.hid (fun W => tame_any x W hwx)
  have HTY := Lib.hid (fun W => tame_any y W hwy)
  have HOX := Lib.hid (fun W => of_any (tmM x) W hlx)
  have HOY := Lib.hid (fun W => of_any (tmM y) W hly)
  have HMX := Lib.hid (tmM_tm hwx)
  have HMY := Lib.hid (tmM_tm hwy)
  rw [← ex] at HTX
  rw [← ey] at HTY
  generalize ofM (tmM x) = u at *
  generalize ofM (tmM y) = v at *
  generalize ag3 (tmM x) = tx at *
  generalize ag3 (tmM y) = ty at *
  have HJ := Lib.hid (fun W => join_any u v W HMX.out HMY.out)
  have HR := Lib.hid (fun W => refjoin_any u v W HMX.out HMY.out)
  unfold agU at HJ HR HOX HOY
  generalize (joU u v).kind = c0 at *
  generalize Lend.strOf (joU u v).key = c1 at *
  generalize Lend.strOf (joU u v).val = c2 at *
  generalize (joU u v).delta = c3 at *
  generalize u.kind = p0 at *
  generalize Lend.strOf u.key = p1 at *
  generalize Lend.strOf u.val = p2 at *
  generalize u.delta = p3 at *
  generalize v.kind = q0 at *
  generalize Lend.strOf v.key = q1 at *
  generalize Lend.strOf v.val = q2 at *
  generalize v.delta = q3 at *
  clear w0f0 w0f1 w0f2 w1f0 w1f1 w1f2 hk hd hk' hd' hx hy hwx hwy hlx hly ex ey HMX HMY
  have hxy := Has.new w [.int .u8 a0f0, .string a0f1, .int .u64 a0f2] 26
  have hyy := Has.new (w.alloc (.cells #[.int .u8 a0f0, .string a0f1, .int .u64 a0f2] 26)) [.int .u8 a1f0, .string a1f1, .int .u64 a1f2] 26
  rw [World.size_alloc] at hyy
  obtain ⟨w0, hw0⟩ : ∃ x, x = (w.alloc (.cells #[.int .u8 a0f0, .string a0f1, .int .u64 a0f2] 26)).alloc (.cells #[.int .u8 a1f0, .string a1f1, .int .u64 a1f2] 26) := ⟨_, rfl⟩
  have HB0 := Lib.hid (show Below w.heap.size w w0 by rw [hw0]; exact below_nw (below_new _ _) _)
  have HY0 := Lib.hid (show Has w0 (w.heap.size + 1) 26 [.int .u8 a1f0, .string a1f1, .int .u64 a1f2] by rw [hw0]; exact hyy)
  clear hxy hyy
  go_enter Try.func4, Try.ntmps4
  go_wp2_with fail
  rw [← hw0]
  refine (HTX.out _).mono ?_
  rintro e w1 ⟨rfl, hb1⟩
  have HB1 := Lib.hid (below_on HB0.out hb1)
  have HY1 := Lib.hid (HY0.out.below hb1 HY0.out.lt)
  clear hb1 hw0
  go_wp2_with fail
  refine (HOX.out _).mono ?_
  rintro e w2 ⟨rfl, hb2⟩
  have HB2 := Lib.hid (below_on HB1.out hb2)
  have hy2 := HY1.out.below hb2 HY1.out.lt
  have HY2 := Lib.hid hy2
  have hylt := hy2.lt
  have hz := (hy2.alloc (.cells #[.int .u8 p0, .string p1, .string p2, .int .u64 p3] 29)).alloc (.cells #[.int .u8 p0, .string p1, .string p2, .int .u64 p3] 31)
  have y0 := hz.cell 0
  have y1 := hz.cell 1
  have y2 := hz.cell 2
  simp only [List.getElem?_cons_zero, List.getElem?_cons_succ] at y0 y1 y2
  have hA := Has.new w2 [.int .u8 p0, .string p1, .string p2, .int .u64 p3] 29
  have hA2 := Has.new (w2.alloc (.cells #[.int .u8 p0, .string p1, .string p2, .int .u64 p3] 29)) [.int .u8 p0, .string p1, .string p2, .int .u64 p3] 31
  rw [World.size_alloc] at hA2
  obtain ⟨w3, hw3⟩ : ∃ x, x = (w2.alloc (.cells #[.int .u8 p0, .string p1, .string p2, .int .u64 p3] 29)).alloc (.cells #[.int .u8 p0, .string p1, .string p2, .int .u64 p3] 31) := ⟨_, rfl⟩
  have HB3 := Lib.hid (show Below w.heap.size w w3 by rw [hw3]; exact below_nw (below_nw HB2.out _) _)
  have HA3 := Lib.hid (show Has w3 w2.heap.size 29 [.int .u8 p0, .string p1, .string p2, .int .u64 p3] by rw [hw3]; exact hA.alloc _)
  have HR3 := Lib.hid (show Has w3 (w2.heap.size + 1) 31 [.int .u8 p0, .string p1, .string p2, .int .u64 p3] by rw [hw3]; exact hA2)
  clear hy2 hb2 hz hA hA2
  go_wp2_with fail
  rw [← hw3]
  refine (HTY.out _).mono ?_
  rintro e w4 ⟨rfl, hb4⟩
  have HB4 := Lib.hid (below_on HB3.out hb4)
  have HA4 := Lib.hid (HA3.out.below hb4 HA3.out.lt)
  have HR4 := Lib.hid (HR3.out.below hb4 HR3.out.lt)
  clear hb4 hw3 y0 y1 y2
  go_wp2_with fail
  refine (HOY.out _).mono ?_
  rintro e w5 ⟨rfl, hb5⟩
  have HB5 := Lib.hid (below_on HB4.out hb5)
  have HA5 := Lib.hid (HA4.out.below hb5 HA4.out.lt)
  have HR5 := Lib.hid (HR4.out.below hb5 HR4.out.lt)
  clear hb5
  have hA := Has.new w5 [.int .u8 q0, .string q1, .string q2, .int .u64 q3] 29
  have hA2 := Has.new (w5.alloc (.cells #[.int .u8 q0, .string q1, .string q2, .int .u64 q3] 29)) [.int .u8 q0, .string q1, .string q2, .int .u64 q3] 31
  rw [World.size_alloc] at hA2
  obtain ⟨w6, hw6⟩ : ∃ x, x = (w5.alloc (.cells #[.int .u8 q0, .string q1, .string q2, .int .u64 q3] 29)).alloc (.cells #[.int .u8 q0, .string q1, .string q2, .int .u64 q3] 31) := ⟨_, rfl⟩
  have HB6 := Lib.hid (show Below w.heap.size w w6 by rw [hw6]; exact below_nw (below_nw HB5.out _) _)
  have HA6 := Lib.hid (show Has w6 w2.heap.size 29 [.int .u8 p0, .string p1, .string p2, .int .u64 p3] by rw [hw6]; exact (HA5.out.alloc _).alloc _)
  have HR6 := Lib.hid (show Has w6 (w2.heap.size + 1) 31 [.int .u8 p0, .string p1, .string p2, .int .u64 p3] by rw [hw6]; exact (HR5.out.alloc _).alloc _)
  have HC6 := Lib.hid (show Has w6 w5.heap.size 29 [.int .u8 q0, .string q1, .string q2, .int .u64 q3] by rw [hw6]; exact hA.alloc _)
  have HS6 := Lib.hid (show Has w6 (w5.heap.size + 1) 31 [.int .u8 q0, .string q1, .string q2, .int .u64 q3] by rw [hw6]; exact hA2)
  clear hA hA2
  go_upto_region 3 with fail
  rw [← hw6]
  clear hw6
  obtain ⟨g5, hg5⟩ : ∃ g, g = w2.heap.size := ⟨_, rfl⟩
  obtain ⟨g7, hg7⟩ : ∃ g, g = w5.heap.size := ⟨_, rfl⟩
  rw [← hg5] at HA6 HR6 ⊢
  rw [← hg7] at HC6 HS6 ⊢
  clear hg5 hg7
  go_cut [9, 10] (fun s t wx => ∃ g1 g2, s = .pointer (some ⟨g1, 0, none⟩) ∧ t = .pointer (some ⟨g2, 0, none⟩) ∧ Has wx g1 29 [.int .u8 c0, .string c1, .string c2, .int .u64 c3] ∧ Has wx g2 31 [.int .u8 c0, .string c1, .string c2, .int .u64 c3] ∧ Below w6.heap.size w6 wx)
  case first =>
    refine Reg.region_vals3 (by kernel_rfl) [(23, .agg #[.int .u8 p0, .string p1, .string p2, .int .u64 p3]), (24, .agg #[.int .u8 q0, .string q1, .string q2, .int .u64 q3]), (25, .agg #[.int .u8 c0, .string c1, .string c2, .int .u64 c3]), (26, .agg #[.int .u8 p0, .string p1, .string p2, .int .u64 p3]), (27, .agg #[.int .u8 q0, .string q1, .string q2, .int .u64 q3]), (28, .agg #[.int .u8 c0, .string c1, .string c2, .int .u64 c3])] [9, 10]
      (Duo w6 9 10 6 7 8 9 29 31 (.int .u8 c0) (.string c1) (.string c2) (.int .u64 c3) (.int .u8 c0) (.string c1) (.string c2) (.int .u64 c3)) ?a1 ?a2 ?a3 ?a4 ?a5 ?a6 ?a7 ?hend
    case a1 => kernel_rfl
    case a2 => kernel_rfl
    case a3 => kernel_rfl
    case a4 => kernel_rfl
    case a5 => kernel_rfl
    case a6 => exact Duo.start _
    case a7 =>
      refine ⟨?_, ?_, ?_, ?_, ?_, ?_, ?_, ?_, ?_, ?_, trivial⟩
      · -- 0: 23 := load 5
        intro aq wq lq hz hI hl hdone hlater hold hd ho
        have h3 : aq.tmps.getD 5 undef = .pointer (some ⟨g5, 0, none⟩) := ho 5 (by kernel_rfl)
        clear hd ho hdone hlater hold
        rw [Array.getD_eq_getD_getElem?] at h3
        have hx := HA6.out.below hI.1 HA6.out.lt
        have e0 := hx.cell 0
        have e1 := hx.cell 1
        have e2 := hx.cell 2
        have e3 := hx.cell 3
        simp only [List.getElem?_cons_zero, List.getElem?_cons_succ] at e0 e1 e2 e3
        clear hx
        refine Reg.step3_val (.agg #[.int .u8 p0, .string p1, .string p2, .int .u64 p3]) ?_ rfl (hI.keep _ (Below.refl _ _) (by decide) (by decide) (by decide) (by decide) (by decide) (by decide) (by have hz' : aq.tmps.size = 58 := hz; omega)) trivial
        clear hz
        go_simp
      · -- 1: 24 := load 7
        intro aq wq lq hz hI hl hdone hlater hold hd ho
        have h3 : aq.tmps.getD 7 undef = .pointer (some ⟨g7, 0, none⟩) := ho 7 (by kernel_rfl)
        clear hd ho hdone hlater hold
        rw [Array.getD_eq_getD_getElem?] at h3
        have hx := HC6.out.below hI.1 HC6.out.lt
        have e0 := hx.cell 0
        have e1 := hx.cell 1
        have e2 := hx.cell 2
        have e3 := hx.cell 3
        simp only [List.getElem?_cons_zero, List.getElem?_cons_succ] at e0 e1 e2 e3
        clear hx
        refine Reg.step3_val (.agg #[.int .u8 q0, .string q1, .string q2, .int .u64 q3]) ?_ rfl (hI.keep _ (Below.refl _ _) (by decide) (by decide) (by decide) (by decide) (by decide) (by decide) (by have hz' : aq.tmps.size = 58 := hz; omega)) trivial
        clear hz
        go_simp
      · -- 2: 25 := call
        intro aq wq lq hz hI hl hdone hlater hold hd ho
        have h3 : aq.tmps.getD 23 undef = .agg #[.int .u8 p0, .string p1, .string p2, .int .u64 p3] := hd 23 (by kernel_rfl)
        have h4 : aq.tmps.getD 24 undef = .agg #[.int .u8 q0, .string q1, .string q2, .int .u64 q3] := hd 24 (by kernel_rfl)
        clear hd ho hdone hlater hold
        rw [Array.getD_eq_getD_getElem?] at h3 h4
        have hc : 25 < aq.tmps.size := by have hz' : aq.tmps.size = 58 := hz; omega
        refine Reg.step3_call 14 #[.agg #[.int .u8 p0, .string p1, .string p2, .int .u64 p3], .agg #[.int .u8 q0, .string q1, .string q2, .int .u64 q3]] ?_ ((HJ.out wq).mono ?_)
        · clear hz hc
          simp [execOp]
          go_simp
        · rintro e w' ⟨rfl, hb⟩
          exact ⟨_, rfl, rfl, hI.keep _ hb (by decide) (by decide) (by decide) (by decide) (by decide) (by decide) hc, trivial⟩
      · -- 3: 26 := load 6
        intro aq wq lq hz hI hl hdone hlater hold hd ho
        have h3 : aq.tmps.getD 6 undef = .pointer (some ⟨g5 + 1, 0, none⟩) := ho 6 (by kernel_rfl)
        clear hd ho hdone hlater hold
        rw [Array.getD_eq_getD_getElem?] at h3
        have hx := HR6.out.below hI.1 HR6.out.lt
        have e0 := hx.cell 0
        have e1 := hx.cell 1
        have e2 := hx.cell 2
        have e3 := hx.cell 3
        simp only [List.getElem?_cons_zero, List.getElem?_cons_succ] at e0 e1 e2 e3
        clear hx
        refine Reg.step3_val (.agg #[.int .u8 p0, .string p1, .string p2, .int .u64 p3]) ?_ rfl (hI.keep _ (Below.refl _ _) (by decide) (by decide) (by decide) (by decide) (by decide) (by decide) (by have hz' : aq.tmps.size = 58 := hz; omega)) trivial
        clear hz
        go_simp
      · -- 4: 27 := load 8
        intro aq wq lq hz hI hl hdone hlater hold hd ho
        have h3 : aq.tmps.getD 8 undef = .pointer (some ⟨g7 + 1, 0, none⟩) := ho 8 (by kernel_rfl)
        clear hd ho hdone hlater hold
        rw [Array.getD_eq_getD_getElem?] at h3
        have hx := HS6.out.below hI.1 HS6.out.lt
        have e0 := hx.cell 0
        have e1 := hx.cell 1
        have e2 := hx.cell 2
        have e3 := hx.cell 3
        simp only [List.getElem?_cons_zero, List.getElem?_cons_succ] at e0 e1 e2 e3
        clear hx
        refine Reg.step3_val (.agg #[.int .u8 q0, .string q1, .string q2, .int .u64 q3]) ?_ rfl (hI.keep _ (Below.refl _ _) (by decide) (by decide) (by decide) (by decide) (by decide) (by decide) (by have hz' : aq.tmps.size = 58 := hz; omega)) trivial
        clear hz
        go_simp
      · -- 5: 28 := call
        intro aq wq lq hz hI hl hdone hlater hold hd ho
        have h3 : aq.tmps.getD 26 undef = .agg #[.int .u8 p0, .string p1, .string p2, .int .u64 p3] := hd 26 (by kernel_rfl)
        have h4 : aq.tmps.getD 27 undef = .agg #[.int .u8 q0, .string q1, .string q2, .int .u64 q3] := hd 27 (by kernel_rfl)
        clear hd ho hdone hlater hold
        rw [Array.getD_eq_getD_getElem?] at h3 h4
        have hc : 28 < aq.tmps.size := by have hz' : aq.tmps.size = 58 := hz; omega
        refine Reg.step3_call 15 #[.agg #[.int .u8 p0, .string p1, .string p2, .int .u64 p3], .agg #[.int .u8 q0, .string q1, .string q2, .int .u64 q3]] ?_ ((HR.out wq).mono ?_)
        · clear hz hc
          simp [execOp]
          go_simp
        · rintro e w' ⟨rfl, hb⟩
          exact ⟨_, rfl, rfl, hI.keep _ hb (by decide) (by decide) (by decide) (by decide) (by decide) (by decide) hc, trivial⟩
      · -- 6: 9 := alloc
        intro aq wq lq hz hI hl hdone hlater hold hd ho
        have hst : lq 8 = false := hlater 8 (by kernel_rfl)
        clear hd ho hdone hlater hold
        have hc : 9 < aq.tmps.size := by have hz' : aq.tmps.size = 58 := hz; omega
        refine Reg.step3_do (.pointer (some ⟨wq.heap.size, 0, none⟩)) (wq.alloc (.cells #[.int .u8 0, .string ⟨#[]⟩, .string ⟨#[]⟩, .int .u64 0] 29)) ?_ trivial (Duo.mk hI _ _ _ _ hst (by decide) (by decide) (by decide) (by decide) hc) trivial
        clear hz hc
        simp [execOp]
        go_simp
      · -- 7: 10 := alloc
        intro aq wq lq hz hI hl hdone hlater hold hd ho
        have hst : lq 9 = false := hlater 9 (by kernel_rfl)
        clear hd ho hdone hlater hold
        have hc : 10 < aq.tmps.size := by have hz' : aq.tmps.size = 58 := hz; omega
        refine Reg.step3_do (.pointer (some ⟨wq.heap.size, 0, none⟩)) (wq.alloc (.cells #[.int .u8 0, .string ⟨#[]⟩, .string ⟨#[]⟩, .int .u64 0] 31)) ?_ trivial (Duo.swap (Duo.mk hI.swap _ _ _ _ hst (by decide) (by decide) (by decide) (by decide) hc)) trivial
        clear hz hc
        simp [execOp]
        go_simp
      · -- 8: store 25
        intro aq wq lq hz hI hl hdone hlater hold hd ho
        have h3 : aq.tmps.getD 25 undef = .agg #[.int .u8 c0, .string c1, .string c2, .int .u64 c3] := hd 25 (by kernel_rfl)
        have hia : lq 6 = true := hdone 6 (by kernel_rfl)
        clear hd ho hdone hlater hold hz
        obtain ⟨q, h4, ⟨u0, u1, u2, u3, hx⟩, hD⟩ := hI.st hia (by decide) (by decide) (by decide)
        rw [Array.getD_eq_getD_getElem?] at h3 h4
        have e0 := hx.cell 0
        have e1 := hx.cell 1
        have e2 := hx.cell 2
        have e3 := hx.cell 3
        have f0 := hx.frozen 0
        have f1 := hx.frozen 1
        have f2 := hx.frozen 2
        have f3 := hx.frozen 3
        simp only [List.getElem?_cons_zero, List.getElem?_cons_succ] at e0 e1 e2 e3
        refine Reg.step3_skip ((((wq.setCell ⟨q, 0, none⟩ (.int .u8 c0)).setCell ⟨q, 1, none⟩ (.string c1)).setCell ⟨q, 2, none⟩ (.string c2)).setCell ⟨q, 3, none⟩ (.int .u64 c3)) rfl ?_ hD trivial
        clear hx hI hD
        simp [execOp]
        go_simp
      · -- 9: store 28
        intro aq wq lq hz hI hl hdone hlater hold hd ho
        have h3 : aq.tmps.getD 28 undef = .agg #[.int .u8 c0, .string c1, .string c2, .int .u64 c3] := hd 28 (by kernel_rfl)
        have hia : lq 7 = true := hdone 7 (by kernel_rfl)
        clear hd ho hdone hlater hold hz
        obtain ⟨q, h4, ⟨u0, u1, u2, u3, hx⟩, hD⟩ := hI.swap.st hia (by decide) (by decide) (by decide)
        rw [Array.getD_eq_getD_getElem?] at h3 h4
        have e0 := hx.cell 0
        have e1 := hx.cell 1
        have e2 := hx.cell 2
        have e3 := hx.cell 3
        have f0 := hx.frozen 0
        have f1 := hx.frozen 1
        have f2 := hx.frozen 2
        have f3 := hx.frozen 3
        simp only [List.getElem?_cons_zero, List.getElem?_cons_succ] at e0 e1 e2 e3
        refine Reg.step3_skip ((((wq.setCell ⟨q, 0, none⟩ (.int .u8 c0)).setCell ⟨q, 1, none⟩ (.string c1)).setCell ⟨q, 2, none⟩ (.string c2)).setCell ⟨q, 3, none⟩ (.int .u64 c3)) rfl ?_ hD.swap trivial
        clear hx hI hD
        simp [execOp]
        go_simp
    case hend =>
      intro wx v aq hv hI
      obtain ⟨hbx, q, r, k1, k2, k3⟩ := hI
      obtain ⟨e1, _, u0, u1, u2, u3, hn1, ee1⟩ := k1 rfl
      obtain ⟨e2, _, v0, v1, v2, v3, hn2, ee2⟩ := k2 rfl
      obtain ⟨rfl, rfl, rfl, rfl⟩ := ee1 rfl
      obtain ⟨rfl, rfl, rfl, rfl⟩ := ee2 rfl
      rw [hv 9 (by decide)] at e1
      rw [hv 10 (by decide)] at e2
      clear hv
      have HN1 := Lib.hid hn1
      have HN2 := Lib.hid hn2
      have HBX := Lib.hid hbx
      clear hn1 hn2 hbx k1 k2 k3 ee1 ee2
      simp only [Reg.fill, List.map_cons, List.map_nil, List.foldl_cons, List.foldl_nil, List.setIfInBounds_toArray, List.set_cons_zero, List.set_cons_succ]
      rw [e1, e2]
      go_wp2
      go_meet
      exact ⟨q, r, rfl, rfl, HN1.out, HN2.out, HBX.out⟩
  case rest =>
    obtain ⟨g1, g2, rfl, rfl, hN1, hN2, hbx⟩ := hcut
    have HN1 := Lib.hid hN1
    have HN2 := Lib.hid hN2
    have HBX := Lib.hid (below_on HB6.out hbx)
    clear hN1 hN2 hbx
    go_wp2_with fail
    refine (wakes_any _).mono ?_
    rintro e w8 ⟨rfl, hb8⟩
    have hm1 := HN1.out.below hb8 HN1.out.lt
    have hm2 := HN2.out.below hb8 HN2.out.lt
    have e0 := hm1.cell 0
    have e1 := hm1.cell 1
    have e2 := hm1.cell 2
    have e3 := hm1.cell 3
    have d0 := hm2.cell 0
    have d1 := hm2.cell 1
    have d2 := hm2.cell 2
    have d3 := hm2.cell 3
    simp only [List.getElem?_cons_zero, List.getElem?_cons_succ] at e0 e1 e2 e3 d0 d1 d2 d3
    have HB8 := Lib.hid (below_on HBX.out hb8)
    clear hm1 hm2 hb8
    go_wp2_with fail
    go_ret
    exact ⟨rfl, HB8.out⟩

/-! ### THE ROW's STEP -/
set_option maxRecDepth 100000 in
theorem lifted (os : Os) (started : os.Started) (H : Type) (enc : TypeId × Value → H) :
    ReturnsInHanded {} Try.checked os 4 .any (Rows.msgJoinsSpec.pre6 enc Try.prog Try.f4 Rows.msgJoinsRow.domain false) (Rows.msgJoinsSpec.post enc Try.prog Try.f4 false true false false) := by
  refine returnsInHanded_of_change (C := Try.checked) own started (by kernel_rfl) Try.func4
    (ChangeSpec.witness6 (enc := enc) (C := Try.checked) false ⟨#[], #[.agg #[.int .u8 0, .string ByteArray.empty, .int .u64 0], .agg #[.int .u8 0, .string ByteArray.empty, .int .u64 0]], []⟩ 8 (by kernel_rfl) (by kernel_rfl) (by kernel_rfl) (by kernel_rfl)) ?_
  intro W base args ds gs before hval0 hW hcnd _
  have hval : ∀ (j : Nat) t v, Try.f4.params[j]? = some t → args[j]? = some v → Value.okWide Try.prog W .any base t v := hval0
  have hW' := hW
  obtain ⟨p, q, hA0, hV, rfl, hfz, hnd⟩ := hW
  have hA : DataW.TrodAll enc Try.prog W 0 (fun _ => true) true Try.f4.params.toList args.toList ds p := hA0
  rw [Try.params4] at hA hval
  obtain ⟨v0, vs0, d0, ds0, p0, q0, hargs, rfl, rfl, h0, r0⟩ := trodAll_cons hA
  obtain ⟨v1, vs1, d1, ds1, p1, q1, rfl, rfl, rfl, h1, r1⟩ := trodAll_cons r0
  obtain ⟨rfl, rfl, rfl⟩ := trodAll_nil r1
  obtain rfl : args = #[v0, v1] := by cases args; simp_all
  obtain ⟨rfl, rfl⟩ := trodVars_none hV
  have k0 := h0
  have lt0 : ∀ x ∈ p0, x.block < W.heap.size := by obtain ⟨m, hm⟩ := k0; exact DataW.trod_lt m _ _ _ hm
  obtain ⟨cs0, rfl, hl0, hc0⟩ := open_struct_cells Try.underlying26 (by kernel_rfl) (by kernel_rfl) (hval 0 26 v0 rfl rfl) h0
  obtain ⟨y0_0, y0_1, y0_2, rfl⟩ := len3 cs0 hl0
  obtain ⟨a0f0, rfl, w0f0⟩ := open_int_cell Try.underlying5 (hc0 0 _ _ rfl rfl)
  obtain ⟨a0f1, rfl, w0f1⟩ := open_str_cell Try.underlying9 (hc0 1 _ _ rfl rfl)
  obtain ⟨a0f2, rfl, w0f2⟩ := open_int_cell Try.underlying24 (hc0 2 _ _ rfl rfl)
  have k1 := h1
  have lt1 : ∀ x ∈ p1, x.block < W.heap.size := by obtain ⟨m, hm⟩ := k1; exact DataW.trod_lt m _ _ _ hm
  obtain ⟨cs1, rfl, hl1, hc1⟩ := open_struct_cells Try.underlying26 (by kernel_rfl) (by kernel_rfl) (hval 1 26 v1 rfl rfl) h1
  obtain ⟨y1_0, y1_1, y1_2, rfl⟩ := len3 cs1 hl1
  obtain ⟨a1f0, rfl, w1f0⟩ := open_int_cell Try.underlying5 (hc1 0 _ _ rfl rfl)
  obtain ⟨a1f1, rfl, w1f1⟩ := open_str_cell Try.underlying9 (hc1 1 _ _ rfl rfl)
  obtain ⟨a1f2, rfl, w1f2⟩ := open_int_cell Try.underlying24 (hc1 2 _ _ rfl rfl)
  clear hA0 hval0
  refine (walk a0f0 a0f1 a0f2 a1f0 a1f1 a1f2 W w0f0 w0f1 w0f2 w1f0 w1f1 w1f2).mono fun e W' ⟨he, bel⟩ => ?_
  subst he
  exact ⟨_, rfl, _, _, _, [], _, [], hW', trodAll_mk1 (shut_bool Try.underlying4 _), (trodAll_cons_mk (Below.trod laidOut (by kernel_rfl) (of_decide_eq_true (by kernel_rfl)) k0 bel lt0) (trodAll_cons_mk (Below.trod laidOut (by kernel_rfl) (of_decide_eq_true (by kernel_rfl)) k1 bel lt1) trodAll_mk0)), rfl, bel.frame _, fun h => by cases h⟩

theorem over : Rows.msgJoinsRow.holds Try.pinned (OpenSpec.ofChange Rows.msgJoinsSpec) :=
  OpenClaim.holds_of_wide 4 Try.f4 rfl rfl rfl rfl rfl rfl rfl ⟨rfl, rfl, rfl, rfl, rfl⟩ rfl rfl rfl rfl rfl (by kernel_rfl) Try.func4 (by kernel_rfl)
    (of_decide_eq_true (by kernel_rfl)) (by unfold Func.isWrapper; first | (rw [if_pos (by decide +kernel)]; kernel_rfl) | (rw [if_neg (by decide +kernel)]; exact ⟨rfl, rfl⟩))
    (fun os started H enc _ => lifted os started H enc)

/-- THE STATEMENT -/
theorem proved : Rows.MsgJoinsSaid := over
#print axioms proved
end Go.Proofs.Ytmhinnfcfnlfkaa.msgJoins
