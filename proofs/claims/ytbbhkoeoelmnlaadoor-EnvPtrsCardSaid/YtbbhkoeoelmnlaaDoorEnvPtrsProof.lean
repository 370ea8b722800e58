/-
  The law EnvPtrs holds: the bytes of every Ptr, and the Ptr of all bytes, are the document's, or there are none; so of what is left. Conditions: none but the row's own.
-/
import Derived.Test.YtbbhkoeoelmnlaaDoorRows
import Derived.Test.YtbbhkoeoelmnlaaDoorEnvG
import Derived.Test.YtbbhkoeoelmnlaaDoorCards
import Derived.Test.YtbbhkoeoelmnlaaDoorTie
import Derived.Test.YtbbhkoeoelmnlaaDoorArr
import Derived.WalkKit
import Derived.ProofKit
import Derived.OpenShut
import Derived.ShutString
import Derived.ChangeOld
import Derived.Below
import Derived.Carry
import Derived.Deep.DeepHandedRow
import Derived.Lib.LaidTab
namespace Go.Proofs.YtbbhkoeoelmnlaaDoor.envPtrs
open Go.ChangeShapes Go.WideShapes Go.ChangeAt Go.RowKit
open Go.Proofs.YtbbhkoeoelmnlaaDoor
open Go.ChangeMaps (open_string shut_string)
set_option linter.unusedVariables false

theorem own : ownKnob Tryd.prog.godebug = none := by kernel_rfl
theorem laidOut : laidOutB Tryd.prog = true := by kernel_rfl


open Go.Proofs.YtbbhkoeoelmnlaaDoor.Env Go.Proofs.YtbbhkoeoelmnlaaDoor.Lend
theorem keep6 {w1 w2 : World} {p0 p1 p2 p3 p4 p5 : Addr} {x0 x1 x2 x3 x4 x5 : Value}
    (h : w1.cell? p0 = some x0 ∧ w1.cell? p1 = some x1 ∧ w1.cell? p2 = some x2 ∧ w1.cell? p3 = some x3 ∧ w1.cell? p4 = some x4 ∧ w1.cell? p5 = some x5) (hb : Below w1.heap.size w1 w2) :
    w2.cell? p0 = some x0 ∧ w2.cell? p1 = some x1 ∧ w2.cell? p2 = some x2 ∧ w2.cell? p3 = some x3 ∧ w2.cell? p4 = some x4 ∧ w2.cell? p5 = some x5 := by
  obtain ⟨h0, h1, h2, h3, h4, h5⟩ := h
  have k : ∀ {p : Addr} {x : Value}, w1.cell? p = some x → w2.cell? p = some x := fun h => by rw [hb.cell (World.block_lt_of_cell? _ _ h)]; exact h
  exact ⟨k h0, k h1, k h2, k h3, k h4, k h5⟩

/-! ### STEP 1: THE WALK -/
set_option maxHeartbeats 4000000 in
set_option maxRecDepth 100000 in
theorem walk (a0 : Int) (a1 : Int) (a2 : ByteArray) (w : World) (w0 : (Lit.int .i64 a0).wf = true) (w1 : (Lit.int .u64 a1).wf = true) (w2 : a2.size ≤ maxLen) :
    Calls Tryd.prog 4 #[.int .i64 a0, .int .u64 a1, .string a2] w fun e w' => e = .returned (.bool true) ∧ Below w.heap.size w w' := by
  have hb1 := bounds_u64 w1
  obtain ⟨n, hn⟩ : ∃ n : Nat, n = min a2.size 40 := ⟨_, rfl⟩
  have hmin : min (a2.size : Int) 40 = (n : Int) := by omega
  have hn0 : (0 : Int) ≤ (n : Int) := by omega
  have hn1 : n ≤ a2.size := by omega
  have hn2 : (n : Int) ≤ (a2.size : Int) := by omega
  obtain ⟨u, hu⟩ : ∃ x, x = a2.extract 0 n := ⟨_, rfl⟩
  have hus : u.size ≤ 40 := by rw [hu]; simp; omega
  obtain ⟨x, hx⟩ : ∃ x, x = a1 := ⟨_, rfl⟩
  rw [← hx] at hb1 ⊢
  have hx0 : 0 ≤ x := hb1.1
  have HX1 := Lib.hid (show x < 18446744073709551616 by omega)
  have HU := Lib.hid hu
  clear w0 w1 w2 hb1 hx hn hu
  go_enter Tryd.func4, Tryd.ntmps4
  obtain ⟨c, hc⟩ : ∃ c, c = x / 128 % 4294967296 := ⟨_, rfl⟩
  have hc0 : 0 ≤ c := by omega
  have hc1 : c < 4294967296 := by omega
  have hc2 : c ≤ 4294967295 := by omega
  go_wp2_with fail
  rw [← hc, ← HU.out]
  refine (text_any a0 x c _ hx0 HX1.out hc0 hc1).mono ?_
  rintro e w1 ⟨rfl, hb1⟩
  have p0 : w1.cell? ⟨w.heap.size, 0, none⟩ = some (.int .i64 a0) := by rw [hb1.cell (by simp)]; simp [hc]
  have p1 : w1.cell? ⟨w.heap.size, 1, none⟩ = some (.int .u64 x) := by rw [hb1.cell (by simp)]; simp [hc]
  have p2 : w1.cell? ⟨w.heap.size, 2, none⟩ = some (.int .u32 c) := by rw [hb1.cell (by simp)]; simp [hc]
  have hlt : w.heap.size < w1.heap.size := by have := hb1.size; simp at this; omega
  have HB1 := Lib.hid (below_on (below_new w _) hb1)
  clear hb1 hc
  by_cases h0 : 0 ≤ a0
  · by_cases h1 : a0 ≤ 2147483647
    · have had := adB_yes h0 h1
      have hps : ptS a0 x c = Lend.strOf (encL ptrW [a0, x, c]) := by rw [ptS, if_pos had]
      rw [hps, had]
      have HN := Lib.hid (ptr_ns h0 (by omega) hx0 HX1.out hc0 hc1)
      have HW := Lib.hid (ptr_fits (a := a0) (g := x) (c := c) (by omega) HX1.out hc1)
      obtain ⟨P, hP⟩ : ∃ P, P = Lend.strOf (encL ptrW [a0, x, c]) := ⟨_, rfl⟩
      have hPs : P.size ≤ 16 := by rw [hP]; show List.length _ ≤ 16; rw [encL_ptr]; simp [encN_length]
      have HPV := Lib.hid (show ppV (P ++ u).data.toList = .tuple #[.agg #[.int .i64 a0, .int .u64 x, .int .u32 c], .string u, .bool true] by
        have e : (P ++ u).data.toList = encL ptrW [a0, x, c] ++ u.data.toList := by rw [hP]; simp [Lend.strOf]
        rw [e, ppV_enc had hx0 HX1.out hc0 hc1, show Lend.strOf u.data.toList = u by cases u; rfl])
      have hPu : (P ++ u).size ≤ 1000 := by simp; omega
      have HP := Lib.hid hP
      rw [← hP]
      have wa : IntKind.u64.wrap a0 = a0 := by rw [wrap_u64]; omega
      have wc' : IntKind.u64.wrap c = c := by rw [wrap_u64]; omega
      clear hP had hps hc1 hmin hn0 hn1 hn2
      go_wp2_with fail
      refine (refwrite_any _ _ 3 3 3 3 ptrW [a0, x, c] _ (Row.new (Row.three .i64 w1 4 8 4 _) _) (Row.threeAt .u64 (w1.alloc _) a0 x c _ (w1.heap.size + 1) (by simp)) (by decide) (by decide) HN.out).mono ?_
      rintro e w2 ⟨rfl, hb2⟩
      rw [HW.out.1, HW.out.2, ← HP.out]
      have hb12 := below_on (below_nw (below_new w1 _) _) hb2
      have hlt2 : w.heap.size < w2.heap.size := Nat.lt_of_lt_of_le hlt hb12.size
      have q0 : w2.cell? ⟨w.heap.size, 0, none⟩ = some (.int .i64 a0) := by rw [hb12.cell hlt]; exact p0
      have q1 : w2.cell? ⟨w.heap.size, 1, none⟩ = some (.int .u64 x) := by rw [hb12.cell hlt]; exact p1
      have q2 : w2.cell? ⟨w.heap.size, 2, none⟩ = some (.int .u32 c) := by rw [hb12.cell hlt]; exact p2
      have HB2 := Lib.hid (below_on HB1.out hb12)
      clear hb2 hb12 p0 p1 p2 wa wc'
      go_wp2_with fail
      refine (parsePtr_any (P ++ u) _ (by omega)).mono ?_
      rintro e w3 ⟨rfl, hb3⟩
      rw [HPV.out]
      have r0 : w3.cell? ⟨w.heap.size, 0, none⟩ = some (.int .i64 a0) := by rw [hb3.cell hlt2]; exact q0
      have r1 : w3.cell? ⟨w.heap.size, 1, none⟩ = some (.int .u64 x) := by rw [hb3.cell hlt2]; exact q1
      have r2 : w3.cell? ⟨w.heap.size, 2, none⟩ = some (.int .u32 c) := by rw [hb3.cell hlt2]; exact q2
      have hlt3 : w.heap.size < w3.heap.size := Nat.lt_of_lt_of_le hlt2 hb3.size
      have HB3 := Lib.hid (below_on HB2.out hb3)
      clear hb3 q0 q1 q2
      have HBX := Lib.hid (below_nw HB3.out (.cells #[.int .i64 a0, .int .u64 x, .int .u32 c] 32))
      go_wp2_with fail
      clear r0 r1 r2 hlt hlt2 hlt3 HN HW HPV HP HB1 HB2 HB3
      refine (parsePtr_any u _ (by omega)).mono ?_
      rintro e wp ⟨rfl, hbp⟩
      have HBP := Lib.hid (below_on HBX.out hbp)
      clear hbp
      by_cases h16 : 16 ≤ u.data.toList.length
      · have hbd := pG_bd u.data.toList
        have HRD := Lib.hid (rdP_ok h16)
        by_cases hle : pG u.data.toList 0 ≤ 2147483647
        · have HV := Lib.hid (ppV_yes (ppB_ok h16 hle))
          obtain ⟨y0, hy0⟩ : ∃ y, y = pG u.data.toList 0 := ⟨_, rfl⟩
          obtain ⟨y1, hy1⟩ : ∃ y, y = pG u.data.toList 1 := ⟨_, rfl⟩
          obtain ⟨y2, hy2⟩ : ∃ y, y = pG u.data.toList 2 := ⟨_, rfl⟩
          have hv := HV.out
          have hrn := HRD.out.2.1
          rw [← hy0, ← hy1, ← hy2] at hv hrn
          rw [← hy0] at hle
          rw [← hy0, ← hy1, ← hy2] at hbd
          rw [hv]
          have HRN := Lib.hid hrn
          obtain ⟨d0, d1, d2, d3, d4⟩ := hbd
          have d5 : y2 ≤ 4294967295 := by omega
          obtain ⟨R, hR⟩ : ∃ R, R = Lend.strOf (u.data.toList.drop 16) := ⟨_, rfl⟩
          rw [← hR]
          have HR := Lib.hid hR
          have hp1 := New3.new wp (.int .i64 y0) (.int .u64 y1) (.int .u32 y2) 32
          have HB4 := Lib.hid (below_nw HBP.out (.cells #[.int .i64 y0, .int .u64 y1, .int .u32 y2] 32))
          clear hy0 hy1 hy2 hv hrn h16 hR d2 d4
          go_wp2_with fail
          refine (refread_any _ 3 3 ptrW u _ (Row.threeAt .i64 (wp.alloc _) 4 8 4 _ (wp.heap.size + 1) (by simp)) (by decide) (by omega)).mono ?_
          rintro e wq ⟨bo, m, cap, rfl, hown, hbq⟩
          rw [HRN.out] at hown
          rw [HRD.out.1, HRD.out.2.2, ← HR.out]
          have hr := Row.own hown
          obtain rfl : 3 = m := hr.len_eq
          obtain ⟨rb, ro, rfl, hcell⟩ := hr.at_ (by decide)
          have e0 : wq.cell? ⟨rb, ro, none⟩ = some (.int .u64 y0) := hcell 0 (by decide)
          have e1 : wq.cell? ⟨rb, ro + 1, none⟩ = some (.int .u64 y1) := hcell 1 (by decide)
          have e2 : wq.cell? ⟨rb, ro + 2, none⟩ = some (.int .u64 y2) := hcell 2 (by decide)
          have hp2 := New3.on (New3.on hp1 (below_new _ _)) hbq
          have HBQ := Lib.hid (below_on (below_nw HB4.out _) hbq)
          have HS6 := Lib.hid (show wq.drew.cell? ⟨wp.heap.size, 0, none⟩ = some (.int .i64 y0) ∧ wq.drew.cell? ⟨wp.heap.size, 1, none⟩ = some (.int .u64 y1) ∧ wq.drew.cell? ⟨wp.heap.size, 2, none⟩ = some (.int .u32 y2) ∧ wq.drew.cell? ⟨rb, ro, none⟩ = some (.int .u64 y0) ∧ wq.drew.cell? ⟨rb, ro + 1, none⟩ = some (.int .u64 y1) ∧ wq.drew.cell? ⟨rb, ro + 2, none⟩ = some (.int .u64 y2) from ⟨hp2.c0, hp2.c1, hp2.c2, e0, e1, e2⟩)
          have v0 : IntKind.i64.wrap y0 = y0 := IntWalk.i64_in _ (by omega)
          have v2 : IntKind.u32.wrap y2 = y2 := by rw [IntKind.wrap_u32]; omega
          clear hr hcell hown hp1 hp2 hbq
          go_wp2_with fail
          go_region_held3 (fun W => W.cell? ⟨wp.heap.size, 0, none⟩ = some (.int .i64 y0) ∧ W.cell? ⟨wp.heap.size, 1, none⟩ = some (.int .u64 y1) ∧ W.cell? ⟨wp.heap.size, 2, none⟩ = some (.int .u32 y2) ∧ W.cell? ⟨rb, ro, none⟩ = some (.int .u64 y0) ∧ W.cell? ⟨rb, ro + 1, none⟩ = some (.int .u64 y1) ∧ W.cell? ⟨rb, ro + 2, none⟩ = some (.int .u64 y2))
            (first | with_reducible exact HS6.out | with_reducible exact keep6 (by assumption) (by assumption) | go_keep)
            ((go_at_call 14; refine (wakes_any _).mono ?_; rintro e wz ⟨rfl, hbz⟩))
          all_goals
            rename_i hend
            clear hend
            go_wp2_with fail
            go_ret
            refine ⟨rfl, ?_⟩
            repeat (first | with_reducible exact HBQ.out | with_reducible apply below_dr | with_reducible refine below_on ?_ (by assumption))
        · have HV := Lib.hid (ppV_no (ppB_big hle))
          rw [HV.out]
          obtain ⟨y0, hy0⟩ : ∃ y, y = pG u.data.toList 0 := ⟨_, rfl⟩
          obtain ⟨y1, hy1⟩ : ∃ y, y = pG u.data.toList 1 := ⟨_, rfl⟩
          obtain ⟨y2, hy2⟩ : ∃ y, y = pG u.data.toList 2 := ⟨_, rfl⟩
          have hrn := HRD.out.2.1
          rw [← hy0, ← hy1, ← hy2] at hrn
          rw [← hy0] at hle
          have hgt : 2147483647 < y0 := by omega
          have HRN := Lib.hid hrn
          have HB4 := Lib.hid (below_nw HBP.out (.cells #[.int .i64 0, .int .u64 0, .int .u32 0] 32))
          have hp1 := New3.new wp (.int .i64 0) (.int .u64 0) (.int .u32 0) 32
          clear hy0 hy1 hy2 hrn h16 hle hbd
          go_wp2_with fail
          refine (refread_any _ 3 3 ptrW u _ (Row.threeAt .i64 (wp.alloc _) 4 8 4 _ (wp.heap.size + 1) (by simp)) (by decide) (by omega)).mono ?_
          rintro e wq ⟨bo, m, cap, rfl, hown, hbq⟩
          rw [HRN.out] at hown
          rw [HRD.out.1, HRD.out.2.2]
          have hr := Row.own hown
          obtain rfl : 3 = m := hr.len_eq
          obtain ⟨rb, ro, rfl, hcell⟩ := hr.at_ (by decide)
          have e0 : wq.cell? ⟨rb, ro, none⟩ = some (.int .u64 y0) := hcell 0 (by decide)
          have hp2 := New3.on (New3.on hp1 (below_new _ _)) hbq
          have HBQ := Lib.hid (below_on (below_nw HB4.out _) hbq)
          have g0 := hp2.c0
          have g1 := hp2.c1
          have g2 := hp2.c2
          have hl0 := World.block_lt_of_cell? _ _ g0
          clear hr hcell hown hp1 hp2 hbq
          go_wp2_with fail
          refine (wakes_any _).mono ?_
          rintro e wz ⟨rfl, hbz⟩
          have z0 : wz.cell? ⟨wp.heap.size, 0, none⟩ = some (.int .i64 0) := by rw [hbz.cell hl0]; exact g0
          have z1 : wz.cell? ⟨wp.heap.size, 1, none⟩ = some (.int .u64 0) := by rw [hbz.cell hl0]; exact g1
          have z2 : wz.cell? ⟨wp.heap.size, 2, none⟩ = some (.int .u32 0) := by rw [hbz.cell hl0]; exact g2
          go_wp2_with fail
          go_ret
          exact ⟨rfl, below_on HBQ.out hbz⟩
      · have HV := Lib.hid (ppV_no (ppB_short h16))
        have HRD := Lib.hid (rdP_no h16)
        rw [HV.out]
        have HB4 := Lib.hid (below_nw HBP.out (.cells #[.int .i64 0, .int .u64 0, .int .u32 0] 32))
        have hp1 := New3.new wp (.int .i64 0) (.int .u64 0) (.int .u32 0) 32
        clear h16
        go_wp2_with fail
        refine (refread_any _ 3 3 ptrW u _ (Row.threeAt .i64 (wp.alloc _) 4 8 4 _ (wp.heap.size + 1) (by simp)) (by decide) (by omega)).mono ?_
        rintro e wq ⟨bo, m, cap, rfl, hown, hbq⟩
        rw [HRD.out.1, HRD.out.2.2]
        have hp2 := New3.on (New3.on hp1 (below_new _ _)) hbq
        have HBQ := Lib.hid (below_on (below_nw HB4.out _) hbq)
        have g0 := hp2.c0
        have g1 := hp2.c1
        have g2 := hp2.c2
        have hl0 := World.block_lt_of_cell? _ _ g0
        clear hown hp1 hp2 hbq
        go_wp2_with fail
        refine (wakes_any _).mono ?_
        rintro e wz ⟨rfl, hbz⟩
        have z0 : wz.cell? ⟨wp.heap.size, 0, none⟩ = some (.int .i64 0) := by rw [hbz.cell hl0]; exact g0
        have z1 : wz.cell? ⟨wp.heap.size, 1, none⟩ = some (.int .u64 0) := by rw [hbz.cell hl0]; exact g1
        have z2 : wz.cell? ⟨wp.heap.size, 2, none⟩ = some (.int .u32 0) := by rw [hbz.cell hl0]; exact g2
        go_wp2_with fail
        go_ret
        exact ⟨rfl, below_on HBQ.out hbz⟩
    · have had := adB_no (a := a0) (.inr (by omega))
      have hps : ptS a0 x c = ⟨#[]⟩ := by rw [ptS, if_neg (by rw [had]; decide)]
      rw [hps, had]
      have h2 : 2147483647 < a0 := by omega
      clear had hps h1
      have HBX := HB1
      go_wp2_with fail
      clear p0 p1 p2 hlt HB1 hmin hn0 hn1 hn2
      refine (parsePtr_any u _ (by omega)).mono ?_
      rintro e wp ⟨rfl, hbp⟩
      have HBP := Lib.hid (below_on HBX.out hbp)
      clear hbp
      by_cases h16 : 16 ≤ u.data.toList.length
      · have hbd := pG_bd u.data.toList
        have HRD := Lib.hid (rdP_ok h16)
        by_cases hle : pG u.data.toList 0 ≤ 2147483647
        · have HV := Lib.hid (ppV_yes (ppB_ok h16 hle))
          obtain ⟨y0, hy0⟩ : ∃ y, y = pG u.data.toList 0 := ⟨_, rfl⟩
          obtain ⟨y1, hy1⟩ : ∃ y, y = pG u.data.toList 1 := ⟨_, rfl⟩
          obtain ⟨y2, hy2⟩ : ∃ y, y = pG u.data.toList 2 := ⟨_, rfl⟩
          have hv := HV.out
          have hrn := HRD.out.2.1
          rw [← hy0, ← hy1, ← hy2] at hv hrn
          rw [← hy0] at hle
          rw [← hy0, ← hy1, ← hy2] at hbd
          rw [hv]
          have HRN := Lib.hid hrn
          obtain ⟨d0, d1, d2, d3, d4⟩ := hbd
          have d5 : y2 ≤ 4294967295 := by omega
          obtain ⟨R, hR⟩ : ∃ R, R = Lend.strOf (u.data.toList.drop 16) := ⟨_, rfl⟩
          rw [← hR]
          have HR := Lib.hid hR
          have hp1 := New3.new wp (.int .i64 y0) (.int .u64 y1) (.int .u32 y2) 32
          have HB4 := Lib.hid (below_nw HBP.out (.cells #[.int .i64 y0, .int .u64 y1, .int .u32 y2] 32))
          clear hy0 hy1 hy2 hv hrn h16 hR d2 d4
          go_wp2_with fail
          refine (refread_any _ 3 3 ptrW u _ (Row.threeAt .i64 (wp.alloc _) 4 8 4 _ (wp.heap.size + 1) (by simp)) (by decide) (by omega)).mono ?_
          rintro e wq ⟨bo, m, cap, rfl, hown, hbq⟩
          rw [HRN.out] at hown
          rw [HRD.out.1, HRD.out.2.2, ← HR.out]
          have hr := Row.own hown
          obtain rfl : 3 = m := hr.len_eq
          obtain ⟨rb, ro, rfl, hcell⟩ := hr.at_ (by decide)
          have e0 : wq.cell? ⟨rb, ro, none⟩ = some (.int .u64 y0) := hcell 0 (by decide)
          have e1 : wq.cell? ⟨rb, ro + 1, none⟩ = some (.int .u64 y1) := hcell 1 (by decide)
          have e2 : wq.cell? ⟨rb, ro + 2, none⟩ = some (.int .u64 y2) := hcell 2 (by decide)
          have hp2 := New3.on (New3.on hp1 (below_new _ _)) hbq
          have HBQ := Lib.hid (below_on (below_nw HB4.out _) hbq)
          have HS6 := Lib.hid (show wq.drew.cell? ⟨wp.heap.size, 0, none⟩ = some (.int .i64 y0) ∧ wq.drew.cell? ⟨wp.heap.size, 1, none⟩ = some (.int .u64 y1) ∧ wq.drew.cell? ⟨wp.heap.size, 2, none⟩ = some (.int .u32 y2) ∧ wq.drew.cell? ⟨rb, ro, none⟩ = some (.int .u64 y0) ∧ wq.drew.cell? ⟨rb, ro + 1, none⟩ = some (.int .u64 y1) ∧ wq.drew.cell? ⟨rb, ro + 2, none⟩ = some (.int .u64 y2) from ⟨hp2.c0, hp2.c1, hp2.c2, e0, e1, e2⟩)
          have v0 : IntKind.i64.wrap y0 = y0 := IntWalk.i64_in _ (by omega)
          have v2 : IntKind.u32.wrap y2 = y2 := by rw [IntKind.wrap_u32]; omega
          clear hr hcell hown hp1 hp2 hbq
          go_wp2_with fail
          go_region_held3 (fun W => W.cell? ⟨wp.heap.size, 0, none⟩ = some (.int .i64 y0) ∧ W.cell? ⟨wp.heap.size, 1, none⟩ = some (.int .u64 y1) ∧ W.cell? ⟨wp.heap.size, 2, none⟩ = some (.int .u32 y2) ∧ W.cell? ⟨rb, ro, none⟩ = some (.int .u64 y0) ∧ W.cell? ⟨rb, ro + 1, none⟩ = some (.int .u64 y1) ∧ W.cell? ⟨rb, ro + 2, none⟩ = some (.int .u64 y2))
            (first | with_reducible exact HS6.out | with_reducible exact keep6 (by assumption) (by assumption) | go_keep)
            ((go_at_call 14; refine (wakes_any _).mono ?_; rintro e wz ⟨rfl, hbz⟩))
          all_goals
            rename_i hend
            clear hend
            go_wp2_with fail
            go_ret
            refine ⟨rfl, ?_⟩
            repeat (first | with_reducible exact HBQ.out | with_reducible apply below_dr | with_reducible refine below_on ?_ (by assumption))
        · have HV := Lib.hid (ppV_no (ppB_big hle))
          rw [HV.out]
          obtain ⟨y0, hy0⟩ : ∃ y, y = pG u.data.toList 0 := ⟨_, rfl⟩
          obtain ⟨y1, hy1⟩ : ∃ y, y = pG u.data.toList 1 := ⟨_, rfl⟩
          obtain ⟨y2, hy2⟩ : ∃ y, y = pG u.data.toList 2 := ⟨_, rfl⟩
          have hrn := HRD.out.2.1
          rw [← hy0, ← hy1, ← hy2] at hrn
          rw [← hy0] at hle
          have hgt : 2147483647 < y0 := by omega
          have HRN := Lib.hid hrn
          have HB4 := Lib.hid (below_nw HBP.out (.cells #[.int .i64 0, .int .u64 0, .int .u32 0] 32))
          have hp1 := New3.new wp (.int .i64 0) (.int .u64 0) (.int .u32 0) 32
          clear hy0 hy1 hy2 hrn h16 hle hbd
          go_wp2_with fail
          refine (refread_any _ 3 3 ptrW u _ (Row.threeAt .i64 (wp.alloc _) 4 8 4 _ (wp.heap.size + 1) (by simp)) (by decide) (by omega)).mono ?_
          rintro e wq ⟨bo, m, cap, rfl, hown, hbq⟩
          rw [HRN.out] at hown
          rw [HRD.out.1, HRD.out.2.2]
          have hr := Row.own hown
          obtain rfl : 3 = m := hr.len_eq
          obtain ⟨rb, ro, rfl, hcell⟩ := hr.at_ (by decide)
          have e0 : wq.cell? ⟨rb, ro, none⟩ = some (.int .u64 y0) := hcell 0 (by decide)
          have hp2 := New3.on (New3.on hp1 (below_new _ _)) hbq
          have HBQ := Lib.hid (below_on (below_nw HB4.out _) hbq)
          have g0 := hp2.c0
          have g1 := hp2.c1
          have g2 := hp2.c2
          have hl0 := World.block_lt_of_cell? _ _ g0
          clear hr hcell hown hp1 hp2 hbq
          go_wp2_with fail
          refine (wakes_any _).mono ?_
          rintro e wz ⟨rfl, hbz⟩
          have z0 : wz.cell? ⟨wp.heap.size, 0, none⟩ = some (.int .i64 0) := by rw [hbz.cell hl0]; exact g0
          have z1 : wz.cell? ⟨wp.heap.size, 1, none⟩ = some (.int .u64 0) := by rw [hbz.cell hl0]; exact g1
          have z2 : wz.cell? ⟨wp.heap.size, 2, none⟩ = some (.int .u32 0) := by rw [hbz.cell hl0]; exact g2
          go_wp2_with fail
          go_ret
          exact ⟨rfl, below_on HBQ.out hbz⟩
      · have HV := Lib.hid (ppV_no (ppB_short h16))
        have HRD := Lib.hid (rdP_no h16)
        rw [HV.out]
        have HB4 := Lib.hid (below_nw HBP.out (.cells #[.int .i64 0, .int .u64 0, .int .u32 0] 32))
        have hp1 := New3.new wp (.int .i64 0) (.int .u64 0) (.int .u32 0) 32
        clear h16
        go_wp2_with fail
        refine (refread_any _ 3 3 ptrW u _ (Row.threeAt .i64 (wp.alloc _) 4 8 4 _ (wp.heap.size + 1) (by simp)) (by decide) (by omega)).mono ?_
        rintro e wq ⟨bo, m, cap, rfl, hown, hbq⟩
        rw [HRD.out.1, HRD.out.2.2]
        have hp2 := New3.on (New3.on hp1 (below_new _ _)) hbq
        have HBQ := Lib.hid (below_on (below_nw HB4.out _) hbq)
        have g0 := hp2.c0
        have g1 := hp2.c1
        have g2 := hp2.c2
        have hl0 := World.block_lt_of_cell? _ _ g0
        clear hown hp1 hp2 hbq
        go_wp2_with fail
        refine (wakes_any _).mono ?_
        rintro e wz ⟨rfl, hbz⟩
        have z0 : wz.cell? ⟨wp.heap.size, 0, none⟩ = some (.int .i64 0) := by rw [hbz.cell hl0]; exact g0
        have z1 : wz.cell? ⟨wp.heap.size, 1, none⟩ = some (.int .u64 0) := by rw [hbz.cell hl0]; exact g1
        have z2 : wz.cell? ⟨wp.heap.size, 2, none⟩ = some (.int .u32 0) := by rw [hbz.cell hl0]; exact g2
        go_wp2_with fail
        go_ret
        exact ⟨rfl, below_on HBQ.out hbz⟩
  · have had := adB_no (a := a0) (.inl (by omega))
    have hps : ptS a0 x c = ⟨#[]⟩ := by rw [ptS, if_neg (by rw [had]; decide)]
    rw [hps, had]
    have h2 : a0 < 0 := by omega
    clear had hps h0
    have HBX := HB1
    go_wp2_with fail
    clear p0 p1 p2 hlt HB1 hmin hn0 hn1 hn2
    refine (parsePtr_any u _ (by omega)).mono ?_
    rintro e wp ⟨rfl, hbp⟩
    have HBP := Lib.hid (below_on HBX.out hbp)
    clear hbp
    by_cases h16 : 16 ≤ u.data.toList.length
    · have hbd := pG_bd u.data.toList
      have HRD := Lib.hid (rdP_ok h16)
      by_cases hle : pG u.data.toList 0 ≤ 2147483647
      · have HV := Lib.hid (ppV_yes (ppB_ok h16 hle))
        obtain ⟨y0, hy0⟩ : ∃ y, y = pG u.data.toList 0 := ⟨_, rfl⟩
        obtain ⟨y1, hy1⟩ : ∃ y, y = pG u.data.toList 1 := ⟨_, rfl⟩
        obtain ⟨y2, hy2⟩ : ∃ y, y = pG u.data.toList 2 := ⟨_, rfl⟩
        have hv := HV.out
        have hrn := HRD.out.2.1
        rw [← hy0, ← hy1, ← hy2] at hv hrn
        rw [← hy0] at hle
        rw [← hy0, ← hy1, ← hy2] at hbd
        rw [hv]
        have HRN := Lib.hid hrn
        obtain ⟨d0, d1, d2, d3, d4⟩ := hbd
        have d5 : y2 ≤ 4294967295 := by omega
        obtain ⟨R, hR⟩ : ∃ R, R = Lend.strOf (u.data.toList.drop 16) := ⟨_, rfl⟩
        rw [← hR]
        have HR := Lib.hid hR
        have hp1 := New3.new wp (.int .i64 y0) (.int .u64 y1) (.int .u32 y2) 32
        have HB4 := Lib.hid (below_nw HBP.out (.cells #[.int .i64 y0, .int .u64 y1, .int .u32 y2] 32))
        clear hy0 hy1 hy2 hv hrn h16 hR d2 d4
        go_wp2_with fail
        refine (refread_any _ 3 3 ptrW u _ (Row.threeAt .i64 (wp.alloc _) 4 8 4 _ (wp.heap.size + 1) (by simp)) (by decide) (by omega)).mono ?_
        rintro e wq ⟨bo, m, cap, rfl, hown, hbq⟩
        rw [HRN.out] at hown
        rw [HRD.out.1, HRD.out.2.2, ← HR.out]
        have hr := Row.own hown
        obtain rfl : 3 = m := hr.len_eq
        obtain ⟨rb, ro, rfl, hcell⟩ := hr.at_ (by decide)
        have e0 : wq.cell? ⟨rb, ro, none⟩ = some (.int .u64 y0) := hcell 0 (by decide)
        have e1 : wq.cell? ⟨rb, ro + 1, none⟩ = some (.int .u64 y1) := hcell 1 (by decide)
        have e2 : wq.cell? ⟨rb, ro + 2, none⟩ = some (.int .u64 y2) := hcell 2 (by decide)
        have hp2 := New3.on (New3.on hp1 (below_new _ _)) hbq
        have HBQ := Lib.hid (below_on (below_nw HB4.out _) hbq)
        have HS6 := Lib.hid (show wq.drew.cell? ⟨wp.heap.size, 0, none⟩ = some (.int .i64 y0) ∧ wq.drew.cell? ⟨wp.heap.size, 1, none⟩ = some (.int .u64 y1) ∧ wq.drew.cell? ⟨wp.heap.size, 2, none⟩ = some (.int .u32 y2) ∧ wq.drew.cell? ⟨rb, ro, none⟩ = some (.int .u64 y0) ∧ wq.drew.cell? ⟨rb, ro + 1, none⟩ = some (.int .u64 y1) ∧ wq.drew.cell? ⟨rb, ro + 2, none⟩ = some (.int .u64 y2) from ⟨hp2.c0, hp2.c1, hp2.c2, e0, e1, e2⟩)
        have v0 : IntKind.i64.wrap y0 = y0 := IntWalk.i64_in _ (by omega)
        have v2 : IntKind.u32.wrap y2 = y2 := by rw [IntKind.wrap_u32]; omega
        clear hr hcell hown hp1 hp2 hbq
        go_wp2_with fail
        go_region_held3 (fun W => W.cell? ⟨wp.heap.size, 0, none⟩ = some (.int .i64 y0) ∧ W.cell? ⟨wp.heap.size, 1, none⟩ = some (.int .u64 y1) ∧ W.cell? ⟨wp.heap.size, 2, none⟩ = some (.int .u32 y2) ∧ W.cell? ⟨rb, ro, none⟩ = some (.int .u64 y0) ∧ W.cell? ⟨rb, ro + 1, none⟩ = some (.int .u64 y1) ∧ W.cell? ⟨rb, ro + 2, none⟩ = some (.int .u64 y2))
          (first | with_reducible exact HS6.out | with_reducible exact keep6 (by assumption) (by assumption) | go_keep)
          ((go_at_call 14; refine (wakes_any _).mono ?_; rintro e wz ⟨rfl, hbz⟩))
        all_goals
          rename_i hend
          clear hend
          go_wp2_with fail
          go_ret
          refine ⟨rfl, ?_⟩
          repeat (first | with_reducible exact HBQ.out | with_reducible apply below_dr | with_reducible refine below_on ?_ (by assumption))
      · have HV := Lib.hid (ppV_no (ppB_big hle))
        rw [HV.out]
        obtain ⟨y0, hy0⟩ : ∃ y, y = pG u.data.toList 0 := ⟨_, rfl⟩
        obtain ⟨y1, hy1⟩ : ∃ y, y = pG u.data.toList 1 := ⟨_, rfl⟩
        obtain ⟨y2, hy2⟩ : ∃ y, y = pG u.data.toList 2 := ⟨_, rfl⟩
        have hrn := HRD.out.2.1
        rw [← hy0, ← hy1, ← hy2] at hrn
        rw [← hy0] at hle
        have hgt : 2147483647 < y0 := by omega
        have HRN := Lib.hid hrn
        have HB4 := Lib.hid (below_nw HBP.out (.cells #[.int .i64 0, .int .u64 0, .int .u32 0] 32))
        have hp1 := New3.new wp (.int .i64 0) (.int .u64 0) (.int .u32 0) 32
        clear hy0 hy1 hy2 hrn h16 hle hbd
        go_wp2_with fail
        refine (refread_any _ 3 3 ptrW u _ (Row.threeAt .i64 (wp.alloc _) 4 8 4 _ (wp.heap.size + 1) (by simp)) (by decide) (by omega)).mono ?_
        rintro e wq ⟨bo, m, cap, rfl, hown, hbq⟩
        rw [HRN.out] at hown
        rw [HRD.out.1, HRD.out.2.2]
        have hr := Row.own hown
        obtain rfl : 3 = m := hr.len_eq
        obtain ⟨rb, ro, rfl, hcell⟩ := hr.at_ (by decide)
        have e0 : wq.cell? ⟨rb, ro, none⟩ = some (.int .u64 y0) := hcell 0 (by decide)
        have hp2 := New3.on (New3.on hp1 (below_new _ _)) hbq
        have HBQ := Lib.hid (below_on (below_nw HB4.out _) hbq)
        have g0 := hp2.c0
        have g1 := hp2.c1
        have g2 := hp2.c2
        have hl0 := World.block_lt_of_cell? _ _ g0
        clear hr hcell hown hp1 hp2 hbq
        go_wp2_with fail
        refine (wakes_any _).mono ?_
        rintro e wz ⟨rfl, hbz⟩
        have z0 : wz.cell? ⟨wp.heap.size, 0, none⟩ = some (.int .i64 0) := by rw [hbz.cell hl0]; exact g0
        have z1 : wz.cell? ⟨wp.heap.size, 1, none⟩ = some (.int .u64 0) := by rw [hbz.cell hl0]; exact g1
        have z2 : wz.cell? ⟨wp.heap.size, 2, none⟩ = some (.int .u32 0) := by rw [hbz.cell hl0]; exact g2
        go_wp2_with fail
        go_ret
        exact ⟨rfl, below_on HBQ.out hbz⟩
    · have HV := Lib.hid (ppV_no (ppB_short h16))
      have HRD := Lib.hid (rdP_no h16)
      rw [HV.out]
      have HB4 := Lib.hid (below_nw HBP.out (.cells #[.int .i64 0, .int .u64 0, .int .u32 0] 32))
      have hp1 := New3.new wp (.int .i64 0) (.int .u64 0) (.int .u32 0) 32
      clear h16
      go_wp2_with fail
      refine (refread_any _ 3 3 ptrW u _ (Row.threeAt .i64 (wp.alloc _) 4 8 4 _ (wp.heap.size + 1) (by simp)) (by decide) (by omega)).mono ?_
      rintro e wq ⟨bo, m, cap, rfl, hown, hbq⟩
      rw [HRD.out.1, HRD.out.2.2]
      have hp2 := New3.on (New3.on hp1 (below_new _ _)) hbq
      have HBQ := Lib.hid (below_on (below_nw HB4.out _) hbq)
      have g0 := hp2.c0
      have g1 := hp2.c1
      have g2 := hp2.c2
      have hl0 := World.block_lt_of_cell? _ _ g0
      clear hown hp1 hp2 hbq
      go_wp2_with fail
      refine (wakes_any _).mono ?_
      rintro e wz ⟨rfl, hbz⟩
      have z0 : wz.cell? ⟨wp.heap.size, 0, none⟩ = some (.int .i64 0) := by rw [hbz.cell hl0]; exact g0
      have z1 : wz.cell? ⟨wp.heap.size, 1, none⟩ = some (.int .u64 0) := by rw [hbz.cell hl0]; exact g1
      have z2 : wz.cell? ⟨wp.heap.size, 2, none⟩ = some (.int .u32 0) := by rw [hbz.cell hl0]; exact g2
      go_wp2_with fail
      go_ret
      exact ⟨rfl, below_on HBQ.out hbz⟩

set_option maxRecDepth 100000 in
theorem contract (H : Type) (enc : TypeId × Value → H) (W : World) (base : Nat) (args : Array Value) (ds gs : List (DataW H)) (before : List MemPlace)
    (hval0 : ∀ (j : Nat) t v, Tryd.f4.params[j]? = some t → args[j]? = some v → Value.okWide Tryd.prog W .any base t v)
    (hW : DataW.Whole enc Tryd.prog Tryd.f4.params.toList Rows.envPtrsSpec.vars false W args.toList ds gs before) :
    Calls Tryd.prog 4 args W fun e W' => ∃ v, e = .returned v ∧ Rows.envPtrsSpec.post enc Tryd.prog Tryd.f4 false true false false W args v W' := by
  have hval : ∀ (j : Nat) t v, Tryd.f4.params[j]? = some t → args[j]? = some v → Value.okWide Tryd.prog W .any base t v := hval0
  have hW' := hW
  obtain ⟨p, q, hA0, hV, rfl, hfz, hnd⟩ := hW
  have hA : DataW.TrodAll enc Tryd.prog W 0 (fun _ => true) true Tryd.f4.params.toList args.toList ds p := hA0
  rw [Tryd.params4] at hA hval
  obtain ⟨v0, vs0, d0, ds0, p0, q0, hargs, rfl, rfl, h0, r0⟩ := trodAll_cons hA
  obtain ⟨v1, vs1, d1, ds1, p1, q1, rfl, rfl, rfl, h1, r1⟩ := trodAll_cons r0
  obtain ⟨v2, vs2, d2, ds2, p2, q2, rfl, rfl, rfl, h2, r2⟩ := trodAll_cons r1
  obtain ⟨rfl, rfl, rfl⟩ := trodAll_nil r2
  obtain rfl : args = #[v0, v1, v2] := by cases args; simp_all
  obtain ⟨rfl, rfl⟩ := trodVars_none hV
  obtain ⟨a0, rfl, rfl, rfl, w0⟩ := open_int Tryd.underlying3 (hval 0 3 v0 rfl rfl) h0
  obtain ⟨a1, rfl, rfl, rfl, w1⟩ := open_int Tryd.underlying22 (hval 1 22 v1 rfl rfl) h1
  obtain ⟨a2, rfl, rfl, rfl, w2⟩ := open_string Tryd.underlying9 (hval 2 9 v2 rfl rfl) h2
  clear hA0 hval0
  refine (walk a0 a1 a2 W w0 w1 w2).mono fun e W' ⟨he, bel⟩ => ?_
  subst he
  exact ⟨_, rfl, _, _, _, [], _, [], hW', trodAll_mk1 (shut_bool Tryd.underlying4 _), (trodAll_cons_mk (shut_int Tryd.underlying3 w0) (trodAll_cons_mk (shut_int Tryd.underlying22 w1) (trodAll_cons_mk (shut_string Tryd.underlying9 w2) trodAll_mk0))), rfl, bel.frame _, fun h => by cases h⟩

noncomputable def laidWorld (os : Os) : World :=
  { World.holding Tryd.prog os ⟨#[], #[], []⟩ with heap := (((((World.holding Tryd.prog os ⟨#[], #[], []⟩).heap).modify 2 fun | .cells _ t frozen => .cells (#[.int .u8 128, .int .u8 191, .int .u8 160, .int .u8 191, .int .u8 128, .int .u8 159, .int .u8 144, .int .u8 191, .int .u8 128, .int .u8 143, .int .u8 0, .int .u8 0, .int .u8 0, .int .u8 0, .int .u8 0, .int .u8 0, .int .u8 0, .int .u8 0, .int .u8 0, .int .u8 0, .int .u8 0, .int .u8 0, .int .u8 0, .int .u8 0, .int .u8 0, .int .u8 0, .int .u8 0, .int .u8 0, .int .u8 0, .int .u8 0, .int .u8 0, .int .u8 0]) t frozen | o => o)).modify 1 fun | .cells _ t frozen => .cells ((Go.Pinned.utf8FirstZ.map fun z : Nat => Value.int .u8 (z : Int)).toArray) t frozen | o => o) }
theorem laid_met (os : Os) : laidMet Tryd.prog Rows.envPtrsRow.laid ((laidWorld os).forCall (fun _ _ => 0) ⟨#[], #[.int .i64 0, .int .u64 0, .string ByteArray.empty], []⟩).memory :=
  laidMet_of_run' 8 (by kernel_rfl) (by kernel_rfl)
theorem reads (os : Os) {H : Type} (enc : TypeId × Value → H) : ∃ places, DataW.whole enc Tryd.prog ((laidWorld os).forCall (fun _ _ => 0) ⟨#[], #[.int .i64 0, .int .u64 0, .string ByteArray.empty], []⟩).memory Tryd.f4.params.toList Rows.envPtrsSpec.vars false (#[.int .i64 0, .int .u64 0, .string ByteArray.empty] : Array Value).toList 8 = some ([.lit (.int .i64 0), .lit (.int .u64 0), .lit (.string [])], [], places) :=
  ⟨[], by kernel_rfl⟩

set_option maxRecDepth 100000 in
theorem lifted (os : Os) (started : os.Started) (H : Type) (enc : TypeId × Value → H) (F : Stop.Interp) :
    ReturnsInHanded {} Tryd.checked os 4 .any ((OpenSpec.ofChange Rows.envPtrsSpec).preRow enc Tryd.prog Tryd.f4 Rows.envPtrsRow.domain false Rows.envPtrsRow.laid) (((OpenSpec.ofChange Rows.envPtrsSpec).at F).post enc Tryd.prog Tryd.f4 false true false false) := by
  obtain ⟨places, hx⟩ := reads os enc
  refine returnsInHanded_of_row (C := Tryd.checked) (s := OpenSpec.ofChange Rows.envPtrsSpec) own started (by kernel_rfl) Tryd.func4
    (witness_row_at (enc := enc) (C := Tryd.checked) false (laidWorld os) #[.int .i64 0, .int .u64 0, .string ByteArray.empty] rfl (by kernel_rfl) (by kernel_rfl) (by kernel_rfl)
      (OpenSpec.preRow_of_cond 8 hx (by kernel_rfl) (fun k hk => by cases hk) (by kernel_rfl) (laid_met os))) ?_
  intro W base args ds gs before hval hW _ _ _ hL _ _
  exact contract H enc W base args ds gs before hval hW

theorem said : Rows.EnvPtrsSaid :=
  OpenClaim.holds_of_cond 4 Tryd.f4 rfl rfl rfl rfl rfl rfl rfl ⟨rfl, rfl, rfl, rfl, rfl⟩ rfl rfl rfl rfl rfl (by kernel_rfl) Tryd.func4 (by kernel_rfl)
    (of_decide_eq_true (by kernel_rfl)) (by unfold Func.isWrapper; first | (rw [if_pos (by decide +kernel)]; kernel_rfl) | (rw [if_neg (by decide +kernel)]; exact ⟨rfl, rfl⟩))
    (fun os started H enc _ F => by rw [OpenClaim.pre_eq_preRow]; exact lifted os started H enc F)

theorem plain (f : FuncId) (fn : Func) (hf : Tryd.pinned.checked.prog.funcNamed "treenail/treenaillaw04.EnvPtrs" = some f) (hfn : Tryd.pinned.checked.prog.funcs[f]? = some fn) :
    false = Tryd.pinned.checked.prog.looks [] ∧ ∀ (j : Nat) t, fn.params[j]? = some t → Tryd.pinned.checked.prog.wantsStandIn t = false := by
  obtain rfl : f = 4 := Option.some.inj ((show Tryd.prog.funcNamed "treenail/treenaillaw04.EnvPtrs" = some 4 by kernel_rfl).symm.trans hf) |>.symm
  obtain rfl : fn = Tryd.f4 := (Option.some.inj (Tryd.func4.symm.trans hfn)).symm
  refine ⟨by kernel_rfl, fun j t ht => ?_⟩
  rw [Tryd.params4] at ht
  rcases j with _ | _ | _ | j
  · obtain rfl : t = 3 := by simpa using ht.symm
    exact (show Tryd.prog.wantsStandIn 3 = false by kernel_rfl)
  · obtain rfl : t = 22 := by simpa using ht.symm
    exact (show Tryd.prog.wantsStandIn 22 = false by kernel_rfl)
  · obtain rfl : t = 9 := by simpa using ht.symm
    exact (show Tryd.prog.wantsStandIn 9 = false by kernel_rfl)
  · simp at ht

/-- THE STATEMENT -/
theorem proved : Rows.EnvPtrsCardSaid :=
  Claim7.holds_tied_plain_at .later [] _ _ _ _ said (fun _ h => by cases h) (by kernel_rfl) (fun _ h => by cases h) envPtrs_row_tie rfl ⟨rfl, rfl⟩ (by kernel_rfl) rfl plain (by kernel_rfl)
#print axioms proved
end Go.Proofs.YtbbhkoeoelmnlaaDoor.envPtrs
