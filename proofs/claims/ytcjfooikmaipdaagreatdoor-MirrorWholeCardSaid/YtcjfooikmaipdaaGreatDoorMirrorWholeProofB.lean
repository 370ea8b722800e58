/-
  The law MirrorWhole holds: which copies are whole is told of each block, and nothing is repaired by that; a Check makes both so. Conditions: none but the row's own.
-/
import Derived.Test.YtcjfooikmaipdaaGreatDoorRows
import Derived.Test.YtcjfooikmaipdaaGreatDoorK13
import Derived.Test.YtcjfooikmaipdaaGreatDoorCards
import Derived.Test.YtcjfooikmaipdaaGreatDoorTie
import Derived.WalkKit
import Derived.ProofKit
import Derived.OpenShut
import Derived.ShutString
import Derived.ChangeOld
import Derived.Below
import Derived.Carry
import Derived.Deep.DeepHandedRow
import Derived.Lib.LaidTab
namespace Go.Proofs.YtcjfooikmaipdaaGreatDoor.mirrorWhole
open Go.ChangeShapes Go.WideShapes Go.ChangeAt Go.RowKit
open Go.Proofs.YtcjfooikmaipdaaGreatDoor
open Go.ChangeMaps (open_string shut_string)
set_option linter.unusedVariables false

theorem own : ownKnob Tryz.prog.godebug = none := by kernel_rfl
theorem laidOut : laidOutB Tryz.prog = true := by kernel_rfl


open Go.Proofs.YtcjfooikmaipdaaGreatDoor.Mir Go.Proofs.YtcjfooikmaipdaaGreatDoor.Rem Go.Proofs.YtcjfooikmaipdaaGreatDoor.Dev
theorem bit_low {a : Int} (h0 : 0 ≤ a) (h1 : a ≤ 255) (k : Nat) (hk : k < 2) : (bits BinOp.and IntKind.u8 (a / 2 ^ k) 1 == 1) = decide (a / 2 ^ k % 2 = 1) := by
  have : ∀ n : Fin 256, (bits BinOp.and IntKind.u8 ((n.val : Nat) : Int) 1 == 1) = decide (((n.val : Nat) : Int) % 2 = 1) := by decide +kernel
  obtain ⟨n, hn⟩ : ∃ n : Nat, (n : Int) = a / 2 ^ k := ⟨(a / 2 ^ k).toNat, Int.toNat_of_nonneg (Int.ediv_nonneg h0 (by rcases (show k = 0 ∨ k = 1 by omega) with rfl | rfl <;> decide))⟩
  rw [← hn]
  refine this ⟨n, ?_⟩
  rcases (show k = 0 ∨ k = 1 by omega) with rfl | rfl <;> simp at hn <;> omega

/-! ### STEP 1: THE WALK -/
set_option maxHeartbeats 8000000 in
set_option maxRecDepth 100000 in
theorem walk (a0 : ByteArray) (a1 : Int) (a2 : Int) (w : World) (w0 : a0.size ≤ maxLen) (w1 : (Lit.int .u8 a1).wf = true) (w2 : (Lit.int .u8 a2).wf = true) :
    Calls Tryz.prog 8 #[.string a0, .int .u8 a1, .int .u8 a2] w fun e w' => e = .returned (.bool true) ∧ Below w.heap.size w w' := by
  obtain ⟨hl0, hw1, hw2⟩ := And.intro w0 (And.intro w1 w2)
  clear w0 w1 w2
  obtain ⟨m, hm⟩ : ∃ m, m = min a0.size 90 := ⟨_, rfl⟩
  have hmin : ∀ W ts, (Builtin.min_ ts 3 #[.int .i64 (a0.size : Nat), .int .i64 90]).run Tryz.prog W = .ok (.int .i64 (m : Int)) W := by
    intro W ts; rw [hm]; exact run_minC _ _ _ _ a0.size 90
  have hm1 : m ≤ a0.size := by omega
  have hm2 : m ≤ 90 := by omega
  obtain ⟨tx, htx⟩ : ∃ t, t = a0.extract 0 m := ⟨_, rfl⟩
  have HTX := Lib.hid htx
  have hok : Okay 4 9 tx := ⟨by omega, by omega, by omega, by omega, by rw [htx]; simp; omega⟩
  have HOK := Lib.hid hok
  obtain ⟨T, hT⟩ : ∃ T, T = imT 4 9 tx := ⟨_, rfl⟩
  obtain ⟨K, hK⟩ : ∃ K, K = ckT 4 9 tx := ⟨_, rfl⟩
  have HTT := Lib.hid hT
  have HKK := Lib.hid hK
  have HTZ := Lib.hid (show T.size = 128 by rw [hT]; exact hok.size)
  have hb1 := bounds_u8 hw1
  have hb2 := bounds_u8 hw2
  clear hok hT hK hm htx hl0 hw1 hw2
  go_enter Tryz.func8, Tryz.ntmps8
  go_wp2_with fail
  refine (fresh_any w).mono ?_
  rintro e w1 ⟨pa, pb, mm, tb, bb, q, S, rfl, hm, h0, h1⟩
  have HPL := Lib.hid (Pl.new h0 h1)
  have HD := Lib.hid (Has.new w1 [.pointer (some ⟨pa, 0, none⟩), .pointer (some ⟨pb, 0, none⟩)] 25)
  have HM := Lib.hid (hm.new (.cells #[.pointer (some ⟨pa, 0, none⟩), .pointer (some ⟨pb, 0, none⟩)] 25))
  clear hm h0 h1
  obtain ⟨u, hu⟩ : ∃ u, u = w1.heap.size := ⟨_, rfl⟩
  rw [← hu] at HD HM
  go_wp2_with fail
  rw [← hu]
  refine (wakes_any _).mono ?_
  rintro e w2 ⟨rfl, hb⟩
  have HM2 := Lib.hid (HM.out.later hb)
  have HD2 := Lib.hid (HD.out.below hb HD.out.lt)
  clear hb HM HD hu
  go_wp2_with fail
  refine Reg.region_vals3 (by kernel_rfl) [(40, .string a0), (41, .string a0), (42, .int .i64 (a0.size : Nat)), (43, .int .i64 (m : Nat)), (44, .string tx), (45, .tuple #[.string T, ptrV 4 9 K]), (38, .tuple #[.string T, ptrV 4 9 K]), (46, .string T), (47, ptrV 4 9 K), (10, .string T)] [11, 39] (Uno2 w2 11 10 12 35 [.int .i64 0, .int .u64 0, .int .u32 0] [.int .i64 4, .int .u64 9, .int .u32 K] 39 0) ?a1 ?a2 ?a3 ?a4 ?a5 ?a6 ?a7 ?hend
  case a1 => kernel_rfl
  case a2 => kernel_rfl
  case a3 => kernel_rfl
  case a4 => kernel_rfl
  case a5 => kernel_rfl
  case a6 => exact Uno2.start _
  case a7 =>
    refine ⟨?_, ?_, ?_, ?_, ?_, ?_, ?_, ?_, ?_, ?_, ?_, ?_, ?_, trivial⟩
    · -- 0: 39 := Op.call  value (Operand.func 11), args := #, argTypes := 
      intro aq wq lq hz hI hl hdone hlater hold hd ho
      clear hd ho hdone hlater hold
      have hc : 39 < aq.tmps.size := by have hz' : aq.tmps.size = 160 := hz; omega
      refine Reg.step3_call 11 #[] ?_ ((Sum.make_any wq).mono ?_)
      · clear hz hc hI
        simp [execOp]
        go_simp
      · rintro e w' ⟨b, rfl, hb1, ht, hb⟩
        exact ⟨_, rfl, trivial, hI.make hb ht (by decide) (by decide) (by decide) hc, trivial⟩
    · -- 1: 40 := Op.move t0
      intro aq wq lq hz hI hl hdone hlater hold hd ho
      have h0 : aq.tmps.getD 0 undef = .string a0 := ho 0 (by kernel_rfl)
      clear hd ho hdone hlater hold
      have hc : 40 < aq.tmps.size := by have hz' : aq.tmps.size = 160 := hz; omega
      exact Reg.step3_move (.tmp 0) rfl h0 (hI.keep _ (Below.refl _ _) (by decide) (by decide) (by decide) (by decide) (by decide) hc) trivial
    · -- 2: 41 := Op.move t0
      intro aq wq lq hz hI hl hdone hlater hold hd ho
      have h0 : aq.tmps.getD 0 undef = .string a0 := ho 0 (by kernel_rfl)
      clear hd ho hdone hlater hold
      have hc : 41 < aq.tmps.size := by have hz' : aq.tmps.size = 160 := hz; omega
      exact Reg.step3_move (.tmp 0) rfl h0 (hI.keep _ (Below.refl _ _) (by decide) (by decide) (by decide) (by decide) (by decide) hc) trivial
    · -- 3: 42 := Op.call  builtin len, args := #t41, argTypes := #9 
      intro aq wq lq hz hI hl hdone hlater hold hd ho
      have h41 : aq.tmps.getD 41 undef = .string a0 := hd 41 (by kernel_rfl)
      clear hd ho hdone hlater hold
      rw [Array.getD_eq_getD_getElem?] at h41
      have hc : 42 < aq.tmps.size := by have hz' : aq.tmps.size = 160 := hz; omega
      refine Reg.step3_val (.int .i64 (a0.size : Nat)) ?_ rfl (hI.keep _ (Below.refl _ _) (by decide) (by decide) (by decide) (by decide) (by decide) hc) trivial
      clear hz hc hI
      simp [execOp]
      go_simp
    · -- 4: 43 := Op.call  builtin min, args := #t42, const (90:i64), argTy
      intro aq wq lq hz hI hl hdone hlater hold hd ho
      have h42 : aq.tmps.getD 42 undef = .int .i64 (a0.size : Nat) := hd 42 (by kernel_rfl)
      clear hd ho hdone hlater hold
      rw [Array.getD_eq_getD_getElem?] at h42
      have hc : 43 < aq.tmps.size := by have hz' : aq.tmps.size = 160 := hz; omega
      refine Reg.step3_val (.int .i64 (m : Nat)) ?_ rfl (hI.keep _ (Below.refl _ _) (by decide) (by decide) (by decide) (by decide) (by decide) hc) trivial
      clear hz hc hI
      simp [execOp]
      go_simp
    · -- 5: 44 := Op.slice 9 t40 none (some t43) none
      intro aq wq lq hz hI hl hdone hlater hold hd ho
      have h40 : aq.tmps.getD 40 undef = .string a0 := hd 40 (by kernel_rfl)
      have h43 : aq.tmps.getD 43 undef = .int .i64 (m : Nat) := hd 43 (by kernel_rfl)
      clear hd ho hdone hlater hold
      rw [Array.getD_eq_getD_getElem?] at h40 h43
      have hc : 44 < aq.tmps.size := by have hz' : aq.tmps.size = 160 := hz; omega
      refine Reg.step3_val (.string tx) ?_ rfl (hI.keep _ (Below.refl _ _) (by decide) (by decide) (by decide) (by decide) (by decide) hc) trivial
      clear hz hc hI
      rw [HTX.out]
      simp [execOp, Act.eval, h40, h43]
      try go_simp
    · -- 6: 45 := Op.call  value (Operand.func 12), args := #t39, const (4:i
      intro aq wq lq hz hI hl hdone hlater hold hd ho
      have h44 : aq.tmps.getD 44 undef = .string tx := hd 44 (by kernel_rfl)
      obtain ⟨bt, hbb, hbt⟩ := hI.tab (hdone 0 (by kernel_rfl))
      rw [Array.getD_eq_getD_getElem?] at hbb
      clear hd ho hdone hlater hold
      rw [Array.getD_eq_getD_getElem?] at h44
      have hc : 45 < aq.tmps.size := by have hz' : aq.tmps.size = 160 := hz; omega
      refine Reg.step3_call 12 #[.pointer (some ⟨bt, 0, none⟩), .int .i64 4, .int .u64 9, .string tx] ?_ ((sealed_any bt 4 9 tx wq hbt HOK.out).mono ?_)
      · clear hz hc hI
        simp [execOp]
        go_simp
      · rintro e w' ⟨rfl, hb⟩
        refine ⟨_, rfl, ?_, (hI.keep _ hb (by decide) (by decide) (by decide) (by decide) (by decide) hc), trivial⟩
        rw [HTT.out, HKK.out]
        rfl
    · -- 7: 38 := Op.move t45
      intro aq wq lq hz hI hl hdone hlater hold hd ho
      have h45 : aq.tmps.getD 45 undef = .tuple #[.string T, ptrV 4 9 K] := hd 45 (by kernel_rfl)
      clear hd ho hdone hlater hold
      have hc : 38 < aq.tmps.size := by have hz' : aq.tmps.size = 160 := hz; omega
      exact Reg.step3_move (.tmp 45) rfl h45 (hI.keep _ (Below.refl _ _) (by decide) (by decide) (by decide) (by decide) (by decide) hc) trivial
    · -- 8: 46 := Op.extract t38 0
      intro aq wq lq hz hI hl hdone hlater hold hd ho
      have h38 : aq.tmps.getD 38 undef = .tuple #[.string T, ptrV 4 9 K] := hd 38 (by kernel_rfl)
      clear hd ho hdone hlater hold
      rw [Array.getD_eq_getD_getElem?] at h38
      have hc : 46 < aq.tmps.size := by have hz' : aq.tmps.size = 160 := hz; omega
      refine Reg.step3_val (.string T) ?_ rfl (hI.keep _ (Below.refl _ _) (by decide) (by decide) (by decide) (by decide) (by decide) hc) trivial
      clear hz hc hI
      simp [execOp, Act.eval, h38]
      try go_simp
    · -- 9: 47 := Op.extract t38 1
      intro aq wq lq hz hI hl hdone hlater hold hd ho
      have h38 : aq.tmps.getD 38 undef = .tuple #[.string T, ptrV 4 9 K] := hd 38 (by kernel_rfl)
      clear hd ho hdone hlater hold
      rw [Array.getD_eq_getD_getElem?] at h38
      have hc : 47 < aq.tmps.size := by have hz' : aq.tmps.size = 160 := hz; omega
      refine Reg.step3_val (ptrV 4 9 K) ?_ rfl (hI.keep _ (Below.refl _ _) (by decide) (by decide) (by decide) (by decide) (by decide) hc) trivial
      clear hz hc hI
      simp [execOp, Act.eval, h38]
      try go_simp
    · -- 10: 11 := Op.alloc 35
      intro aq wq lq hz hI hl hdone hlater hold hd ho
      have hst : lq 12 = false := hlater 12 (by kernel_rfl)
      clear hd ho hdone hlater hold
      have hc : 11 < aq.tmps.size := by have hz' : aq.tmps.size = 160 := hz; omega
      refine Reg.step3_do (.pointer (some ⟨wq.heap.size, 0, none⟩)) (wq.alloc (.cells #[.int .i64 0, .int .u64 0, .int .u32 0] 35)) ?_ trivial (Uno2.mk hI hst (by decide) (by decide) (by decide) hc) trivial
      clear hz hc hI
      simp [execOp]
      go_simp
    · -- 11: 10 := Op.assign t46
      intro aq wq lq hz hI hl hdone hlater hold hd ho
      have h46 : aq.tmps.getD 46 undef = .string T := hd 46 (by kernel_rfl)
      clear hd ho hdone hlater hold
      have hc : 10 < aq.tmps.size := by have hz' : aq.tmps.size = 160 := hz; omega
      exact Reg.step3_assign (.tmp 46) rfl h46 (hI.keep _ (Below.refl _ _) (by decide) (by decide) (by decide) (by decide) (by decide) hc) trivial
    · -- 12: None := Op.store 35 t11 t47
      intro aq wq lq hz hI hl hdone hlater hold hd ho
      have h47 : aq.tmps.getD 47 undef = ptrV 4 9 K := hd 47 (by kernel_rfl)
      have hia : lq 10 = true := hdone 10 (by kernel_rfl)
      clear hd ho hdone hlater hold
      rw [Array.getD_eq_getD_getElem?] at h47
      obtain ⟨gq, hgp, hge, hH, hBx, hU⟩ := hI.st hia hl (by decide) (by decide)
      rw [Array.getD_eq_getD_getElem?] at hgp
      have e0 : wq.cell? ⟨gq, 0, none⟩ = some (.int .i64 0) := hH.cell 0
      have e1 : wq.cell? ⟨gq, 1, none⟩ = some (.int .u64 0) := hH.cell 1
      have e2 : wq.cell? ⟨gq, 2, none⟩ = some (.int .u32 0) := hH.cell 2
      have fz := hH.frozen
      refine Reg.step3_skip (((wq.setCell ⟨gq, 0, none⟩ (.int .i64 4)).setCell ⟨gq, 1, none⟩ (.int .u64 9)).setCell ⟨gq, 2, none⟩ (.int .u32 K)) rfl ?_ (hU _ (Has.set (Has.set (Has.set hH 0 (.int .i64 4)) 1 (.int .u64 9)) 2 (.int .u32 K)) (Below.setCell (Below.setCell (Below.setCell hBx (by exact hge) _) (by exact hge) _) (by exact hge) _) (fun kk hk => by rw [Below.heap_setCell _ _ _ _ hk]; rw [Below.heap_setCell _ _ _ _ hk]; rw [Below.heap_setCell _ _ _ _ hk])) trivial
      clear hU hH hBx hI hz
      simp [execOp]
      go_simp
  case hend =>
    intro wx v aq hv hI
    obtain ⟨gq, bq, hgp, hge, hH, hBx, hbp, hbt⟩ := Uno2.done hI (by decide) (by decide) (by decide)
    rw [hv 11 (by decide)] at hgp
    rw [hv 39 (by decide)] at hbp
    clear hv hI
    simp only [Reg.fill, List.map_cons, List.map_nil, List.foldl_cons, List.foldl_nil, List.setIfInBounds_toArray, List.set_cons_zero, List.set_cons_succ]
    rw [hgp, hbp]
    clear hgp hbp
    have HM3 := Lib.hid (HM2.out.fresh hBx hge hH.lt)
    have HD3 := Lib.hid (HD2.out.below hBx HD2.out.lt)
    have HP3 := Lib.hid hH
    have HGU := Lib.hid (show gq ≠ u by have := HD2.out.lt; omega)
    clear hge hH hBx hbt HM2 HD2 hmin hm1 hm2
    go_wp2_with fail
    refine (Write_m HM3.out HPL.out.nb (b := 4) (by omega) HTZ.out (by omega)).mono ?_
    rintro e w4 ⟨S1, rfl, hst, hm, hsm⟩
    rw [lsE_no]
    have HPL1 := Lib.hid (HPL.out.st hst)
    have HC0 := Lib.hid (hst.got HPL.out.nb HM3.out.good (s := 0) (by omega) (by omega) (by rw [al_no]; simp) rfl)
    have HC1 := Lib.hid (hst.got HPL.out.nb HM3.out.good (s := 1) (by omega) (by omega) (by rw [al_no]; simp) rfl)
    have HM4 := Lib.hid hm
    have HD4 := Lib.hid (Has.same HD3.out (hsm u (by simp)))
    have HP4 := Lib.hid (Has.same HP3.out (hsm gq (by simp)))
    clear hst hm hsm HM3 HD3 HP3 HPL
    go_wp2_with fail
    refine (Flush_m HM4.out (by omega)).mono ?_
    rintro e w5 ⟨rfl, hm, hsm⟩
    rw [lsE_no]
    have HM5 := Lib.hid (hm.new (.cells #[.bool true, .bool true] 86))
    have HD5 := Lib.hid ((Has.same HD4.out (hsm u (by simp))).alloc (.cells #[.bool true, .bool true] 86))
    have HP5 := Lib.hid ((Has.same HP4.out (hsm gq (by simp))).alloc (.cells #[.bool true, .bool true] 86))
    have HX5 := Lib.hid (Has.new w5 [.bool true, .bool true] 86)
    obtain ⟨x, hx⟩ : ∃ x, x = w5.heap.size := ⟨_, rfl⟩
    rw [← hx] at HM5 HX5
    have HXN := Lib.hid (show x ∉ [gq, u] from fun e => by have := (hm.y x e).2; omega)
    clear hm hsm HM4 HD4 HP4
    obtain ⟨f, hf⟩ : ∃ f : Nat → Bool, f = fun s => decide (a1 / 2 ^ s % 2 = 1) := ⟨_, rfl⟩
    obtain ⟨v, hv⟩ : ∃ v, v = a2 % 255 := ⟨_, rfl⟩
    have hv0 : 0 ≤ v ∧ v ≤ 254 := by omega
    have ht255 : Int.tmod a2 255 = v := by rw [Int.tmod_eq_emod_of_nonneg hb2.1, hv]
    have hm255 : a2 % 255 = v := hv.symm
    have hrem : ∀ (W : World), (binOp .rem 5 (.int .u8 a2) (.int .u8 255)).run Tryz.prog W = .ok (.int .u8 v) W := fun W => by
      simp [binOp, Op.intDiv, ht255]
    have hg0 : (bits BinOp.and IntKind.u8 a1 1 == 1) = f 0 := by have := bit_low hb1.1 hb1.2 0 (by omega); rw [hf]; simpa using this
    have hg1 : (bits BinOp.and IntKind.u8 (a1 / 2) 1 == 1) = f 1 := by have := bit_low hb1.1 hb1.2 1 (by omega); rw [hf]; simpa using this
    obtain ⟨y, hy⟩ : ∃ y : UInt8, (y.toNat : Int) = 1 + v := ⟨UInt8.ofNat (1 + v).toNat, by rw [UInt8.toNat_ofNat']; omega⟩
    have hyw : IntKind.u8.wrap (1 + v) = (y.toNat : Int) := by rw [← hy]; exact IntWalk.u8_in _ (by have := y.toNat_lt; omega)
    have HY0 := Lib.hid (show y ≠ 0 from fun e => by rw [e] at hy; simp at hy; omega)
    have HF := Lib.hid hf
    have HY := Lib.hid hy
    go_wp2_with fail
    rw [← hx]
    clear hx hf hy hv
    go_loopw [58] (fun i wr => ∃ (j : Nat) (S2 : Nat → Sd), j ≤ 2 ∧ i = .int .i64 j ∧ Pl S2 ∧ (∀ s, s < 2 → cont S2 noG s 4 = some (if s < j ∧ f s = true then turnB T 30 y else T)) ∧ MG w [x, gq, u] mm tb bb q (pdOf pa pb) S2 noG 12 0 wr ∧
      Has wr x 86 [.bool (!(decide (0 < j) && f 0)), .bool (!(decide (1 < j) && f 1))] ∧ Has wr u 25 [.pointer (some ⟨pa, 0, none⟩), .pointer (some ⟨pb, 0, none⟩)] ∧ Has wr gq 35 [.int .i64 4, .int .u64 9, .int .u32 K]) (fun i _ => 2 - (intOf i).toNat)
    case atStart =>
      refine ⟨0, S1, by omega, rfl, HPL1.out, fun s hs => ?_, HM5.out, HX5.out, HD5.out, HP5.out⟩
      rw [if_neg (by omega)]
      rcases (show s = 0 ∨ s = 1 by omega) with rfl | rfl
      · exact HC0.out
      · exact HC1.out
    case round =>
      obtain ⟨j, S2, hj, rfl, hpl, hc, hm, hx, hd, hp⟩ := hrel
      have HPL2 := Lib.hid hpl
      have HC2 := Lib.hid hc
      have HM := Lib.hid hm
      have HX := Lib.hid hx
      have HD := Lib.hid hd
      have HP := Lib.hid hp
      clear hpl hc hm hx hd hp HM5 HX5 HD5 HP5 HC0 HC1 HPL1
      rcases (show j = 0 ∨ j = 1 ∨ j = 2 by omega) with rfl | rfl | rfl
      · rw [show ((0 : Nat) : Int) = 0 from rfl]
        obtain ⟨fb, hfb⟩ : ∃ fb, fb = f 0 := ⟨_, rfl⟩
        rw [← hfb] at hg0
        have HFB := Lib.hid hfb
        clear hfb
        cases fb with
        | false =>
          have HC3 := Lib.hid (show ∀ s, s < 2 → cont S2 noG s 4 = some (if s < 0 + 1 ∧ f s = true then turnB T 30 y else T) from fun s hs => by
            rw [HC2.out s hs]
            by_cases e : s = 0
            · rw [e, ← HFB.out]; simp
            · by_cases h : s < 0 ∧ f s = true
              · rw [if_pos h, if_pos ⟨by omega, h.2⟩]
              · rw [if_neg h, if_neg (fun k => h ⟨by omega, k.2⟩)])
          have HX3 := Lib.hid (show Has wr x 86 [.bool (!(decide (0 < 0 + 1) && f 0)), .bool (!(decide (1 < 0 + 1) && f 1))] from by
            have := HX.out
            rw [← HFB.out] at this ⊢
            simpa using this)
          go_wp2
          go_roundw
          case rel => exact ⟨0 + 1, S2, by omega, by go_num, HPL2.out, HC3.out, HM.out, HX3.out, HD.out, HP.out⟩
          case measure => simp [intOf]
        | true =>
          have d0 : wr.cell? ⟨u, 0, none⟩ = some (.pointer (some ⟨pa, 0, none⟩)) := (HD.out.cell 0).trans rfl
          go_wp2_with fail
          refine (garble_m HM.out (s := 0) (by omega) rfl (i := 4 + 4) (by omega) (by omega) (by omega) 30 y pa rfl 8 rfl 30 rfl).mono ?_
          rintro e w6 ⟨rfl, hm, hsm⟩
          obtain ⟨S3, hS3⟩ : ∃ S3, S3 = setV S2 0 (4 + 4) (turnB ((S2 0).V (4 + 4)) (30 % 128) y) := ⟨_, rfl⟩
          rw [← hS3] at hm
          have HPL3 := Lib.hid (show Pl S3 by rw [hS3]; exact HPL2.out.setV _ _ _)
          have HC3 := Lib.hid (show ∀ s, s < 2 → cont S3 noG s 4 = some (if s < 0 + 1 ∧ f s = true then turnB T 30 y else T) from fun s hs => by
            rw [hS3]
            refine (garbled_cont HPL2.out (s := 0) (u := s) (by omega) hs (b := 4) (b' := 4) (by omega) (by omega) rfl rfl (t := T) (by rw [HC2.out 0 (by omega), if_neg (by omega)]) _ _).trans ?_
            by_cases e : s = 0
            · rw [if_pos ⟨e, rfl⟩, if_pos ⟨by omega, by rw [e, ← HFB.out]⟩]
            · rw [if_neg (fun h => e h.1), HC2.out s hs]
              by_cases h : s < 0 ∧ f s = true
              · rw [if_pos h, if_pos ⟨by omega, h.2⟩]
              · rw [if_neg h, if_neg (fun k => h ⟨by omega, k.2⟩)])
          have HM6 := Lib.hid (hm.chg ((Chg.refl _ w6).setCell (p := ⟨x, 0, none⟩) (fun _ => by simp) (.bool false)))
          have hX6 := Has.same HX.out (hsm x (by simp))
          have z0 : w6.cell? ⟨x, 0, none⟩ = some (.bool true) := (hX6.cell 0).trans (by simp)
          have zf := Has.frozen hX6 0
          have HX6 := Lib.hid (show Has (w6.setCell ⟨x, 0, none⟩ (.bool false)) x 86 [.bool (!(decide (0 < 0 + 1) && f 0)), .bool (!(decide (1 < 0 + 1) && f 1))] from by
            have := hX6.set 0 (.bool false)
            rw [← HFB.out] at this ⊢
            simpa using this)
          have HD6 := Lib.hid ((Has.same HD.out (hsm u (by simp))).setOther (a := ⟨x, 0, none⟩) (fun e => HXN.out (by simp at e; simp [e])) (.bool false))
          have HP6 := Lib.hid ((Has.same HP.out (hsm gq (by simp))).setOther (a := ⟨x, 0, none⟩) (fun e => HXN.out (by simp at e; simp [e])) (.bool false))
          clear hm hsm hS3 hX6 d0
          go_wp2
          go_roundw
          case rel => exact ⟨0 + 1, S3, by omega, by go_num, HPL3.out, HC3.out, HM6.out, HX6.out, HD6.out, HP6.out⟩
          case measure => simp [intOf]
      · rw [show ((1 : Nat) : Int) = 1 from rfl]
        obtain ⟨fb, hfb⟩ : ∃ fb, fb = f 1 := ⟨_, rfl⟩
        rw [← hfb] at hg1
        have HFB := Lib.hid hfb
        clear hfb
        cases fb with
        | false =>
          have HC3 := Lib.hid (show ∀ s, s < 2 → cont S2 noG s 4 = some (if s < 1 + 1 ∧ f s = true then turnB T 30 y else T) from fun s hs => by
            rw [HC2.out s hs]
            by_cases e : s = 1
            · rw [e, ← HFB.out]; simp
            · by_cases h : s < 1 ∧ f s = true
              · rw [if_pos h, if_pos ⟨by omega, h.2⟩]
              · rw [if_neg h, if_neg (fun k => h ⟨by omega, k.2⟩)])
          have HX3 := Lib.hid (show Has wr x 86 [.bool (!(decide (0 < 1 + 1) && f 0)), .bool (!(decide (1 < 1 + 1) && f 1))] from by
            have := HX.out
            rw [← HFB.out] at this ⊢
            simpa using this)
          go_wp2
          go_roundw
          case rel => exact ⟨1 + 1, S2, by omega, by go_num, HPL2.out, HC3.out, HM.out, HX3.out, HD.out, HP.out⟩
          case measure => simp [intOf]
        | true =>
          have d0 : wr.cell? ⟨u, 1, none⟩ = some (.pointer (some ⟨pb, 0, none⟩)) := (HD.out.cell 1).trans rfl
          go_wp2_with fail
          refine (garble_m HM.out (s := 1) (by omega) rfl (i := 4 + 4) (by omega) (by omega) (by omega) 30 y pb rfl 8 rfl 30 rfl).mono ?_
          rintro e w6 ⟨rfl, hm, hsm⟩
          obtain ⟨S3, hS3⟩ : ∃ S3, S3 = setV S2 1 (4 + 4) (turnB ((S2 1).V (4 + 4)) (30 % 128) y) := ⟨_, rfl⟩
          rw [← hS3] at hm
          have HPL3 := Lib.hid (show Pl S3 by rw [hS3]; exact HPL2.out.setV _ _ _)
          have HC3 := Lib.hid (show ∀ s, s < 2 → cont S3 noG s 4 = some (if s < 1 + 1 ∧ f s = true then turnB T 30 y else T) from fun s hs => by
            rw [hS3]
            refine (garbled_cont HPL2.out (s := 1) (u := s) (by omega) hs (b := 4) (b' := 4) (by omega) (by omega) rfl rfl (t := T) (by rw [HC2.out 1 (by omega), if_neg (by omega)]) _ _).trans ?_
            by_cases e : s = 1
            · rw [if_pos ⟨e, rfl⟩, if_pos ⟨by omega, by rw [e, ← HFB.out]⟩]
            · rw [if_neg (fun h => e h.1), HC2.out s hs]
              by_cases h : s < 1 ∧ f s = true
              · rw [if_pos h, if_pos ⟨by omega, h.2⟩]
              · rw [if_neg h, if_neg (fun k => h ⟨by omega, k.2⟩)])
          have HM6 := Lib.hid (hm.chg ((Chg.refl _ w6).setCell (p := ⟨x, 1, none⟩) (fun _ => by simp) (.bool false)))
          have hX6 := Has.same HX.out (hsm x (by simp))
          have z0 : w6.cell? ⟨x, 1, none⟩ = some (.bool true) := (hX6.cell 1).trans (by simp)
          have zf := Has.frozen hX6 1
          have HX6 := Lib.hid (show Has (w6.setCell ⟨x, 1, none⟩ (.bool false)) x 86 [.bool (!(decide (0 < 1 + 1) && f 0)), .bool (!(decide (1 < 1 + 1) && f 1))] from by
            have := hX6.set 1 (.bool false)
            rw [← HFB.out] at this ⊢
            simpa using this)
          have HD6 := Lib.hid ((Has.same HD.out (hsm u (by simp))).setOther (a := ⟨x, 1, none⟩) (fun e => HXN.out (by simp at e; simp [e])) (.bool false))
          have HP6 := Lib.hid ((Has.same HP.out (hsm gq (by simp))).setOther (a := ⟨x, 1, none⟩) (fun e => HXN.out (by simp at e; simp [e])) (.bool false))
          clear hm hsm hS3 hX6 d0
          go_wp2
          go_roundw
          case rel => exact ⟨1 + 1, S3, by omega, by go_num, HPL3.out, HC3.out, HM6.out, HX6.out, HD6.out, HP6.out⟩
          case measure => simp [intOf]
      · rw [show ((2 : Nat) : Int) = 2 from rfl]
        obtain ⟨b0, hb0⟩ : ∃ b, b = f 0 := ⟨_, rfl⟩
        obtain ⟨b1', hb1'⟩ : ∃ b, b = f 1 := ⟨_, rfl⟩
        have hcc0 : cont S2 noG 0 4 = some (if b0 = true then turnB T 30 y else T) := by rw [HC2.out 0 (by omega), hb0]; simp
        have hcc1 : cont S2 noG 1 4 = some (if b1' = true then turnB T 30 y else T) := by rw [HC2.out 1 (by omega), hb1']; simp
        have hwt : ∀ b : Bool, wh (some (if b = true then turnB T 30 y else T)) (4 : Nat) 9 K = !b := fun b => by
          cases b with
          | true => rw [if_pos rfl, HTT.out]; exact HOK.out.turned (by omega) HY0.out _ _ _
          | false => rw [if_neg (by decide), HTT.out, HKK.out]; exact HOK.out.meets
        have HW0 := Lib.hid (show wh (cont S2 noG 0 4) (4 : Nat) 9 K = !b0 by rw [hcc0]; exact hwt b0)
        have HW1 := Lib.hid (show wh (cont S2 noG 1 4) (4 : Nat) 9 K = !b1' by rw [hcc1]; exact hwt b1')
        have HX2 := Lib.hid (show Has wr x 86 [.bool (!b0), .bool (!b1')] from by have := HX.out; rw [← hb0, ← hb1'] at this; simpa using this)
        have hneq : ∀ W, (binOp .neq 86 (.agg #[.bool (!b0), .bool (!b1')]) (.agg #[.bool (!b0), .bool (!b1')])).run Tryz.prog W = .ok (.bool false) W := fun W => by cases b0 <;> cases b1' <;> kernel_rfl
        have hr4 : a1 % 4 = (if b0 = true then 1 else 0) + (if b1' = true then 2 else 0) := by
          have h0 : b0 = decide (a1 / 2 ^ 0 % 2 = 1) := by rw [hb0, HF.out]
          have h1 : b1' = decide (a1 / 2 ^ 1 % 2 = 1) := by rw [hb1', HF.out]
          rw [h0, h1]
          simp only [decide_eq_true_eq]
          split <;> split <;> omega
        have ht4 : Int.tmod a1 4 = a1 % 4 := Int.tmod_eq_emod_of_nonneg hb1.1
        have hbad : (!(a1 % 4 == 3)) = !(b0 && b1') := by rw [hr4]; cases b0 <;> cases b1' <;> rfl
        have HBAD := Lib.hid hbad
        have HT4 := Lib.hid ht4
        have hx0 := HX2.out.cell 0
        have hx1 := HX2.out.cell 1
        have hp0 := HP.out.cell 0
        have hp1 := HP.out.cell 1
        have hp2 := HP.out.cell 2
        simp only [List.getElem?_cons_zero, List.getElem?_cons_succ] at hp0 hp1 hp2
        have HC0 := Lib.hid hcc0
        have HC1 := Lib.hid hcc1
        clear hg0 hg1 hrem hb0 hb1' hcc0 hcc1 hwt hr4 hbad ht4 HX hx0 hx1 ht255 hm255 hyw
        go_wp2_with fail
        refine (Whole_m HM.out (b := 4) (by omega) (by omega) 9 K).mono ?_
        rintro e w6 ⟨rfl, hm, hsm⟩
        rw [HW0.out, HW1.out]
        have HM6 := Lib.hid (hm.new (.cells #[.bool (!b0), .bool (!b1')] 86))
        have HX6 := Lib.hid ((Has.same HX2.out (hsm x (by simp))).alloc (.cells #[.bool (!b0), .bool (!b1')] 86))
        have hP6 := (Has.same HP.out (hsm gq (by simp))).alloc (.cells #[.bool (!b0), .bool (!b1')] 86)
        have HA6 := Lib.hid (Has.new w6 [.bool (!b0), .bool (!b1')] 86)
        have HP6 := Lib.hid hP6
        obtain ⟨z1, hz1⟩ : ∃ z, z = w6.heap.size := ⟨_, rfl⟩
        rw [← hz1] at HM6 HA6
        have r0 := hP6.cell 0
        have r1 := hP6.cell 1
        have r2 := hP6.cell 2
        simp only [List.getElem?_cons_zero, List.getElem?_cons_succ] at r0 r1 r2
        clear hm hsm hp0 hp1 hp2 hP6 HM HP HX2 HD
        go_wp2_with fail
        rw [← hz1]
        clear hz1
        refine (Whole_m HM6.out (b := 4) (by omega) (by omega) 9 K).mono ?_
        rintro e w7 ⟨rfl, hm, hsm⟩
        rw [HW0.out, HW1.out]
        have HM7 := Lib.hid (hm.new (.cells #[.bool (!b0), .bool (!b1')] 86))
        have HX7 := Lib.hid ((Has.same HX6.out (hsm x (by simp))).alloc (.cells #[.bool (!b0), .bool (!b1')] 86))
        have HA7 := Lib.hid ((Has.same HA6.out (hsm z1 (by simp))).alloc (.cells #[.bool (!b0), .bool (!b1')] 86))
        have HP7 := Lib.hid ((Has.same HP6.out (hsm gq (by simp))).alloc (.cells #[.bool (!b0), .bool (!b1')] 86))
        have HB7 := Lib.hid (Has.new w7 [.bool (!b0), .bool (!b1')] 86)
        obtain ⟨z2, hz2⟩ : ∃ z, z = w7.heap.size := ⟨_, rfl⟩
        rw [← hz2] at HM7 HB7
        have x0 := HX7.out.cell 0
        have x1 := HX7.out.cell 1
        have y0 := HA7.out.cell 0
        have y1 := HA7.out.cell 1
        have v0 := HB7.out.cell 0
        have v1 := HB7.out.cell 1
        simp only [List.getElem?_cons_zero, List.getElem?_cons_succ] at x0 x1 y0 y1 v0 v1
        have q0 := HP7.out.cell 0
        have q1 := HP7.out.cell 1
        have q2 := HP7.out.cell 2
        simp only [List.getElem?_cons_zero, List.getElem?_cons_succ] at q0 q1 q2
        rw [hz2] at v0 v1
        clear hm hsm r0 r1 r2 HM6 HX6 HA6 HP6
        go_wp2_with fail
        refine (Repairs_m HM7.out).mono ?_
        rintro e w8 ⟨rfl, rfl⟩
        obtain ⟨gd, hgd⟩ : ∃ g, g = (b0 && b1') := ⟨_, rfl⟩
        have HGD := Lib.hid hgd
        have hbd : (!(a1 % 4 == 3)) = !gd := by rw [hgd]; exact HBAD.out
        have ht4 := HT4.out
        have hr4 : ∀ (W : World), (binOp .rem 5 (.int .u8 a1) (.int .u8 4)).run Tryz.prog W = .ok (.int .u8 (a1 % 4)) W := fun W => by
          simp [binOp, Op.intDiv, ht4]
        have hq4 : (a1 % 4 == 3) = gd := by cases gd <;> simpa using hbd
        have hq5 : (a1 % 4 != 3) = !gd := by simpa [bne] using hbd
        clear x0 x1 y0 y1 v0 v1 hneq HX7 HA7 HB7 hgd hz2 hbd ht4 HBAD HT4
        cases gd with
        | false =>
          obtain ⟨s, hs2, hF, hcT⟩ : ∃ s, s < 2 ∧ fnd S2 noG 4 9 K = some s ∧ cont S2 noG s 4 = some T := by
            cases b0 with
            | false => exact ⟨0, by omega, fnd_0 HW0.out, by rw [HC0.out]; rfl⟩
            | true =>
              cases b1' with
              | false => exact ⟨1, by omega, fnd_1 HW0.out HW1.out, by rw [HC1.out]; rfl⟩
              | true => exact absurd HGD.out (by decide)
          go_wp2_with fail
          refine (Check_some HM7.out (b := 4) (by omega) (by omega) (by omega) 9 K hF hcT).mono ?_
          rintro e w8 ⟨S3, rfl, hst, hm, hsm⟩
          have hall : ∀ s, s < 2 → cont S3 noG s 4 = some T := fun s hs => by
            by_cases e : cont S2 noG s 4 = some T
            · rw [hst.kept hs (fun h => h.2 e)]; exact e
            · exact hst.got HPL2.out.nb HM7.out.good hs (by omega) ⟨al_mem.2 ⟨hs, rfl⟩, e⟩ rfl
          have HV0 := Lib.hid (show wh (cont S3 noG 0 4) (4 : Nat) 9 K = true by rw [hall 0 (by omega), HTT.out, HKK.out]; exact HOK.out.meets)
          have HV1 := Lib.hid (show wh (cont S3 noG 1 4) (4 : Nat) 9 K = true by rw [hall 1 (by omega), HTT.out, HKK.out]; exact HOK.out.meets)
          have HM8 := Lib.hid hm
          have HP8 := Lib.hid (Has.same HP7.out (hsm gq (by simp)))
          have s0 := HP8.out.cell 0
          have s1 := HP8.out.cell 1
          have s2 := HP8.out.cell 2
          simp only [List.getElem?_cons_zero, List.getElem?_cons_succ] at s0 s1 s2
          clear hst hm hsm hall q0 q1 q2 HM7 HP7 hF hcT
          have heq : ∀ W, (binOp .eql 86 (.agg #[.bool true, .bool true]) (.agg #[.bool true, .bool true])).run Tryz.prog W = .ok (.bool true) W := fun W => by kernel_rfl
          go_wp2_with fail
          refine (Whole_m HM8.out (b := 4) (by omega) (by omega) 9 K).mono ?_
          rintro e w9 ⟨rfl, hm, hsm⟩
          rw [HV0.out, HV1.out]
          have HM9 := Lib.hid (hm.new (.cells #[.bool true, .bool true] 86))
          have HP9 := Lib.hid ((Has.same HP8.out (hsm gq (by simp))).alloc (.cells #[.bool true, .bool true] 86))
          have HC9 := Lib.hid (Has.new w9 [.bool true, .bool true] 86)
          obtain ⟨z3, hz3⟩ : ∃ z, z = w9.heap.size := ⟨_, rfl⟩
          rw [← hz3] at HM9 HC9
          clear hm hsm s0 s1 s2 HM8 HP8
          go_wp2_with fail
          rw [← hz3]
          clear hz3
          refine (Whole_no HM9.out 14 0 0 rfl).mono ?_
          rintro e w10 ⟨rfl, hb⟩
          have HMA := Lib.hid ((HM9.out.later hb).new (.cells #[.bool false, .bool false] 86))
          have HPA := Lib.hid ((HP9.out.below hb HP9.out.lt).alloc (.cells #[.bool false, .bool false] 86))
          have HCA := Lib.hid ((HC9.out.below hb HC9.out.lt).alloc (.cells #[.bool false, .bool false] 86))
          have s0 := HPA.out.cell 0
          have s1 := HPA.out.cell 1
          have s2 := HPA.out.cell 2
          simp only [List.getElem?_cons_zero, List.getElem?_cons_succ] at s0 s1 s2
          clear hb HM9 HP9 HC9
          go_wp2_with fail
          refine (Whole_n 4 9 K _).mono ?_
          rintro e w11 ⟨rfl, hb⟩
          have HMB := Lib.hid ((HMA.out.later hb).new (.cells #[.bool false, .bool false] 86))
          have HCB := Lib.hid ((HCA.out.below hb HCA.out.lt).alloc (.cells #[.bool false, .bool false] 86))
          have u0 := HCB.out.cell 0
          have u1 := HCB.out.cell 1
          simp only [List.getElem?_cons_zero, List.getElem?_cons_succ] at u0 u1
          clear hb s0 s1 s2 HMA HPA HCA
          go_wp2
          go_ret
          exact ⟨rfl, HMB.out.below⟩
        | true =>
          have hF : fnd S2 noG 4 9 K = none := by
            have h0 : b0 = true := by cases b0 with
              | false => exact absurd HGD.out (by simp)
              | true => rfl
            have h1 : b1' = true := by cases b1' with
              | false => exact absurd HGD.out (by simp)
              | true => rfl
            exact fnd_2 (by rw [HW0.out, h0]; rfl) (by rw [HW1.out, h1]; rfl)
          go_wp2_with fail
          refine (Check_none HM7.out (b := 4) (by omega) (by omega) 9 K hF).mono ?_
          rintro e w8 ⟨rfl, hm, hsm⟩
          rw [lsR_no]
          have HV0 := Lib.hid (show wh (cont S2 noG 0 4) (4 : Nat) 9 K = false by
            rw [HW0.out]
            cases b0 with
            | false => exact absurd HGD.out (by simp)
            | true => rfl)
          have HV1 := Lib.hid (show wh (cont S2 noG 1 4) (4 : Nat) 9 K = false by
            rw [HW1.out]
            cases b1' with
            | false => exact absurd HGD.out (by simp)
            | true => rfl)
          have HM8 := Lib.hid hm
          have HP8 := Lib.hid (Has.same HP7.out (hsm gq (by simp)))
          have s0 := HP8.out.cell 0
          have s1 := HP8.out.cell 1
          have s2 := HP8.out.cell 2
          simp only [List.getElem?_cons_zero, List.getElem?_cons_succ] at s0 s1 s2
          clear hm hsm q0 q1 q2 HM7 HP7 hF
          have heq : ∀ W, (binOp .eql 86 (.agg #[.bool false, .bool false]) (.agg #[.bool true, .bool true])).run Tryz.prog W = .ok (.bool false) W := fun W => by kernel_rfl
          go_wp2_with fail
          refine (Whole_m HM8.out (b := 4) (by omega) (by omega) 9 K).mono ?_
          rintro e w9 ⟨rfl, hm, hsm⟩
          rw [HV0.out, HV1.out]
          have HM9 := Lib.hid (hm.new (.cells #[.bool false, .bool false] 86))
          have HP9 := Lib.hid ((Has.same HP8.out (hsm gq (by simp))).alloc (.cells #[.bool false, .bool false] 86))
          have HC9 := Lib.hid (Has.new w9 [.bool false, .bool false] 86)
          obtain ⟨z3, hz3⟩ : ∃ z, z = w9.heap.size := ⟨_, rfl⟩
          rw [← hz3] at HM9 HC9
          clear hm hsm s0 s1 s2 HM8 HP8
          go_wp2_with fail
          rw [← hz3]
          clear hz3
          refine (Whole_no HM9.out 14 0 0 rfl).mono ?_
          rintro e w10 ⟨rfl, hb⟩
          have HMA := Lib.hid ((HM9.out.later hb).new (.cells #[.bool false, .bool false] 86))
          have HPA := Lib.hid ((HP9.out.below hb HP9.out.lt).alloc (.cells #[.bool false, .bool false] 86))
          have HCA := Lib.hid ((HC9.out.below hb HC9.out.lt).alloc (.cells #[.bool false, .bool false] 86))
          have s0 := HPA.out.cell 0
          have s1 := HPA.out.cell 1
          have s2 := HPA.out.cell 2
          simp only [List.getElem?_cons_zero, List.getElem?_cons_succ] at s0 s1 s2
          clear hb HM9 HP9 HC9
          go_wp2_with fail
          refine (Whole_n 4 9 K _).mono ?_
          rintro e w11 ⟨rfl, hb⟩
          have HMB := Lib.hid ((HMA.out.later hb).new (.cells #[.bool false, .bool false] 86))
          have HCB := Lib.hid ((HCA.out.below hb HCA.out.lt).alloc (.cells #[.bool false, .bool false] 86))
          have u0 := HCB.out.cell 0
          have u1 := HCB.out.cell 1
          simp only [List.getElem?_cons_zero, List.getElem?_cons_succ] at u0 u1
          clear hb s0 s1 s2 HMA HPA HCA
          go_wp2
          go_ret
          exact ⟨rfl, HMB.out.below⟩

set_option maxRecDepth 100000 in
theorem contract (H : Type) (enc : TypeId × Value → H) (W : World) (base : Nat) (args : Array Value) (ds gs : List (DataW H)) (before : List MemPlace)
    (hval0 : ∀ (j : Nat) t v, Tryz.f8.params[j]? = some t → args[j]? = some v → Value.okWide Tryz.prog W .any base t v)
    (hW : DataW.Whole enc Tryz.prog Tryz.f8.params.toList Rows.mirrorWholeSpec.vars false W args.toList ds gs before) :
    Calls Tryz.prog 8 args W fun e W' => ∃ v, e = .returned v ∧ Rows.mirrorWholeSpec.post enc Tryz.prog Tryz.f8 false true false false W args v W' := by
  have hval : ∀ (j : Nat) t v, Tryz.f8.params[j]? = some t → args[j]? = some v → Value.okWide Tryz.prog W .any base t v := hval0
  have hW' := hW
  obtain ⟨p, q, hA0, hV, rfl, hfz, hnd⟩ := hW
  have hA : DataW.TrodAll enc Tryz.prog W 0 (fun _ => true) true Tryz.f8.params.toList args.toList ds p := hA0
  rw [Tryz.params8] at hA hval
  obtain ⟨v0, vs0, d0, ds0, p0, q0, hargs, rfl, rfl, h0, r0⟩ := trodAll_cons hA
  obtain ⟨v1, vs1, d1, ds1, p1, q1, rfl, rfl, rfl, h1, r1⟩ := trodAll_cons r0
  obtain ⟨v2, vs2, d2, ds2, p2, q2, rfl, rfl, rfl, h2, r2⟩ := trodAll_cons r1
  obtain ⟨rfl, rfl, rfl⟩ := trodAll_nil r2
  obtain rfl : args = #[v0, v1, v2] := by cases args; simp_all
  obtain ⟨rfl, rfl⟩ := trodVars_none hV
  obtain ⟨a0, rfl, rfl, rfl, w0⟩ := open_string Tryz.underlying9 (hval 0 9 v0 rfl rfl) h0
  obtain ⟨a1, rfl, rfl, rfl, w1⟩ := open_int Tryz.underlying5 (hval 1 5 v1 rfl rfl) h1
  obtain ⟨a2, rfl, rfl, rfl, w2⟩ := open_int Tryz.underlying5 (hval 2 5 v2 rfl rfl) h2
  clear hA0 hval0
  refine (walk a0 a1 a2 W w0 w1 w2).mono fun e W' ⟨he, bel⟩ => ?_
  subst he
  exact ⟨_, rfl, _, _, _, [], _, [], hW', trodAll_mk1 (shut_bool Tryz.underlying4 _), (trodAll_cons_mk (shut_string Tryz.underlying9 w0) (trodAll_cons_mk (shut_int Tryz.underlying5 w1) (trodAll_cons_mk (shut_int Tryz.underlying5 w2) trodAll_mk0))), rfl, bel.frame _, fun h => by cases h⟩

noncomputable def laidWorld (os : Os) : World :=
  { World.holding Tryz.prog os ⟨#[], #[], []⟩ with heap := (((((World.holding Tryz.prog os ⟨#[], #[], []⟩).heap).modify 2 fun | .cells _ t frozen => .cells (#[.int .u8 128, .int .u8 191, .int .u8 160, .int .u8 191, .int .u8 128, .int .u8 159, .int .u8 144, .int .u8 191, .int .u8 128, .int .u8 143, .int .u8 0, .int .u8 0, .int .u8 0, .int .u8 0, .int .u8 0, .int .u8 0, .int .u8 0, .int .u8 0, .int .u8 0, .int .u8 0, .int .u8 0, .int .u8 0, .int .u8 0, .int .u8 0, .int .u8 0, .int .u8 0, .int .u8 0, .int .u8 0, .int .u8 0, .int .u8 0, .int .u8 0, .int .u8 0]) t frozen | o => o)).modify 1 fun | .cells _ t frozen => .cells ((Go.Pinned.utf8FirstZ.map fun z : Nat => Value.int .u8 (z : Int)).toArray) t frozen | o => o) }
theorem laid_met (os : Os) : laidMet Tryz.prog Rows.mirrorWholeRow.laid ((laidWorld os).forCall (fun _ _ => 0) ⟨#[], #[.string ByteArray.empty, .int .u8 0, .int .u8 0], []⟩).memory :=
  laidMet_of_run' 8 (by kernel_rfl) (by kernel_rfl)
theorem reads (os : Os) {H : Type} (enc : TypeId × Value → H) : ∃ places, DataW.whole enc Tryz.prog ((laidWorld os).forCall (fun _ _ => 0) ⟨#[], #[.string ByteArray.empty, .int .u8 0, .int .u8 0], []⟩).memory Tryz.f8.params.toList Rows.mirrorWholeSpec.vars false (#[.string ByteArray.empty, .int .u8 0, .int .u8 0] : Array Value).toList 8 = some ([.lit (.string []), .lit (.int .u8 0), .lit (.int .u8 0)], [], places) :=
  ⟨[], by kernel_rfl⟩

set_option maxRecDepth 100000 in
theorem lifted (os : Os) (started : os.Started) (H : Type) (enc : TypeId × Value → H) (F : Stop.Interp) :
    ReturnsInHanded {} Tryz.checked os 8 .any ((OpenSpec.ofChange Rows.mirrorWholeSpec).preRow enc Tryz.prog Tryz.f8 Rows.mirrorWholeRow.domain false Rows.mirrorWholeRow.laid) (((OpenSpec.ofChange Rows.mirrorWholeSpec).at F).post enc Tryz.prog Tryz.f8 false true false false) := by
  obtain ⟨places, hx⟩ := reads os enc
  refine returnsInHanded_of_row (C := Tryz.checked) (s := OpenSpec.ofChange Rows.mirrorWholeSpec) own started (by kernel_rfl) Tryz.func8
    (witness_row_at (enc := enc) (C := Tryz.checked) false (laidWorld os) #[.string ByteArray.empty, .int .u8 0, .int .u8 0] rfl (by kernel_rfl) (by kernel_rfl) (by kernel_rfl)
      (OpenSpec.preRow_of_cond 8 hx (by kernel_rfl) (fun k hk => by cases hk) (by kernel_rfl) (laid_met os))) ?_
  intro W base args ds gs before hval hW _ _ _ hL _ _
  exact contract H enc W base args ds gs before hval hW

theorem said : Rows.MirrorWholeSaid :=
  OpenClaim.holds_of_cond 8 Tryz.f8 rfl rfl rfl rfl rfl rfl rfl ⟨rfl, rfl, rfl, rfl, rfl⟩ rfl rfl rfl rfl rfl (by kernel_rfl) Tryz.func8 (by kernel_rfl)
    (of_decide_eq_true (by kernel_rfl)) (by unfold Func.isWrapper; first | (rw [if_pos (by decide +kernel)]; kernel_rfl) | (rw [if_neg (by decide +kernel)]; exact ⟨rfl, rfl⟩))
    (fun os started H enc _ F => by rw [OpenClaim.pre_eq_preRow]; exact lifted os started H enc F)

theorem plain (f : FuncId) (fn : Func) (hf : Tryz.pinned.checked.prog.funcNamed "treenail/treenaillaw08.MirrorWhole" = some f) (hfn : Tryz.pinned.checked.prog.funcs[f]? = some fn) :
    false = Tryz.pinned.checked.prog.looks [] ∧ ∀ (j : Nat) t, fn.params[j]? = some t → Tryz.pinned.checked.prog.wantsStandIn t = false := by
  obtain rfl : f = 8 := Option.some.inj ((show Tryz.prog.funcNamed "treenail/treenaillaw08.MirrorWhole" = some 8 by kernel_rfl).symm.trans hf) |>.symm
  obtain rfl : fn = Tryz.f8 := (Option.some.inj (Tryz.func8.symm.trans hfn)).symm
  refine ⟨by kernel_rfl, fun j t ht => ?_⟩
  rw [Tryz.params8] at ht
  rcases j with _ | _ | _ | j
  · obtain rfl : t = 9 := by simpa using ht.symm
    exact (show Tryz.prog.wantsStandIn 9 = false by kernel_rfl)
  · obtain rfl : t = 5 := by simpa using ht.symm
    exact (show Tryz.prog.wantsStandIn 5 = false by kernel_rfl)
  · obtain rfl : t = 5 := by simpa using ht.symm
    exact (show Tryz.prog.wantsStandIn 5 = false by kernel_rfl)
  · simp at ht

/-- THE STATEMENT -/
theorem proved : Rows.MirrorWholeCardSaid :=
  Claim7.holds_tied_plain_at .later [] _ _ _ _ said (fun _ h => by cases h) (by kernel_rfl) (fun _ h => by cases h) mirrorWhole_row_tie rfl ⟨rfl, rfl⟩ (by kernel_rfl) rfl plain (by kernel_rfl)
#print axioms proved
end Go.Proofs.YtcjfooikmaipdaaGreatDoor.mirrorWhole
