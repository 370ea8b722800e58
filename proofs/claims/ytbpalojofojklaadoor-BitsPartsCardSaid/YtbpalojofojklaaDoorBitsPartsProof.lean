/-
  The law BitsParts holds: each number is of a set or isn't; the next ones, one behind the other, are all that are of it, or all others. Conditions: none but the row's own.
-/
import Derived.Test.YtbpalojofojklaaDoorRows
import Derived.Test.YtbpalojofojklaaDoorBitM
import Derived.Test.YtbpalojofojklaaDoorCards
import Derived.Test.YtbpalojofojklaaDoorTie
import Derived.Test.YtbpalojofojklaaDoorArr
import Derived.WalkKit
import Derived.ProofKit
import Derived.OpenShut
import Derived.ShutString
import Derived.ChangeOld
import Derived.Below
import Derived.Carry
import Derived.Deep.DeepHandedRow

import Derived.Lib.LaidTab
namespace Go.Proofs.YtbpalojofojklaaDoor.bitsParts
open Go.ChangeShapes Go.WideShapes Go.ChangeAt Go.RowKit
open Go.Proofs.YtbpalojofojklaaDoor
open Go.ChangeMaps (open_string shut_string)
set_option linter.unusedVariables false

theorem own : ownKnob Tryd.prog.godebug = none := by kernel_rfl
theorem laidOut : laidOutB Tryd.prog = true := by kernel_rfl


open Go.Proofs.YtbpalojofojklaaDoor.Bit
open Go.Maps (int_keyed keyOf_int_mk)
theorem run_minC (P : Program) (w : World) (t : TypeId) (ts : Array TypeId) (a c : Nat) : (Builtin.min_ ts t #[.int .i64 (a : Nat), .int .i64 (c : Nat)]).run P w = .ok (.int .i64 ((min a c : Nat) : Int)) w := by
  have e : ∀ a b : Nat, (if (b : Int) < a then (b : Int) else a) = ((min a b : Nat) : Int) := by intro a b; split <;> omega
  simp only [Builtin.min_, Builtin.min2, List.foldlM, Sem.run_bind, Sem.run_pure, Result.andThen]
  rw [e]

/-! ### STEP 1: THE WALK -/
set_option maxHeartbeats 8000000 in
set_option maxRecDepth 100000 in
theorem walk (a0 : Option Addr) (a0l a0c : Nat) (a0z : List Int) (a1 : Int) (w : World) (w0 : Row .u8 w a0 a0l a0z) (w0l : a0l ≤ a0c) (w0m : a0c ≤ maxLen) (w0w : ∀ n ∈ a0z, (Lit.int .u8 n).wf = true) (w1 : (Lit.int .u8 a1).wf = true) (hT : Bit.Tz w) :
    Calls Tryd.prog 5 #[.slice a0 a0l a0c, .int .u8 a1] w fun e w' => e = .returned (.bool true) ∧ Below w.heap.size w w' := by
  have HZT := Lib.hid hT
  clear hT
  have hr0 := w0
  have hlc0 := w0l
  have hcm0 := w0m
  have hwf0 := w0w
  have R0 := Lib.hid hr0
  have WF := Lib.hid hwf0
  have HLZ := Lib.hid hr0.len_eq
  have hb1 := bounds_u8 w1
  obtain ⟨L, hL⟩ : ∃ L : Nat, (L : Int) = 1 + a1 := ⟨(1 + a1).toNat, by omega⟩
  have hLb : 1 ≤ L ∧ L ≤ 256 := by omega
  obtain ⟨hL1, hL2⟩ := hLb
  have hwa : IntKind.i64.wrap a1 = a1 := IntWalk.i64_in _ (by omega)
  have hL' := hL.symm
  obtain ⟨ha0, ha1⟩ := hb1
  clear hr0 hwf0 w0 w0l w0m w0w w1 hL
  unfold maxLen at hcm0
  have hmm := @run_makeMap Tryd.prog
  have hmy : mayS (L : Int) = true := mayS_of (by omega) (by omega)
  have HMY := Lib.hid hmy
  clear hmy
  go_enter Tryd.func5, Tryd.ntmps5
  go_wp2_with fail
  refine (new_yes L _ HMY.out).mono ?_
  rintro e w3 ⟨p, R, rfl, hs, hR, hb⟩
  rw [Int.toNat_natCast] at hs
  have HO := Lib.hid (Own.of (w0 := w) hs hR (Nat.le_refl _))
  have HB := Lib.hid hb
  clear hs hR hb hL' hwa ha0 ha1
  go_wp2_with fail
  refine (wakes_any _ (HZT.out.on HB.out)).mono ?_
  rintro e w4 ⟨rfl, hb⟩
  have HO4 := Lib.hid (HO.out.on hb)
  have HB4 := Lib.hid (b_on HB.out hb)
  have HL0 := Lib.hid (show (List.replicate L false).length = L by simp)
  clear hb HO HB
  obtain ⟨mm, hm⟩ : ∃ mm, mm = min a0l 200 := ⟨_, rfl⟩
  have hmin : ∀ W ts, (Builtin.min_ ts 3 #[.int .i64 (a0l : Nat), .int .i64 200]).run Tryd.prog W = .ok (.int .i64 (mm : Int)) W := by
    intro W ts; rw [hm]; exact run_minC _ _ _ _ a0l 200
  have hml : mm ≤ a0l := by omega
  have hml' : mm ≤ a0c := by omega
  clear hm
  go_wp2_with fail
  clear hmin
  go_loopw [41] (fun i wr => ∃ (c : Nat) (l : List Bool) (R : List Nat), c ≤ mm ∧ i = .int .i64 c ∧ Own w p R l wr ∧ l.length = L ∧ Below w.heap.size w wr) (fun i _ => mm - (intOf i).toNat)
  case atStart => exact ⟨0, _, R, Nat.zero_le _, rfl, HO4.out, HL0.out, HB4.out⟩
  case round =>
    obtain ⟨c, l, R1, hc, rfl, ho, hll, hbr⟩ := hrel
    clear HO4 HB4 HL0
    have HO := Lib.hid ho
    have HLL := Lib.hid hll
    have HB := Lib.hid hbr
    by_cases hlt : c < mm
    · obtain ⟨zb, zo, rfl, hcell⟩ := (R0.out.below hbr (Nat.le_refl _)).at_ (by omega)
      have hz := hcell c (by omega)
      obtain ⟨y, hy⟩ : ∃ y, y = a0z.getD c 0 := ⟨_, rfl⟩
      have hyb : 0 ≤ y ∧ y ≤ 255 := by
        have := bounds_u8 (WF.out y (by rw [hy, List.getD_eq_getElem?_getD, List.getElem?_eq_getElem (by rw [HLZ.out]; omega)]; exact List.getElem_mem _))
        omega
      rw [← hy] at hz
      obtain ⟨x, hx⟩ : ∃ x, x = y % (L : Int) := ⟨_, rfl⟩
      have hwy : IntKind.i64.wrap y = y := IntWalk.i64_in _ (by omega)
      have hmod : Int.tmod y (L : Int) = x := by rw [Int.tmod_eq_emod_of_nonneg hyb.1, hx]
      have hmod' : y % (L : Int) = x := hx.symm
      have hLz' : ¬ L = 0 := by omega
      obtain ⟨hy0, hy1⟩ := hyb
      obtain ⟨H, hH⟩ : ∃ H, H = hasL l x := ⟨_, rfl⟩
      have HH := Lib.hid hH
      clear hcell hy hx ho hll hbr hH
      go_upto_region 8 with fail
      obtain ⟨W5, hW5⟩ : ∃ W, W = wr := ⟨_, rfl⟩
      rw [← hW5] at HO HB ⊢
      clear hW5 hz
      refine Reg.region_vals (by kernel_rfl) [(45, .pointer (some ⟨p, 0, none⟩)), (46, .int .u8 y), (47, .int .i64 y), (48, .int .i64 (L : Int)), (49, .int .i64 x), (50, .pointer (some ⟨p, 0, none⟩)), (51, .int .u8 y), (52, .int .i64 y), (53, .int .i64 (L : Int)), (54, .int .i64 x), (55, .bool H), (56, .bool (!H)), (57, .bool H)] (fun l2 wy => Mid W5 (fun wz => ∃ R2, Own w p R2 (putL l x (!H)) wz ∧ Below w.heap.size w wz) (l2 11) (l2 12) wy) (by kernel_rfl) (by kernel_rfl) (by kernel_rfl) (Mid.start _ _) ⟨?_, ?_, ?_, ?_, ?_, ?_, ?_, ?_, ?_, ?_, ?_, ?_, ?_, trivial⟩ ?hend
      · -- 0: 45 := Op.move t6
        intro aq wq lq hI hl hdone hlater hold hd ho
        have h6 : aq.tmps.getD 6 undef = .pointer (some ⟨p, 0, none⟩) := ho 6 (by kernel_rfl)
        clear hd ho hdone hlater hold
        exact Reg.step2_move (.tmp 6) rfl h6 hI trivial
      · -- 1: 46 := Op.move t9
        intro aq wq lq hI hl hdone hlater hold hd ho
        have h9 : aq.tmps.getD 9 undef = .int .u8 y := ho 9 (by kernel_rfl)
        clear hd ho hdone hlater hold
        exact Reg.step2_move (.tmp 9) rfl h9 hI trivial
      · -- 2: 47 := Op.convert 5 3 t46
        intro aq wq lq hI hl hdone hlater hold hd ho
        have h46 : aq.tmps.getD 46 undef = .int .u8 y := hd 46 (by kernel_rfl)
        clear hd ho hdone hlater hold
        rw [Array.getD_eq_getD_getElem?] at h46
        refine Reg.step2_val (.int .i64 y) ?_ rfl hI trivial
        simp [execOp, Act.eval, h46]
        try go_simp
      · -- 3: 48 := Op.move t5
        intro aq wq lq hI hl hdone hlater hold hd ho
        have h5 : aq.tmps.getD 5 undef = .int .i64 (L : Int) := ho 5 (by kernel_rfl)
        clear hd ho hdone hlater hold
        exact Reg.step2_move (.tmp 5) rfl h5 hI trivial
      · -- 4: 49 := Op.binOp BinOp.rem 3 t47 t48 3
        intro aq wq lq hI hl hdone hlater hold hd ho
        have h47 : aq.tmps.getD 47 undef = .int .i64 y := hd 47 (by kernel_rfl)
        have h48 : aq.tmps.getD 48 undef = .int .i64 (L : Int) := hd 48 (by kernel_rfl)
        clear hd ho hdone hlater hold
        rw [Array.getD_eq_getD_getElem?] at h47 h48
        refine Reg.step2_val (.int .i64 x) ?_ rfl hI trivial
        simp [execOp, Act.eval, h47, h48]
        try go_simp
      · -- 5: 50 := Op.move t6
        intro aq wq lq hI hl hdone hlater hold hd ho
        have h6 : aq.tmps.getD 6 undef = .pointer (some ⟨p, 0, none⟩) := ho 6 (by kernel_rfl)
        clear hd ho hdone hlater hold
        exact Reg.step2_move (.tmp 6) rfl h6 hI trivial
      · -- 6: 51 := Op.move t9
        intro aq wq lq hI hl hdone hlater hold hd ho
        have h9 : aq.tmps.getD 9 undef = .int .u8 y := ho 9 (by kernel_rfl)
        clear hd ho hdone hlater hold
        exact Reg.step2_move (.tmp 9) rfl h9 hI trivial
      · -- 7: 52 := Op.convert 5 3 t51
        intro aq wq lq hI hl hdone hlater hold hd ho
        have h51 : aq.tmps.getD 51 undef = .int .u8 y := hd 51 (by kernel_rfl)
        clear hd ho hdone hlater hold
        rw [Array.getD_eq_getD_getElem?] at h51
        refine Reg.step2_val (.int .i64 y) ?_ rfl hI trivial
        simp [execOp, Act.eval, h51]
        try go_simp
      · -- 8: 53 := Op.move t5
        intro aq wq lq hI hl hdone hlater hold hd ho
        have h5 : aq.tmps.getD 5 undef = .int .i64 (L : Int) := ho 5 (by kernel_rfl)
        clear hd ho hdone hlater hold
        exact Reg.step2_move (.tmp 5) rfl h5 hI trivial
      · -- 9: 54 := Op.binOp BinOp.rem 3 t52 t53 3
        intro aq wq lq hI hl hdone hlater hold hd ho
        have h52 : aq.tmps.getD 52 undef = .int .i64 y := hd 52 (by kernel_rfl)
        have h53 : aq.tmps.getD 53 undef = .int .i64 (L : Int) := hd 53 (by kernel_rfl)
        clear hd ho hdone hlater hold
        rw [Array.getD_eq_getD_getElem?] at h52 h53
        refine Reg.step2_val (.int .i64 x) ?_ rfl hI trivial
        simp [execOp, Act.eval, h52, h53]
        try go_simp
      · -- 10: 55 := Op.call ( value (Operand.func 16), args := #(t50, t54), argT
        intro aq wq lq hI hl hdone hlater hold hd ho
        have h50 : aq.tmps.getD 50 undef = .pointer (some ⟨p, 0, none⟩) := hd 50 (by kernel_rfl)
        have h54 : aq.tmps.getD 54 undef = .int .i64 x := hd 54 (by kernel_rfl)
        have gl11 : lq 11 = false := hlater 11 (by kernel_rfl)
        clear hd ho hdone hlater hold
        rw [Array.getD_eq_getD_getElem?] at h50 h54
        have hn := hI.ahead gl11
        refine Reg.step2_call 16 #[.pointer (some ⟨p, 0, none⟩), .int .i64 x] ?_ ((has_any x wq ((HO.out.on (hI.no hn)).at_)).mono ?_)
        · clear hI
          simp [execOp]
          go_simp
        · rintro e w' ⟨rfl, hb⟩
          exact ⟨_, rfl, by rw [← HH.out]; rfl, ⟨fun _ => b_on (hI.no hn) hb, (fun h => by rw [show Reg.lset lq 10 12 = lq 12 from rfl, hn] at h; cases h), (fun h => by rw [show Reg.lset lq 10 12 = lq 12 from rfl, hn] at h; cases h)⟩, trivial⟩
      · -- 11: 56 := Op.unOp UnOp.not 4 t55
        intro aq wq lq hI hl hdone hlater hold hd ho
        have h55 : aq.tmps.getD 55 undef = .bool H := hd 55 (by kernel_rfl)
        clear hd ho hdone hlater hold
        rw [Array.getD_eq_getD_getElem?] at h55
        refine Reg.step2_val (.bool (!H)) ?_ rfl ⟨hI.no, hI.yes, fun _ => rfl⟩ trivial
        clear hI
        simp [execOp, Act.eval, h55]
        try go_simp
      · -- 12: 57 := Op.call ( value (Operand.func 13), args := #(t45, t49, t56),
        intro aq wq lq hI hl hdone hlater hold hd ho
        have h45 : aq.tmps.getD 45 undef = .pointer (some ⟨p, 0, none⟩) := hd 45 (by kernel_rfl)
        have h49 : aq.tmps.getD 49 undef = .int .i64 x := hd 49 (by kernel_rfl)
        have h56 : aq.tmps.getD 56 undef = .bool (!H) := hd 56 (by kernel_rfl)
        have gd11 : lq 11 = true := hdone 11 (by kernel_rfl)
        clear hd ho hdone hlater hold
        rw [Array.getD_eq_getD_getElem?] at h45 h49 h56
        have hN := hI.no hl
        have hO := HO.out.on hN
        refine Reg.step2_call 13 #[.pointer (some ⟨p, 0, none⟩), .int .i64 x, .bool (!H)] ?_ ((put_any x (!H) wq hO.at_).mono ?_)
        · clear hI hN hO
          simp [execOp]
          go_simp
        · rintro e w' ⟨R2, rfl, hs2, hR2, hc2⟩
          have hb5 := b_on HB.out hN
          exact ⟨_, rfl, by rw [← HH.out]; rfl, ⟨(fun h => by cases h), (fun _ => ⟨R2, hO.put hs2 hR2 hb5.size, b_chg hb5 hc2 hO.ge⟩), (fun _ => gd11)⟩, trivial⟩
      case hend =>
        intro wy hI
        simp only [Reg.fill, List.foldl_cons, List.foldl_nil, List.setIfInBounds_toArray, List.set_cons_zero, List.set_cons_succ]
        obtain ⟨R2, ho2, hb2⟩ := hI.yes rfl
        have HO2 := Lib.hid ho2
        have HB2 := Lib.hid hb2
        clear hI ho2 hb2
        go_wp2_with fail
        go_roundw
        case rel => exact ⟨c + 1, putL l x (!H), R2, by omega, by go_num, HO2.out, by rw [putL_length, HLL.out], HB2.out⟩
        case measure => simp [intOf]; omega
    · have hob := ho.at_.lt
      clear ho hll
      obtain ⟨mb, hmb⟩ : ∃ b, b = wr.heap.size := ⟨_, rfl⟩
      obtain ⟨cb, hcb⟩ : ∃ b, b = wr.heap.size + 1 := ⟨_, rfl⟩
      obtain ⟨vb, hvb⟩ : ∃ b, b = wr.heap.size + 1 + 1 := ⟨_, rfl⟩
      have hmade := World.ownsMap_made (H := Unit) wr Tryd.prog 3 (plainElem (H := Unit) Tryd.prog 4)
      rw [← hmb] at hmade
      have hc0 := Has.new (wr.alloc (.map #[] 0)) [.int .i64 0, .int .i64 0] 45
      rw [World.size_alloc, ← hcb] at hc0
      have hv0 := Has.new ((wr.alloc (.map #[] 0)).alloc (.cells #[.int .i64 0, .int .i64 0] 45)) [.bool true, .bool false] 4
      rw [World.size_alloc, World.size_alloc, ← hvb] at hv0
      obtain ⟨W6, hW6⟩ : ∃ W, W = ((wr.alloc (.map #[] 0)).alloc (.cells #[.int .i64 0, .int .i64 0] 45)).alloc (.cells #[.bool true, .bool false] 4) := ⟨_, rfl⟩
      have bel6 : Below wr.heap.size wr W6 := by rw [hW6]; exact b_nw (b_nw (b_new _ _) _) _
      have HM6 := Lib.hid (show W6.ownsMap Tryd.prog 3 (plainElem (H := Unit) Tryd.prog 4) mb 0 (.map []) by rw [hW6]; exact owns_map_on (owns_map_on hmade (b_new _ _)) (b_new _ _))
      have HC6 := Lib.hid (show Has W6 cb 45 (cellsC l 0 0) by rw [hW6]; exact hc0.alloc _)
      have HV6 := Lib.hid (show Has W6 vb 4 [.bool true, .bool false] by rw [hW6]; exact hv0)
      have HO6 := Lib.hid (HO.out.on bel6)
      have HB6 := Lib.hid (b_on HB.out bel6)
      have HRM := Lib.hid (show ∀ k ∈ R1, k ≠ mb ∧ k ≠ cb from fun k hk => by have := hob k hk; omega)
      have HNE := Lib.hid (show mb ≠ cb ∧ vb ≠ mb ∧ vb ≠ cb ∧ w.heap.size ≤ mb ∧ w.heap.size ≤ cb by have := HB.out.size; omega)
      clear hmade hc0 hv0 bel6 HO HB hbr hob
      go_wp2_with fail
      rw [← hvb, ← hcb, ← hmb]
      rw [← hW6]
      clear hW6 hmb hcb hvb
      go_loopw [63] (fun i wr => ∃ (c n K : Nat) (D : DataW Unit), c ≤ 2 ∧ i = .int .i64 c ∧ n ≤ 300 * c ∧ Ph l c D K ∧ Maps.size D = K ∧ wr.ownsMap Tryd.prog 3 (plainElem (H := Unit) Tryd.prog 4) mb n D ∧ Has wr cb 45 (cellsC l c 0) ∧ Has wr vb 4 [.bool true, .bool false] ∧ Own w p R1 l wr ∧ Below w.heap.size w wr) (fun i _ => 2 - (intOf i).toNat)
      case atStart => exact ⟨0, 0, 0, _, by decide, rfl, by omega, Ph.start l, rfl, HM6.out, HC6.out, HV6.out, HO6.out, HB6.out⟩
      case round =>
        obtain ⟨c2, n, K, D, hc2, rfl, hn, hph, hsz, hmp, hcs, hvs, ho, hbr⟩ := hrel
        clear HM6 HC6 HV6 HO6 HB6
        have HPH := Lib.hid hph
        have HSZ := Lib.hid hsz
        have HM := Lib.hid hmp
        have HC := Lib.hid hcs
        have HV := Lib.hid hvs
        have HO := Lib.hid ho
        have HB := Lib.hid hbr
        by_cases hlt : c2 < 2
        · have hlt' : (c2 : Int) < 2 := by omega
          obtain ⟨is, his⟩ : ∃ is, is = kindOf c2 := ⟨_, rfl⟩
          have hvc := kinds_get hvs hlt
          rw [← his] at hvc
          have HIS := Lib.hid his
          clear hph hsz hmp hcs hvs ho hbr his
          go_wp2_with fail
          go_loopw [14, 70] (fun la i w5 => ∃ (d a : Nat) (q : Int) (n' : Nat) (D' : DataW Unit), d ≤ L + 1 ∧ a ≤ L ∧ i = .int .i64 d ∧ la = .int .i64 q ∧ q + 1 = a ∧ d = cntK l is a ∧ n' ≤ n + d ∧ Seen l is a D' ∧ Maps.size D' = K + d ∧ w5.ownsMap Tryd.prog 3 (plainElem (H := Unit) Tryd.prog 4) mb n' D' ∧ Has w5 cb 45 (cellsC l c2 d) ∧ Has w5 vb 4 [.bool true, .bool false] ∧ Own w p R1 l w5 ∧ Below w.heap.size w w5) (fun _ i _ => L + 1 - (intOf i).toNat)
          case atStart => exact ⟨0, 0, -1, n, D, by omega, by omega, rfl, rfl, rfl, rfl, by omega, by rw [HIS.out]; exact HPH.out.seen hlt, HSZ.out, HM.out, HC.out, HV.out, HO.out, HB.out⟩
          case round =>
            obtain ⟨d, a, q, n', D', hd, ha, rfl, rfl, hq, hda, hn', hse, hsz, hmp, hcs, hvs, ho, hbr⟩ := hrel
            clear HM HC HV HO HB
            have hdl := cntK_le l is a
            by_cases hdt : d < L + 1
            · have hdt' : (d : Int) < (L : Int) + 1 := by omega
              have HSE := Lib.hid hse
              have HSZ' := Lib.hid hsz
              have HM := Lib.hid hmp
              have HC := Lib.hid hcs
              have HV := Lib.hid hvs
              have HO := Lib.hid ho
              have HB := Lib.hid hbr
              have HDA := Lib.hid hda
              clear hse hsz hmp hcs hvs ho hbr hda hdl
              go_wp2_with fail
              refine (next_any _ _ _ (HZT.out.on HB.out) HO.out.at_).mono ?_
              rintro e w6 ⟨rfl, hb⟩
              have HM6 := Lib.hid (owns_map_on HM.out hb)
              have HC6 := Lib.hid (HC.out.below hb HC.out.lt)
              have HV6 := Lib.hid (HV.out.below hb HV.out.lt)
              have HO6 := Lib.hid (HO.out.on hb)
              have HB6 := Lib.hid (b_on HB.out hb)
              clear hb HM HC HV HO HB
              cases hO : nextO l (a : Nat) is with
              | none =>
                obtain ⟨y1, y2⟩ := next_no hO
                have hend := cntK_end (by rw [HLL.out]; exact ha) hO
                have hdd : d = cntK l (kindOf c2) l.length := by rw [HDA.out, ← HIS.out, hend]
                have HNX := Lib.hid (HPH.out.next (a := a) (D' := D') hlt (by rw [← HIS.out]; exact HSE.out) hdd)
                have HCN := Lib.hid (cells_next (l := l) hlt hdd)
                rw [y1, y2]
                clear y1 y2 hO hend hdd
                go_wp2_with fail
                go_roundw
                case rel => exact ⟨c2 + 1, n', K + d, D', by omega, by go_num, by omega, HNX.out, HSZ'.out, HM6.out, by rw [← HCN.out]; exact HC6.out, HV6.out, HO6.out, HB6.out⟩
                case measure => simp [intOf]; omega
              | some k =>
                obtain ⟨y1, y2⟩ := next_yes hO
                obtain ⟨k1, k2, k3, k4⟩ := cntK_next hO
                rw [HLL.out] at k3
                have hkq : ¬ (k : Int) ≤ q := by omega
                have hkw := int_wf (x := (k : Int)) (by omega) (by omega)
                obtain ⟨bb, hlook, hat⟩ := lookup_bool HM6.out (int_keyed Tryd.underlying3) Tryd.underlying44 Tryd.underlying4 (zero_bool _) (keyOf_int_mk Tryd.underlying3 hkw)
                have hbb : bb = false := HSE.out.look k2 k4 hat
                rw [hbb] at hlook
                have HH := Lib.hid (show hasL l (k : Int) = is by rw [hasL_in (by rw [HLL.out]; exact k3)]; exact k4)
                have HK1 := Lib.hid k1
                have HK2 := Lib.hid k2
                have HK4 := Lib.hid k4
                have HKW := Lib.hid hkw
                have HNL := Lib.hid (show n' < maxLen by unfold maxLen; omega)
                have HSE2 := Lib.hid (HSE.out.push k2 k4)
                have HSZ2 := Lib.hid (HSE.out.size k2 k4 (HM6.out.tidy (int_keyed Tryd.underlying3)) HSZ'.out)
                rw [y1, y2]
                clear y1 y2 hO hat hbb k1 k2 k4 hkw
                go_wp2_with fail
                refine (has_any _ _ HO6.out.at_).mono ?_
                rintro e w7 ⟨rfl, hb⟩
                rw [HH.out]
                have HM7 := Lib.hid (owns_map_on HM6.out hb)
                have HC7 := Lib.hid (HC6.out.below hb HC6.out.lt)
                have HV7 := Lib.hid (HV6.out.below hb HV6.out.lt)
                have HO7 := Lib.hid (HO6.out.on hb)
                have HB7 := Lib.hid (b_on HB6.out hb)
                clear hb HM6 HC6 HV6 HO6 HB6 hlook
                go_wp2_with (at_mapUpdate; refine wpList_mapUpdate_own _ rfl _ _ _ 44 rfl 3 4 (int_keyed Tryd.underlying3) Tryd.underlying44 (plainElem (H := Unit) Tryd.prog 4) mb n' D' rfl HM7.out HNL.out _ _ (.int .i64 (k : Int)) rfl rfl (keyOf_int_mk Tryd.underlying3 HKW.out) (.lit (.bool true)) [] (plainElem_bool Tryd.underlying4 true) ?_)
                intro w8 hown hgrow
                have HM8 := Lib.hid hown
                have hc8 := Has.map HC7.out hgrow (fun e => HNE.out.1 e.symm)
                have HV8 := Lib.hid (Has.map HV7.out hgrow HNE.out.2.1)
                have HO8 := Lib.hid (HO7.out.map hgrow (fun k hk => (HRM.out k hk).1))
                have HB8 := Lib.hid (HB7.out.grown hgrow HB7.out.size (fun k hk => by cases hk; exact HNE.out.2.2.2.1))
                have hcell : w8.cell? ⟨cb, c2, none⟩ = some (.int .i64 d) := by rw [hc8.cell, cells_get hlt]
                have hfz := hc8.frozen c2
                have HC8 := Lib.hid hc8
                clear hown hgrow hc8 HM7 HC7 HV7 HO7 HB7
                go_wp2_with fail
                go_roundw
                case rel => exact ⟨d + 1, k + 1, (k : Int), n' + 1, _, by omega, by omega, by go_num, rfl, by omega, by rw [HK1.out, HDA.out], by omega, HSE2.out, by rw [HSZ2.out]; omega, HM8.out.setCell (a := ⟨cb, c2, none⟩) HNE.out.1 _, by rw [← cells_set hlt]; exact HC8.out.set c2 _, HV8.out.setOther (a := ⟨cb, c2, none⟩) (fun e => HNE.out.2.2.1 e.symm) _, HO8.out.setCell (a := ⟨cb, c2, none⟩) (fun k hk => (HRM.out k hk).2) _, HB8.out.setCell (by exact HNE.out.2.2.2.2) _⟩
                case measure => simp [intOf]; omega
            · exfalso; omega
        · obtain rfl : c2 = 2 := by omega
          have hK : K = L := by rw [HPH.out.full, HLL.out]
          have hsz2 : Maps.size D = L := by rw [hsz, hK]
          have HSZ2 := Lib.hid hsz2
          have HCN := Lib.hid (show (cntL l : Int) = (cntK l true l.length : Nat) by rw [cntK_cnt])
          rw [cells_first] at hcs
          obtain ⟨T, hT⟩ : ∃ T : Nat, T = cntK l true l.length := ⟨_, rfl⟩
          rw [← hT] at HCN hcs
          have HCS := Lib.hid hcs
          obtain ⟨W7, hW7⟩ : ∃ W, W = wr := ⟨_, rfl⟩
          rw [← hW7] at HM HCS HO HB ⊢
          clear hph hsz hmp hvs ho hbr hK hsz2 hcs hT hW7
          go_wp2_with fail
          refine Reg.region_vals (by kernel_rfl) [(107, .map (some mb)), (108, .int .i64 (L : Int)), (109, .int .i64 (L : Int)), (110, .bool true), (111, .bool true), (112, .pointer (some ⟨cb, 0, none⟩)), (113, .int .i64 (T : Int)), (114, .pointer (some ⟨p, 0, none⟩)), (115, .int .i64 (T : Int)), (116, .bool true), (117, .bool true), (4, .bool true)] (fun l2 wy => Below W7.heap.size W7 wy) (by kernel_rfl) (by kernel_rfl) (by kernel_rfl) ((Below.refl _ _).drew) ⟨?_, ?_, ?_, ?_, ?_, ?_, ?_, ?_, ?_, ?_, ?_, ?_, trivial⟩ ?hend
          · -- 0: 107 := Op.move t10
            intro aq wq lq hI hl hdone hlater hold hd ho
            have h10 : aq.tmps.getD 10 undef = .map (some mb) := ho 10 (by kernel_rfl)
            clear hd ho hdone hlater hold
            exact Reg.step2_move (.tmp 10) rfl h10 hI trivial
          · -- 1: 108 := Op.call ( builtin len, args := #(t107), argTypes := #(44) )
            intro aq wq lq hI hl hdone hlater hold hd ho
            have h107 : aq.tmps.getD 107 undef = .map (some mb) := hd 107 (by kernel_rfl)
            clear hd ho hdone hlater hold
            rw [Array.getD_eq_getD_getElem?] at h107
            have hln := (owns_map_on HM.out hI).len Tryd.underlying44 3
            rw [HSZ2.out] at hln
            refine Reg.step2_val (.int .i64 (L : Int)) ?_ rfl hI trivial
            clear hI
            simp [execOp]
            go_simp
          · -- 2: 109 := Op.move t5
            intro aq wq lq hI hl hdone hlater hold hd ho
            have h5 : aq.tmps.getD 5 undef = .int .i64 (L : Int) := ho 5 (by kernel_rfl)
            clear hd ho hdone hlater hold
            exact Reg.step2_move (.tmp 5) rfl h5 hI trivial
          · -- 3: 110 := Op.binOp BinOp.eql 3 t108 t109 3
            intro aq wq lq hI hl hdone hlater hold hd ho
            have h108 : aq.tmps.getD 108 undef = .int .i64 (L : Int) := hd 108 (by kernel_rfl)
            have h109 : aq.tmps.getD 109 undef = .int .i64 (L : Int) := hd 109 (by kernel_rfl)
            clear hd ho hdone hlater hold
            rw [Array.getD_eq_getD_getElem?] at h108 h109
            refine Reg.step2_val (.bool true) ?_ rfl hI trivial
            simp [execOp, Act.eval, h108, h109]
            try go_simp
          · -- 4: 111 := Op.move t110
            intro aq wq lq hI hl hdone hlater hold hd ho
            have h110 : aq.tmps.getD 110 undef = .bool true := hd 110 (by kernel_rfl)
            clear hd ho hdone hlater hold
            exact Reg.step2_move (.tmp 110) rfl h110 hI trivial
          · -- 5: 112 := Op.indexAddr 45 t11 (const (0:i64))
            intro aq wq lq hI hl hdone hlater hold hd ho
            have h11 : aq.tmps.getD 11 undef = .pointer (some ⟨cb, 0, none⟩) := ho 11 (by kernel_rfl)
            clear hd ho hdone hlater hold
            rw [Array.getD_eq_getD_getElem?] at h11
            refine Reg.step2_val (.pointer (some ⟨cb, 0, none⟩)) ?_ rfl hI trivial
            go_simp
          · -- 6: 113 := Op.load 3 t112
            intro aq wq lq hI hl hdone hlater hold hd ho
            have h112 : aq.tmps.getD 112 undef = .pointer (some ⟨cb, 0, none⟩) := hd 112 (by kernel_rfl)
            clear hd ho hdone hlater hold
            rw [Array.getD_eq_getD_getElem?] at h112
            have e0 := (HCS.out.below hI HCS.out.lt).cell 0
            simp only [List.getElem?_cons_zero] at e0
            refine Reg.step2_val (.int .i64 (T : Int)) ?_ rfl hI trivial
            go_simp
          · -- 7: 114 := Op.move t6
            intro aq wq lq hI hl hdone hlater hold hd ho
            have h6 : aq.tmps.getD 6 undef = .pointer (some ⟨p, 0, none⟩) := ho 6 (by kernel_rfl)
            clear hd ho hdone hlater hold
            exact Reg.step2_move (.tmp 6) rfl h6 hI trivial
          · -- 8: 115 := Op.call ( value (Operand.func 17), args := #(t114), argTypes
            intro aq wq lq hI hl hdone hlater hold hd ho
            have h114 : aq.tmps.getD 114 undef = .pointer (some ⟨p, 0, none⟩) := hd 114 (by kernel_rfl)
            clear hd ho hdone hlater hold
            rw [Array.getD_eq_getD_getElem?] at h114
            refine Reg.step2_call 17 #[.pointer (some ⟨p, 0, none⟩)] ?_ ((count_any wq (HO.out.on hI).at_).mono ?_)
            · clear hI
              simp [execOp]
              go_simp
            · rintro e w' ⟨rfl, hb⟩
              exact ⟨_, rfl, by rw [HCN.out]; rfl, b_on hI hb, trivial⟩
          · -- 9: 116 := Op.binOp BinOp.eql 3 t113 t115 3
            intro aq wq lq hI hl hdone hlater hold hd ho
            have h113 : aq.tmps.getD 113 undef = .int .i64 (T : Int) := hd 113 (by kernel_rfl)
            have h115 : aq.tmps.getD 115 undef = .int .i64 (T : Int) := hd 115 (by kernel_rfl)
            clear hd ho hdone hlater hold
            rw [Array.getD_eq_getD_getElem?] at h113 h115
            refine Reg.step2_val (.bool true) ?_ rfl hI trivial
            simp [execOp, Act.eval, h113, h115]
            try go_simp
          · -- 10: 117 := Op.pick t111 t116 (const (Value.bool false))
            intro aq wq lq hI hl hdone hlater hold hd ho
            have h111 : aq.tmps.getD 111 undef = .bool true := hd 111 (by kernel_rfl)
            have h116 : aq.tmps.getD 116 undef = .bool true := hd 116 (by kernel_rfl)
            clear hd ho hdone hlater hold
            rw [Array.getD_eq_getD_getElem?] at h111 h116
            refine Reg.step2_val (.bool true) ?_ rfl hI trivial
            simp [execOp, Act.eval, h111, h116]
            try go_simp
          · -- 11: 4 := Op.assign t117
            intro aq wq lq hI hl hdone hlater hold hd ho
            have h117 : aq.tmps.getD 117 undef = .bool true := hd 117 (by kernel_rfl)
            clear hd ho hdone hlater hold
            exact Reg.step2_assign (.tmp 117) rfl h117 hI trivial
          case hend =>
            intro wy hI
            simp only [Reg.fill, List.foldl_cons, List.foldl_nil, List.setIfInBounds_toArray, List.set_cons_zero, List.set_cons_succ]
            have HB9 := Lib.hid (b_on HB.out hI)
            clear hI
            go_wp2_with fail
            go_ret
            exact ⟨rfl, HB9.out⟩

set_option maxRecDepth 100000 in
theorem contract (H : Type) (enc : TypeId × Value → H) (W : World) (base : Nat) (args : Array Value) (ds gs : List (DataW H)) (before : List MemPlace)
    (hval0 : ∀ (j : Nat) t v, Tryd.f5.params[j]? = some t → args[j]? = some v → Value.okWide Tryd.prog W .any base t v)
    (hW : DataW.Whole enc Tryd.prog Tryd.f5.params.toList Rows.bitsPartsSpec.vars false W args.toList ds gs before)
    (hlm : laidMet Tryd.prog Rows.bitsPartsRow.laid W) :
    Calls Tryd.prog 5 args W fun e W' => ∃ v, e = .returned v ∧ Rows.bitsPartsSpec.post enc Tryd.prog Tryd.f5 false true false false W args v W' := by
  have hval : ∀ (j : Nat) t v, Tryd.f5.params[j]? = some t → args[j]? = some v → Value.okWide Tryd.prog W .any base t v := hval0
  have hW' := hW
  obtain ⟨p, q, hA0, hV, rfl, hfz, hnd⟩ := hW
  have hA : DataW.TrodAll enc Tryd.prog W 0 (fun _ => true) true Tryd.f5.params.toList args.toList ds p := hA0
  rw [Tryd.params5] at hA hval
  obtain ⟨v0, vs0, d0, ds0, p0, q0, hargs, rfl, rfl, h0, r0⟩ := trodAll_cons hA
  obtain ⟨v1, vs1, d1, ds1, p1, q1, rfl, rfl, rfl, h1, r1⟩ := trodAll_cons r0
  obtain ⟨rfl, rfl, rfl⟩ := trodAll_nil r1
  obtain rfl : args = #[v0, v1] := by cases args; simp_all
  obtain ⟨rfl, rfl⟩ := trodVars_none hV
  have k0 := h0
  have lt0 : ∀ x ∈ p0, x.block < W.heap.size := by obtain ⟨m, hm⟩ := k0; exact DataW.trod_lt m _ _ _ hm
  obtain ⟨a0', l0', c0', rfl⟩ := okWide_slice Tryd.underlying43 (hval 0 43 v0 rfl rfl)
  obtain ⟨a0, a0l, a0c, a0z, he0, w0, w0l, w0m, w0w⟩ := open_ints_cell (c := .slice a0' l0' c0') Tryd.underlying43 Tryd.underlying5 (by kernel_rfl) (by obtain ⟨m, hm⟩ := h0; exact ⟨m, _, hm⟩)
  simp only [Value.slice.injEq] at he0
  obtain ⟨rfl, rfl, rfl⟩ := he0
  obtain ⟨a1, rfl, rfl, rfl, w1⟩ := open_int Tryd.underlying5 (hval 1 5 v1 rfl rfl) h1
  clear hA0 hval0
  refine (walk a0' l0' c0' a0z a1 W w0 w0l w0m w0w w1 (Bit.tz_of hlm)).mono fun e W' ⟨he, bel⟩ => ?_
  subst he
  exact ⟨_, rfl, _, _, _, [], _, [], hW', trodAll_mk1 (shut_bool Tryd.underlying4 _), (trodAll_cons_mk (Below.trod laidOut (by kernel_rfl) (of_decide_eq_true (by kernel_rfl)) k0 bel lt0) (trodAll_cons_mk (shut_int Tryd.underlying5 w1) trodAll_mk0)), rfl, bel.frame _, fun h => by cases h⟩

noncomputable def laidWorld (os : Os) : World :=
  { World.holding Tryd.prog os ⟨#[], #[], []⟩ with heap := (((World.holding Tryd.prog os ⟨#[], #[], []⟩).heap).modify 0 fun | .cells _ t frozen => .cells (#[.int .u8 0, .int .u8 1, .int .u8 56, .int .u8 2, .int .u8 57, .int .u8 49, .int .u8 28, .int .u8 3, .int .u8 61, .int .u8 58, .int .u8 42, .int .u8 50, .int .u8 38, .int .u8 29, .int .u8 17, .int .u8 4, .int .u8 62, .int .u8 47, .int .u8 59, .int .u8 36, .int .u8 45, .int .u8 43, .int .u8 51, .int .u8 22, .int .u8 53, .int .u8 39, .int .u8 33, .int .u8 30, .int .u8 24, .int .u8 18, .int .u8 12, .int .u8 5, .int .u8 63, .int .u8 55, .int .u8 48, .int .u8 27, .int .u8 60, .int .u8 41, .int .u8 37, .int .u8 16, .int .u8 46, .int .u8 35, .int .u8 44, .int .u8 21, .int .u8 52, .int .u8 32, .int .u8 23, .int .u8 11, .int .u8 54, .int .u8 26, .int .u8 40, .int .u8 15, .int .u8 34, .int .u8 20, .int .u8 31, .int .u8 10, .int .u8 25, .int .u8 14, .int .u8 19, .int .u8 9, .int .u8 13, .int .u8 8, .int .u8 7, .int .u8 6]) t frozen | o => o) }
theorem laid_met (os : Os) : laidMet Tryd.prog Rows.bitsPartsRow.laid ((laidWorld os).forCall (fun _ _ => 0) ⟨#[], #[.slice none 0 0, .int .u8 0], []⟩).memory :=
  laidMet_of_run' 8 (by kernel_rfl) (by kernel_rfl)
theorem reads (os : Os) {H : Type} (enc : TypeId × Value → H) : ∃ places, DataW.whole enc Tryd.prog ((laidWorld os).forCall (fun _ _ => 0) ⟨#[], #[.slice none 0 0, .int .u8 0], []⟩).memory Tryd.f5.params.toList Rows.bitsPartsSpec.vars false (#[.slice none 0 0, .int .u8 0] : Array Value).toList 8 = some ([.nil, .lit (.int .u8 0)], [], places) :=
  ⟨[], by kernel_rfl⟩

set_option maxRecDepth 100000 in
theorem lifted (os : Os) (started : os.Started) (H : Type) (enc : TypeId × Value → H) (F : Stop.Interp) :
    ReturnsInHanded {} Tryd.checked os 5 .any ((OpenSpec.ofChange Rows.bitsPartsSpec).preRow enc Tryd.prog Tryd.f5 Rows.bitsPartsRow.domain false Rows.bitsPartsRow.laid) (((OpenSpec.ofChange Rows.bitsPartsSpec).at F).post enc Tryd.prog Tryd.f5 false true false false) := by
  obtain ⟨places, hx⟩ := reads os enc
  refine returnsInHanded_of_row (C := Tryd.checked) (s := OpenSpec.ofChange Rows.bitsPartsSpec) own started (by kernel_rfl) Tryd.func5
    (witness_row_at (enc := enc) (C := Tryd.checked) false (laidWorld os) #[.slice none 0 0, .int .u8 0] rfl (by kernel_rfl) (by kernel_rfl) (by kernel_rfl)
      (OpenSpec.preRow_of_cond 8 hx (by kernel_rfl) (fun k hk => by cases hk) (by kernel_rfl) (laid_met os))) ?_
  intro W base args ds gs before hval hW _ _ _ hL _ _
  exact contract H enc W base args ds gs before hval hW hL

theorem said : Rows.BitsPartsSaid :=
  OpenClaim.holds_of_cond 5 Tryd.f5 rfl rfl rfl rfl rfl rfl rfl ⟨rfl, rfl, rfl, rfl, rfl⟩ rfl rfl rfl rfl rfl (by kernel_rfl) Tryd.func5 (by kernel_rfl)
    (of_decide_eq_true (by kernel_rfl)) (by unfold Func.isWrapper; first | (rw [if_pos (by decide +kernel)]; kernel_rfl) | (rw [if_neg (by decide +kernel)]; exact ⟨rfl, rfl⟩))
    (fun os started H enc _ F => by rw [OpenClaim.pre_eq_preRow]; exact lifted os started H enc F)

theorem plain (f : FuncId) (fn : Func) (hf : Tryd.pinned.checked.prog.funcNamed "treenail/treenaillaw09.BitsParts" = some f) (hfn : Tryd.pinned.checked.prog.funcs[f]? = some fn) :
    false = Tryd.pinned.checked.prog.looks [] ∧ ∀ (j : Nat) t, fn.params[j]? = some t → Tryd.pinned.checked.prog.wantsStandIn t = false := by
  obtain rfl : f = 5 := Option.some.inj ((show Tryd.prog.funcNamed "treenail/treenaillaw09.BitsParts" = some 5 by kernel_rfl).symm.trans hf) |>.symm
  obtain rfl : fn = Tryd.f5 := (Option.some.inj (Tryd.func5.symm.trans hfn)).symm
  refine ⟨by kernel_rfl, fun j t ht => ?_⟩
  rw [Tryd.params5] at ht
  rcases j with _ | _ | j
  · obtain rfl : t = 43 := by simpa using ht.symm
    exact (show Tryd.prog.wantsStandIn 43 = false by kernel_rfl)
  · obtain rfl : t = 5 := by simpa using ht.symm
    exact (show Tryd.prog.wantsStandIn 5 = false by kernel_rfl)
  · simp at ht

/-- THE STATEMENT -/
theorem proved : Rows.BitsPartsCardSaid :=
  Claim7.holds_tied_plain_at .later [] _ _ _ _ said (fun _ h => by cases h) (by kernel_rfl) (fun _ h => by cases h) bitsParts_row_tie rfl ⟨rfl, rfl⟩ (by kernel_rfl) rfl plain (by kernel_rfl)
#print axioms proved
end Go.Proofs.YtbpalojofojklaaDoor.bitsParts
