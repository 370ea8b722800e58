/-
  The law BitsTurn holds: a number that is put and put back leaves a set as it was; what is of a set is what isn't of the one in which all are turned. Conditions: none but the row's own.
-/
import Derived.Test.YtbpalojofojklaaDoorRows
import Derived.Test.YtbpalojofojklaaDoorBitM
import Derived.Test.YtbpalojofojklaaDoorCards
import Derived.Test.YtbpalojofojklaaDoorTie
import Derived.Test.YtbpalojofojklaaDoorArr
import Derived.WalkKit
import Derived.ProofKit
import Derived.OpenShut
import Derived.ShutString
import Derived.ChangeOld
import Derived.Below
import Derived.Carry
import Derived.Deep.DeepHandedRow

import Derived.Lib.LaidTab
namespace Go.Proofs.YtbpalojofojklaaDoor.bitsTurn
open Go.ChangeShapes Go.WideShapes Go.ChangeAt Go.RowKit
open Go.Proofs.YtbpalojofojklaaDoor
open Go.ChangeMaps (open_string shut_string)
set_option linter.unusedVariables false

theorem own : ownKnob Tryd.prog.godebug = none := by kernel_rfl
theorem laidOut : laidOutB Tryd.prog = true := by kernel_rfl


open Go.Proofs.YtbpalojofojklaaDoor.Bit
theorem run_minC (P : Program) (w : World) (t : TypeId) (ts : Array TypeId) (a c : Nat) : (Builtin.min_ ts t #[.int .i64 (a : Nat), .int .i64 (c : Nat)]).run P w = .ok (.int .i64 ((min a c : Nat) : Int)) w := by
  have e : ∀ a b : Nat, (if (b : Int) < a then (b : Int) else a) = ((min a b : Nat) : Int) := by intro a b; split <;> omega
  simp only [Builtin.min_, Builtin.min2, List.foldlM, Sem.run_bind, Sem.run_pure, Result.andThen]
  rw [e]

/-! ### STEP 1: THE WALK -/
set_option maxHeartbeats 8000000 in
set_option maxRecDepth 100000 in
theorem walk (a0 : Option Addr) (a0l a0c : Nat) (a0z : List Int) (a1 : Int) (a2 : Int) (w : World) (w0 : Row .u8 w a0 a0l a0z) (w0l : a0l ≤ a0c) (w0m : a0c ≤ maxLen) (w0w : ∀ n ∈ a0z, (Lit.int .u8 n).wf = true) (w1 : (Lit.int .u8 a1).wf = true) (w2 : (Lit.int .u8 a2).wf = true) (hT : Bit.Tz w) :
    Calls Tryd.prog 6 #[.slice a0 a0l a0c, .int .u8 a1, .int .u8 a2] w fun e w' => e = .returned (.bool true) ∧ Below w.heap.size w w' := by
  have HZT := Lib.hid hT
  clear hT
  have hr0 := w0
  have hlc0 := w0l
  have hcm0 := w0m
  have hwf0 := w0w
  have R0 := Lib.hid hr0
  have WF := Lib.hid hwf0
  have HLZ := Lib.hid hr0.len_eq
  have hb1 := bounds_u8 w1
  have hb2 := bounds_u8 w2
  obtain ⟨L, hL⟩ : ∃ L : Nat, (L : Int) = 1 + a1 := ⟨(1 + a1).toNat, by omega⟩
  have hLb : 1 ≤ L ∧ L ≤ 256 := by omega
  obtain ⟨hL1, hL2⟩ := hLb
  obtain ⟨q, hq⟩ : ∃ q : Nat, (q : Int) = a2 % (L : Int) := ⟨(a2 % (L : Int)).toNat, by have := Int.emod_nonneg a2 (show (L : Int) ≠ 0 by omega); omega⟩
  have hqL : q < L := by have := Int.emod_lt_of_pos a2 (show 0 < (L : Int) by omega); omega
  have hwa : IntKind.i64.wrap a1 = a1 := IntWalk.i64_in _ (by omega)
  have hwa2 : IntKind.i64.wrap a2 = a2 := IntWalk.i64_in _ (by omega)
  have hmodq : Int.tmod a2 (L : Int) = (q : Int) := by rw [Int.tmod_eq_emod_of_nonneg hb2.1, hq]
  have hmodq' : a2 % (L : Int) = (q : Int) := hq.symm
  have hL' := hL.symm
  have hLz' : ¬ L = 0 := by omega
  obtain ⟨ha0, ha1⟩ := hb1
  obtain ⟨hb0, hb1⟩ := hb2
  clear hr0 hwf0 w0 w0l w0m w0w w1 w2 hL hq
  unfold maxLen at hcm0
  have hmy : mayS (L : Int) = true := mayS_of (by omega) (by omega)
  have HMY := Lib.hid hmy
  clear hmy
  go_enter Tryd.func6, Tryd.ntmps6
  go_wp2_with fail
  refine (new_yes L _ HMY.out).mono ?_
  rintro e w3 ⟨p, R, rfl, hs, hR, hb⟩
  rw [Int.toNat_natCast] at hs
  have HO := Lib.hid (Own.of (w0 := w) hs hR (Nat.le_refl _))
  have HB := Lib.hid hb
  clear hs hR hb hL' hwa ha0 ha1
  go_wp2_with fail
  refine (new_yes L _ HMY.out).mono ?_
  rintro e w4 ⟨p2, T, rfl, hs, hR, hb⟩
  rw [Int.toNat_natCast] at hs
  have HO4 := Lib.hid (HO.out.on hb)
  have HT4 := Lib.hid (Own.of (w0 := w) hs hR HB.out.size)
  have HB4 := Lib.hid (b_on HB.out hb)
  have HD4 := Lib.hid (show ∀ k ∈ R, k ∉ T from fun k hk hk1 => by have := HO.out.at_.lt k hk; have := hR k hk1; omega)
  clear hs hR hb HO HB
  go_wp2_with fail
  refine (wakes_any _ (HZT.out.on HB4.out)).mono ?_
  rintro e w5 ⟨rfl, hb⟩
  have HO5 := Lib.hid (HO4.out.on hb)
  have HT5 := Lib.hid (HT4.out.on hb)
  have HB5 := Lib.hid (b_on HB4.out hb)
  have HL0 := Lib.hid (show (List.replicate L false).length = L by simp)
  clear hb HO4 HT4 HB4
  obtain ⟨mm, hm⟩ : ∃ mm, mm = min a0l 100 := ⟨_, rfl⟩
  have hmin : ∀ W ts, (Builtin.min_ ts 3 #[.int .i64 (a0l : Nat), .int .i64 100]).run Tryd.prog W = .ok (.int .i64 (mm : Int)) W := by
    intro W ts; rw [hm]; exact run_minC _ _ _ _ a0l 100
  have hml : mm ≤ a0l := by omega
  have hml' : mm ≤ a0c := by omega
  clear hm
  go_wp2_with fail
  clear hmin
  go_loopw [62] (fun i wr => ∃ (c : Nat) (l : List Bool) (R : List Nat), c ≤ mm ∧ i = .int .i64 c ∧ Own w p R l wr ∧ Own w p2 T (List.replicate L false) wr ∧ (∀ k ∈ R, k ∉ T) ∧ l.length = L ∧ Below w.heap.size w wr) (fun i _ => mm - (intOf i).toNat)
  case atStart => exact ⟨0, _, R, Nat.zero_le _, rfl, HO5.out, HT5.out, HD4.out, HL0.out, HB5.out⟩
  case round =>
    obtain ⟨c, l, R1, hc, rfl, ho, ht, hd, hll, hbr⟩ := hrel
    clear HO5 HT5 HB5 HL0 HD4
    have HO := Lib.hid ho
    have HT := Lib.hid ht
    have HD := Lib.hid hd
    have HLL := Lib.hid hll
    have HB := Lib.hid hbr
    by_cases hlt : c < mm
    · obtain ⟨zb, zo, rfl, hcell⟩ := (R0.out.below hbr (Nat.le_refl _)).at_ (by omega)
      have hz := hcell c (by omega)
      obtain ⟨y, hy⟩ : ∃ y, y = a0z.getD c 0 := ⟨_, rfl⟩
      have hyb : 0 ≤ y ∧ y ≤ 255 := by
        have := bounds_u8 (WF.out y (by rw [hy, List.getD_eq_getElem?_getD, List.getElem?_eq_getElem (by rw [HLZ.out]; omega)]; exact List.getElem_mem _))
        omega
      rw [← hy] at hz
      obtain ⟨x, hx⟩ : ∃ x, x = y % (L : Int) := ⟨_, rfl⟩
      have hwy : IntKind.i64.wrap y = y := IntWalk.i64_in _ (by omega)
      have hmod : Int.tmod y (L : Int) = x := by rw [Int.tmod_eq_emod_of_nonneg hyb.1, hx]
      have hmod' : y % (L : Int) = x := hx.symm
      obtain ⟨hy0, hy1⟩ := hyb
      clear hcell hy hx ho ht hd hll hbr
      go_wp2_with fail
      refine (put_any x true _ HO.out.at_).mono ?_
      rintro e w6 ⟨R2, rfl, hs2, hR2, hc2⟩
      have HO6 := Lib.hid (HO.out.put hs2 hR2 HB.out.size)
      have HT6 := Lib.hid (HT.out.chg hc2 (fun k hk hk1 => HD.out k hk1 hk))
      have HB6 := Lib.hid (b_chg HB.out hc2 HO.out.ge)
      have HD6 := Lib.hid (show ∀ k ∈ R2, k ∉ T from fun k hk hk1 => by
        rcases hR2 k hk with h | h
        · exact HD.out k h hk1
        · have := HT.out.at_.lt k hk1; omega)
      clear hs2 hR2 hc2
      go_wp2_with fail
      go_roundw
      case rel => exact ⟨c + 1, putL l x true, R2, by omega, by go_num, HO6.out, HT6.out, HD6.out, by rw [putL_length, HLL.out], HB6.out⟩
      case measure => simp [intOf]; omega
    · clear ho ht hd hll hbr
      go_wp2_with fail
      refine (list_any _ (HZT.out.on HB.out) HO.out.at_).mono ?_
      rintro e w6 ⟨lo, lc, rfl, hv, hn, hb⟩
      obtain ⟨N, hN⟩ : ∃ N, N = cntL l := ⟨_, rfl⟩
      rw [← hN] at hv ⊢
      have hNl : N ≤ 256 := by rw [hN]; have := cnt_le l; rw [HLL.out] at this; omega
      have HO6 := Lib.hid (HO.out.on hb)
      have HT6 := Lib.hid (HT.out.on hb)
      have HB6 := Lib.hid (b_on HB.out hb)
      have HV6 := Lib.hid hv
      have HA6 := Lib.hid (show 0 < N → Apart R1 lo from fun _ => apart_new HO.out.at_.lt hn)
      have HN := Lib.hid hN
      clear hv hn hb HO HT HB hN
      obtain ⟨B, hB⟩ : ∃ B, B = bg l q := ⟨_, rfl⟩
      have HBq := Lib.hid hB
      have hh1 := Lib.hid (show hasL l (q : Int) = B by rw [hB]; exact hasL_in (by rw [HLL.out]; exact hqL))
      clear hB
      go_wp2_with fail
      refine (has_any (q : Int) _ HO6.out.at_).mono ?_
      rintro e w7 ⟨rfl, hb⟩
      rw [hh1.out]
      have HO7 := Lib.hid (HO6.out.on hb)
      have HT7 := Lib.hid (HT6.out.on hb)
      have HB7 := Lib.hid (b_on HB6.out hb)
      have HV7 := Lib.hid (HV6.out.below hb)
      clear hb HO6 HT6 HB6 HV6
      go_wp2_with fail
      refine (put_any (q : Int) (!B) _ HO7.out.at_).mono ?_
      rintro e w8 ⟨R3, rfl, hs3, hR3, hc3⟩
      have HO8 := Lib.hid (HO7.out.put hs3 hR3 HB7.out.size)
      have HT8 := Lib.hid (HT7.out.chg hc3 (fun k hk hk1 => HD.out k hk1 hk))
      have HB8 := Lib.hid (b_chg HB7.out hc3 HO7.out.ge)
      have HV8 := Lib.hid (Bit.Vals.chg HV7.out hc3 HA6.out)
      have HA8 := Lib.hid (apart_put HV7.out HA6.out hR3)
      have HD8 := Lib.hid (show ∀ k ∈ R3, k ∉ T from fun k hk hk1 => by
        rcases hR3 k hk with h | h
        · exact HD.out k h hk1
        · have := HT7.out.at_.lt k hk1; omega)
      have hh2 := Lib.hid (show hasL (putL l (q : Int) (!B)) (q : Int) = !B from hasL_put l q (by rw [HLL.out]; exact hqL) _)
      clear hs3 hR3 hc3 HO7 HT7 HB7 HV7
      go_wp2_with fail
      refine (has_any (q : Int) _ HO8.out.at_).mono ?_
      rintro e w9 ⟨rfl, hb⟩
      rw [hh2.out]
      have HO9 := Lib.hid (HO8.out.on hb)
      have HT9 := Lib.hid (HT8.out.on hb)
      have HB9 := Lib.hid (b_on HB8.out hb)
      have HV9 := Lib.hid (HV8.out.below hb)
      clear hb HO8 HT8 HB8 HV8
      have hnb : ((!B) == B) = false := by cases B <;> rfl
      go_wp2_with fail
      refine (put_any (q : Int) B _ HO9.out.at_).mono ?_
      rintro e w10 ⟨R4, rfl, hs4, hR4, hc4⟩
      rw [hh2.out]
      rw [show putL (putL l (q : Int) (!B)) (q : Int) B = l by rw [HBq.out]; exact putL_back l q (by rw [HLL.out]; exact hqL) _] at hs4
      have HO10 := Lib.hid (HO9.out.put hs4 hR4 HB9.out.size)
      have HT10 := Lib.hid (HT9.out.chg hc4 (fun k hk hk1 => HD8.out k hk1 hk))
      have HB10 := Lib.hid (b_chg HB9.out hc4 HO9.out.ge)
      have HV10 := Lib.hid (Bit.Vals.chg HV9.out hc4 HA8.out)
      have HD10 := Lib.hid (show ∀ k ∈ R4, k ∉ T from fun k hk hk1 => by
        rcases hR4 k hk with h | h
        · exact HD8.out k h hk1
        · have := HT9.out.at_.lt k hk1; omega)
      clear hs4 hR4 hc4 HO9 HT9 HB9 HV9 HA8 HD8 HA6 HD
      go_wp2_with fail
      refine (list_any _ (HZT.out.on HB10.out) HO10.out.at_).mono ?_
      rintro e w11 ⟨lo2, lc2, rfl, hv, _, hb⟩
      rw [← HN.out] at hv ⊢
      have HO11 := Lib.hid (HO10.out.on hb)
      have HT11 := Lib.hid (HT10.out.on hb)
      have HB11 := Lib.hid (b_on HB10.out hb)
      have HV11 := Lib.hid (HV10.out.below hb)
      have HW11 := Lib.hid hv
      clear hv hb HO10 HT10 HB10 HV10
      go_wp2_with fail
      go_loopw [109] (fun i wr => ∃ c : Nat, c ≤ N ∧ i = .int .i64 c ∧ Below w11.heap.size w11 wr) (fun i _ => N - (intOf i).toNat)
      case atStart => exact ⟨0, Nat.zero_le _, rfl, Below.refl _ _⟩
      case round =>
        obtain ⟨c2, hc2, rfl, hbr⟩ := hrel
        have HBR := Lib.hid hbr
        by_cases hlt2 : c2 < N
        · obtain ⟨b3, o3, rfl, hx3⟩ := (HV11.out.below hbr).int (by omega)
          obtain ⟨b4, o4, rfl, hx4⟩ := (HW11.out.below hbr).int (by omega)
          have hy3 := hx3 c2 hlt2
          have hy4 := hx4 c2 hlt2
          obtain ⟨y, hy⟩ : ∃ y, y = ig (lstL l.length l) c2 := ⟨_, rfl⟩
          rw [← hy] at hy3 hy4
          clear hx3 hx4 hy hbr
          go_wp2_with fail
          go_quiet (fail)
          go_wp2_with fail
          go_roundw
          case rel => exact ⟨c2 + 1, by omega, by go_num, below_drewN HBR.out _⟩
          case measure => simp [intOf]; omega
        · have HO12 := Lib.hid (HO11.out.on hbr)
          have HT12 := Lib.hid (HT11.out.on hbr)
          have HB12 := Lib.hid (b_on HB11.out hbr)
          have HTN := Lib.hid (show List.replicate L false = tn l 0 by rw [tn_start, HLL.out])
          clear hbr HBR
          go_wp2_with fail
          go_loopw [123] (fun i wr => ∃ (c : Nat) (T2 : List Nat), c ≤ L ∧ i = .int .i64 c ∧ Own w p R4 l wr ∧ Own w p2 T2 (tn l c) wr ∧ (∀ k ∈ R4, k ∉ T2) ∧ Below w.heap.size w wr) (fun i _ => L - (intOf i).toNat)
          case atStart => exact ⟨0, T, Nat.zero_le _, rfl, HO12.out, by rw [← HTN.out]; exact HT12.out, HD10.out, HB12.out⟩
          case round =>
            obtain ⟨c3, T2, hc3, rfl, ho, ht, hd, hbr⟩ := hrel
            have HO := Lib.hid ho
            have HT := Lib.hid ht
            have HD := Lib.hid hd
            have HB := Lib.hid hbr
            by_cases hlt3 : c3 < L
            · have hh := Lib.hid (show hasL l (c3 : Int) = bg l c3 from hasL_in (by rw [HLL.out]; exact hlt3))
              obtain ⟨H, hH⟩ : ∃ H, H = bg l c3 := ⟨_, rfl⟩
              rw [← hH] at hh
              have HH := Lib.hid hH
              clear ho ht hd hbr hH
              go_wp2_with fail
              refine (has_any (c3 : Int) _ HO.out.at_).mono ?_
              rintro e w13 ⟨rfl, hb⟩
              rw [hh.out]
              have HO13 := Lib.hid (HO.out.on hb)
              have HT13 := Lib.hid (HT.out.on hb)
              have HB13 := Lib.hid (b_on HB.out hb)
              clear hb HO HT HB
              go_wp2_with fail
              refine (put_any (c3 : Int) (!H) _ HT13.out.at_).mono ?_
              rintro e w14 ⟨T3, rfl, hs3, hR3, hc4⟩
              rw [show putL (tn l c3) (c3 : Int) (!H) = tn l (c3 + 1) by rw [HH.out]; exact tn_put l c3 (by rw [HLL.out]; exact hlt3)] at hs3
              have HT14 := Lib.hid (HT13.out.put hs3 hR3 HB13.out.size)
              have HO14 := Lib.hid (HO13.out.chg hc4 HD.out)
              have HB14 := Lib.hid (b_chg HB13.out hc4 HT13.out.ge)
              have HD14 := Lib.hid (show ∀ k ∈ R4, k ∉ T3 from fun k hk hk1 => by
                rcases hR3 k hk1 with h | h
                · exact HD.out k hk h
                · have := HO13.out.at_.lt k hk; omega)
              clear hs3 hR3 hc4
              go_wp2_with fail
              go_roundw
              case rel => exact ⟨c3 + 1, T3, by omega, by go_num, HO14.out, HT14.out, HD14.out, HB14.out⟩
              case measure => simp [intOf]; omega
            · obtain rfl : c3 = L := by omega
              rw [← HLL.out] at ht
              have HTT := Lib.hid ht
              clear ho ht hd hbr HT
              obtain ⟨W15, hW15⟩ : ∃ W, W = wr := ⟨_, rfl⟩
              rw [← hW15] at HO HTT HB ⊢
              clear hW15
              go_wp2_with fail
              go_loopw [135] (fun i wr => ∃ c : Nat, c ≤ c3 ∧ i = .int .i64 c ∧ Below W15.heap.size W15 wr) (fun i _ => c3 - (intOf i).toNat)
              case atStart => exact ⟨0, Nat.zero_le _, rfl, Below.refl _ _⟩
              case round =>
                obtain ⟨c4, hc4, rfl, hbr⟩ := hrel
                have HO16 := Lib.hid (HO.out.on hbr)
                have HT16 := Lib.hid (HTT.out.on hbr)
                have HBR := Lib.hid hbr
                clear hbr
                by_cases hlt4 : c4 < c3
                · obtain ⟨y1, y2⟩ := tn_nexts l (c4 : Int)
                  have HY1 := Lib.hid y1
                  have HY2 := Lib.hid y2
                  clear y1 y2
                  go_wp2_with fail
                  refine (next_any (c4 : Int) true _ (HZT.out.on (b_on HB.out HBR.out)) HO16.out.at_).mono ?_
                  rintro e w17 ⟨rfl, hb⟩
                  have HT17 := Lib.hid (HT16.out.on hb)
                  have HB17 := Lib.hid (b_on HBR.out hb)
                  clear hb
                  go_wp2_with fail
                  refine (next_any (c4 : Int) false _ (HZT.out.on (b_on HB.out HB17.out)) HT17.out.at_).mono ?_
                  rintro e w18 ⟨rfl, hb⟩
                  rw [HY1.out, HY2.out]
                  have HB18 := Lib.hid (b_on HB17.out hb)
                  clear hb
                  go_wp2_with fail
                  go_roundw
                  case rel => exact ⟨c4 + 1, by omega, by go_num, HB18.out⟩
                  case measure => simp [intOf]; omega
                · have hcn := tn_cnt l
                  rw [HLL.out] at hcn
                  obtain ⟨x1, hx1⟩ : ∃ x, x = cntL l := ⟨_, rfl⟩
                  obtain ⟨x2, hx2⟩ : ∃ x, x = cntL (tn l l.length) := ⟨_, rfl⟩
                  have hcn2 : (x1 : Int) + (x2 : Int) = (c3 : Int) := by rw [hx1, hx2, HLL.out]; omega
                  have HX1 := Lib.hid hx1
                  have HX2 := Lib.hid hx2
                  have hxb : x1 ≤ 256 ∧ x2 ≤ 256 := by omega
                  clear hcn hx1 hx2
                  go_wp2_with fail
                  refine (count_any _ HO16.out.at_).mono ?_
                  rintro e w17 ⟨rfl, hb⟩
                  rw [← HX1.out]
                  have HT17 := Lib.hid (HT16.out.on hb)
                  have HB17 := Lib.hid (b_on HBR.out hb)
                  clear hb
                  go_wp2_with fail
                  refine (count_any _ HT17.out.at_).mono ?_
                  rintro e w18 ⟨rfl, hb⟩
                  rw [← HX2.out]
                  have HB18 := Lib.hid (b_on HB.out (b_on HB17.out hb))
                  clear hb
                  go_wp2_with fail
                  go_ret
                  exact ⟨rfl, HB18.out⟩

set_option maxRecDepth 100000 in
theorem contract (H : Type) (enc : TypeId × Value → H) (W : World) (base : Nat) (args : Array Value) (ds gs : List (DataW H)) (before : List MemPlace)
    (hval0 : ∀ (j : Nat) t v, Tryd.f6.params[j]? = some t → args[j]? = some v → Value.okWide Tryd.prog W .any base t v)
    (hW : DataW.Whole enc Tryd.prog Tryd.f6.params.toList Rows.bitsTurnSpec.vars false W args.toList ds gs before)
    (hlm : laidMet Tryd.prog Rows.bitsTurnRow.laid W) :
    Calls Tryd.prog 6 args W fun e W' => ∃ v, e = .returned v ∧ Rows.bitsTurnSpec.post enc Tryd.prog Tryd.f6 false true false false W args v W' := by
  have hval : ∀ (j : Nat) t v, Tryd.f6.params[j]? = some t → args[j]? = some v → Value.okWide Tryd.prog W .any base t v := hval0
  have hW' := hW
  obtain ⟨p, q, hA0, hV, rfl, hfz, hnd⟩ := hW
  have hA : DataW.TrodAll enc Tryd.prog W 0 (fun _ => true) true Tryd.f6.params.toList args.toList ds p := hA0
  rw [Tryd.params6] at hA hval
  obtain ⟨v0, vs0, d0, ds0, p0, q0, hargs, rfl, rfl, h0, r0⟩ := trodAll_cons hA
  obtain ⟨v1, vs1, d1, ds1, p1, q1, rfl, rfl, rfl, h1, r1⟩ := trodAll_cons r0
  obtain ⟨v2, vs2, d2, ds2, p2, q2, rfl, rfl, rfl, h2, r2⟩ := trodAll_cons r1
  obtain ⟨rfl, rfl, rfl⟩ := trodAll_nil r2
  obtain rfl : args = #[v0, v1, v2] := by cases args; simp_all
  obtain ⟨rfl, rfl⟩ := trodVars_none hV
  have k0 := h0
  have lt0 : ∀ x ∈ p0, x.block < W.heap.size := by obtain ⟨m, hm⟩ := k0; exact DataW.trod_lt m _ _ _ hm
  obtain ⟨a0', l0', c0', rfl⟩ := okWide_slice Tryd.underlying43 (hval 0 43 v0 rfl rfl)
  obtain ⟨a0, a0l, a0c, a0z, he0, w0, w0l, w0m, w0w⟩ := open_ints_cell (c := .slice a0' l0' c0') Tryd.underlying43 Tryd.underlying5 (by kernel_rfl) (by obtain ⟨m, hm⟩ := h0; exact ⟨m, _, hm⟩)
  simp only [Value.slice.injEq] at he0
  obtain ⟨rfl, rfl, rfl⟩ := he0
  obtain ⟨a1, rfl, rfl, rfl, w1⟩ := open_int Tryd.underlying5 (hval 1 5 v1 rfl rfl) h1
  obtain ⟨a2, rfl, rfl, rfl, w2⟩ := open_int Tryd.underlying5 (hval 2 5 v2 rfl rfl) h2
  clear hA0 hval0
  refine (walk a0' l0' c0' a0z a1 a2 W w0 w0l w0m w0w w1 w2 (Bit.tz_of hlm)).mono fun e W' ⟨he, bel⟩ => ?_
  subst he
  exact ⟨_, rfl, _, _, _, [], _, [], hW', trodAll_mk1 (shut_bool Tryd.underlying4 _), (trodAll_cons_mk (Below.trod laidOut (by kernel_rfl) (of_decide_eq_true (by kernel_rfl)) k0 bel lt0) (trodAll_cons_mk (shut_int Tryd.underlying5 w1) (trodAll_cons_mk (shut_int Tryd.underlying5 w2) trodAll_mk0))), rfl, bel.frame _, fun h => by cases h⟩

noncomputable def laidWorld (os : Os) : World :=
  { World.holding Tryd.prog os ⟨#[], #[], []⟩ with heap := (((World.holding Tryd.prog os ⟨#[], #[], []⟩).heap).modify 0 fun | .cells _ t frozen => .cells (#[.int .u8 0, .int .u8 1, .int .u8 56, .int .u8 2, .int .u8 57, .int .u8 49, .int .u8 28, .int .u8 3, .int .u8 61, .int .u8 58, .int .u8 42, .int .u8 50, .int .u8 38, .int .u8 29, .int .u8 17, .int .u8 4, .int .u8 62, .int .u8 47, .int .u8 59, .int .u8 36, .int .u8 45, .int .u8 43, .int .u8 51, .int .u8 22, .int .u8 53, .int .u8 39, .int .u8 33, .int .u8 30, .int .u8 24, .int .u8 18, .int .u8 12, .int .u8 5, .int .u8 63, .int .u8 55, .int .u8 48, .int .u8 27, .int .u8 60, .int .u8 41, .int .u8 37, .int .u8 16, .int .u8 46, .int .u8 35, .int .u8 44, .int .u8 21, .int .u8 52, .int .u8 32, .int .u8 23, .int .u8 11, .int .u8 54, .int .u8 26, .int .u8 40, .int .u8 15, .int .u8 34, .int .u8 20, .int .u8 31, .int .u8 10, .int .u8 25, .int .u8 14, .int .u8 19, .int .u8 9, .int .u8 13, .int .u8 8, .int .u8 7, .int .u8 6]) t frozen | o => o) }
theorem laid_met (os : Os) : laidMet Tryd.prog Rows.bitsTurnRow.laid ((laidWorld os).forCall (fun _ _ => 0) ⟨#[], #[.slice none 0 0, .int .u8 0, .int .u8 0], []⟩).memory :=
  laidMet_of_run' 8 (by kernel_rfl) (by kernel_rfl)
theorem reads (os : Os) {H : Type} (enc : TypeId × Value → H) : ∃ places, DataW.whole enc Tryd.prog ((laidWorld os).forCall (fun _ _ => 0) ⟨#[], #[.slice none 0 0, .int .u8 0, .int .u8 0], []⟩).memory Tryd.f6.params.toList Rows.bitsTurnSpec.vars false (#[.slice none 0 0, .int .u8 0, .int .u8 0] : Array Value).toList 8 = some ([.nil, .lit (.int .u8 0), .lit (.int .u8 0)], [], places) :=
  ⟨[], by kernel_rfl⟩

set_option maxRecDepth 100000 in
theorem lifted (os : Os) (started : os.Started) (H : Type) (enc : TypeId × Value → H) (F : Stop.Interp) :
    ReturnsInHanded {} Tryd.checked os 6 .any ((OpenSpec.ofChange Rows.bitsTurnSpec).preRow enc Tryd.prog Tryd.f6 Rows.bitsTurnRow.domain false Rows.bitsTurnRow.laid) (((OpenSpec.ofChange Rows.bitsTurnSpec).at F).post enc Tryd.prog Tryd.f6 false true false false) := by
  obtain ⟨places, hx⟩ := reads os enc
  refine returnsInHanded_of_row (C := Tryd.checked) (s := OpenSpec.ofChange Rows.bitsTurnSpec) own started (by kernel_rfl) Tryd.func6
    (witness_row_at (enc := enc) (C := Tryd.checked) false (laidWorld os) #[.slice none 0 0, .int .u8 0, .int .u8 0] rfl (by kernel_rfl) (by kernel_rfl) (by kernel_rfl)
      (OpenSpec.preRow_of_cond 8 hx (by kernel_rfl) (fun k hk => by cases hk) (by kernel_rfl) (laid_met os))) ?_
  intro W base args ds gs before hval hW _ _ _ hL _ _
  exact contract H enc W base args ds gs before hval hW hL

theorem said : Rows.BitsTurnSaid :=
  OpenClaim.holds_of_cond 6 Tryd.f6 rfl rfl rfl rfl rfl rfl rfl ⟨rfl, rfl, rfl, rfl, rfl⟩ rfl rfl rfl rfl rfl (by kernel_rfl) Tryd.func6 (by kernel_rfl)
    (of_decide_eq_true (by kernel_rfl)) (by unfold Func.isWrapper; first | (rw [if_pos (by decide +kernel)]; kernel_rfl) | (rw [if_neg (by decide +kernel)]; exact ⟨rfl, rfl⟩))
    (fun os started H enc _ F => by rw [OpenClaim.pre_eq_preRow]; exact lifted os started H enc F)

theorem plain (f : FuncId) (fn : Func) (hf : Tryd.pinned.checked.prog.funcNamed "treenail/treenaillaw09.BitsTurn" = some f) (hfn : Tryd.pinned.checked.prog.funcs[f]? = some fn) :
    false = Tryd.pinned.checked.prog.looks [] ∧ ∀ (j : Nat) t, fn.params[j]? = some t → Tryd.pinned.checked.prog.wantsStandIn t = false := by
  obtain rfl : f = 6 := Option.some.inj ((show Tryd.prog.funcNamed "treenail/treenaillaw09.BitsTurn" = some 6 by kernel_rfl).symm.trans hf) |>.symm
  obtain rfl : fn = Tryd.f6 := (Option.some.inj (Tryd.func6.symm.trans hfn)).symm
  refine ⟨by kernel_rfl, fun j t ht => ?_⟩
  rw [Tryd.params6] at ht
  rcases j with _ | _ | _ | j
  · obtain rfl : t = 43 := by simpa using ht.symm
    exact (show Tryd.prog.wantsStandIn 43 = false by kernel_rfl)
  · obtain rfl : t = 5 := by simpa using ht.symm
    exact (show Tryd.prog.wantsStandIn 5 = false by kernel_rfl)
  · obtain rfl : t = 5 := by simpa using ht.symm
    exact (show Tryd.prog.wantsStandIn 5 = false by kernel_rfl)
  · simp at ht

/-- THE STATEMENT -/
theorem proved : Rows.BitsTurnCardSaid :=
  Claim7.holds_tied_plain_at .later [] _ _ _ _ said (fun _ h => by cases h) (by kernel_rfl) (fun _ h => by cases h) bitsTurn_row_tie rfl ⟨rfl, rfl⟩ (by kernel_rfl) rfl plain (by kernel_rfl)
#print axioms proved
end Go.Proofs.YtbpalojofojklaaDoor.bitsTurn
