/-
  The law SpacePlays holds: whatever is taken, given, used, settled and undone, the answers, which blocks are used, and the generations, are the document's. Conditions: none but the row's own.
-/
import Derived.Test.YtkflccecdjfkiaaDoorRows
import Derived.Test.YtkflccecdjfkiaaDoorSpW
import Derived.Test.YtkflccecdjfkiaaDoorSpArms
import Derived.Test.YtkflccecdjfkiaaDoorRegionV
import Derived.Deep.CutBlock
import Derived.Test.YtkflccecdjfkiaaDoorStructs
import Derived.Test.YtkflccecdjfkiaaDoorCards
import Derived.Test.YtkflccecdjfkiaaDoorTie
import Derived.Test.YtkflccecdjfkiaaDoorStructs
import Derived.WalkKit
import Derived.ProofKit
import Derived.OpenShut
import Derived.ShutString
import Derived.ChangeOld
import Derived.Below
import Derived.Carry
import Derived.Deep.DeepHandedRow

import Derived.Lib.LaidTab
namespace Go.Proofs.YtkflccecdjfkiaaDoor.spacePlays
open Go.ChangeShapes Go.WideShapes Go.ChangeAt Go.RowKit
open Go.Proofs.YtkflccecdjfkiaaDoor
open Go.ChangeMaps (open_string shut_string)
set_option linter.unusedVariables false

theorem own : ownKnob Tryd.prog.godebug = none := by kernel_rfl
theorem laidOut : laidOutB Tryd.prog = true := by kernel_rfl

theorem len2 {α : Type} : ∀ l : List α, l.length = 2 → ∃ z0 z1, l = [z0, z1]
  | [z0, z1], _ => ⟨z0, z1, rfl⟩
/-- the elements of argument 2 -/
def AR2 (w : World) (a : Option Addr) (len : Nat) : Prop := 0 < len → ∃ b off, a = some ⟨b, off, none⟩ ∧ ∀ i, i < len → ∃ (x0 : Int) (x1 : Int), w.cell? ⟨b, off + (i * 2 + 0), none⟩ = some (.int .i64 x0) ∧ (Lit.int .i64 x0).wf = true ∧ w.cell? ⟨b, off + (i * 2 + 1), none⟩ = some (.int .i64 x1) ∧ (Lit.int .i64 x1).wf = true
theorem open_AR2 {H : Type} {enc : TypeId × Value → H} {w : World} {held : Bool} {c : Value} (h : ∃ m y, DataW.trod enc Tryd.prog w 0 (fun _ => true) held m 25 [c] = some y) :
    ∃ a len cap, c = .slice a len cap ∧ AR2 w a len ∧ len ≤ cap ∧ cap ≤ maxLen := by
  obtain ⟨a, len, cap, hc, hl, hm, hx⟩ := open_structs Tryd.underlying25 Tryd.underlying35 (by kernel_rfl) (by kernel_rfl) (by decide) h
  refine ⟨a, len, cap, hc, fun hpos => ?_, hl, hm⟩
  obtain ⟨b, off, ha, hf⟩ := hx hpos
  refine ⟨b, off, ha, fun i hi => ?_⟩
  obtain ⟨v0, hc0, ht0⟩ := hf i hi 0 _ rfl
  obtain ⟨x0, rfl, hw0⟩ := open_int_cell Tryd.underlying3 ht0
  obtain ⟨v1, hc1, ht1⟩ := hf i hi 1 _ rfl
  obtain ⟨x1, rfl, hw1⟩ := open_int_cell Tryd.underlying3 ht1
  exact ⟨x0, x1, hc0, hw0, hc1, hw1⟩

open Go.Proofs.YtkflccecdjfkiaaDoor.Spc
open Go.Proofs.YtkflccecdjfkiaaDoor.Bit
theorem run_minC (P : Program) (w : World) (t : TypeId) (ts : Array TypeId) (a c : Nat) : (Builtin.min_ ts t #[.int .i64 (a : Nat), .int .i64 (c : Nat)]).run P w = .ok (.int .i64 ((min a c : Nat) : Int)) w := by
  have e : ∀ a b : Nat, (if (b : Int) < a then (b : Int) else a) = ((min a b : Nat) : Int) := by intro a b; split <;> omega
  simp only [Builtin.min_, Builtin.min2, List.foldlM, Sem.run_bind, Sem.run_pure, Result.andThen]
  rw [e]

/-! ### STEP 1: THE WALK -/
set_option maxHeartbeats 8000000 in
set_option maxRecDepth 100000 in
theorem walk (a0x0 a0x1 : Int) (a1x0 a1x1 : Int) (a2 : Option Addr) (a2l a2c : Nat) (w : World) (w0x0 : (Lit.int .i64 a0x0).wf = true) (w0x1 : (Lit.int .i64 a0x1).wf = true) (w1x0 : (Lit.int .u64 a1x0).wf = true) (w1x1 : (Lit.int .u64 a1x1).wf = true) (w2 : AR2 w a2 a2l) (w2l : a2l ≤ a2c) (w2m : a2c ≤ maxLen) (hT : Bit.Tz w) :
    Calls Tryd.prog 3 #[.agg #[.int .i64 a0x0, .int .i64 a0x1], .agg #[.int .u64 a1x0, .int .u64 a1x1], .slice a2 a2l a2c] w fun e w' => e = .returned (.bool true) ∧ Below w.heap.size w w' := by
  have HTZ := Lib.hid hT
  clear hT
  have W2 := Lib.hid w2
  have HG := Lib.hid (And.intro (bounds_u64 w1x0) (bounds_u64 w1x1))
  have hga := (bounds_u64 w1x0).1
  have HI0 := Lib.hid (bounds_i64 w0x0)
  have HI1 := Lib.hid (bounds_i64 w0x1)
  clear w2 w0x0 w0x1 w1x0 w1x1
  unfold maxLen at w2m
  obtain ⟨x0, hx0⟩ : ∃ b, b = w.heap.size := ⟨_, rfl⟩
  obtain ⟨x1, hx1⟩ : ∃ b, b = w.heap.size + 1 := ⟨_, rfl⟩
  obtain ⟨W1, hW1⟩ : ∃ W, W = (w.alloc (.cells #[.int .i64 a0x0, .int .i64 a0x1] 22)).alloc (.cells #[.int .u64 a1x0, .int .u64 a1x1] 24) := ⟨_, rfl⟩
  have HA0 := Lib.hid (show Has W1 x0 22 [.int .i64 a0x0, .int .i64 a0x1] by rw [hW1, hx0]; exact (Has.new w _ _).alloc _)
  have HA1 := Lib.hid (show Has W1 x1 24 [.int .u64 a1x0, .int .u64 a1x1] by
    have := Has.new (w.alloc (.cells #[.int .i64 a0x0, .int .i64 a0x1] 22)) [.int .u64 a1x0, .int .u64 a1x1] 24
    rw [World.size_alloc] at this
    rw [hW1, hx1]; exact this)
  have HB1 := Lib.hid (show Below w.heap.size w W1 by rw [hW1]; exact b_nw (b_new w _) _)
  go_enter Tryd.func3, Tryd.ntmps3
  go_upto_region 1 with fail
  rw [← hW1, ← hx1, ← hx0]
  clear hW1 hx1 hx0
  have c0 : W1.cell? ⟨x0, 0, none⟩ = some (.int .i64 a0x0) := HA0.out.cell 0
  have c1 : W1.cell? ⟨x0, 1, none⟩ = some (.int .i64 a0x1) := HA0.out.cell 1
  have c2 : W1.cell? ⟨x1, 0, none⟩ = some (.int .u64 a1x0) := HA1.out.cell 0
  have c3 : W1.cell? ⟨x1, 1, none⟩ = some (.int .u64 a1x1) := HA1.out.cell 1
  go_cut [7, 8] from 238 (fun s e wx => Below W1.heap.size W1 wx ∧ ((mayP a0x0 a0x1 a1x0 a1x1 = true ∧ (∃ p, s = .pointer (some ⟨p, 0, none⟩)) ∧ e = .int .i64 0) ∨ (mayP a0x0 a0x1 a1x0 a1x1 = false ∧ s = .pointer none ∧ e = .int .i64 2)))
  case first =>
    cases hm : mayP a0x0 a0x1 a1x0 a1x1 with
    | true =>
      have hbd := mayP_bd hm
      obtain ⟨n, rfl⟩ : ∃ n : Nat, a0x0 = n := ⟨a0x0.toNat, by omega⟩
      obtain ⟨f, rfl⟩ : ∃ n : Nat, a0x1 = n := ⟨a0x1.toNat, by omega⟩
      have HM := Lib.hid hm
      clear hm hbd
      go_wp2_with fail
      refine (new_yes n f a1x0 a1x1 _ HM.out HG.out.1.1 (by have := HG.out.2.2; omega)).mono ?_
      rintro e w3 ⟨p, R, rfl, _, _, hb⟩
      go_wp2_with fail
      go_meet
      exact ⟨hb, .inl ⟨HM.out, ⟨p, rfl⟩, rfl⟩⟩
    | false =>
      have HM := Lib.hid hm
      clear hm
      go_wp2_with fail
      refine (new_no a0x0 a0x1 a1x0 a1x1 _ HM.out).mono ?_
      rintro e w3 ⟨rfl, hb⟩
      go_wp2_with fail
      go_meet
      exact ⟨hb, .inr ⟨HM.out, rfl, rfl⟩⟩
  case rest =>
    rename_i wx
    obtain ⟨hb1, hcs⟩ := hcut
    have HA0' := Lib.hid (HA0.out.below hb1 HA0.out.lt)
    have HA1' := Lib.hid (HA1.out.below hb1 HA1.out.lt)
    have HB1' := Lib.hid (b_on HB1.out hb1)
    clear c0 c1 c2 c3 HA0 HA1 HB1
    have c0 := HA0'.out.cell 0
    have c1 := HA0'.out.cell 1
    have c2 := HA1'.out.cell 0
    have c3 := HA1'.out.cell 1
    simp only [List.getElem?_cons_zero, List.getElem?_cons_succ] at c0 c1 c2 c3
    go_upto_region 2 with fail
    go_cut [7, 8, 64] from 238 (fun _ _ c wy => c = .bool false ∧ Below w.heap.size w wy ∧ Has wy x0 22 [.int .i64 a0x0, .int .i64 a0x1] ∧ Has wy x1 24 [.int .u64 a1x0, .int .u64 a1x1])
    case first =>
      rcases hcs with ⟨hm, ⟨p, rfl⟩, rfl⟩ | ⟨hm, rfl, rfl⟩
      all_goals
        have HM := Lib.hid hm
        clear hm hb1
        go_wp2_with fail
        refine (refmay_any a0x0 a0x1 a1x0 a1x1 _).mono ?_
        rintro e w4 ⟨rfl, rfl⟩
        rw [HM.out]
        go_wp2_with fail
        go_meet
        exact ⟨rfl, HB1'.out, HA0'.out, HA1'.out⟩
    case rest =>
      obtain ⟨rfl, hcb, ha0, ha1⟩ := hcut
      have HA2 := Lib.hid ha0
      have HA3 := Lib.hid ha1
      have HB2 := Lib.hid hcb
      have c0 := ha0.cell 0
      have c1 := ha0.cell 1
      have c2 := ha1.cell 0
      simp only [List.getElem?_cons_zero, List.getElem?_cons_succ] at c0 c1 c2
      clear hcs hb1 HA0' HA1' HB1' hcb ha0 ha1
      go_upto_region 4 with fail
      go_cut [9] from 238 (fun x wz => ∃ n : Nat, x = .int .i64 (n : Int) ∧ 1 ≤ n ∧ n ≤ 12 ∧ Below w.heap.size w wz ∧ Has wz x0 22 [.int .i64 a0x0, .int .i64 a0x1] ∧ Has wz x1 24 [.int .u64 a1x0, .int .u64 a1x1])
      case first =>
        go_wp2_with fail
        all_goals
          go_meet
          first
          | exact ⟨(1 + a0x0 % 12).toNat, by simp; omega, by omega, by omega, HB2.out, HA2.out, HA3.out⟩
          | exact ⟨1, rfl, by omega, by omega, HB2.out, HA2.out, HA3.out⟩
      case rest =>
        obtain ⟨n, rfl, hn1, hn12, hcb, ha0, ha1⟩ := hcut
        clear HA2 HA3 HB2 c0 c1 c2
        have HA2 := Lib.hid ha0
        have HA3 := Lib.hid ha1
        have HB2 := Lib.hid hcb
        have c1 := ha0.cell 1
        have c2 := ha1.cell 0
        simp only [List.getElem?_cons_zero, List.getElem?_cons_succ] at c1 c2
        have hnz : ¬ (n : Int) = 0 := by omega
        have hn0 : ¬ n = 0 := by omega
        clear hcb ha0 ha1
        go_upto_region 5 with fail
        go_cut [10, 11] from 238 (fun x y wz => ∃ f l : Nat, x = .int .i64 (f : Int) ∧ y = .int .u64 (l : Int) ∧ f < n ∧ l < 5 ∧ Below w.heap.size w wz)
        case first =>
          go_region
          obtain ⟨f, hf, hfn⟩ : ∃ f : Nat, (if 0 < a0x1 then a0x1 else 0) % (n : Int) = f ∧ f < n := by
            have h1 := Int.emod_nonneg (if 0 < a0x1 then a0x1 else 0) hnz
            have h2 := Int.emod_lt_of_pos (if 0 < a0x1 then a0x1 else 0) (show (0 : Int) < n by omega)
            exact ⟨((if 0 < a0x1 then a0x1 else 0) % (n : Int)).toNat, by omega, by omega⟩
          obtain ⟨l, hl, hl5⟩ : ∃ l : Nat, a1x0 % 5 = (l : Int) ∧ l < 5 := ⟨(a1x0 % 5).toNat, by omega, by omega⟩
          rw [hf, hl]
          go_wp2_with fail
          all_goals
            go_meet
            exact ⟨f, l, rfl, rfl, hfn, hl5, HB2.out.drew⟩
        case rest =>
          obtain ⟨f, l, rfl, rfl, hfn, hl5, hcb⟩ := hcut
          have HBC := Lib.hid hcb
          clear c1 c2 HA2 HA3 HB2 hnz hn0 hcb hga
          have hm : mayP (n : Int) (f : Int) 0 (l : Int) = true := mayP_of (by omega) (by omega) (by omega) (by omega) (by omega)
          have HM := Lib.hid hm
          have hlb : (l : Int) < 18446744073709551616 := by omega
          clear hm
          go_wp2_with fail
          refine (new_yes n f 0 l _ HM.out (by omega) hlb).mono ?_
          rintro e w3 ⟨p, R, rfl, hs, hR, hb⟩
          have O1 := Lib.hid (Own.of hs hR HBC.out hb HTZ.out)
          clear hs hR hb
          go_wp2_with fail
          refine (refnew_any n f 0 l _ HM.out (by omega) hlb).mono ?_
          rintro e w4 ⟨q, bu, bt, bg_, cu, xu, rfl, hr, l1, l2, l3, l4, hb⟩
          have T1 := Lib.hid (Two.start O1.out hr hb l1 l2 l3 l4)
          clear hr l1 l2 l3 l4 hb O1
          go_wp2_with fail
          refine (wakes_any _ T1.out.tw).mono ?_
          rintro e w5 ⟨rfl, hb⟩
          have T2 := Lib.hid (T1.out.on hb)
          clear hb T1
          obtain ⟨mm, hm⟩ : ∃ mm, mm = min a2l 40 := ⟨_, rfl⟩
          have hmin : ∀ W ts, (Builtin.min_ ts 3 #[.int .i64 (a2l : Nat), .int .i64 40]).run Tryd.prog W = .ok (.int .i64 (mm : Int)) W := by
            intro W ts; rw [hm]; exact run_minC _ _ _ _ a2l 40
          have hml : mm ≤ a2l := by omega
          have hml' : mm ≤ a2c := by omega
          clear hm
          have HF := Lib.hid (show (Sp.fresh n f 0 l).used.length = n by simp [Sp.fresh])
          go_wp2_with fail
          clear hmin
          go_loopw [105] (fun i wr => ∃ (c : Nat) (S : Sp), c ≤ mm ∧ i = .int .i64 c ∧ Two w p q S S wr ∧ S.used.length = n) (fun i _ => mm - (intOf i).toNat)
          case atStart => exact ⟨0, _, Nat.zero_le _, rfl, T2.out, HF.out⟩
          case round =>
            obtain ⟨c, S, hc, rfl, ht, hSn⟩ := hrel
            clear T2 HF
            by_cases hlt : c < mm
            · obtain ⟨zb, zo, rfl, hel⟩ := W2.out (by omega)
              obtain ⟨d0, d1, hd0, hw0, hd1, hw1⟩ := hel c (by omega)
              have hbr := ht.bel
              have hz0 : wr.cell? ⟨zb, zo + c * 2, none⟩ = some (.int .i64 d0) := (hbr.cell (World.block_lt_of_cell? _ _ hd0)).trans hd0
              have hz1 : wr.cell? ⟨zb, zo + (c * 2 + 1), none⟩ = some (.int .i64 d1) := (hbr.cell (World.block_lt_of_cell? _ _ hd1)).trans hd1
              have hz1' : wr.cell? ⟨zb, zo + c * 2 + 1, none⟩ = some (.int .i64 d1) := hz1
              obtain ⟨M, hM⟩ : ∃ M : Int, (if 0 < d0 then d0 else 0) = M := ⟨_, rfl⟩
              obtain ⟨r, hr, hr7⟩ : ∃ r : Int, M % 7 = r ∧ 0 ≤ r ∧ r < 7 := ⟨_, rfl, by omega, by omega⟩
              obtain ⟨X, hX⟩ : ∃ b, b = wr.heap.size := ⟨_, rfl⟩
              obtain ⟨W7, hW7⟩ : ∃ W, W = wr.alloc (.cells #[.int .i64 d0, .int .i64 d1] 35) := ⟨_, rfl⟩
              have HD := Lib.hid (show Duo w p q X 35 [.int .i64 d0, .int .i64 d1] S S W7 by rw [hX, hW7]; exact ht.duo _ _)
              have HSN := Lib.hid hSn
              clear ht hbr hel hd0 hw0 hd1 hw1 hSn
              go_upto_block 2 with fail
              rw [← hW7, ← hX]
              try rw [hM]
              try rw [hr]
              clear hz0 hz1 hz1' hW7 hX hM hr
              go_cut [17] (fun x wx => x = .bool true ∧ ∃ S', S'.used.length = n ∧ Two w p q S' S' wx)
              case first =>
                have hr' : r = 0 ∨ r = 1 ∨ r = 2 ∨ r = 3 ∨ r = 4 ∨ r = 5 ∨ r = 6 := by omega
                clear hr7
                rcases hr' with rfl | rfl | rfl | rfl | rfl | rfl | rfl
                · exact sp_arm0 HD HSN (by assumption) (by assumption)
                · exact sp_arm1 HD HSN (by assumption) (by assumption)
                · exact sp_arm2 HD HSN (by assumption) (by assumption)
                · exact sp_arm3 HD HSN (by assumption) (by assumption)
                · exact sp_arm4 HD HSN (by assumption) (by assumption)
                · exact sp_arm5 HD HSN (by assumption) (by assumption)
                · exact sp_arm6 HD HSN (by assumption) (by assumption)
              case rest =>
                obtain ⟨rfl, S', hSn', ht⟩ := hcut
                clear HD HSN hr7
                obtain ⟨bb, cb, m0, hcap, _, hget, _, _, hql⟩ := ht.row
                rw [hSn'] at m0 hcap hget
                have HT := Lib.hid ht
                have HSN := Lib.hid hSn'
                have HRW := Lib.hid (show BRows _ bb n S'.used from hget)
                clear ht hSn' hget
                go_wp2_with fail
                clear m0
                go_loopw [17, 26, 193] (fun o fr i wr => ∃ (k F : Nat), k ≤ n ∧ i = .int .i64 k ∧ o = .bool true ∧ fr = .int .i64 F ∧ F ≤ k ∧ (F : Int) = freeK S'.used k ∧ Two w p q S' S' wr ∧ BRows wr bb n S'.used) (fun _ _ i _ => n - (intOf i).toNat)
                case atStart => exact ⟨0, 0, Nat.zero_le _, rfl, rfl, rfl, Nat.le_refl _, by rw [freeK_zero]; rfl, HT.out, HRW.out⟩
                case round =>
                  obtain ⟨k, F, hk, rfl, rfl, rfl, hFk, hF, ht, hrow⟩ := hrel
                  clear HT HRW
                  have HT := Lib.hid ht
                  have HRW := Lib.hid hrow
                  by_cases hkn : k < n
                  · have hki : (k : Int) < (n : Int) := by omega
                    have hc0 := hrow k hkn
                    have HKB := Lib.hid (show hasL S'.used (k : Int) = bg S'.used k from hasL_in (by rw [HSN.out]; exact hkn))
                    cases hb : bg S'.used k with
                    | true =>
                      rw [hb] at hc0 HKB
                      have HF2 := Lib.hid (show (F : Int) = freeK S'.used (k + 1) by rw [freeK_yes hb]; exact hF)
                      clear hb hF ht hrow
                      go_wp2_with fail
                      refine (HT.out.calm (fun R _ h => used_any (k : Int) _ h)).mono ?_
                      rintro e w9 ⟨rfl, hd, hbw⟩
                      rw [HKB.out]
                      have HD := Lib.hid hd
                      have HR := Lib.hid (HRW.out.on hbw)
                      clear hd hbw hc0
                      go_wp2_with fail
                      go_roundw
                      case rel => exact ⟨k + 1, F, by omega, by go_num, rfl, rfl, by omega, HF2.out, HD.out, HR.out⟩
                      case measure => simp [intOf]; omega
                    | false =>
                      rw [hb] at hc0 HKB
                      have HF2 := Lib.hid (show ((F + 1 : Nat) : Int) = freeK S'.used (k + 1) by rw [freeK_no hb, ← hF]; push_cast; rfl)
                      clear hb hF ht hrow
                      go_wp2_with fail
                      refine (HT.out.calm (fun R _ h => used_any (k : Int) _ h)).mono ?_
                      rintro e w9 ⟨rfl, hd, hbw⟩
                      rw [HKB.out]
                      have HD := Lib.hid hd
                      have HR := Lib.hid (HRW.out.on hbw)
                      clear hd hbw hc0
                      go_wp2_with fail
                      go_roundw
                      case rel => exact ⟨k + 1, F + 1, by omega, by go_num, rfl, by go_num, by omega, HF2.out, HD.out, HR.out⟩
                      case measure => simp [intOf]; omega
                  · obtain rfl : k = n := by omega
                    have HFR := Lib.hid (show freeN S' = (F : Int) by rw [freeK_all, HSN.out, hF])
                    have HU0 := Lib.hid (show hasL S'.used (-1) = false from hasL_out (.inl (by decide)))
                    have HU1 := Lib.hid (show hasL S'.used (k : Int) = false from hasL_out (.inr (by rw [HSN.out]; exact Int.le_refl _)))
                    obtain ⟨G, hG⟩ : ∃ G, G = S'.gen := ⟨_, rfl⟩
                    have HGG := Lib.hid hG
                    have HD0 := Lib.hid (show Two w p q S' S' _ from HT.out.on (show Below _ _ (World.drew _) from ⟨rfl, rfl, rfl, Nat.le_refl _, fun _ _ => rfl⟩))
                    clear hF ht hrow hG HRW
                    go_upto_region 42 with fail
                    refine Reg.region_vals (by kernel_rfl) [(211, .bool true), (212, .bool false), (213, .bool false), (214, .pointer (some ⟨p, 0, none⟩)), (215, .int .i64 (F : Int)), (216, .int .i64 (F : Int)), (217, .bool false), (218, .bool false), (219, .bool false), (220, .pointer (some ⟨p, 0, none⟩)), (221, .int .u64 G), (222, .pointer (some ⟨q, 0, none⟩)), (223, .pointer (some ⟨q, 0, none⟩)), (224, .pointer (some ⟨q, 4, none⟩)), (225, .int .u64 G), (226, .bool false), (227, .bool false), (228, .bool false), (229, .pointer (some ⟨p, 0, none⟩)), (230, .bool false), (231, .bool false), (232, .bool false), (233, .pointer (some ⟨p, 0, none⟩)), (234, .int .i64 (k : Int)), (235, .bool false), (236, .bool false)] (fun l wy => Two w p q S' S' wy) (by kernel_rfl) (by kernel_rfl) (by kernel_rfl) (HD0.out) ⟨?_, ?_, ?_, ?_, ?_, ?_, ?_, ?_, ?_, ?_, ?_, ?_, ?_, ?_, ?_, ?_, ?_, ?_, ?_, ?_, ?_, ?_, ?_, ?_, ?_, ?_, trivial⟩ ?hend
                    · -- 0: 211 := Op.move t17
                      intro aq wq lq hI hl hdone hlater hold hd ho
                      have h17 : aq.tmps.getD 17 undef = .bool true := ho 17 (by kernel_rfl)
                      clear hd ho hdone hlater hold
                      exact Reg.step2_move (.tmp 17) rfl h17 hI trivial
                    · -- 1: 212 := Op.unOp UnOp.not 4 t211
                      intro aq wq lq hI hl hdone hlater hold hd ho
                      have h211 : aq.tmps.getD 211 undef = .bool true := hd 211 (by kernel_rfl)
                      clear hd ho hdone hlater hold
                      rw [Array.getD_eq_getD_getElem?] at h211
                      refine Reg.step2_val (.bool false) ?_ rfl hI trivial
                      simp [execOp, Act.eval, h211]
                      try go_simp
                    · -- 2: 213 := Op.move t212
                      intro aq wq lq hI hl hdone hlater hold hd ho
                      have h212 : aq.tmps.getD 212 undef = .bool false := hd 212 (by kernel_rfl)
                      clear hd ho hdone hlater hold
                      exact Reg.step2_move (.tmp 212) rfl h212 hI trivial
                    · -- 3: 214 := Op.move t12
                      intro aq wq lq hI hl hdone hlater hold hd ho
                      have h12 : aq.tmps.getD 12 undef = .pointer (some ⟨p, 0, none⟩) := ho 12 (by kernel_rfl)
                      clear hd ho hdone hlater hold
                      exact Reg.step2_move (.tmp 12) rfl h12 hI trivial
                    · -- 4: 215 := Op.call ( value (Operand.func 24), args := #(t214), argTypes
                      intro aq wq lq hI hl hdone hlater hold hd ho
                      have h214 : aq.tmps.getD 214 undef = .pointer (some ⟨p, 0, none⟩) := hd 214 (by kernel_rfl)
                      clear hd ho hdone hlater hold
                      rw [Array.getD_eq_getD_getElem?] at h214
                      refine Reg.step2_call 24 #[.pointer (some ⟨p, 0, none⟩)] ?_ ((Two.calm hI (fun R _ h => free_any wq h)).mono ?_)
                      · clear hI
                        simp [execOp]
                        go_simp
                      · rintro e w' ⟨rfl, hb, _⟩
                        exact ⟨_, rfl, by rw [HFR.out]; rfl, hb, trivial⟩
                    · -- 5: 216 := Op.move t26
                      intro aq wq lq hI hl hdone hlater hold hd ho
                      have h26 : aq.tmps.getD 26 undef = .int .i64 (F : Int) := ho 26 (by kernel_rfl)
                      clear hd ho hdone hlater hold
                      exact Reg.step2_move (.tmp 26) rfl h26 hI trivial
                    · -- 6: 217 := Op.binOp BinOp.neq 3 t215 t216 3
                      intro aq wq lq hI hl hdone hlater hold hd ho
                      have h215 : aq.tmps.getD 215 undef = .int .i64 (F : Int) := hd 215 (by kernel_rfl)
                      have h216 : aq.tmps.getD 216 undef = .int .i64 (F : Int) := hd 216 (by kernel_rfl)
                      clear hd ho hdone hlater hold
                      rw [Array.getD_eq_getD_getElem?] at h215 h216
                      refine Reg.step2_val (.bool false) ?_ rfl hI trivial
                      simp [execOp, Act.eval, h215, h216]
                      try go_simp
                    · -- 7: 218 := Op.pick t213 (const (Value.bool true)) t217
                      intro aq wq lq hI hl hdone hlater hold hd ho
                      have h213 : aq.tmps.getD 213 undef = .bool false := hd 213 (by kernel_rfl)
                      have h217 : aq.tmps.getD 217 undef = .bool false := hd 217 (by kernel_rfl)
                      clear hd ho hdone hlater hold
                      rw [Array.getD_eq_getD_getElem?] at h213 h217
                      refine Reg.step2_val (.bool false) ?_ rfl hI trivial
                      simp [execOp, Act.eval, h213, h217]
                      try go_simp
                    · -- 8: 219 := Op.move t218
                      intro aq wq lq hI hl hdone hlater hold hd ho
                      have h218 : aq.tmps.getD 218 undef = .bool false := hd 218 (by kernel_rfl)
                      clear hd ho hdone hlater hold
                      exact Reg.step2_move (.tmp 218) rfl h218 hI trivial
                    · -- 9: 220 := Op.move t12
                      intro aq wq lq hI hl hdone hlater hold hd ho
                      have h12 : aq.tmps.getD 12 undef = .pointer (some ⟨p, 0, none⟩) := ho 12 (by kernel_rfl)
                      clear hd ho hdone hlater hold
                      exact Reg.step2_move (.tmp 12) rfl h12 hI trivial
                    · -- 10: 221 := Op.call ( value (Operand.func 25), args := #(t220), argTypes
                      intro aq wq lq hI hl hdone hlater hold hd ho
                      have h220 : aq.tmps.getD 220 undef = .pointer (some ⟨p, 0, none⟩) := hd 220 (by kernel_rfl)
                      clear hd ho hdone hlater hold
                      rw [Array.getD_eq_getD_getElem?] at h220
                      refine Reg.step2_call 25 #[.pointer (some ⟨p, 0, none⟩)] ?_ ((Two.calm hI (fun R _ h => gen_any wq h)).mono ?_)
                      · clear hI
                        simp [execOp]
                        go_simp
                      · rintro e w' ⟨rfl, hb, _⟩
                        exact ⟨_, rfl, by rw [← HGG.out]; rfl, hb, trivial⟩
                    · -- 11: 222 := Op.move t14
                      intro aq wq lq hI hl hdone hlater hold hd ho
                      have h14 : aq.tmps.getD 14 undef = .pointer (some ⟨q, 0, none⟩) := ho 14 (by kernel_rfl)
                      clear hd ho hdone hlater hold
                      exact Reg.step2_move (.tmp 14) rfl h14 hI trivial
                    · -- 12: 223 := Op.nilCheck t222
                      intro aq wq lq hI hl hdone hlater hold hd ho
                      have h222 : aq.tmps.getD 222 undef = .pointer (some ⟨q, 0, none⟩) := hd 222 (by kernel_rfl)
                      clear hd ho hdone hlater hold
                      rw [Array.getD_eq_getD_getElem?] at h222
                      refine Reg.step2_val (.pointer (some ⟨q, 0, none⟩)) ?_ rfl hI trivial
                      go_simp
                    · -- 13: 224 := Op.fieldAddr 49 t223 4
                      intro aq wq lq hI hl hdone hlater hold hd ho
                      have h223 : aq.tmps.getD 223 undef = .pointer (some ⟨q, 0, none⟩) := hd 223 (by kernel_rfl)
                      clear hd ho hdone hlater hold
                      rw [Array.getD_eq_getD_getElem?] at h223
                      refine Reg.step2_val (.pointer (some ⟨q, 4, none⟩)) ?_ rfl hI trivial
                      go_simp
                    · -- 14: 225 := Op.load 23 t224
                      intro aq wq lq hI hl hdone hlater hold hd ho
                      have h224 : aq.tmps.getD 224 undef = .pointer (some ⟨q, 4, none⟩) := hd 224 (by kernel_rfl)
                      clear hd ho hdone hlater hold
                      rw [Array.getD_eq_getD_getElem?] at h224
                      obtain ⟨_, _, _, _, _, _, e0, _, _⟩ := Two.row hI
                      rw [← HGG.out] at e0
                      refine Reg.step2_val (.int .u64 G) ?_ rfl hI trivial
                      go_simp
                    · -- 15: 226 := Op.binOp BinOp.neq 23 t221 t225 23
                      intro aq wq lq hI hl hdone hlater hold hd ho
                      have h221 : aq.tmps.getD 221 undef = .int .u64 G := hd 221 (by kernel_rfl)
                      have h225 : aq.tmps.getD 225 undef = .int .u64 G := hd 225 (by kernel_rfl)
                      clear hd ho hdone hlater hold
                      rw [Array.getD_eq_getD_getElem?] at h221 h225
                      refine Reg.step2_val (.bool false) ?_ rfl hI trivial
                      simp [execOp, Act.eval, h221, h225]
                      try go_simp
                    · -- 16: 227 := Op.pick t219 (const (Value.bool true)) t226
                      intro aq wq lq hI hl hdone hlater hold hd ho
                      have h219 : aq.tmps.getD 219 undef = .bool false := hd 219 (by kernel_rfl)
                      have h226 : aq.tmps.getD 226 undef = .bool false := hd 226 (by kernel_rfl)
                      clear hd ho hdone hlater hold
                      rw [Array.getD_eq_getD_getElem?] at h219 h226
                      refine Reg.step2_val (.bool false) ?_ rfl hI trivial
                      simp [execOp, Act.eval, h219, h226]
                      try go_simp
                    · -- 17: 228 := Op.move t227
                      intro aq wq lq hI hl hdone hlater hold hd ho
                      have h227 : aq.tmps.getD 227 undef = .bool false := hd 227 (by kernel_rfl)
                      clear hd ho hdone hlater hold
                      exact Reg.step2_move (.tmp 227) rfl h227 hI trivial
                    · -- 18: 229 := Op.move t12
                      intro aq wq lq hI hl hdone hlater hold hd ho
                      have h12 : aq.tmps.getD 12 undef = .pointer (some ⟨p, 0, none⟩) := ho 12 (by kernel_rfl)
                      clear hd ho hdone hlater hold
                      exact Reg.step2_move (.tmp 12) rfl h12 hI trivial
                    · -- 19: 230 := Op.call ( value (Operand.func 23), args := #(t229, const (Va
                      intro aq wq lq hI hl hdone hlater hold hd ho
                      have h229 : aq.tmps.getD 229 undef = .pointer (some ⟨p, 0, none⟩) := hd 229 (by kernel_rfl)
                      clear hd ho hdone hlater hold
                      rw [Array.getD_eq_getD_getElem?] at h229
                      refine Reg.step2_call 23 #[.pointer (some ⟨p, 0, none⟩), .int .i64 (-1)] ?_ ((Two.calm hI (fun R _ h => used_any (-1) wq h)).mono ?_)
                      · clear hI
                        simp [execOp]
                        go_simp
                      · rintro e w' ⟨rfl, hb, _⟩
                        exact ⟨_, rfl, by rw [HU0.out]; rfl, hb, trivial⟩
                    · -- 20: 231 := Op.pick t228 (const (Value.bool true)) t230
                      intro aq wq lq hI hl hdone hlater hold hd ho
                      have h228 : aq.tmps.getD 228 undef = .bool false := hd 228 (by kernel_rfl)
                      have h230 : aq.tmps.getD 230 undef = .bool false := hd 230 (by kernel_rfl)
                      clear hd ho hdone hlater hold
                      rw [Array.getD_eq_getD_getElem?] at h228 h230
                      refine Reg.step2_val (.bool false) ?_ rfl hI trivial
                      simp [execOp, Act.eval, h228, h230]
                      try go_simp
                    · -- 21: 232 := Op.move t231
                      intro aq wq lq hI hl hdone hlater hold hd ho
                      have h231 : aq.tmps.getD 231 undef = .bool false := hd 231 (by kernel_rfl)
                      clear hd ho hdone hlater hold
                      exact Reg.step2_move (.tmp 231) rfl h231 hI trivial
                    · -- 22: 233 := Op.move t12
                      intro aq wq lq hI hl hdone hlater hold hd ho
                      have h12 : aq.tmps.getD 12 undef = .pointer (some ⟨p, 0, none⟩) := ho 12 (by kernel_rfl)
                      clear hd ho hdone hlater hold
                      exact Reg.step2_move (.tmp 12) rfl h12 hI trivial
                    · -- 23: 234 := Op.move t9
                      intro aq wq lq hI hl hdone hlater hold hd ho
                      have h9 : aq.tmps.getD 9 undef = .int .i64 (k : Int) := ho 9 (by kernel_rfl)
                      clear hd ho hdone hlater hold
                      exact Reg.step2_move (.tmp 9) rfl h9 hI trivial
                    · -- 24: 235 := Op.call ( value (Operand.func 23), args := #(t233, t234), ar
                      intro aq wq lq hI hl hdone hlater hold hd ho
                      have h233 : aq.tmps.getD 233 undef = .pointer (some ⟨p, 0, none⟩) := hd 233 (by kernel_rfl)
                      have h234 : aq.tmps.getD 234 undef = .int .i64 (k : Int) := hd 234 (by kernel_rfl)
                      clear hd ho hdone hlater hold
                      rw [Array.getD_eq_getD_getElem?] at h233 h234
                      refine Reg.step2_call 23 #[.pointer (some ⟨p, 0, none⟩), .int .i64 (k : Int)] ?_ ((Two.calm hI (fun R _ h => used_any (k : Int) wq h)).mono ?_)
                      · clear hI
                        simp [execOp]
                        go_simp
                      · rintro e w' ⟨rfl, hb, _⟩
                        exact ⟨_, rfl, by rw [HU1.out]; rfl, hb, trivial⟩
                    · -- 25: 236 := Op.pick t232 (const (Value.bool true)) t235
                      intro aq wq lq hI hl hdone hlater hold hd ho
                      have h232 : aq.tmps.getD 232 undef = .bool false := hd 232 (by kernel_rfl)
                      have h235 : aq.tmps.getD 235 undef = .bool false := hd 235 (by kernel_rfl)
                      clear hd ho hdone hlater hold
                      rw [Array.getD_eq_getD_getElem?] at h232 h235
                      refine Reg.step2_val (.bool false) ?_ rfl hI trivial
                      simp [execOp, Act.eval, h232, h235]
                      try go_simp
                    case hend =>
                    intro wy hI
                    simp only [Reg.fill, List.foldl_cons, List.foldl_nil, List.setIfInBounds_toArray, List.set_cons_zero, List.set_cons_succ]
                    have HI := Lib.hid hI
                    clear hI
                    go_wp2_with fail
                    go_roundw
                    case rel => exact ⟨c + 1, S', by omega, by go_num, HI.out, HSN.out⟩
                    case measure => simp [intOf]; omega
            · go_wp2_with fail
              go_ret
              exact ⟨rfl, ht.bel⟩

set_option maxRecDepth 100000 in
theorem contract (H : Type) (enc : TypeId × Value → H) (W : World) (base : Nat) (args : Array Value) (ds gs : List (DataW H)) (before : List MemPlace)
    (hval0 : ∀ (j : Nat) t v, Tryd.f3.params[j]? = some t → args[j]? = some v → Value.okWide Tryd.prog W .any base t v)
    (hW : DataW.Whole enc Tryd.prog Tryd.f3.params.toList Rows.spacePlaysSpec.vars false W args.toList ds gs before)
    (hlm : laidMet Tryd.prog Rows.spacePlaysRow.laid W) :
    Calls Tryd.prog 3 args W fun e W' => ∃ v, e = .returned v ∧ Rows.spacePlaysSpec.post enc Tryd.prog Tryd.f3 false true false false W args v W' := by
  have hval : ∀ (j : Nat) t v, Tryd.f3.params[j]? = some t → args[j]? = some v → Value.okWide Tryd.prog W .any base t v := hval0
  have hW' := hW
  obtain ⟨p, q, hA0, hV, rfl, hfz, hnd⟩ := hW
  have hA : DataW.TrodAll enc Tryd.prog W 0 (fun _ => true) true Tryd.f3.params.toList args.toList ds p := hA0
  rw [Tryd.params3] at hA hval
  obtain ⟨v0, vs0, d0, ds0, p0, q0, hargs, rfl, rfl, h0, r0⟩ := trodAll_cons hA
  obtain ⟨v1, vs1, d1, ds1, p1, q1, rfl, rfl, rfl, h1, r1⟩ := trodAll_cons r0
  obtain ⟨v2, vs2, d2, ds2, p2, q2, rfl, rfl, rfl, h2, r2⟩ := trodAll_cons r1
  obtain ⟨rfl, rfl, rfl⟩ := trodAll_nil r2
  obtain rfl : args = #[v0, v1, v2] := by cases args; simp_all
  obtain ⟨rfl, rfl⟩ := trodVars_none hV
  have k0 := h0
  have lt0 : ∀ x ∈ p0, x.block < W.heap.size := by obtain ⟨m, hm⟩ := k0; exact DataW.trod_lt m _ _ _ hm
  obtain ⟨cs0, rfl, hl0, hc0⟩ := open_arr Tryd.underlying22 (by kernel_rfl) (by kernel_rfl) (hval 0 22 v0 rfl rfl) h0
  obtain ⟨y0_0, y0_1, rfl⟩ := len2 cs0 hl0
  obtain ⟨a0x0, rfl, w0x0⟩ := open_int_cell Tryd.underlying3 (hc0 0 _ rfl)
  obtain ⟨a0x1, rfl, w0x1⟩ := open_int_cell Tryd.underlying3 (hc0 1 _ rfl)
  have k1 := h1
  have lt1 : ∀ x ∈ p1, x.block < W.heap.size := by obtain ⟨m, hm⟩ := k1; exact DataW.trod_lt m _ _ _ hm
  obtain ⟨cs1, rfl, hl1, hc1⟩ := open_arr Tryd.underlying24 (by kernel_rfl) (by kernel_rfl) (hval 1 24 v1 rfl rfl) h1
  obtain ⟨y1_0, y1_1, rfl⟩ := len2 cs1 hl1
  obtain ⟨a1x0, rfl, w1x0⟩ := open_int_cell Tryd.underlying23 (hc1 0 _ rfl)
  obtain ⟨a1x1, rfl, w1x1⟩ := open_int_cell Tryd.underlying23 (hc1 1 _ rfl)
  have k2 := h2
  have lt2 : ∀ x ∈ p2, x.block < W.heap.size := by obtain ⟨m, hm⟩ := k2; exact DataW.trod_lt m _ _ _ hm
  obtain ⟨a2', l2', c2', rfl⟩ := okWide_slice Tryd.underlying25 (hval 2 25 v2 rfl rfl)
  obtain ⟨a2, a2l, a2c, he2, w2, w2l, w2m⟩ := open_AR2 (c := .slice a2' l2' c2') (by obtain ⟨m, hm⟩ := h2; exact ⟨m, _, hm⟩)
  simp only [Value.slice.injEq] at he2
  obtain ⟨rfl, rfl, rfl⟩ := he2
  clear hA0 hval0
  refine (walk a0x0 a0x1 a1x0 a1x1 a2' l2' c2' W w0x0 w0x1 w1x0 w1x1 w2 w2l w2m (Bit.tz_of hlm)).mono fun e W' ⟨he, bel⟩ => ?_
  subst he
  exact ⟨_, rfl, _, _, _, [], _, [], hW', trodAll_mk1 (shut_bool Tryd.underlying4 _), (trodAll_cons_mk (Below.trod laidOut (by kernel_rfl) (of_decide_eq_true (by kernel_rfl)) k0 bel lt0) (trodAll_cons_mk (Below.trod laidOut (by kernel_rfl) (of_decide_eq_true (by kernel_rfl)) k1 bel lt1) (trodAll_cons_mk (Below.trod laidOut (by kernel_rfl) (of_decide_eq_true (by kernel_rfl)) k2 bel lt2) trodAll_mk0))), rfl, bel.frame _, fun h => by cases h⟩

noncomputable def laidWorld (os : Os) : World :=
  { World.holding Tryd.prog os ⟨#[], #[], []⟩ with heap := (((World.holding Tryd.prog os ⟨#[], #[], []⟩).heap).modify 0 fun | .cells _ t frozen => .cells (#[.int .u8 0, .int .u8 1, .int .u8 56, .int .u8 2, .int .u8 57, .int .u8 49, .int .u8 28, .int .u8 3, .int .u8 61, .int .u8 58, .int .u8 42, .int .u8 50, .int .u8 38, .int .u8 29, .int .u8 17, .int .u8 4, .int .u8 62, .int .u8 47, .int .u8 59, .int .u8 36, .int .u8 45, .int .u8 43, .int .u8 51, .int .u8 22, .int .u8 53, .int .u8 39, .int .u8 33, .int .u8 30, .int .u8 24, .int .u8 18, .int .u8 12, .int .u8 5, .int .u8 63, .int .u8 55, .int .u8 48, .int .u8 27, .int .u8 60, .int .u8 41, .int .u8 37, .int .u8 16, .int .u8 46, .int .u8 35, .int .u8 44, .int .u8 21, .int .u8 52, .int .u8 32, .int .u8 23, .int .u8 11, .int .u8 54, .int .u8 26, .int .u8 40, .int .u8 15, .int .u8 34, .int .u8 20, .int .u8 31, .int .u8 10, .int .u8 25, .int .u8 14, .int .u8 19, .int .u8 9, .int .u8 13, .int .u8 8, .int .u8 7, .int .u8 6]) t frozen | o => o) }
theorem laid_met (os : Os) : laidMet Tryd.prog Rows.spacePlaysRow.laid ((laidWorld os).forCall (fun _ _ => 0) ⟨#[], #[.agg #[.int .i64 0, .int .i64 0], .agg #[.int .u64 0, .int .u64 0], .slice none 0 0], []⟩).memory :=
  laidMet_of_run' 8 (by kernel_rfl) (by kernel_rfl)
theorem reads (os : Os) {H : Type} (enc : TypeId × Value → H) : ∃ places, DataW.whole enc Tryd.prog ((laidWorld os).forCall (fun _ _ => 0) ⟨#[], #[.agg #[.int .i64 0, .int .i64 0], .agg #[.int .u64 0, .int .u64 0], .slice none 0 0], []⟩).memory Tryd.f3.params.toList Rows.spacePlaysSpec.vars false (#[.agg #[.int .i64 0, .int .i64 0], .agg #[.int .u64 0, .int .u64 0], .slice none 0 0] : Array Value).toList 8 = some ([.agg [.lit (.int .i64 0), .lit (.int .i64 0)], .agg [.lit (.int .u64 0), .lit (.int .u64 0)], .nil], [], places) :=
  ⟨[], by kernel_rfl⟩

set_option maxRecDepth 100000 in
theorem lifted (os : Os) (started : os.Started) (H : Type) (enc : TypeId × Value → H) (F : Stop.Interp) :
    ReturnsInHanded {} Tryd.checked os 3 .any ((OpenSpec.ofChange Rows.spacePlaysSpec).preRow enc Tryd.prog Tryd.f3 Rows.spacePlaysRow.domain false Rows.spacePlaysRow.laid) (((OpenSpec.ofChange Rows.spacePlaysSpec).at F).post enc Tryd.prog Tryd.f3 false true false false) := by
  obtain ⟨places, hx⟩ := reads os enc
  refine returnsInHanded_of_row (C := Tryd.checked) (s := OpenSpec.ofChange Rows.spacePlaysSpec) own started (by kernel_rfl) Tryd.func3
    (witness_row_at (enc := enc) (C := Tryd.checked) false (laidWorld os) #[.agg #[.int .i64 0, .int .i64 0], .agg #[.int .u64 0, .int .u64 0], .slice none 0 0] rfl (by kernel_rfl) (by kernel_rfl) (by kernel_rfl)
      (OpenSpec.preRow_of_cond 8 hx (by kernel_rfl) (fun k hk => by cases hk) (by kernel_rfl) (laid_met os))) ?_
  intro W base args ds gs before hval hW _ _ _ hL _ _
  exact contract H enc W base args ds gs before hval hW hL

theorem said : Rows.SpacePlaysSaid :=
  OpenClaim.holds_of_cond 3 Tryd.f3 rfl rfl rfl rfl rfl rfl rfl ⟨rfl, rfl, rfl, rfl, rfl⟩ rfl rfl rfl rfl rfl (by kernel_rfl) Tryd.func3 (by kernel_rfl)
    (of_decide_eq_true (by kernel_rfl)) (by unfold Func.isWrapper; first | (rw [if_pos (by decide +kernel)]; kernel_rfl) | (rw [if_neg (by decide +kernel)]; exact ⟨rfl, rfl⟩))
    (fun os started H enc _ F => by rw [OpenClaim.pre_eq_preRow]; exact lifted os started H enc F)

theorem plain (f : FuncId) (fn : Func) (hf : Tryd.pinned.checked.prog.funcNamed "treenail/treenaillaw10.SpacePlays" = some f) (hfn : Tryd.pinned.checked.prog.funcs[f]? = some fn) :
    false = Tryd.pinned.checked.prog.looks [] ∧ ∀ (j : Nat) t, fn.params[j]? = some t → Tryd.pinned.checked.prog.wantsStandIn t = false := by
  obtain rfl : f = 3 := Option.some.inj ((show Tryd.prog.funcNamed "treenail/treenaillaw10.SpacePlays" = some 3 by kernel_rfl).symm.trans hf) |>.symm
  obtain rfl : fn = Tryd.f3 := (Option.some.inj (Tryd.func3.symm.trans hfn)).symm
  refine ⟨by kernel_rfl, fun j t ht => ?_⟩
  rw [Tryd.params3] at ht
  rcases j with _ | _ | _ | j
  · obtain rfl : t = 22 := by simpa using ht.symm
    exact (show Tryd.prog.wantsStandIn 22 = false by kernel_rfl)
  · obtain rfl : t = 24 := by simpa using ht.symm
    exact (show Tryd.prog.wantsStandIn 24 = false by kernel_rfl)
  · obtain rfl : t = 25 := by simpa using ht.symm
    exact (show Tryd.prog.wantsStandIn 25 = false by kernel_rfl)
  · simp at ht

/-- THE STATEMENT -/
theorem proved : Rows.SpacePlaysCardSaid :=
  Claim7.holds_tied_plain_at .later [] _ _ _ _ said (fun _ h => by cases h) (by kernel_rfl) (fun _ h => by cases h) spacePlays_row_tie rfl ⟨rfl, rfl⟩ (by kernel_rfl) rfl plain (by kernel_rfl)
#print axioms proved
end Go.Proofs.YtkflccecdjfkiaaDoor.spacePlays
