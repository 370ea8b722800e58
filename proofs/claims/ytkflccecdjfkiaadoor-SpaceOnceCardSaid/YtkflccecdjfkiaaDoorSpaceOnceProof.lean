/-
  The law SpaceOnce holds: no block is taken while somebody has it: not ahead of being given, and settled; what was taken ahead of an Undo is had by nobody. Conditions: none but the row's own.
-/
import Derived.Test.YtkflccecdjfkiaaDoorRows
import Derived.Test.YtkflccecdjfkiaaDoorSpM
import Derived.Deep.CutBlock
import Derived.Test.YtkflccecdjfkiaaDoorCards
import Derived.Test.YtkflccecdjfkiaaDoorTie
import Derived.Test.YtkflccecdjfkiaaDoorArr
import Derived.WalkKit
import Derived.ProofKit
import Derived.OpenShut
import Derived.ShutString
import Derived.ChangeOld
import Derived.Below
import Derived.Carry
import Derived.Deep.DeepHandedRow

import Derived.Lib.LaidTab
namespace Go.Proofs.YtkflccecdjfkiaaDoor.spaceOnce
open Go.ChangeShapes Go.WideShapes Go.ChangeAt Go.RowKit
open Go.Proofs.YtkflccecdjfkiaaDoor
open Go.ChangeMaps (open_string shut_string)
set_option linter.unusedVariables false

theorem own : ownKnob Tryd.prog.godebug = none := by kernel_rfl
theorem laidOut : laidOutB Tryd.prog = true := by kernel_rfl


open Go.Proofs.YtkflccecdjfkiaaDoor.Spc
open Go.Proofs.YtkflccecdjfkiaaDoor.Bit
open Go.Maps (int_keyed keyOf_int_mk)
theorem run_minC (P : Program) (w : World) (t : TypeId) (ts : Array TypeId) (a c : Nat) : (Builtin.min_ ts t #[.int .i64 (a : Nat), .int .i64 (c : Nat)]).run P w = .ok (.int .i64 ((min a c : Nat) : Int)) w := by
  have e : ∀ a b : Nat, (if (b : Int) < a then (b : Int) else a) = ((min a b : Nat) : Int) := by intro a b; split <;> omega
  simp only [Builtin.min_, Builtin.min2, List.foldlM, Sem.run_bind, Sem.run_pure, Result.andThen]
  rw [e]

/-! ### STEP 1: THE WALK -/
set_option maxHeartbeats 8000000 in
set_option maxRecDepth 100000 in
theorem walk (a0 : Option Addr) (a0l a0c : Nat) (a0z : List Int) (w : World) (w0 : Row .u8 w a0 a0l a0z) (w0l : a0l ≤ a0c) (w0m : a0c ≤ maxLen) (w0w : ∀ n ∈ a0z, (Lit.int .u8 n).wf = true) (hT : Bit.Tz w) :
    Calls Tryd.prog 5 #[.slice a0 a0l a0c] w fun e w' => e = .returned (.bool true) ∧ Below w.heap.size w w' := by
  have HZT := Lib.hid hT
  have hr0 := w0
  have hcm0 := w0m
  have hwf0 := w0w
  have R0 := Lib.hid hr0
  have WF := Lib.hid hwf0
  have HLZ := Lib.hid hr0.len_eq
  clear hr0 hwf0 w0 w0m w0w hT
  unfold maxLen at hcm0
  have hmm := @run_makeMap Tryd.prog
  go_enter Tryd.func5, Tryd.ntmps5
  go_wp2_with fail
  refine (new_yes 9 1 0 0 _ (by decide) (by decide) (by decide)).mono ?_
  rintro e w1 ⟨p, R, rfl, hs, hR, hb⟩
  have O1 := Lib.hid (Own.of hs hR (Below.refl _ w) hb HZT.out)
  clear hs hR hb
  go_wp2_with fail
  refine (wakes_any _ O1.out.tw).mono ?_
  rintro e w2 ⟨rfl, hb⟩
  have O2 := Lib.hid (O1.out.on hb)
  clear hb O1
  obtain ⟨mm, hm⟩ : ∃ mm, mm = min a0l 80 := ⟨_, rfl⟩
  have hmin : ∀ W ts, (Builtin.min_ ts 3 #[.int .i64 (a0l : Nat), .int .i64 80]).run Tryd.prog W = .ok (.int .i64 (mm : Int)) W := by
    intro W ts; rw [hm]; exact run_minC _ _ _ _ a0l 80
  have hm80 : mm ≤ 80 := by omega
  have hml : mm ≤ a0l := by omega
  have hml' : mm ≤ a0c := by omega
  clear hm
  have HS0 := Lib.hid (St.begin O2.out 9)
  obtain ⟨hb0, hhb⟩ : ∃ b, b = w2.heap.size := ⟨_, rfl⟩
  obtain ⟨tb0, htb⟩ : ∃ b, b = w2.heap.size + 1 := ⟨_, rfl⟩
  obtain ⟨gb0, hgb⟩ : ∃ b, b = w2.heap.size + 1 + 1 := ⟨_, rfl⟩
  obtain ⟨W3, hW3⟩ : ∃ W, W = ((w2.alloc (.map #[] 0)).alloc (.map #[] 0)).alloc (.map #[] 0) := ⟨_, rfl⟩
  rw [← hgb, ← htb, ← hhb, ← hW3] at HS0
  have HH0 := Lib.hid had_start
  clear O2
  go_wp2_with fail
  rw [← hgb, ← htb, ← hhb, ← hW3]
  have HMM := Lib.hid hmm
  clear hgb htb hhb hW3 hmin hmm
  go_loopw [39, 6, 7] (fun i t g wr => ∃ (c tb gb : Nat) (S : Sp), c ≤ mm ∧ i = .int .i64 c ∧ t = .map (some tb) ∧ g = .map (some gb) ∧ St w p hb0 tb gb (2 * c) S (hadL S) S.taken S.given wr ∧ Inv S) (fun i _ _ _ => mm - (intOf i).toNat)
  case atStart => exact ⟨0, tb0, gb0, _, Nat.zero_le _, rfl, rfl, rfl, by rw [HH0.out]; exact HS0.out, Inv.start⟩
  case round =>
    obtain ⟨c, tb, gb, S, hc, rfl, rfl, rfl, hst, hinv⟩ := hrel
    clear HS0 HH0
    have HS := Lib.hid hst
    have HI := Lib.hid hinv
    by_cases hlt : c < mm
    · obtain ⟨zb, zo, rfl, hcell⟩ := (R0.out.below hst.bel (Nat.le_refl _)).at_ (by omega)
      have hz := hcell c (by omega)
      obtain ⟨y, hy⟩ : ∃ y, y = a0z.getD c 0 := ⟨_, rfl⟩
      have hyb : 0 ≤ y ∧ y ≤ 255 := by
        have := bounds_u8 (WF.out y (by rw [hy, List.getD_eq_getElem?_getD, List.getElem?_eq_getElem (by rw [HLZ.out]; omega)]; exact List.getElem_mem _))
        omega
      rw [← hy] at hz
      obtain ⟨k, hk9, hky⟩ : ∃ k : Nat, k < 9 ∧ (y / 8) % 9 = (k : Int) := ⟨((y / 8) % 9).toNat, by omega, by omega⟩
      obtain ⟨r, hr8, hry⟩ : ∃ r : Nat, r < 8 ∧ y % 8 = (r : Int) := ⟨(y % 8).toNat, by omega, by omega⟩
      have hwy : IntKind.i64.wrap (y / 8) = y / 8 := IntWalk.i64_in _ (by omega)
      have ht1 : Int.tmod y 8 = (r : Int) := by rw [Int.tmod_eq_emod_of_nonneg hyb.1, hry]
      have ht2 : Int.tdiv y 8 = y / 8 := Int.tdiv_eq_ediv_of_nonneg hyb.1
      have ht3 : Int.tmod (y / 8) 9 = (k : Int) := by rw [Int.tmod_eq_emod_of_nonneg (by omega), hky]
      obtain ⟨hy0, hy1⟩ := hyb
      clear hcell hy hst hinv
      go_upto_block 2 with fail
      go_cut [6, 7] from 143 (fun t g wx => ∃ (tb gb : Nat) (S' : Sp), t = .map (some tb) ∧ g = .map (some gb) ∧ St w p hb0 tb gb (2 * (c + 1)) S' (hadL S') S'.taken S'.given wx ∧ Inv S')
      case first =>
        clear hz hwy ht1 ht2 ht3 hry hky hy0 hy1
        have hk4 : (k : Int) < 4096 := by omega
        have HK := Lib.hid hk9
        have hc80 : c < 4096 := by omega
        have HC := Lib.hid hc80
        clear hk9 hc80 hlt hc hml hml' hcm0 hm80
        have hr : (r = 0 ∨ r = 1 ∨ r = 2) ∨ (r = 3 ∨ r = 4 ∨ r = 5) ∨ r = 6 ∨ r = 7 := by omega
        clear hr8
        rcases hr with hr | hr | rfl | rfl
        · -- Take
          have HT := Lib.hid (HS.out.call (fun R hT h => take_any _ hT h))
          cases htk : takeO S with
          | none =>
            have hN : takeN S = 0 := by rw [takeN, htk]; rfl
            have hE : takeE S = 11 := by rw [takeE, htk]; rfl
            have hU : S.take = S := by rw [Sp.take, htk]
            have HFU := Lib.hid (take_full HI.out htk)
            rw [hN, hE, hU] at HT
            clear hN hE hU htk
            rcases hr with rfl | rfl | rfl
            all_goals
              go_wp2_with fail
              refine HT.out.mono ?_
              rintro e w3 ⟨rfl, hs⟩
              have hlen : ∀ ty, (Builtin.len_ #[55] ty #[.map (some hb0)]).run Tryd.prog w3 = .ok (.int .i64 8) w3 := fun ty => by
                have := hs.had.len ty
                rw [HFU.out] at this; exact this
              have HS3 := Lib.hid hs
              clear hs
              go_wp2_with fail
              go_meet
              exact ⟨tb, gb, S, rfl, rfl, HS3.out.mono (by omega), HI.out⟩
          | some K =>
            have hN : takeN S = K := by rw [takeN, htk]; rfl
            have hE : takeE S = 0 := by rw [takeE, htk]; rfl
            obtain ⟨q1, q2, q3, q4, q5, q6, q7⟩ := take_fresh HI.out htk
            have HQ := Lib.hid (And.intro q4 (And.intro q5 (And.intro q6 q7)))
            have HQ3 := Lib.hid q3
            have HK9 := Lib.hid q1
            have hKz : ((K : Int) == 0) = false := by simp; omega
            rw [hN, hE] at HT
            have HLH := Lib.hid (show K < (hadL S).length by rw [hadL_length, HI.out.len]; exact q1)
            have HLT := Lib.hid (show K < S.taken.length by rw [HI.out.tl]; exact q1)
            clear hN hE htk q1 q2 q3 q4 q5 q6 q7
            rcases hr with rfl | rfl | rfl
            all_goals
              go_wp2_with fail
              refine HT.out.mono ?_
              rintro e w3 ⟨rfl, hs⟩
              have hlook := hs.had.look (x := (K : Int)) (by omega) (by have := HK9.out; omega)
              rw [HQ3.out] at hlook
              have HS3 := Lib.hid hs
              clear hs
              go_wp2_with (at_mapUpdate; refine wpList_putB rfl _ _ _ rfl rfl HS3.out.had (by have := HC.out; omega) K HLH.out (by have := HK9.out; omega) rfl rfl ?_)
              intro w4 hm4 hg4
              have HS4 := Lib.hid (HS3.out.putH hg4 (Nat.le_succ _) hm4)
              clear hm4 hg4 hlook
              go_wp2_with (at_mapUpdate; refine wpList_putB rfl _ _ _ rfl rfl HS4.out.taken (by have := HC.out; omega) K HLT.out (by have := HK9.out; omega) rfl rfl ?_)
              intro w5 hm5 hg5
              have HS5 := Lib.hid (HS4.out.putT hg5 (Nat.le_succ _) hm5)
              clear hm5 hg5
              go_wp2_with fail
              go_meet
              refine ⟨tb, gb, S.take, rfl, rfl, ?_, HQ.out.1⟩
              rw [HQ.out.2.1, HQ.out.2.2.1, HQ.out.2.2.2]
              exact HS5.out.mono (by omega)
        · -- Give
          have HT := Lib.hid (HS.out.call (fun R _ h => give_any (k : Int) _ h))
          have hgi := give_is HI.out HK.out
          have HGI := Lib.hid (give_inv HI.out k)
          obtain ⟨g1, g2⟩ := give_had (S := S) (k : Int)
          have HG1 := Lib.hid g1
          have HG2 := Lib.hid g2
          obtain ⟨E, hE⟩ : ∃ E, E = giveE S (k : Int) := ⟨_, rfl⟩
          obtain ⟨c1, hc1⟩ : ∃ c1, c1 = hasL (hadL S) (k : Int) := ⟨_, rfl⟩
          obtain ⟨c2, hc2⟩ : ∃ c2, c2 = hasL S.given (k : Int) := ⟨_, rfl⟩
          rw [← hE] at HT
          rw [← hE, ← hc1, ← hc2] at hgi
          have HL1 := Lib.hid hc1
          have HL2 := Lib.hid hc2
          have HLG := Lib.hid (show k < S.given.length by rw [HI.out.gl]; exact HK.out)
          have HNO := Lib.hid (fun h : c1 = false => give_no HI.out HK.out (by rw [← hc1]; exact h))
          have HYE := Lib.hid (fun h : c1 = true => give_yes HI.out HK.out (by rw [← hc1]; exact h))
          clear g1 g2 hE hc1 hc2
          cases c1 with
          | false =>
            have hE0 : ¬ E = 0 := by simpa using hgi
            have HGV := Lib.hid (HNO.out rfl)
            clear hgi HNO HYE
            rcases hr with rfl | rfl | rfl
            all_goals
              go_wp2_with fail
              refine HT.out.mono ?_
              rintro e w3 ⟨rfl, hs⟩
              have hlook := hs.had.look (x := (k : Int)) (by omega) (by omega)
              rw [← HL1.out] at hlook
              have HS3 := Lib.hid hs
              clear hs
              go_wp2_with fail
              go_meet
              refine ⟨tb, gb, S.give (k : Int), rfl, rfl, ?_, HGI.out⟩
              rw [HG1.out, HG2.out, HGV.out]
              exact HS3.out.mono (by omega)
          | true =>
            have HGV := Lib.hid (HYE.out rfl)
            clear HNO HYE
            cases c2 with
            | true =>
              have hE0 : ¬ E = 0 := by simpa using hgi
              clear hgi
              rcases hr with rfl | rfl | rfl
              all_goals
                go_wp2_with fail
                refine HT.out.mono ?_
                rintro e w3 ⟨rfl, hs⟩
                have hlook := hs.had.look (x := (k : Int)) (by omega) (by omega)
                have hlook2 := hs.given.look (x := (k : Int)) (by omega) (by omega)
                rw [← HL1.out] at hlook
                rw [← HL2.out] at hlook2
                have HS3 := Lib.hid hs
                clear hs
                go_wp2_with (at_mapUpdate; refine wpList_putB rfl _ _ _ rfl rfl HS3.out.given (by have := HC.out; omega) k HLG.out (by have := HK.out; omega) rfl rfl ?_)
                intro w4 hm4 hg4
                have HS4 := Lib.hid (HS3.out.putG hg4 (Nat.le_succ _) hm4)
                clear hm4 hg4 hlook hlook2
                go_wp2_with fail
                go_meet
                refine ⟨tb, gb, S.give (k : Int), rfl, rfl, ?_, HGI.out⟩
                rw [HG1.out, HG2.out, HGV.out]
                exact HS4.out.mono (by omega)
            | false =>
              have hE0 : E = 0 := by simpa using hgi
              clear hgi
              subst hE0
              rcases hr with rfl | rfl | rfl
              all_goals
                go_wp2_with fail
                refine HT.out.mono ?_
                rintro e w3 ⟨rfl, hs⟩
                have hlook := hs.had.look (x := (k : Int)) (by omega) (by omega)
                have hlook2 := hs.given.look (x := (k : Int)) (by omega) (by omega)
                rw [← HL1.out] at hlook
                rw [← HL2.out] at hlook2
                have HS3 := Lib.hid hs
                clear hs
                go_wp2_with (at_mapUpdate; refine wpList_putB rfl _ _ _ rfl rfl HS3.out.given (by have := HC.out; omega) k HLG.out (by have := HK.out; omega) rfl rfl ?_)
                intro w4 hm4 hg4
                have HS4 := Lib.hid (HS3.out.putG hg4 (Nat.le_succ _) hm4)
                clear hm4 hg4 hlook hlook2
                go_wp2_with fail
                go_meet
                refine ⟨tb, gb, S.give (k : Int), rfl, rfl, ?_, HGI.out⟩
                rw [HG1.out, HG2.out, HGV.out]
                exact HS4.out.mono (by omega)
        · -- settle
          have HT := Lib.hid (HS.out.call (fun R hT h => settle_any _ hT h))
          obtain ⟨q1, q2, q3, q4⟩ := settle_inv HI.out
          have HQ := Lib.hid (And.intro q1 (And.intro q2 (And.intro q3 q4)))
          have HLN := Lib.hid (show (hadL S).length = S.given.length by rw [hadL_length, HI.out.len, HI.out.gl])
          have HL9 := Lib.hid (HI.out.gl)
          clear q1 q2 q3 q4
          go_wp2_with fail
          refine HT.out.mono ?_
          rintro e w3 ⟨rfl, hs⟩
          have HS3 := Lib.hid hs
          clear hs
          go_wp2_with (at_range; refine wpList_rangeB rfl _ rfl rfl HS3.out.given HLN.out ?_)
          intro w4 left0 cnt0 hrb hrem hbel hsz
          have HL := Lib.hid (Lp.startG HS3.out hrb hbel)
          have HR := Lib.hid hrem
          obtain ⟨rr, hrr⟩ : ∃ rr, rr = w3.heap.size := ⟨_, rfl⟩
          rw [← hrr] at HL ⊢
          clear hrb hrem hbel hsz hrr
          go_wp2_with fail
          go_loopw [14] (fun _ wr => ∃ (left : Lit → Bool) (cnt : Nat), Lp w p hb0 gb rr (2 * c) S.settle (remL (hadL S) S.given left) S.given left cnt wr) (fun _ wr => wr.rangeLeft gb rr)
          case atStart => exact ⟨left0, cnt0, by rw [HR.out]; exact HL.out⟩
          case round =>
            obtain ⟨left, cnt, hl⟩ := hrel
            clear HL HR HS3
            have HL := Lib.hid hl
            clear hl
            go_wp2_with (at_next; refine wpList_nextB rfl _ rfl rfl HL.out.rb HLN.out ?_ ?_)
            · intro hrem _
              have HR := Lib.hid hrem
              have hmm := HMM.out
              clear hrem
              go_wp2_with fail
              go_meet
              refine ⟨_, _, S.settle, rfl, rfl, ?_, HQ.out.1⟩
              have hz := HL.out.anew 9
              rw [HR.out] at hz
              rw [HQ.out.2.1, HQ.out.2.2.1, HQ.out.2.2.2]
              exact hz.mono (by omega)
            · intro k2 w5 left' cnt' hk2 hrem hrb hlt hg hs5 hen
              have hL5 := HL.out.step hg hrb
              have HL5 := Lib.hid hL5
              have HR := Lib.hid hrem
              have HLT := Lib.hid hlt
              have HK2 := Lib.hid hk2
              have HRB := Lib.hid hrb
              clear hL5 hrem hlt hk2 hrb hg hs5
              go_wp2_with (at_delete; refine wpList_delB rfl _ _ rfl rfl HL5.out.had k2 (by rw [remL_length, HLN.out]; exact HK2.out) (by have := HK2.out; have := HL9.out; omega) rfl ?_)
              intro w6 hm6 hg6
              have HL6 := Lib.hid (HL5.out.del hg6 hm6)
              clear hm6 hg6 hen
              try go_frame
              go_roundw
              case rel => exact ⟨_, _, _, _, _, _, _, ⟨left', cnt', by rw [HR.out]; exact HL6.out⟩, rfl⟩
              case measure => rw [HL6.out.left, ← HRB.out.left]; exact HLT.out
        · -- undo
          have HT := Lib.hid (HS.out.call (fun R hT h => undo_any _ hT h))
          obtain ⟨q1, q2, q3, q4⟩ := undo_inv HI.out
          have HQ := Lib.hid (And.intro q1 (And.intro q2 (And.intro q3 q4)))
          have HLN := Lib.hid (show (hadL S).length = S.taken.length by rw [hadL_length, HI.out.len, HI.out.tl])
          have HL9 := Lib.hid (HI.out.tl)
          clear q1 q2 q3 q4
          go_wp2_with fail
          refine HT.out.mono ?_
          rintro e w3 ⟨rfl, hs⟩
          have HS3 := Lib.hid hs
          clear hs
          go_wp2_with (at_range; refine wpList_rangeB rfl _ rfl rfl HS3.out.taken HLN.out ?_)
          intro w4 left0 cnt0 hrb hrem hbel hsz
          have HL := Lib.hid (Lp.startT HS3.out hrb hbel)
          have HR := Lib.hid hrem
          obtain ⟨rr, hrr⟩ : ∃ rr, rr = w3.heap.size := ⟨_, rfl⟩
          rw [← hrr] at HL ⊢
          clear hrb hrem hbel hsz hrr
          go_wp2_with fail
          go_loopw [15] (fun _ wr => ∃ (left : Lit → Bool) (cnt : Nat), Lp w p hb0 tb rr (2 * c) S.undo (remL (hadL S) S.taken left) S.taken left cnt wr) (fun _ wr => wr.rangeLeft tb rr)
          case atStart => exact ⟨left0, cnt0, by rw [HR.out]; exact HL.out⟩
          case round =>
            obtain ⟨left, cnt, hl⟩ := hrel
            clear HL HR HS3
            have HL := Lib.hid hl
            clear hl
            go_wp2_with (at_next; refine wpList_nextB rfl _ rfl rfl HL.out.rb HLN.out ?_ ?_)
            · intro hrem _
              have HR := Lib.hid hrem
              have hmm := HMM.out
              clear hrem
              go_wp2_with fail
              go_meet
              refine ⟨_, _, S.undo, rfl, rfl, ?_, HQ.out.1⟩
              have hz := HL.out.anew 9
              rw [HR.out] at hz
              rw [HQ.out.2.1, HQ.out.2.2.1, HQ.out.2.2.2]
              exact hz.mono (by omega)
            · intro k2 w5 left' cnt' hk2 hrem hrb hlt hg hs5 hen
              have hL5 := HL.out.step hg hrb
              have HL5 := Lib.hid hL5
              have HR := Lib.hid hrem
              have HLT := Lib.hid hlt
              have HK2 := Lib.hid hk2
              have HRB := Lib.hid hrb
              clear hL5 hrem hlt hk2 hrb hg hs5
              go_wp2_with (at_delete; refine wpList_delB rfl _ _ rfl rfl HL5.out.had k2 (by rw [remL_length, HLN.out]; exact HK2.out) (by have := HK2.out; have := HL9.out; omega) rfl ?_)
              intro w6 hm6 hg6
              have HL6 := Lib.hid (HL5.out.del hg6 hm6)
              clear hm6 hg6 hen
              try go_frame
              go_roundw
              case rel => exact ⟨_, _, _, _, _, _, _, ⟨left', cnt', by rw [HR.out]; exact HL6.out⟩, rfl⟩
              case measure => rw [HL6.out.left, ← HRB.out.left]; exact HLT.out
      case rest =>
        obtain ⟨tb', gb', S', rfl, rfl, hst, hinv⟩ := hcut
        clear HS HI hz hwy ht1 ht2 ht3 hry hky hy0 hy1
        have HF := Lib.hid (had_cnt hinv)
        have hF9 : cntL (hadL S') ≤ 9 := by have := cnt_le (hadL S'); rw [hadL_length, hinv.len] at this; exact this
        obtain ⟨F, hF⟩ : ∃ F, F = cntL (hadL S') := ⟨_, rfl⟩
        rw [← hF] at HF hF9
        have HFF := Lib.hid hF
        have HT := Lib.hid (hst.calm (fun R _ h => free_any _ h))
        rw [HF.out] at HT
        have HI := Lib.hid hinv
        clear hst hinv hF
        go_wp2_with fail
        refine HT.out.mono ?_
        rintro e w3 ⟨rfl, hs⟩
        have hlen : ∀ ty, (Builtin.len_ #[55] ty #[.map (some hb0)]).run Tryd.prog w3 = .ok (.int .i64 (F : Nat)) w3 := fun ty => by rw [HFF.out]; exact hs.had.len ty
        have HS3 := Lib.hid hs
        clear hs
        go_wp2_with fail
        go_roundw
        case rel => exact ⟨c + 1, tb', gb', S', by omega, by go_num, rfl, rfl, HS3.out, HI.out⟩
        case measure => simp [intOf]; omega
    · have HB := Lib.hid hst.bel
      clear hst hinv
      go_wp2_with fail
      go_ret
      exact ⟨rfl, HB.out⟩

set_option maxRecDepth 100000 in
theorem contract (H : Type) (enc : TypeId × Value → H) (W : World) (base : Nat) (args : Array Value) (ds gs : List (DataW H)) (before : List MemPlace)
    (hval0 : ∀ (j : Nat) t v, Tryd.f5.params[j]? = some t → args[j]? = some v → Value.okWide Tryd.prog W .any base t v)
    (hW : DataW.Whole enc Tryd.prog Tryd.f5.params.toList Rows.spaceOnceSpec.vars false W args.toList ds gs before)
    (hlm : laidMet Tryd.prog Rows.spaceOnceRow.laid W) :
    Calls Tryd.prog 5 args W fun e W' => ∃ v, e = .returned v ∧ Rows.spaceOnceSpec.post enc Tryd.prog Tryd.f5 false true false false W args v W' := by
  have hval : ∀ (j : Nat) t v, Tryd.f5.params[j]? = some t → args[j]? = some v → Value.okWide Tryd.prog W .any base t v := hval0
  have hW' := hW
  obtain ⟨p, q, hA0, hV, rfl, hfz, hnd⟩ := hW
  have hA : DataW.TrodAll enc Tryd.prog W 0 (fun _ => true) true Tryd.f5.params.toList args.toList ds p := hA0
  rw [Tryd.params5] at hA hval
  obtain ⟨v0, vs0, d0, ds0, p0, q0, hargs, rfl, rfl, h0, r0⟩ := trodAll_cons hA
  obtain ⟨rfl, rfl, rfl⟩ := trodAll_nil r0
  obtain rfl : args = #[v0] := by cases args; simp_all
  obtain ⟨rfl, rfl⟩ := trodVars_none hV
  have k0 := h0
  have lt0 : ∀ x ∈ p0, x.block < W.heap.size := by obtain ⟨m, hm⟩ := k0; exact DataW.trod_lt m _ _ _ hm
  obtain ⟨a0', l0', c0', rfl⟩ := okWide_slice Tryd.underlying54 (hval 0 54 v0 rfl rfl)
  obtain ⟨a0, a0l, a0c, a0z, he0, w0, w0l, w0m, w0w⟩ := open_ints_cell (c := .slice a0' l0' c0') Tryd.underlying54 Tryd.underlying5 (by kernel_rfl) (by obtain ⟨m, hm⟩ := h0; exact ⟨m, _, hm⟩)
  simp only [Value.slice.injEq] at he0
  obtain ⟨rfl, rfl, rfl⟩ := he0
  clear hA0 hval0
  refine (walk a0' l0' c0' a0z W w0 w0l w0m w0w (Bit.tz_of hlm)).mono fun e W' ⟨he, bel⟩ => ?_
  subst he
  exact ⟨_, rfl, _, _, _, [], _, [], hW', trodAll_mk1 (shut_bool Tryd.underlying4 _), (trodAll_cons_mk (Below.trod laidOut (by kernel_rfl) (of_decide_eq_true (by kernel_rfl)) k0 bel lt0) trodAll_mk0), rfl, bel.frame _, fun h => by cases h⟩

noncomputable def laidWorld (os : Os) : World :=
  { World.holding Tryd.prog os ⟨#[], #[], []⟩ with heap := (((World.holding Tryd.prog os ⟨#[], #[], []⟩).heap).modify 0 fun | .cells _ t frozen => .cells (#[.int .u8 0, .int .u8 1, .int .u8 56, .int .u8 2, .int .u8 57, .int .u8 49, .int .u8 28, .int .u8 3, .int .u8 61, .int .u8 58, .int .u8 42, .int .u8 50, .int .u8 38, .int .u8 29, .int .u8 17, .int .u8 4, .int .u8 62, .int .u8 47, .int .u8 59, .int .u8 36, .int .u8 45, .int .u8 43, .int .u8 51, .int .u8 22, .int .u8 53, .int .u8 39, .int .u8 33, .int .u8 30, .int .u8 24, .int .u8 18, .int .u8 12, .int .u8 5, .int .u8 63, .int .u8 55, .int .u8 48, .int .u8 27, .int .u8 60, .int .u8 41, .int .u8 37, .int .u8 16, .int .u8 46, .int .u8 35, .int .u8 44, .int .u8 21, .int .u8 52, .int .u8 32, .int .u8 23, .int .u8 11, .int .u8 54, .int .u8 26, .int .u8 40, .int .u8 15, .int .u8 34, .int .u8 20, .int .u8 31, .int .u8 10, .int .u8 25, .int .u8 14, .int .u8 19, .int .u8 9, .int .u8 13, .int .u8 8, .int .u8 7, .int .u8 6]) t frozen | o => o) }
theorem laid_met (os : Os) : laidMet Tryd.prog Rows.spaceOnceRow.laid ((laidWorld os).forCall (fun _ _ => 0) ⟨#[], #[.slice none 0 0], []⟩).memory :=
  laidMet_of_run' 8 (by kernel_rfl) (by kernel_rfl)
theorem reads (os : Os) {H : Type} (enc : TypeId × Value → H) : ∃ places, DataW.whole enc Tryd.prog ((laidWorld os).forCall (fun _ _ => 0) ⟨#[], #[.slice none 0 0], []⟩).memory Tryd.f5.params.toList Rows.spaceOnceSpec.vars false (#[.slice none 0 0] : Array Value).toList 8 = some ([.nil], [], places) :=
  ⟨[], by kernel_rfl⟩

set_option maxRecDepth 100000 in
theorem lifted (os : Os) (started : os.Started) (H : Type) (enc : TypeId × Value → H) (F : Stop.Interp) :
    ReturnsInHanded {} Tryd.checked os 5 .any ((OpenSpec.ofChange Rows.spaceOnceSpec).preRow enc Tryd.prog Tryd.f5 Rows.spaceOnceRow.domain false Rows.spaceOnceRow.laid) (((OpenSpec.ofChange Rows.spaceOnceSpec).at F).post enc Tryd.prog Tryd.f5 false true false false) := by
  obtain ⟨places, hx⟩ := reads os enc
  refine returnsInHanded_of_row (C := Tryd.checked) (s := OpenSpec.ofChange Rows.spaceOnceSpec) own started (by kernel_rfl) Tryd.func5
    (witness_row_at (enc := enc) (C := Tryd.checked) false (laidWorld os) #[.slice none 0 0] rfl (by kernel_rfl) (by kernel_rfl) (by kernel_rfl)
      (OpenSpec.preRow_of_cond 8 hx (by kernel_rfl) (fun k hk => by cases hk) (by kernel_rfl) (laid_met os))) ?_
  intro W base args ds gs before hval hW _ _ _ hL _ _
  exact contract H enc W base args ds gs before hval hW hL

theorem said : Rows.SpaceOnceSaid :=
  OpenClaim.holds_of_cond 5 Tryd.f5 rfl rfl rfl rfl rfl rfl rfl ⟨rfl, rfl, rfl, rfl, rfl⟩ rfl rfl rfl rfl rfl (by kernel_rfl) Tryd.func5 (by kernel_rfl)
    (of_decide_eq_true (by kernel_rfl)) (by unfold Func.isWrapper; first | (rw [if_pos (by decide +kernel)]; kernel_rfl) | (rw [if_neg (by decide +kernel)]; exact ⟨rfl, rfl⟩))
    (fun os started H enc _ F => by rw [OpenClaim.pre_eq_preRow]; exact lifted os started H enc F)

theorem plain (f : FuncId) (fn : Func) (hf : Tryd.pinned.checked.prog.funcNamed "treenail/treenaillaw10.SpaceOnce" = some f) (hfn : Tryd.pinned.checked.prog.funcs[f]? = some fn) :
    false = Tryd.pinned.checked.prog.looks [] ∧ ∀ (j : Nat) t, fn.params[j]? = some t → Tryd.pinned.checked.prog.wantsStandIn t = false := by
  obtain rfl : f = 5 := Option.some.inj ((show Tryd.prog.funcNamed "treenail/treenaillaw10.SpaceOnce" = some 5 by kernel_rfl).symm.trans hf) |>.symm
  obtain rfl : fn = Tryd.f5 := (Option.some.inj (Tryd.func5.symm.trans hfn)).symm
  refine ⟨by kernel_rfl, fun j t ht => ?_⟩
  rw [Tryd.params5] at ht
  rcases j with _ | j
  · obtain rfl : t = 54 := by simpa using ht.symm
    exact (show Tryd.prog.wantsStandIn 54 = false by kernel_rfl)
  · simp at ht

/-- THE STATEMENT -/
theorem proved : Rows.SpaceOnceCardSaid :=
  Claim7.holds_tied_plain_at .later [] _ _ _ _ said (fun _ h => by cases h) (by kernel_rfl) (fun _ h => by cases h) spaceOnce_row_tie rfl ⟨rfl, rfl⟩ (by kernel_rfl) rfl plain (by kernel_rfl)
#print axioms proved
end Go.Proofs.YtkflccecdjfkiaaDoor.spaceOnce
