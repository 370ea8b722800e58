/-
  The law MirrorLost holds: with one device gone all reads and writes go on; with both there is an error, and nothing else. Conditions: none but the row's own.
-/
import Derived.Test.YtcjfooikmaipdaaGreatDoorRows
import Derived.Test.YtcjfooikmaipdaaGreatDoorK14
import Derived.Test.YtcjfooikmaipdaaGreatDoorCards
import Derived.Test.YtcjfooikmaipdaaGreatDoorTie
import Derived.Test.YtcjfooikmaipdaaGreatDoorK13
import Derived.WalkKit
import Derived.ProofKit
import Derived.OpenShut
import Derived.ShutString
import Derived.ChangeOld
import Derived.Below
import Derived.Carry
import Derived.Deep.DeepHandedRow
import Derived.Lib.LaidTab
namespace Go.Proofs.YtcjfooikmaipdaaGreatDoor.mirrorLost
open Go.ChangeShapes Go.WideShapes Go.ChangeAt Go.RowKit
open Go.Proofs.YtcjfooikmaipdaaGreatDoor
open Go.ChangeMaps (open_string shut_string)
set_option linter.unusedVariables false

theorem own : ownKnob Tryz.prog.godebug = none := by kernel_rfl
theorem laidOut : laidOutB Tryz.prog = true := by kernel_rfl


open Go.Proofs.YtcjfooikmaipdaaGreatDoor.Mir Go.Proofs.YtcjfooikmaipdaaGreatDoor.Rem Go.Proofs.YtcjfooikmaipdaaGreatDoor.Dev Go.Maps
/-- which sides are gone, ahead of the round c -/
def gOf (k f c : Nat) : Nat → Bool := if f < c then upd noG k true else noG
theorem gOf_al {k f c : Nat} (hk : k < 2) : al (gOf k f c) ≠ [] := by
  unfold gOf
  rcases (show k = 0 ∨ k = 1 by omega) with rfl | rfl <;> split <;> decide
theorem gOf_len {k f c : Nat} (hk : k < 2) : decide ((al (gOf k f c)).length < 2) = decide (f < c) := by
  unfold gOf
  rcases (show k = 0 ∨ k = 1 by omega) with rfl | rfl <;> by_cases h : f < c <;> simp [h] <;> decide
theorem al_two {G : Nat → Bool} : al (upd (upd G 0 true) 1 true) = [] := by
  unfold al
  simp [upd]

/-! ### STEP 1: THE WALK -/
set_option maxHeartbeats 8000000 in
set_option maxRecDepth 100000 in
theorem walk (a0 : Option Addr) (a0l a0c : Nat) (a0z : List Int) (a1 : Bool) (a2 : Int) (w : World) (w0 : Row .u16 w a0 a0l a0z) (w0l : a0l ≤ a0c) (w0m : a0c ≤ maxLen) (w0w : ∀ n ∈ a0z, (Lit.int .u16 n).wf = true) (w2 : (Lit.int .u8 a2).wf = true) :
    Calls Tryz.prog 5 #[.slice a0 a0l a0c, .bool a1, .int .u8 a2] w fun e w' => e = .returned (.bool true) ∧ Below w.heap.size w w' := by
  obtain ⟨hr0, hlc0, hcm0, hwf0, hw2⟩ := And.intro w0 (And.intro w0l (And.intro w0m (And.intro w0w w2)))
  have R0 := Lib.hid hr0
  have WF := Lib.hid hwf0
  have HLZ := Lib.hid hr0.len_eq
  have hb2 := bounds_u8 hw2
  clear hr0 hwf0 w0 w2 w0w hw2
  unfold maxLen at hcm0
  obtain ⟨f, rfl⟩ : ∃ f : Nat, a2 = f := ⟨a2.toNat, by omega⟩
  have hmm := @run_makeMap Tryz.prog
  obtain ⟨tx, htx⟩ : ∃ t : ByteArray, t = ⟨#[120]⟩ := ⟨_, rfl⟩
  have HTX := Lib.hid htx
  have HTS := Lib.hid (show tx.size = 1 by rw [htx]; rfl)
  clear htx
  go_enter Tryz.func5, Tryz.ntmps5
  go_wp2_with fail
  refine (fresh_any w).mono ?_
  rintro e w1 ⟨pa, pb, mi, tb, bb, q, S, rfl, hm, h0, h1⟩
  have HPL := Lib.hid (Pl.new h0 h1)
  have HD := Lib.hid (Has.new w1 [.pointer (some ⟨pa, 0, none⟩), .pointer (some ⟨pb, 0, none⟩)] 25)
  have HM := Lib.hid (hm.new (.cells #[.pointer (some ⟨pa, 0, none⟩), .pointer (some ⟨pb, 0, none⟩)] 25))
  clear hm h0 h1
  obtain ⟨u, hu⟩ : ∃ u, u = w1.heap.size := ⟨_, rfl⟩
  rw [← hu] at HD HM
  go_wp2_with fail
  rw [← hu]
  refine (wakes_any _).mono ?_
  rintro e w2 ⟨rfl, hb⟩
  have HM2 := Lib.hid (HM.out.later hb)
  have HD2 := Lib.hid (HD.out.below hb HD.out.lt)
  clear hb HM HD hu
  go_upto_if 41 with fail
  go_cut [10] (fun x wx => ∃ s : Nat, s < 2 ∧ x = .int .i64 s ∧ wx = w2)
  case first =>
    cases a1 with
    | false =>
      go_wp2_with fail
      go_meet
      exact ⟨0, by omega, rfl, rfl⟩
    | true =>
      go_wp2_with fail
      go_meet
      exact ⟨1, by omega, rfl, rfl⟩
  case rest =>
    obtain ⟨k, hk, rfl, rfl⟩ := hcut
    have HK := Lib.hid hk
    go_wp2_with fail
    refine (Sum.make_any _).mono ?_
    rintro e w3 ⟨tt, rfl, htb, htab, hb⟩
    have HM3 := Lib.hid ((HM2.out.fresh hb htb (isTab_lt htab)).new (.map #[] 0))
    have HD3 := Lib.hid ((HD2.out.below hb HD2.out.lt).alloc (.map #[] 0))
    have HT3 := Lib.hid (htab.below (Tab.b_new w3 (.map #[] 0)) (Nat.le_refl _))
    have HMP := Lib.hid (World.ownsMap_made (H := Unit) w3 Tryz.prog 3 ptrRd)
    have HUZ := Lib.hid (show u < w3.heap.size from Nat.lt_of_lt_of_le HD2.out.lt hb.size)
    obtain ⟨mb, hmb⟩ : ∃ b, b = w3.heap.size := ⟨_, rfl⟩
    rw [← hmb] at HM3 HMP HUZ
    obtain ⟨mm, hm⟩ : ∃ mm, mm = min a0l 30 := ⟨_, rfl⟩
    have hmin : ∀ W ts, (Builtin.min_ ts 3 #[.int .i64 (a0l : Nat), .int .i64 30]).run Tryz.prog W = .ok (.int .i64 (mm : Int)) W := by
      intro W ts; rw [hm]; exact run_minC _ _ _ _ a0l 30
    have hml : mm ≤ a0l := by omega
    have hml' : mm ≤ a0c := by omega
    have hm30 : mm ≤ 30 := by omega
    clear htb htab hb HM2 HD2 hm
    go_wp2_with fail
    rw [← hmb]
    clear hmin hmb
    go_loopw [51] (fun i wr => ∃ (c n cc : Nat) (S : Nat → Sd) (D : DataW Unit), c ≤ mm ∧ i = .int .i64 c ∧ n ≤ c ∧ cc ≤ 4 + 200 * c ∧ NoBad S ∧ Kn (fun _ t => t = tx) S (gOf k f c) c D ∧ wr.ownsMap Tryz.prog 3 ptrRd mb n D ∧ Sum.IsTab wr tt ∧ Has wr u 25 [.pointer (some ⟨pa, 0, none⟩), .pointer (some ⟨pb, 0, none⟩)] ∧ MG w [tt, mb, u] mi tb bb q (pdOf pa pb) S (gOf k f c) cc 0 wr) (fun i _ => mm - (intOf i).toNat)
    case atStart =>
      refine ⟨0, 0, 4, S, _, by omega, rfl, by omega, by omega, HPL.out.nb, ?_, HMP.out, HT3.out, HD3.out, ?_⟩
      · exact Kn.start
      · exact HM3.out.sub (fun k hk => by simp at hk ⊢; rcases hk with rfl | rfl | rfl <;> simp)
    case round =>
      obtain ⟨c, n, cc, S, D, hc, rfl, hn, hcc, hnb, hkn, hmp, ht, hd, hmg⟩ := hrel
      clear HM3 HD3 HT3 HMP HPL
      have HNB := Lib.hid hnb
      have HKN := Lib.hid hkn
      have HMP := Lib.hid hmp
      have HT := Lib.hid ht
      have HD := Lib.hid hd
      have HM := Lib.hid hmg
      have hbw := hmg.below
      clear hnb hkn hmp ht hd hmg
      by_cases hlt : c < mm
      · obtain ⟨zb, zo, rfl, hcell⟩ := (R0.out.below hbw (Nat.le_refl _)).at_ (by omega)
        have hz := hcell c (by omega)
        obtain ⟨y, hy⟩ : ∃ y, y = a0z.getD c 0 := ⟨_, rfl⟩
        have hyb : 0 ≤ y ∧ y ≤ 65535 := by
          have := bounds_u16 (WF.out y (by rw [hy, List.getD_eq_getElem?_getD, List.getElem?_eq_getElem (by rw [HLZ.out]; omega)]; exact List.getElem_mem _))
          omega
        rw [← hy] at hz
        obtain ⟨x, hx⟩ : ∃ x : Nat, (x : Int) = y % 14 := ⟨(y % 14).toNat, by omega⟩
        have hx14 : x < 14 := by omega
        have hwy : IntKind.i64.wrap y = y := IntWalk.i64_in _ (by omega)
        have hmod : Int.tmod y 14 = (x : Int) := by rw [Int.tmod_eq_emod_of_nonneg hyb.1, hx]
        have hmod' : y % 14 = (x : Int) := hx.symm
        obtain ⟨hy0, hy1⟩ := hyb
        clear hcell hy hx hbw
        have HG2 := Lib.hid (show f < c ∨ f = c ∨ c < f by omega)
        go_upto_if 59 with fail
        go_cut [] (fun wx => wx.ownsMap Tryz.prog 3 ptrRd mb n D ∧ Sum.IsTab wx tt ∧ Has wx u 25 [.pointer (some ⟨pa, 0, none⟩), .pointer (some ⟨pb, 0, none⟩)] ∧ MG w [tt, mb, u] mi tb bb q (pdOf pa pb) S (gOf k f (c + 1)) cc 0 wx)
        case first =>
          by_cases he : c = f
          · have he' : (c : Int) = (f : Int) := by omega
            have heq : ((c : Int) == (f : Int)) = true := by simpa using he'
            have HE := Lib.hid he
            clear he he'
            have hd := HD.out
            have d0 : wr.cell? ⟨u, k, none⟩ = some (.pointer (some ⟨pdOf pa pb k, 0, none⟩)) := by
              rcases (show k = 0 ∨ k = 1 by have := HK.out; omega) with rfl | rfl
              · exact (hd.cell 0).trans rfl
              · exact (hd.cell 1).trans rfl
            clear hd
            go_wp2_with fail
            refine (kill_m HM.out HNB.out HK.out _ rfl).mono ?_
            rintro e w4 ⟨rfl, hm, hsm⟩
            have hG : upd (gOf k f c) k true = gOf k f (c + 1) := by
              unfold gOf
              have := HE.out
              rw [if_neg (by omega), if_pos (by omega)]
            rw [hG] at hm
            have HM4 := Lib.hid hm
            have HMP4 := Lib.hid (owns_keep8 HMP.out hsm (by simp))
            have HT4 := Lib.hid (Mir.tab_same HT.out (hsm tt (by simp)))
            have HD4 := Lib.hid (Has.same HD.out (hsm u (by simp)))
            clear hm hsm hG d0
            go_wp2_with fail
            go_meet
            exact ⟨HMP4.out, HT4.out, HD4.out, HM4.out⟩
          · have he' : ¬ (c : Int) = (f : Int) := by omega
            have heq : ((c : Int) == (f : Int)) = false := by simpa using he'
            clear he'
            have HM4 := Lib.hid (show MG w [tt, mb, u] mi tb bb q (pdOf pa pb) S (gOf k f (c + 1)) cc 0 wr by
              have : gOf k f (c + 1) = gOf k f c := by
                unfold gOf
                by_cases h : f < c
                · rw [if_pos h, if_pos (by omega)]
                · rw [if_neg h, if_neg (by omega)]
              rw [this]; exact HM.out)
            go_wp2_with fail
            go_meet
            exact ⟨HMP.out, HT.out, HD.out, HM4.out⟩
        case rest =>
          obtain ⟨hmp, ht, hd, hmg⟩ := hcut
          have HKN1 := Lib.hid (show Kn (fun _ t => t = tx) S (gOf k f (c + 1)) c D from HKN.out.go (Nat.le_refl _) fun s b hs hb hG => by
            have : gOf k f c s = false := by
              unfold gOf at hG ⊢
              by_cases h : f < c
              · rw [if_pos (by omega)] at hG; rw [if_pos h]; exact hG
              · rw [if_neg h]; rfl
            exact ⟨this, by unfold cont; rw [hG, this]⟩)
          clear HMP HT HD HM HKN
          have HMP := Lib.hid hmp
          have HT := Lib.hid ht
          have HD := Lib.hid hd
          have HM := Lib.hid hmg
          obtain ⟨G, hG⟩ : ∃ G, G = gOf k f (c + 1) := ⟨_, rfl⟩
          rw [← hG] at HM HKN1
          have HAL := Lib.hid (show al G ≠ [] by rw [hG]; exact gOf_al HK.out)
          have HGG := Lib.hid hG
          have HLS := Lib.hid (show lsE G = 0 by unfold lsE; rw [if_neg (by rw [hG]; exact gOf_al HK.out)])
          have hc30 : c < 30 := by omega
          have hok : Okay (x : Nat) (c : Nat) tx := ⟨by omega, by omega, by omega, by omega, by rw [HTS.out]; omega⟩
          have HOK := Lib.hid hok
          obtain ⟨T, hT⟩ : ∃ T, T = imT (x : Nat) (c : Nat) tx := ⟨_, rfl⟩
          obtain ⟨K, hK⟩ : ∃ K, K = ckT (x : Nat) (c : Nat) tx := ⟨_, rfl⟩
          have HTT := Lib.hid hT
          have HKK := Lib.hid hK
          have HTZ := Lib.hid (show T.size = 128 by rw [hT]; exact hok.size)
          clear hmp ht hd hmg hG hok hT hK
          go_wp2_with fail
          rw [show (⟨#[120]⟩ : ByteArray) = tx from HTX.out.symm]
          refine (sealed_any tt (x : Nat) (c : Nat) tx _ HT.out HOK.out).mono ?_
          rintro e w5 ⟨rfl, hb⟩
          rw [← HTT.out, ← HKK.out]
          have HM5 := Lib.hid ((HM.out.later hb).new (.cells #[.int .i64 (x : Nat), .int .u64 (c : Nat), .int .u32 K] 35))
          have HD5 := Lib.hid ((HD.out.below hb HD.out.lt).alloc (.cells #[.int .i64 (x : Nat), .int .u64 (c : Nat), .int .u32 K] 35))
          have HT5 := Lib.hid ((HT.out.below hb (Nat.le_refl _)).below (Tab.b_new w5 (.cells #[.int .i64 (x : Nat), .int .u64 (c : Nat), .int .u32 K] 35)) (Nat.le_refl _))
          have HMP5 := Lib.hid (owns_on8 (owns_on8 HMP.out hb) (Tab.b_new w5 (.cells #[.int .i64 (x : Nat), .int .u64 (c : Nat), .int .u32 K] 35)))
          have HV5 := Lib.hid (Has.new w5 [.int .i64 (x : Nat), .int .u64 (c : Nat), .int .u32 K] 35)
          obtain ⟨v, hv⟩ : ∃ v, v = w5.heap.size := ⟨_, rfl⟩
          rw [← hv] at HM5 HV5
          clear hb HM HD HT HMP
          go_wp2_with fail
          rw [← hv]
          clear hv
          refine (Write_m HM5.out HNB.out (b := x) hx14 HTZ.out (by omega)).mono ?_
          rintro e w6 ⟨S1, rfl, hst, hm, hsm⟩
          rw [HLS.out]
          have HNB6 := Lib.hid (hst.nb HNB.out)
          have HKN6 := Lib.hid (show Kn (fun _ t => t = tx) S1 G (c + 1) (D.put (.int .i64 (x : Nat)) (PV (x : Nat) (c : Nat) K)) by
            rw [HKK.out]
            rw [HTT.out] at hst
            exact HKN1.out.wrote HNB.out HM5.out.good hx14 (by rw [HTS.out]; omega) hst rfl (fun z u hz h => h))
          have HM6 := Lib.hid hm
          have HD6 := Lib.hid (Has.same HD5.out (hsm u (by simp)))
          have HT6 := Lib.hid (Mir.tab_same HT5.out (hsm tt (by simp)))
          have HMP6 := Lib.hid (owns_keep8 HMP5.out hsm (by simp))
          have HV6 := Lib.hid (Has.same HV5.out (hsm v (by simp)))
          clear hst hm hsm HM5 HD5 HT5 HMP5 HV5 HKN1
          go_wp2_with fail
          refine (Flush_m HM6.out (by omega)).mono ?_
          rintro e w7 ⟨rfl, hm, hsm⟩
          rw [HLS.out]
          have HM7 := Lib.hid hm
          have HD7 := Lib.hid (Has.same HD6.out (hsm u (by simp)))
          have HT7 := Lib.hid (Mir.tab_same HT6.out (hsm tt (by simp)))
          have HMP7 := Lib.hid (owns_keep8 HMP6.out hsm (by simp))
          have hv7 := Has.same HV6.out (hsm v (by simp))
          have x0 := hv7.cell 0
          have x1 := hv7.cell 1
          have x2 := hv7.cell 2
          simp only [List.getElem?_cons_zero, List.getElem?_cons_succ] at x0 x1 x2
          have HNL := Lib.hid (show n < maxLen by unfold maxLen; omega)
          have HKY := Lib.hid (key_i (b := x) (by omega))
          clear hm hsm HM6 HD6 HT6 HMP6 HV6 hv7
          go_wp2_with (at_mapUpdate; refine wpList_mapUpdate_own _ rfl _ _ _ 65 rfl 3 35 keyI Tryz.underlying65 ptrRd mb n D rfl HMP7.out HNL.out _ _ (.int .i64 (x : Nat)) rfl rfl HKY.out (PV (x : Nat) (c : Nat) K) [] (ptrRd_mk _ _ _) ?_)
          intro w8 hown hgrow
          have HM8 := Lib.hid (HM7.out.grow hgrow (fun k hk => by cases hk; simp))
          have hne : ∀ k, k ≠ mb → k ∈ [v, tt, mb, u] → w8.heap[k]? = w7.heap[k]? := fun k h1 h2 => hgrow.block k (HM7.out.y k h2).2 (fun e => h1 (by cases e; rfl))
          have hmbu : u ≠ mb := fun e => by
            obtain ⟨es, clock, hb, _⟩ := HMP7.out
            have := HD7.out
            unfold Has at this
            rw [e, hb] at this; cases this
          have hmbt : tt ≠ mb := fun e => by
            obtain ⟨es, clock, hb, _⟩ := HMP7.out
            have := HT7.out 0 (by omega)
            unfold World.cell? at this
            rw [e, hb] at this; cases this
          have HD8 := Lib.hid (Has.same HD7.out (hne u hmbu (by simp)))
          have HT8 := Lib.hid (Mir.tab_same HT7.out (hne tt hmbt (by simp)))
          have HMP8 := Lib.hid hown
          obtain ⟨D1, hD1⟩ : ∃ D1, D1 = D.put (.int .i64 (x : Nat)) (PV (x : Nat) (c : Nat) K) := ⟨_, rfl⟩
          rw [← hD1] at HKN6 HMP8
          have HSZ := Lib.hid (show Maps.size D1 ≤ n + 1 from HMP8.out.size_le)
          clear hown hgrow hne hmbu hmbt hD1 HM7 HD7 HT7 HMP7 x0 x1 x2
          go_wp2_with (at_range; refine wpList_range_own _ rfl _ 65 rfl 3 35 keyI Tryz.underlying65 ptrRd mb (n + 1) D1 rfl HMP8.out ?_)
          intro w9 hrg hg hs0
          have HM9 := Lib.hid (HM8.out.fresh (below_grown hg) (Nat.le_refl _) (by omega))
          have HD9 := Lib.hid (HD8.out.below (below_grown hg) HD8.out.lt)
          have HT9 := Lib.hid (HT8.out.below (below_grown hg) (Nat.le_refl _))
          obtain ⟨r0, hr0⟩ : ∃ r, r = w8.heap.size := ⟨_, rfl⟩
          rw [← hr0] at hrg HM9
          try go_frame
          rw [← hr0]
          have HRG := Lib.hid hrg
          clear hrg hg hs0 hr0 HM8 HD8 HT8 HMP8
          go_wp2_with fail
          go_loopw [] (fun wr => ∃ (left : Lit → Bool) (cnt cc1 : Nat) (S2 : Nat → Sd), wr.ranges Tryz.prog 3 ptrRd mb r0 (n + 1) D1 left cnt ∧ (∀ z, left z = true → Maps.has D1 z = true) ∧ NoBad S2 ∧ Kn (fun _ t => t = tx) S2 G (c + 1) D1 ∧ cc1 + 4 * cnt ≤ cc + 8 + 4 * (n + 1) ∧ Sum.IsTab wr tt ∧ Has wr u 25 [.pointer (some ⟨pa, 0, none⟩), .pointer (some ⟨pb, 0, none⟩)] ∧ MG w [r0, tt, mb, u] mi tb bb q (pdOf pa pb) S2 G cc1 0 wr) (fun wr => wr.rangeLeft mb r0)
          case atStart => exact ⟨_, _, cc + 8, S1, HRG.out, fun z hz => hz, HNB6.out, HKN6.out, by have := HSZ.out; omega, HT9.out, HD9.out, HM9.out.sub (fun k hk => by simp at hk ⊢; rcases hk with rfl | rfl | rfl | rfl <;> simp)⟩
          case round =>
            obtain ⟨left, cnt, cc1, S2, hrg, hlf, hnb, hkn, hcc1, ht, hd, hmg⟩ := hrel
            clear HRG HM9 HD9 HT9 HNB6 HKN6
            have HRG := Lib.hid hrg
            have HLF := Lib.hid hlf
            have HNB2 := Lib.hid hnb
            have HKN2 := Lib.hid hkn
            have HT := Lib.hid ht
            have HD := Lib.hid hd
            have HM := Lib.hid hmg
            clear hrg hlf hnb hkn ht hd hmg
            go_wp2_with (at_next; refine wpList_next_ranges _ rfl _ rfl 3 keyI ptrRd (fun x : Value => x) ptrMk (fun key kl _ => ⟨key, rfl⟩) ptrRd_inv mb r0 (n + 1) D1 left cnt rfl HRG.out ?_ ?_)
            · intro hc0 hl0
              clear hc0 hl0
              have HDG := Lib.hid (show decide ((al G).length < 2) = decide (f < c + 1) by rw [HGG.out]; exact gOf_len HK.out)
              go_wp2_with fail
              refine (Degraded_m HM.out).mono ?_
              rintro e w11 ⟨rfl, hb⟩
              rw [HDG.out]
              have HM11 := Lib.hid ((HM.out.later hb).sub (Z := [tt, mb, u]) (fun k hk => by simp at hk ⊢; rcases hk with rfl | rfl | rfl <;> simp))
              have HT11 := Lib.hid (HT.out.below hb (Nat.le_refl _))
              have HD11 := Lib.hid (HD.out.below hb HD.out.lt)
              have HMP11 := Lib.hid (owns_on8 HRG.out.owns hb)
              clear hb HM HT HD HRG
              by_cases hfc : f < c + 1
              · have h1 : (f : Int) ≤ (c : Int) := by omega
                rw [decide_eq_true hfc]
                have HFC := Lib.hid hfc
                clear hfc
                go_wp2_with fail
                go_roundw
                case rel => exact ⟨c + 1, n + 1, cc1, S2, D1, by omega, by go_num, by omega, by omega, HNB2.out, by rw [← HGG.out]; exact HKN2.out, HMP11.out, HT11.out, HD11.out, by rw [← HGG.out]; exact HM11.out⟩
                case measure => simp [intOf]; omega
              · have h1 : ¬ (f : Int) ≤ (c : Int) := by omega
                rw [decide_eq_false hfc]
                have HFC := Lib.hid hfc
                clear hfc
                go_wp2_with fail
                go_roundw
                case rel => exact ⟨c + 1, n + 1, cc1, S2, D1, by omega, by go_num, by omega, by omega, HNB2.out, by rw [← HGG.out]; exact HKN2.out, HMP11.out, HT11.out, HD11.out, by rw [← HGG.out]; exact HM11.out⟩
                case measure => simp [intOf]; omega
            · intro kx c1 c2 c3 kl y1 y2 w10 cnt1 hkey hlk hR hat hrg1 hlt1 hg1 hgs hen
              obtain ⟨b, g, t, hb14, hg30, hkl, hkx, hFt, hts, hpv, hcont⟩ := HKN2.out.entry (c1 := (c1, c2, c3)) (y := (y1, y2)) (HLF.out kl hlk) hkey hR hat
              rw [hpv] at hen ⊢
              have hokb : Okay (b : Nat) (g : Nat) t := ⟨by omega, by omega, by omega, by omega, hts⟩
              have hmeet := hokb.meets
              obtain ⟨s, hF, hcT, hrd, hrp⟩ := fnd_all HAL.out hcont hmeet
              obtain ⟨Kb, hKb⟩ : ∃ Kb, Kb = ckT (b : Nat) (g : Nat) t := ⟨_, rfl⟩
              rw [← hKb] at hen hF ⊢
              have HM10 := Lib.hid ((HM.out.grow hg1 (fun k hk => by cases hk; simp)).new (.cells #[.int .i64 (b : Nat), .int .u64 (g : Nat), .int .u32 Kb] 35))
              have HT10 := Lib.hid ((tab_row HT.out hg1 (fun e => ranges_ne_tab HRG.out HT.out (by cases e; rfl))).below (Tab.b_new w10 (.cells #[.int .i64 (b : Nat), .int .u64 (g : Nat), .int .u32 Kb] 35)) (Nat.le_refl _))
              have HD10 := Lib.hid ((has_row HD.out hg1 (fun e => ranges_ne_has HRG.out HD.out (by cases e; rfl))).alloc (.cells #[.int .i64 (b : Nat), .int .u64 (g : Nat), .int .u32 Kb] 35))
              have HRG10 := Lib.hid (ranges_on8 hrg1 (Tab.b_new w10 (.cells #[.int .i64 (b : Nat), .int .u64 (g : Nat), .int .u32 Kb] 35)))
              have HOB := Lib.hid hokb
              have HFT := Lib.hid hFt
              have HRD := Lib.hid hrd
              have HRP := Lib.hid hrp
              have HLT := Lib.hid hlt1
              have HF := Lib.hid hF
              have HCT := Lib.hid hcT
              clear hkey hlk hR hat hrg1 hlt1 hg1 hgs hpv hokb hmeet hF hcT hrd hrp hKb hkl hkx hFt hcont HM HT HD
              go_wp2_with fail
              refine (Read_some HM10.out (b := b) hb14 (by omega) (by omega) (g : Nat) Kb HF.out HCT.out).mono ?_
              rintro e w11 ⟨S3, rfl, hst, hm, hsm⟩
              obtain ⟨o1, o2, o3, o4, o5, o6⟩ := HOB.out.o
              rw [o2, o6, HFT.out, HTX.out]
              rw [HRD.out] at hm
              have HKN3 := Lib.hid (HKN2.out.idle hst (fun s _ => HRP.out s))
              have HNB3 := Lib.hid (hst.nb HNB2.out)
              have HM11 := Lib.hid (hm.sub (Z := [r0, tt, mb, u]) (fun k hk => by simp at hk ⊢; rcases hk with rfl | rfl | rfl | rfl <;> simp))
              have HT11 := Lib.hid (Mir.tab_same HT10.out (hsm tt (by simp)))
              have HD11 := Lib.hid (Has.same HD10.out (hsm u (by simp)))
              have HRG11 := Lib.hid (ranges_keep8 HRG10.out hsm (by simp) (by simp))
              clear hst hm hsm o1 o2 o3 o4 o5 o6 HM10 HT10 HD10 HRG10 hen
              go_wp2_with fail
              go_roundw
              case rel => exact ⟨_, cnt1, cc1 + 4, S3, HRG11.out, fun z hz => HLF.out z (by simp at hz; exact hz.1), HNB3.out, HKN3.out, by have := HLT.out; omega, HT11.out, HD11.out, HM11.out⟩
              case measure => rw [HRG11.out.left_eq, HRG.out.left_eq]; exact HLT.out
      · have hcm : c = mm := by omega
        have d0 : wr.cell? ⟨u, 0, none⟩ = some (.pointer (some ⟨pa, 0, none⟩)) := (HD.out.cell 0).trans rfl
        have HCM := Lib.hid hcm
        have hnlt : ¬ (c : Int) < (mm : Int) := by omega
        clear hcm hlt
        go_wp2_with fail
        refine (kill_m HM.out HNB.out (s := 0) (by omega) pa rfl).mono ?_
        rintro e w4 ⟨rfl, hm, hsm⟩
        have HM4 := Lib.hid hm
        have HMP4 := Lib.hid (owns_keep8 HMP.out hsm (by simp))
        have hd4 := Has.same HD.out (hsm u (by simp))
        have d1 : w4.cell? ⟨u, 1, none⟩ = some (.pointer (some ⟨pb, 0, none⟩)) := (hd4.cell 1).trans rfl
        clear hm hsm hd4 d0 HM HMP HD HT hbw
        go_wp2_with fail
        refine (kill_m HM4.out HNB.out (s := 1) (by omega) pb rfl).mono ?_
        rintro e w5 ⟨rfl, hm, hsm⟩
        obtain ⟨G, hG⟩ : ∃ G, G = upd (upd (gOf k f c) 0 true) 1 true := ⟨_, rfl⟩
        rw [← hG] at hm
        have hal : al G = [] := by rw [hG]; exact al_two
        have HM5 := Lib.hid hm
        have HMP5 := Lib.hid (owns_keep8 HMP4.out hsm (by simp))
        have HKN5 := Lib.hid (show Kn (fun _ t => t = tx) S G c D from HKN.out.go (Nat.le_refl _) fun s b hs hb hGs => by
          exfalso
          have : s ∈ al G := al_mem.2 ⟨hs, hGs⟩
          rw [hal] at this; cases this)
        have HLR := Lib.hid (show lsR G = 8 by unfold lsR; rw [if_pos hal])
        have HLE := Lib.hid (show lsE G = 8 by unfold lsE; rw [if_pos hal])
        have HDG := Lib.hid (show decide ((al G).length < 2) = true by rw [hal]; rfl)
        have HFN := Lib.hid (show ∀ b g K, fnd S G b g K = none from fun b g K => by unfold fnd; rw [hal]; rfl)
        clear hm hsm hG hal d1 HM4 HMP4 HKN
        go_wp2_with (at_range; refine wpList_range_own _ rfl _ 65 rfl 3 35 keyI Tryz.underlying65 ptrRd mb n D rfl HMP5.out ?_)
        intro w9 hrg hg hs0
        have HM9 := Lib.hid (HM5.out.fresh (below_grown hg) (Nat.le_refl _) (by omega))
        obtain ⟨r0, hr0⟩ : ∃ r, r = w5.heap.size := ⟨_, rfl⟩
        rw [← hr0] at hrg HM9
        try go_frame
        rw [← hr0]
        have HRG := Lib.hid hrg
        clear hrg hg hs0 hr0 HM5 HMP5
        go_wp2_with fail
        go_loopw [] (fun wr => ∃ (left : Lit → Bool) (cnt : Nat), wr.ranges Tryz.prog 3 ptrRd mb r0 n D left cnt ∧ (∀ z, left z = true → Maps.has D z = true) ∧ MG w [r0, tt, mb, u] mi tb bb q (pdOf pa pb) S G cc 0 wr) (fun wr => wr.rangeLeft mb r0)
        case atStart => exact ⟨_, _, HRG.out, fun z hz => hz, HM9.out⟩
        case round =>
          obtain ⟨left, cnt, hrg, hlf, hmg⟩ := hrel
          clear HRG HM9
          have HRG := Lib.hid hrg
          have HLF := Lib.hid hlf
          have HM := Lib.hid hmg
          clear hrg hlf hmg
          go_wp2_with (at_next; refine wpList_next_ranges _ rfl _ rfl 3 keyI ptrRd (fun x : Value => x) ptrMk (fun key kl _ => ⟨key, rfl⟩) ptrRd_inv mb r0 n D left cnt rfl HRG.out ?_ ?_)
          · intro hc0 hl0
            clear hc0 hl0
            go_wp2_with fail
            refine (full8_any ⟨#[]⟩ _ (by decide)).mono ?_
            rintro e w10 ⟨rfl, hb⟩
            have HM10 := Lib.hid (HM.out.later hb)
            have HFZ := Lib.hid (fullN_size ⟨#[]⟩)
            obtain ⟨fl, hfl⟩ : ∃ fl, fl = fullN ⟨#[]⟩ := ⟨_, rfl⟩
            rw [← hfl] at HFZ ⊢
            clear hb hfl HM HRG
            go_wp2_with fail
            refine (Write_m HM10.out HNB.out (b := 0) (by omega) HFZ.out (by omega)).mono ?_
            rintro e w11 ⟨S1, rfl, hst, hm, hsm⟩
            rw [HLE.out]
            have HM11 := Lib.hid hm
            clear hst hm hsm HM10
            go_wp2_with fail
            refine (Flush_m HM11.out (by omega)).mono ?_
            rintro e w12 ⟨rfl, hm, hsm⟩
            rw [HLE.out]
            have HM12 := Lib.hid hm
            clear hm hsm HM11
            go_wp2_with fail
            refine (Degraded_m HM12.out).mono ?_
            rintro e w13 ⟨rfl, hb⟩
            rw [HDG.out]
            have HB13 := Lib.hid (HM12.out.later hb).below
            clear hb HM12
            go_wp2
            go_ret
            exact ⟨rfl, HB13.out⟩
          · intro kx c1 c2 c3 kl y1 y2 w10 cnt1 hkey hlk hR hat hrg1 hlt1 hg1 hgs hen
            obtain ⟨b, g, t, hb14, hg30, hkl, hkx, hFt, hts, hpv, hcont⟩ := HKN5.out.entry (c1 := (c1, c2, c3)) (y := (y1, y2)) (HLF.out kl hlk) hkey hR hat
            rw [hpv] at hen ⊢
            obtain ⟨Kb, hKb⟩ : ∃ Kb, Kb = ckT (b : Nat) (g : Nat) t := ⟨_, rfl⟩
            rw [← hKb] at hen ⊢
            have HM10 := Lib.hid ((HM.out.grow hg1 (fun k hk => by cases hk; simp)).new (.cells #[.int .i64 (b : Nat), .int .u64 (g : Nat), .int .u32 Kb] 35))
            have hP10 := Has.new w10 [.int .i64 (b : Nat), .int .u64 (g : Nat), .int .u32 Kb] 35
            have HRG10 := Lib.hid (ranges_on8 hrg1 (Tab.b_new w10 (.cells #[.int .i64 (b : Nat), .int .u64 (g : Nat), .int .u32 Kb] 35)))
            have HLT := Lib.hid hlt1
            have HP10 := Lib.hid hP10
            obtain ⟨p, hp⟩ : ∃ p, p = w10.heap.size := ⟨_, rfl⟩
            rw [← hp] at HM10 HP10
            clear hkey hlk hR hat hrg1 hlt1 hg1 hgs hpv hKb hkl hkx hFt hcont HM hP10
            go_wp2_with fail
            rw [← hp]
            refine (Read_none HM10.out (b := b) hb14 (by omega) (g : Nat) Kb (HFN.out _ _ _)).mono ?_
            rintro e w11 ⟨rfl, hm, hsm⟩
            rw [HLR.out]
            have HM11 := Lib.hid hm
            have HRG11 := Lib.hid (ranges_keep8 HRG10.out hsm (by simp) (by simp))
            have hp11 := Has.same HP10.out (hsm p (by simp))
            have x0 := hp11.cell 0
            have x1 := hp11.cell 1
            have x2 := hp11.cell 2
            simp only [List.getElem?_cons_zero, List.getElem?_cons_succ] at x0 x1 x2
            clear hm hsm HM10 HRG10 hen hp11 HP10 hp
            go_wp2_with fail
            refine (Check_none HM11.out (b := b) hb14 (by omega) (g : Nat) Kb (HFN.out _ _ _)).mono ?_
            rintro e w12 ⟨rfl, hm, hsm⟩
            rw [HLR.out]
            have HM12 := Lib.hid (hm.sub (Z := [r0, tt, mb, u]) (fun k hk => by simp at hk ⊢; rcases hk with rfl | rfl | rfl | rfl <;> simp))
            have HRG12 := Lib.hid (ranges_keep8 HRG11.out hsm (by simp) (by simp))
            clear hm hsm HM11 HRG11 x0 x1 x2
            go_wp2_with fail
            go_roundw
            case rel => exact ⟨_, cnt1, HRG12.out, fun z hz => HLF.out z (by simp at hz; exact hz.1), HM12.out⟩
            case measure => rw [HRG12.out.left_eq, HRG.out.left_eq]; exact HLT.out

set_option maxRecDepth 100000 in
theorem contract (H : Type) (enc : TypeId × Value → H) (W : World) (base : Nat) (args : Array Value) (ds gs : List (DataW H)) (before : List MemPlace)
    (hval0 : ∀ (j : Nat) t v, Tryz.f5.params[j]? = some t → args[j]? = some v → Value.okWide Tryz.prog W .any base t v)
    (hW : DataW.Whole enc Tryz.prog Tryz.f5.params.toList Rows.mirrorLostSpec.vars false W args.toList ds gs before) :
    Calls Tryz.prog 5 args W fun e W' => ∃ v, e = .returned v ∧ Rows.mirrorLostSpec.post enc Tryz.prog Tryz.f5 false true false false W args v W' := by
  have hval : ∀ (j : Nat) t v, Tryz.f5.params[j]? = some t → args[j]? = some v → Value.okWide Tryz.prog W .any base t v := hval0
  have hW' := hW
  obtain ⟨p, q, hA0, hV, rfl, hfz, hnd⟩ := hW
  have hA : DataW.TrodAll enc Tryz.prog W 0 (fun _ => true) true Tryz.f5.params.toList args.toList ds p := hA0
  rw [Tryz.params5] at hA hval
  obtain ⟨v0, vs0, d0, ds0, p0, q0, hargs, rfl, rfl, h0, r0⟩ := trodAll_cons hA
  obtain ⟨v1, vs1, d1, ds1, p1, q1, rfl, rfl, rfl, h1, r1⟩ := trodAll_cons r0
  obtain ⟨v2, vs2, d2, ds2, p2, q2, rfl, rfl, rfl, h2, r2⟩ := trodAll_cons r1
  obtain ⟨rfl, rfl, rfl⟩ := trodAll_nil r2
  obtain rfl : args = #[v0, v1, v2] := by cases args; simp_all
  obtain ⟨rfl, rfl⟩ := trodVars_none hV
  have k0 := h0
  have lt0 : ∀ x ∈ p0, x.block < W.heap.size := by obtain ⟨m, hm⟩ := k0; exact DataW.trod_lt m _ _ _ hm
  obtain ⟨a0', l0', c0', rfl⟩ := okWide_slice Tryz.underlying64 (hval 0 64 v0 rfl rfl)
  obtain ⟨a0, a0l, a0c, a0z, he0, w0, w0l, w0m, w0w⟩ := open_ints_cell (c := .slice a0' l0' c0') Tryz.underlying64 Tryz.underlying67 (by kernel_rfl) (by obtain ⟨m, hm⟩ := h0; exact ⟨m, _, hm⟩)
  simp only [Value.slice.injEq] at he0
  obtain ⟨rfl, rfl, rfl⟩ := he0
  obtain ⟨a1, rfl, rfl, rfl⟩ := open_bool Tryz.underlying4 (hval 1 4 v1 rfl rfl) h1
  obtain ⟨a2, rfl, rfl, rfl, w2⟩ := open_int Tryz.underlying5 (hval 2 5 v2 rfl rfl) h2
  clear hA0 hval0
  refine (walk a0' l0' c0' a0z a1 a2 W w0 w0l w0m w0w w2).mono fun e W' ⟨he, bel⟩ => ?_
  subst he
  exact ⟨_, rfl, _, _, _, [], _, [], hW', trodAll_mk1 (shut_bool Tryz.underlying4 _), (trodAll_cons_mk (Below.trod laidOut (by kernel_rfl) (of_decide_eq_true (by kernel_rfl)) k0 bel lt0) (trodAll_cons_mk (shut_bool Tryz.underlying4 _) (trodAll_cons_mk (shut_int Tryz.underlying5 w2) trodAll_mk0))), rfl, bel.frame _, fun h => by cases h⟩

noncomputable def laidWorld (os : Os) : World :=
  { World.holding Tryz.prog os ⟨#[], #[], []⟩ with heap := (((((World.holding Tryz.prog os ⟨#[], #[], []⟩).heap).modify 2 fun | .cells _ t frozen => .cells (#[.int .u8 128, .int .u8 191, .int .u8 160, .int .u8 191, .int .u8 128, .int .u8 159, .int .u8 144, .int .u8 191, .int .u8 128, .int .u8 143, .int .u8 0, .int .u8 0, .int .u8 0, .int .u8 0, .int .u8 0, .int .u8 0, .int .u8 0, .int .u8 0, .int .u8 0, .int .u8 0, .int .u8 0, .int .u8 0, .int .u8 0, .int .u8 0, .int .u8 0, .int .u8 0, .int .u8 0, .int .u8 0, .int .u8 0, .int .u8 0, .int .u8 0, .int .u8 0]) t frozen | o => o)).modify 1 fun | .cells _ t frozen => .cells ((Go.Pinned.utf8FirstZ.map fun z : Nat => Value.int .u8 (z : Int)).toArray) t frozen | o => o) }
theorem laid_met (os : Os) : laidMet Tryz.prog Rows.mirrorLostRow.laid ((laidWorld os).forCall (fun _ _ => 0) ⟨#[], #[.slice none 0 0, .bool false, .int .u8 0], []⟩).memory :=
  laidMet_of_run' 8 (by kernel_rfl) (by kernel_rfl)
theorem reads (os : Os) {H : Type} (enc : TypeId × Value → H) : ∃ places, DataW.whole enc Tryz.prog ((laidWorld os).forCall (fun _ _ => 0) ⟨#[], #[.slice none 0 0, .bool false, .int .u8 0], []⟩).memory Tryz.f5.params.toList Rows.mirrorLostSpec.vars false (#[.slice none 0 0, .bool false, .int .u8 0] : Array Value).toList 8 = some ([.nil, .lit (.bool false), .lit (.int .u8 0)], [], places) :=
  ⟨[], by kernel_rfl⟩

set_option maxRecDepth 100000 in
theorem lifted (os : Os) (started : os.Started) (H : Type) (enc : TypeId × Value → H) (F : Stop.Interp) :
    ReturnsInHanded {} Tryz.checked os 5 .any ((OpenSpec.ofChange Rows.mirrorLostSpec).preRow enc Tryz.prog Tryz.f5 Rows.mirrorLostRow.domain false Rows.mirrorLostRow.laid) (((OpenSpec.ofChange Rows.mirrorLostSpec).at F).post enc Tryz.prog Tryz.f5 false true false false) := by
  obtain ⟨places, hx⟩ := reads os enc
  refine returnsInHanded_of_row (C := Tryz.checked) (s := OpenSpec.ofChange Rows.mirrorLostSpec) own started (by kernel_rfl) Tryz.func5
    (witness_row_at (enc := enc) (C := Tryz.checked) false (laidWorld os) #[.slice none 0 0, .bool false, .int .u8 0] rfl (by kernel_rfl) (by kernel_rfl) (by kernel_rfl)
      (OpenSpec.preRow_of_cond 8 hx (by kernel_rfl) (fun k hk => by cases hk) (by kernel_rfl) (laid_met os))) ?_
  intro W base args ds gs before hval hW _ _ _ hL _ _
  exact contract H enc W base args ds gs before hval hW

theorem said : Rows.MirrorLostSaid :=
  OpenClaim.holds_of_cond 5 Tryz.f5 rfl rfl rfl rfl rfl rfl rfl ⟨rfl, rfl, rfl, rfl, rfl⟩ rfl rfl rfl rfl rfl (by kernel_rfl) Tryz.func5 (by kernel_rfl)
    (of_decide_eq_true (by kernel_rfl)) (by unfold Func.isWrapper; first | (rw [if_pos (by decide +kernel)]; kernel_rfl) | (rw [if_neg (by decide +kernel)]; exact ⟨rfl, rfl⟩))
    (fun os started H enc _ F => by rw [OpenClaim.pre_eq_preRow]; exact lifted os started H enc F)

theorem plain (f : FuncId) (fn : Func) (hf : Tryz.pinned.checked.prog.funcNamed "treenail/treenaillaw08.MirrorLost" = some f) (hfn : Tryz.pinned.checked.prog.funcs[f]? = some fn) :
    false = Tryz.pinned.checked.prog.looks [] ∧ ∀ (j : Nat) t, fn.params[j]? = some t → Tryz.pinned.checked.prog.wantsStandIn t = false := by
  obtain rfl : f = 5 := Option.some.inj ((show Tryz.prog.funcNamed "treenail/treenaillaw08.MirrorLost" = some 5 by kernel_rfl).symm.trans hf) |>.symm
  obtain rfl : fn = Tryz.f5 := (Option.some.inj (Tryz.func5.symm.trans hfn)).symm
  refine ⟨by kernel_rfl, fun j t ht => ?_⟩
  rw [Tryz.params5] at ht
  rcases j with _ | _ | _ | j
  · obtain rfl : t = 64 := by simpa using ht.symm
    exact (show Tryz.prog.wantsStandIn 64 = false by kernel_rfl)
  · obtain rfl : t = 4 := by simpa using ht.symm
    exact (show Tryz.prog.wantsStandIn 4 = false by kernel_rfl)
  · obtain rfl : t = 5 := by simpa using ht.symm
    exact (show Tryz.prog.wantsStandIn 5 = false by kernel_rfl)
  · simp at ht

/-- THE STATEMENT -/
theorem proved : Rows.MirrorLostCardSaid :=
  Claim7.holds_tied_plain_at .later [] _ _ _ _ said (fun _ h => by cases h) (by kernel_rfl) (fun _ h => by cases h) mirrorLost_row_tie rfl ⟨rfl, rfl⟩ (by kernel_rfl) rfl plain (by kernel_rfl)
#print axioms proved
end Go.Proofs.YtcjfooikmaipdaaGreatDoor.mirrorLost
