/-
  The law MirrorQuiet holds: without faults nothing is repaired, moved or bad, whatever is written and read; each block reads what was written last. Conditions: none but the row's own.
-/
import Derived.Test.YtcjfooikmaipdaaGreatDoorRows
import Derived.Test.YtcjfooikmaipdaaGreatDoorK15
import Derived.Test.YtcjfooikmaipdaaGreatDoorCards
import Derived.Test.YtcjfooikmaipdaaGreatDoorTie
import Derived.Test.YtcjfooikmaipdaaGreatDoorK13
import Derived.WalkKit
import Derived.ProofKit
import Derived.OpenShut
import Derived.ShutString
import Derived.ChangeOld
import Derived.Below
import Derived.Carry
import Derived.Deep.DeepHandedRow
import Derived.Lib.LaidTab
namespace Go.Proofs.YtcjfooikmaipdaaGreatDoor.mirrorQuiet
open Go.ChangeShapes Go.WideShapes Go.ChangeAt Go.RowKit
open Go.Proofs.YtcjfooikmaipdaaGreatDoor
open Go.ChangeMaps (open_string shut_string)
set_option linter.unusedVariables false

theorem own : ownKnob Tryz.prog.godebug = none := by kernel_rfl
theorem laidOut : laidOutB Tryz.prog = true := by kernel_rfl


open Go.Proofs.YtcjfooikmaipdaaGreatDoor.Mir Go.Proofs.YtcjfooikmaipdaaGreatDoor.Rem Go.Proofs.YtcjfooikmaipdaaGreatDoor.Dev Go.Maps
theorem run_two8 (w : World) (c d : Int) :
    (convert 69 9 (.slice (some ⟨w.heap.size, 0, none⟩) 2 2)).run Tryz.prog (w.alloc (.cells #[.int .u8 c, .int .u8 d] 5)) = .ok (.string (Lend.strOf [UInt8.ofNat c.toNat, UInt8.ofNat d.toNat])) (w.alloc (.cells #[.int .u8 c, .int .u8 d] 5)) := by
  rw [run_convert_bytes_string _ _ _ _ _ _ _ Tryz.underlying69 Tryz.underlying5 Tryz.underlying9]
  have hc := run_loadCells_list (P := Tryz.prog) (w := w.alloc (.cells #[.int .u8 c, .int .u8 d] 5)) ⟨w.heap.size, 0, none⟩ [.int .u8 c, .int .u8 d] (by
    intro j u hj
    match j, hj with
    | 0, hj => simp at hj; subst hj; simp [Addr.add]
    | 1, hj => simp at hj; subst hj; simp [Addr.add])
  rw [run_bytesToString _ _ _ _ [c, d] (by simpa using hc), Lend.foldl_push]
  rfl
theorem plainElem_str8 (t : ByteArray) (h : t.size ≤ maxLen) : plainElem (H := Unit) Tryz.prog 9 (.string t) = some (.lit (.string t.data.toList), []) := by
  unfold plainElem
  rw [Tryz.underlying9]
  simp [h]
/-- what a map of texts has -/
theorem lookup_str8 {w : World} {b n : Nat} {D : DataW Unit} (h : w.ownsMap Tryz.prog 3 (plainElem (H := Unit) Tryz.prog 9) b n D) {x : Nat} (hx : x < 1000000) {t : ByteArray} (ht : ∀ zd, D.atKey (.int .i64 (x : Nat)) zd = .lit (.string t.data.toList)) :
    (Instr.lookup 66 (.map (some b)) (.int .i64 (x : Nat)) false).run Tryz.prog w = .ok (.string t) w := by
  obtain ⟨v, ps, hrun, hv⟩ := h.lookup keyI Tryz.underlying66 (z := .string ⟨#[]⟩) (by kernel_rfl) (plainElem_str8 ⟨#[]⟩ (by decide)) (key_i hx)
  obtain ⟨c, rfl, e2, _⟩ := plainElem_string_inv Tryz.underlying9 hv
  rw [ht] at e2
  have : c = t := ByteArray.ext (Array.ext' (Lit.string.inj (DataW.lit.inj (Prod.mk.inj e2).1)).symm)
  rw [← this]; exact hrun
def FT (D2 : DataW Unit) (z : Lit) (t : ByteArray) : Prop := ∀ zd, D2.atKey z zd = .lit (.string t.data.toList)

/-! ### STEP 1: THE WALK -/
set_option maxHeartbeats 8000000 in
set_option maxRecDepth 100000 in
theorem walk (a0 : Option Addr) (a0l a0c : Nat) (a0z : List Int) (w : World) (w0 : Row .u16 w a0 a0l a0z) (w0l : a0l ≤ a0c) (w0m : a0c ≤ maxLen) (w0w : ∀ n ∈ a0z, (Lit.int .u16 n).wf = true) :
    Calls Tryz.prog 4 #[.slice a0 a0l a0c] w fun e w' => e = .returned (.bool true) ∧ Below w.heap.size w w' := by
  obtain ⟨hr0, hlc0, hcm0, hwf0⟩ := And.intro w0 (And.intro w0l (And.intro w0m w0w))
  have R0 := Lib.hid hr0
  have WF := Lib.hid hwf0
  have HLZ := Lib.hid hr0.len_eq
  clear hr0 hwf0 w0 w0w
  unfold maxLen at hcm0
  have hmm := @run_makeMap Tryz.prog
  go_enter Tryz.func4, Tryz.ntmps4
  go_wp2_with fail
  refine (fresh_any w).mono ?_
  rintro e w1 ⟨pa, pb, mi, tb, bb, q, S, rfl, hm, h0, h1⟩
  have HPL := Lib.hid (Pl.new h0 h1)
  have HM := Lib.hid (hm.new (.cells #[.pointer (some ⟨pa, 0, none⟩), .pointer (some ⟨pb, 0, none⟩)] 25))
  clear hm h0 h1
  go_wp2_with fail
  refine (wakes_any _).mono ?_
  rintro e w2 ⟨rfl, hb⟩
  have HM2 := Lib.hid ((HM.out.later hb).sub (Z := []) (by simp))
  clear hb HM
  go_wp2_with fail
  refine (Sum.make_any _).mono ?_
  rintro e w3 ⟨tt, rfl, htb, htab, hb⟩
  have HM3 := Lib.hid (((HM2.out.fresh hb htb (isTab_lt htab)).new (.map #[] 0)).new (.map #[] 0))
  have HT3 := Lib.hid ((htab.below (Tab.b_new w3 (.map #[] 0)) (Nat.le_refl _)).below (Tab.b_new _ (.map #[] 0)) (Nat.le_refl _))
  have HMP := Lib.hid (owns_on8 (World.ownsMap_made (H := Unit) w3 Tryz.prog 3 ptrRd) (Tab.b_new _ (.map #[] 0)))
  have HMS := Lib.hid (World.ownsMap_made (H := Unit) (w3.alloc (.map #[] 0)) Tryz.prog 3 (plainElem (H := Unit) Tryz.prog 9))
  simp only [World.size_alloc] at HM3 HMS
  obtain ⟨mb, hmb⟩ : ∃ b, b = w3.heap.size := ⟨_, rfl⟩
  rw [← hmb] at HM3 HMP HMS
  have HMN := Lib.hid (show mb ≠ mb + 1 by omega)
  obtain ⟨mm, hm⟩ : ∃ mm, mm = min a0l 40 := ⟨_, rfl⟩
  have hmin : ∀ W ts, (Builtin.min_ ts 3 #[.int .i64 (a0l : Nat), .int .i64 40]).run Tryz.prog W = .ok (.int .i64 (mm : Int)) W := by
    intro W ts; rw [hm]; exact run_minC _ _ _ _ a0l 40
  have hml : mm ≤ a0l := by omega
  have hml' : mm ≤ a0c := by omega
  have hm40 : mm ≤ 40 := by omega
  clear htb htab hb HM2 hm
  go_wp2_with fail
  rw [← hmb]
  obtain ⟨ms, hms⟩ : ∃ b, b = mb + 1 := ⟨_, rfl⟩
  rw [← hms] at HM3 HMS HMN
  try rw [← hms]
  clear hmin hmb hms
  go_loopw [42] (fun i wr => ∃ (c n cc : Nat) (S : Nat → Sd) (D D2 : DataW Unit), c ≤ mm ∧ i = .int .i64 c ∧ n ≤ c ∧ cc ≤ 4 + 1000 * c ∧ Pl S ∧ Kn (FT D2) S noG c D ∧ wr.ownsMap Tryz.prog 3 ptrRd mb n D ∧ wr.ownsMap Tryz.prog 3 (plainElem (H := Unit) Tryz.prog 9) ms n D2 ∧ Sum.IsTab wr tt ∧ MG w [tt, ms, mb] mi tb bb q (pdOf pa pb) S noG cc 0 wr) (fun i _ => mm - (intOf i).toNat)
  case atStart =>
    refine ⟨0, 0, 4, S, _, _, by omega, rfl, by omega, by omega, HPL.out, ?_, HMP.out, HMS.out, HT3.out, ?_⟩
    · exact Kn.start
    · exact HM3.out.sub (fun k hk => by simp at hk ⊢; rcases hk with rfl | rfl | rfl <;> simp)
  case round =>
    obtain ⟨c, n, cc, S, D, D2, hc, rfl, hn, hcc, hpl, hkn, hmp, hmps, ht, hmg⟩ := hrel
    clear HM3 HT3 HMP HMS HPL
    have HPL := Lib.hid hpl
    have HKN := Lib.hid hkn
    have HMP := Lib.hid hmp
    have HMS := Lib.hid hmps
    have HT := Lib.hid ht
    have HM := Lib.hid hmg
    have hbw := hmg.below
    clear hpl hkn hmp hmps ht hmg
    by_cases hlt : c < mm
    · obtain ⟨zb, zo, rfl, hcell⟩ := (R0.out.below hbw (Nat.le_refl _)).at_ (by omega)
      have hz := hcell c (by omega)
      obtain ⟨y, hy⟩ : ∃ y, y = a0z.getD c 0 := ⟨_, rfl⟩
      have hyb : 0 ≤ y ∧ y ≤ 65535 := by
        have := bounds_u16 (WF.out y (by rw [hy, List.getD_eq_getElem?_getD, List.getElem?_eq_getElem (by rw [HLZ.out]; omega)]; exact List.getElem_mem _))
        omega
      rw [← hy] at hz
      obtain ⟨x, hx⟩ : ∃ x : Nat, (x : Int) = y % 14 := ⟨(y % 14).toNat, by omega⟩
      have hx14 : x < 14 := by omega
      have hwy : IntKind.i64.wrap y = y := IntWalk.i64_in _ (by omega)
      have hmod : Int.tmod y 14 = (x : Int) := by rw [Int.tmod_eq_emod_of_nonneg hyb.1, hx]
      have hmod' : y % 14 = (x : Int) := hx.symm
      obtain ⟨p, hp⟩ : ∃ p : Nat, (p : Int) = y / 256 := ⟨(y / 256).toNat, by omega⟩
      have hp8 : p ≤ 255 := by omega
      have hsh : y / 256 = (p : Int) := hp.symm
      have hwp : IntKind.u8.wrap (p : Int) = (p : Int) := IntWalk.u8_in _ (by omega)
      have hwc : IntKind.u8.wrap (c : Int) = (c : Int) := IntWalk.u8_in _ (by omega)
      have hcv := run_two8 wr (p : Int) (c : Int)
      obtain ⟨t, ht⟩ : ∃ t, t = Lend.strOf [UInt8.ofNat (p : Int).toNat, UInt8.ofNat (c : Int).toNat] := ⟨_, rfl⟩
      rw [← ht] at hcv
      have hts : t.size = 2 := by rw [ht]; rfl
      have HTS := Lib.hid hts
      obtain ⟨hy0, hy1⟩ := hyb
      have HB0 := Lib.hid (Tab.b_new wr (.cells #[.int .u8 (p : Int), .int .u8 (c : Int)] 5))
      have hok : Okay (x : Nat) (c : Nat) t := ⟨by omega, by omega, by omega, by omega, by omega⟩
      have HOK := Lib.hid hok
      obtain ⟨T, hT⟩ : ∃ T, T = imT (x : Nat) (c : Nat) t := ⟨_, rfl⟩
      obtain ⟨K, hK⟩ : ∃ K, K = ckT (x : Nat) (c : Nat) t := ⟨_, rfl⟩
      have HTT := Lib.hid hT
      have HKK := Lib.hid hK
      have HTZ := Lib.hid (show T.size = 128 by rw [hT]; exact hok.size)
      clear hcell hy hx hbw hp ht hts hok hT hK
      go_wp2_with fail
      refine (sealed_any tt (x : Nat) (c : Nat) t _ (HT.out.below HB0.out (Nat.le_refl _)) HOK.out).mono ?_
      rintro e w5 ⟨rfl, hb⟩
      rw [← HTT.out, ← HKK.out]
      have hb5 : Below wr.heap.size wr w5 := HB0.out.trans (hb.mono HB0.out.size)
      have HM5 := Lib.hid ((HM.out.later hb5).new (.cells #[.int .i64 (x : Nat), .int .u64 (c : Nat), .int .u32 K] 35))
      have HT5 := Lib.hid ((HT.out.below hb5 (Nat.le_refl _)).below (Tab.b_new w5 (.cells #[.int .i64 (x : Nat), .int .u64 (c : Nat), .int .u32 K] 35)) (Nat.le_refl _))
      have HMP5 := Lib.hid (owns_on8 (owns_on8 HMP.out hb5) (Tab.b_new w5 (.cells #[.int .i64 (x : Nat), .int .u64 (c : Nat), .int .u32 K] 35)))
      have HMS5 := Lib.hid (owns_on8 (owns_on8 HMS.out hb5) (Tab.b_new w5 (.cells #[.int .i64 (x : Nat), .int .u64 (c : Nat), .int .u32 K] 35)))
      have HV5 := Lib.hid (Has.new w5 [.int .i64 (x : Nat), .int .u64 (c : Nat), .int .u32 K] 35)
      obtain ⟨v, hv⟩ : ∃ v, v = w5.heap.size := ⟨_, rfl⟩
      rw [← hv] at HM5 HV5
      clear hb hb5 HM HT HMP HMS hcv
      go_upto_region 12 with fail
      rw [← hv]
      clear hv
      go_cut [80] (fun bx wx => bx = .bool false ∧ ∃ S1, Pl S1 ∧ Kn (FT (D2.put (.int .i64 (x : Nat)) (.lit (.string t.data.toList)))) S1 noG (c + 1) (D.put (.int .i64 (x : Nat)) (PV (x : Nat) (c : Nat) K)) ∧ MG w [v, tt, ms, mb] mi tb bb q (pdOf pa pb) S1 noG (cc + 8) 0 wx ∧ Sum.IsTab wx tt ∧ wx.ownsMap Tryz.prog 3 ptrRd mb n D ∧ wx.ownsMap Tryz.prog 3 (plainElem (H := Unit) Tryz.prog 9) ms n D2 ∧ Has wx v 35 [.int .i64 (x : Nat), .int .u64 (c : Nat), .int .u32 K])
      case first =>
        have HID := Lib.hid HMS5.out.isMap
        go_wp2_with fail
        refine (Write_m HM5.out HPL.out.nb (b := x) hx14 HTZ.out (by omega)).mono ?_
        rintro e w6 ⟨S1, rfl, hst, hm, hsm⟩
        rw [lsE_no]
        have HPL6 := Lib.hid (HPL.out.st hst)
        have HKN6 := Lib.hid (show Kn (FT (D2.put (.int .i64 (x : Nat)) (.lit (.string t.data.toList)))) S1 noG (c + 1) (D.put (.int .i64 (x : Nat)) (PV (x : Nat) (c : Nat) K)) by
          rw [HKK.out]
          rw [HTT.out] at hst
          exact HKN.out.wrote HPL.out.nb HM5.out.good hx14 (by rw [HTS.out]; omega) hst (fun zd => atKey_put_same HID.out (show WideAt.IsKeyLit (.int .i64 (x : Nat)) from trivial) _ _) (fun z u hz h zd => by rw [atKey_put_other hz]; exact h zd))
        have HM6 := Lib.hid hm
        have HT6 := Lib.hid (Mir.tab_same HT5.out (hsm tt (by simp)))
        have HMP6 := Lib.hid (owns_keep8 HMP5.out hsm (by simp))
        have HMS6 := Lib.hid (owns_keep8 HMS5.out hsm (by simp))
        have HV6 := Lib.hid (Has.same HV5.out (hsm v (by simp)))
        clear hst hm hsm HM5 HT5 HMP5 HMS5 HV5
        by_cases h50 : y % 5 = 0
        · have h5a : (y % 5 == 0) = true := by simp [h50]
          go_wp2_with fail
          refine (Flush_m HM6.out (by omega)).mono ?_
          rintro e w7 ⟨rfl, hm, hsm⟩
          rw [lsE_no]
          have HM7 := Lib.hid hm
          have HT7 := Lib.hid (Mir.tab_same HT6.out (hsm tt (by simp)))
          have HMP7 := Lib.hid (owns_keep8 HMP6.out hsm (by simp))
          have HMS7 := Lib.hid (owns_keep8 HMS6.out hsm (by simp))
          have HV7 := Lib.hid (Has.same HV6.out (hsm v (by simp)))
          clear hm hsm
          go_wp2_with fail
          go_meet
          exact ⟨rfl, S1, HPL6.out, HKN6.out, HM7.out, HT7.out, HMP7.out, HMS7.out, HV7.out⟩
        · have h5a : (y % 5 == 0) = false := by simp; omega
          go_wp2_with fail
          go_meet
          exact ⟨rfl, S1, HPL6.out, HKN6.out, HM6.out, HT6.out, HMP6.out, HMS6.out, HV6.out⟩
      case rest =>
        obtain ⟨rfl, S1, hpl, hkn, hm, ht, hmp, hmps, hvv⟩ := hcut
        clear HKN HPL HM5 HT5 HMP5 HMS5 HV5
        have HPL6 := Lib.hid hpl
        have HKN6 := Lib.hid hkn
        have HM7 := Lib.hid hm
        have HT7 := Lib.hid ht
        have HMP7 := Lib.hid hmp
        have HMS7 := Lib.hid hmps
        have x0 := hvv.cell 0
        have x1 := hvv.cell 1
        have x2 := hvv.cell 2
        simp only [List.getElem?_cons_zero, List.getElem?_cons_succ] at x0 x1 x2
        have HNL := Lib.hid (show n < maxLen by unfold maxLen; omega)
        have HKY := Lib.hid (key_i (b := x) (by omega))
        have HSTR := Lib.hid (plainElem_str8 t (by rw [HTS.out]; decide))
        clear hpl hkn hm ht hmp hmps hvv
        go_wp2_with (at_mapUpdate; refine wpList_mapUpdate_own _ rfl _ _ _ 65 rfl 3 35 keyI Tryz.underlying65 ptrRd mb n D rfl HMP7.out HNL.out _ _ (.int .i64 (x : Nat)) rfl rfl HKY.out (PV (x : Nat) (c : Nat) K) [] (ptrRd_mk _ _ _) ?_)
        intro w8 hown hgrow
        have HM8 := Lib.hid (HM7.out.grow hgrow (fun k hk => by cases hk; simp))
        have hmbt : tt ≠ mb := owns_ne_tab HMP7.out HT7.out
        have HT8 := Lib.hid (tab_row HT7.out hgrow (fun e => hmbt (by cases e; rfl)))
        have HMP8 := Lib.hid hown
        have HMS8 := Lib.hid (owns_same8 HMS7.out (hgrow.block ms (owns_lt8 HMS7.out) (fun e => HMN.out (by cases e; rfl))))
        clear hown hgrow hmbt HM7 HT7 HMP7 HMS7 x0 x1 x2
        go_wp2_with (at_mapUpdate; refine wpList_mapUpdate_own _ rfl _ _ _ 66 rfl 3 9 keyI Tryz.underlying66 (plainElem (H := Unit) Tryz.prog 9) ms n D2 rfl HMS8.out HNL.out _ _ (.int .i64 (x : Nat)) rfl rfl HKY.out (.lit (.string t.data.toList)) [] HSTR.out ?_)
        intro w9 hown hgrow
        have HM9 := Lib.hid (HM8.out.grow hgrow (fun k hk => by cases hk; simp))
        have hmbt : tt ≠ ms := owns_ne_tab HMS8.out HT8.out
        have HT9 := Lib.hid (tab_row HT8.out hgrow (fun e => hmbt (by cases e; rfl)))
        have HMS9 := Lib.hid hown
        have HMP9 := Lib.hid (owns_same8 HMP8.out (hgrow.block mb (owns_lt8 HMP8.out) (fun e => HMN.out (by cases e; rfl))))
        obtain ⟨D1, hD1⟩ : ∃ D1, D1 = D.put (.int .i64 (x : Nat)) (PV (x : Nat) (c : Nat) K) := ⟨_, rfl⟩
        obtain ⟨D3, hD3⟩ : ∃ D3, D3 = D2.put (.int .i64 (x : Nat)) (.lit (.string t.data.toList)) := ⟨_, rfl⟩
        rw [← hD1] at HKN6 HMP9
        rw [← hD3] at HKN6 HMS9
        have HSZ := Lib.hid (show Maps.size D1 ≤ n + 1 from HMP9.out.size_le)
        clear hown hgrow hmbt hD1 hD3 HM8 HT8 HMP8 HMS8
        go_wp2_with (at_range; refine wpList_range_own _ rfl _ 65 rfl 3 35 keyI Tryz.underlying65 ptrRd mb (n + 1) D1 rfl HMP9.out ?_)
        intro w10 hrg hg hs0
        have HM10 := Lib.hid (HM9.out.fresh (below_grown hg) (Nat.le_refl _) (by omega))
        have HT10 := Lib.hid (HT9.out.below (below_grown hg) (Nat.le_refl _))
        have HMS10 := Lib.hid (owns_on8 HMS9.out (below_grown hg))
        obtain ⟨r0, hr0⟩ : ∃ r, r = w9.heap.size := ⟨_, rfl⟩
        rw [← hr0] at hrg HM10
        try go_frame
        rw [← hr0]
        have HRG := Lib.hid hrg
        clear hrg hg hs0 hr0 HM9 HT9 HMP9 HMS9
        go_wp2_with fail
        go_loopw [] (fun wr => ∃ (left : Lit → Bool) (cnt cc1 : Nat) (S2 : Nat → Sd), wr.ranges Tryz.prog 3 ptrRd mb r0 (n + 1) D1 left cnt ∧ (∀ z, left z = true → Maps.has D1 z = true) ∧ Pl S2 ∧ Kn (FT D3) S2 noG (c + 1) D1 ∧ cc1 + 12 * cnt ≤ cc + 8 + 12 * (n + 1) ∧ Sum.IsTab wr tt ∧ wr.ownsMap Tryz.prog 3 (plainElem (H := Unit) Tryz.prog 9) ms (n + 1) D3 ∧ MG w [r0, tt, ms, mb] mi tb bb q (pdOf pa pb) S2 noG cc1 0 wr) (fun wr => wr.rangeLeft mb r0)
        case atStart => exact ⟨_, _, cc + 8, S1, HRG.out, fun z hz => hz, HPL6.out, HKN6.out, by have := HSZ.out; omega, HT10.out, HMS10.out, HM10.out.sub (fun k hk => by simp at hk ⊢; rcases hk with rfl | rfl | rfl | rfl <;> simp)⟩
        case round =>
          obtain ⟨left, cnt, cc1, S2, hrg, hlf, hpl, hkn, hcc1, ht, hmps, hmg⟩ := hrel
          clear HRG HM10 HT10 HMS10 HPL6 HKN6
          have HRG := Lib.hid hrg
          have HLF := Lib.hid hlf
          have HPL2 := Lib.hid hpl
          have HKN2 := Lib.hid hkn
          have HT := Lib.hid ht
          have HMS := Lib.hid hmps
          have HM := Lib.hid hmg
          clear hrg hlf hpl hkn ht hmps hmg
          go_wp2_with (at_next; refine wpList_next_ranges _ rfl _ rfl 3 keyI ptrRd (fun x : Value => x) ptrMk (fun key kl _ => ⟨key, rfl⟩) ptrRd_inv mb r0 (n + 1) D1 left cnt rfl HRG.out ?_ ?_)
          · intro hc0 hl0
            clear hc0 hl0
            go_wp2_with fail
            go_roundw
            case rel => exact ⟨c + 1, n + 1, cc1, S2, D1, D3, by omega, by go_num, by omega, by omega, HPL2.out, HKN2.out, HRG.out.owns, HMS.out, HT.out, HM.out.sub (fun k hk => by simp at hk ⊢; rcases hk with rfl | rfl | rfl <;> simp)⟩
            case measure => simp [intOf]; omega
          · intro kx c1 c2 c3 kl y1 y2 w11 cnt1 hkey hlk hR hat hrg1 hlt1 hg1 hgs hen
            obtain ⟨b, g, s, hb14, hg30, hkl, hkx, hFt, hss, hpv, hcont⟩ := HKN2.out.entry (c1 := (c1, c2, c3)) (y := (y1, y2)) (HLF.out kl hlk) hkey hR hat
            subst hkl
            subst hkx
            rw [hpv] at hen ⊢
            have hokb : Okay (b : Nat) (g : Nat) s := ⟨by omega, by omega, by omega, by omega, hss⟩
            have hmeet := hokb.meets
            obtain ⟨sd, hF, hcT, hrd, hrp⟩ := fnd_all (G := noG) (by rw [al_no]; simp) hcont hmeet
            obtain ⟨Kb, hKb⟩ : ∃ Kb, Kb = ckT (b : Nat) (g : Nat) s := ⟨_, rfl⟩
            rw [← hKb] at hen hF hmeet ⊢
            have hMg := (HM.out.grow hg1 (fun k hk => by cases hk; simp))
            have HM10 := Lib.hid (hMg.new (.cells #[.int .i64 (b : Nat), .int .u64 (g : Nat), .int .u32 Kb] 35))
            have HT10 := Lib.hid ((tab_row HT.out hg1 (fun e => ranges_ne_tab HRG.out HT.out (by cases e; rfl))).below (Tab.b_new w11 (.cells #[.int .i64 (b : Nat), .int .u64 (g : Nat), .int .u32 Kb] 35)) (Nat.le_refl _))
            have hmr : ms ≠ r0 := fun e => by
              obtain ⟨es, clock, since, seen, c0, h1, h2, h3, h4, h5, h6⟩ := HRG.out
              obtain ⟨es', clock', hb', _⟩ := HMS.out
              rw [e, h5] at hb'; cases hb'
            have HMS10 := Lib.hid (owns_on8 (owns_same8 HMS.out (hg1.block ms (owns_lt8 HMS.out) (fun e => hmr (by cases e; rfl)))) (Tab.b_new w11 (.cells #[.int .i64 (b : Nat), .int .u64 (g : Nat), .int .u32 Kb] 35)))
            have HRG10 := Lib.hid (ranges_on8 hrg1 (Tab.b_new w11 (.cells #[.int .i64 (b : Nat), .int .u64 (g : Nat), .int .u32 Kb] 35)))
            have HP10 := Lib.hid (Has.new w11 [.int .i64 (b : Nat), .int .u64 (g : Nat), .int .u32 Kb] 35)
            obtain ⟨pp, hpp⟩ : ∃ p, p = w11.heap.size := ⟨_, rfl⟩
            rw [← hpp] at HM10 HP10
            have HOB := Lib.hid hokb
            have HFT := Lib.hid hFt
            have HRD := Lib.hid hrd
            have HRP := Lib.hid hrp
            have HLT := Lib.hid hlt1
            have HF := Lib.hid hF
            have HCT := Lib.hid hcT
            have HCO := Lib.hid hcont
            have HME := Lib.hid hmeet
            clear hkey hlk hR hat hrg1 hlt1 hg1 hgs hpv hokb hmeet hF hcT hrd hrp hKb hFt hcont hMg hmr HM HT
            go_wp2_with fail
            rw [← hpp]
            refine (Read_some HM10.out (b := b) hb14 (by omega) (by omega) (g : Nat) Kb HF.out HCT.out).mono ?_
            rintro e w12 ⟨S3, rfl, hst, hm, hsm⟩
            obtain ⟨o1, o2, o3, o4, o5, o6⟩ := HOB.out.o
            rw [o2, o6]
            rw [HRD.out] at hm
            have HKN3 := Lib.hid (HKN2.out.idle hst (fun s _ => HRP.out s))
            have HPL3 := Lib.hid (HPL2.out.st hst)
            have HCO3 := Lib.hid (show ∀ u, u < 2 → noG u = false → cont S3 noG u b = some (imT (b : Nat) (g : Nat) s) from fun u hu hG => (hst.idle (fun s _ => HRP.out s) hu hb14).trans (HCO.out u hu hG))
            have HM11 := Lib.hid hm
            have HT11 := Lib.hid (Mir.tab_same HT10.out (hsm tt (by simp)))
            have HMS11 := Lib.hid (owns_keep8 HMS10.out hsm (by simp))
            have HRG11 := Lib.hid (ranges_keep8 HRG10.out hsm (by simp) (by simp))
            have hp11 := Has.same HP10.out (hsm pp (by simp))
            have q0 := hp11.cell 0
            have q1 := hp11.cell 1
            have q2 := hp11.cell 2
            simp only [List.getElem?_cons_zero, List.getElem?_cons_succ] at q0 q1 q2
            have hlk := lookup_str8 HMS11.out (x := b) (by omega) (t := s) HFT.out
            clear hst hm hsm o1 o2 o3 o4 o5 o6 HM10 HT10 HMS10 HRG10 hen hp11 HP10 hpp HCT HCO HRD HRP HKN2 HPL2 HF
            go_wp2_with fail
            obtain ⟨sd2, hF2, hcT2, hrd2, hrp2⟩ := fnd_all (G := noG) (by rw [al_no]; simp) HCO3.out HME.out
            have hh0 := hSum_zero (G := noG) HCO3.out
            refine (Check_some HM11.out (b := b) hb14 (by omega) (by omega) (g : Nat) Kb hF2 hcT2).mono ?_
            rintro e w13 ⟨S4, rfl, hst, hm, hsm⟩
            rw [hh0] at hm ⊢
            have HKN4 := Lib.hid (HKN3.out.idle hst (fun u hu h => h.2 (HCO3.out u hu rfl)))
            have HPL4 := Lib.hid (HPL3.out.st hst)
            have HM12 := Lib.hid (hm.sub (Z := [r0, tt, ms, mb]) (fun k hk => by simp at hk ⊢; rcases hk with rfl | rfl | rfl | rfl <;> simp))
            have HT12 := Lib.hid (Mir.tab_same HT11.out (hsm tt (by simp)))
            have HMS12 := Lib.hid (owns_keep8 HMS11.out hsm (by simp))
            have HRG12 := Lib.hid (ranges_keep8 HRG11.out hsm (by simp) (by simp))
            clear hst hm hsm hF2 hcT2 hrd2 hrp2 hh0 HM11 HT11 HMS11 HRG11 hlk q0 q1 q2
            go_wp2_with fail
            go_roundw
            case rel => exact ⟨_, cnt1, cc1 + 4 + 8, S4, HRG12.out, fun z hz => HLF.out z (by simp at hz; exact hz.1), HPL4.out, HKN4.out, by have := HLT.out; omega, HT12.out, HMS12.out, HM12.out⟩
            case measure => rw [HRG12.out.left_eq, HRG.out.left_eq]; exact HLT.out
    · have hnlt : ¬ (c : Int) < (mm : Int) := by omega
      clear hlt
      go_wp2_with fail
      refine (Repairs_m HM.out).mono ?_
      rintro e w4 ⟨rfl, rfl⟩
      go_wp2_with fail
      refine (Bad_0 HM.out (fun t ht => by rw [HPL.out.m t ht]; decide)).mono ?_
      rintro e w5 ⟨rfl, hb⟩
      have HM5 := Lib.hid (HM.out.later hb)
      clear hb HM
      go_wp2_with fail
      refine (Degraded_m HM5.out).mono ?_
      rintro e w6 ⟨rfl, hb⟩
      rw [show decide ((al noG).length < 2) = false from rfl]
      have HM6 := Lib.hid (HM5.out.later hb)
      clear hb HM5
      go_wp2_with fail
      refine (Pair_m HM6.out).mono ?_
      rintro e w7 ⟨rfl, rfl⟩
      go_wp2_with fail
      refine (table_e HM6.out.cg.pb (s := 0) (by omega)).mono ?_
      rintro e w7 ⟨rfl, hb⟩
      rw [show mOf S 0 = [] from HPL.out.m 0 (by omega)]
      have HM7 := Lib.hid (HM6.out.later hb)
      clear hb HM6
      go_wp2_with fail
      refine (Tab.gen_any 14 6 [] _ (by simp)).mono ?_
      rintro e w8 ⟨rfl, hb⟩
      have HM8 := Lib.hid (HM7.out.later hb)
      clear hb HM7
      go_wp2_with fail
      refine (Pair_m HM8.out).mono ?_
      rintro e w9 ⟨rfl, rfl⟩
      go_wp2_with fail
      refine (table_e HM8.out.cg.pb (s := 1) (by omega)).mono ?_
      rintro e w9 ⟨rfl, hb⟩
      rw [show mOf S 1 = [] from HPL.out.m 1 (by omega)]
      have HM9 := Lib.hid (HM8.out.later hb)
      clear hb HM8
      go_wp2_with fail
      refine (Tab.gen_any 14 6 [] _ (by simp)).mono ?_
      rintro e w10 ⟨rfl, hb⟩
      have HB10 := Lib.hid (HM9.out.later hb).below
      clear hb HM9
      go_wp2
      go_ret
      exact ⟨rfl, HB10.out⟩

set_option maxRecDepth 100000 in
theorem contract (H : Type) (enc : TypeId × Value → H) (W : World) (base : Nat) (args : Array Value) (ds gs : List (DataW H)) (before : List MemPlace)
    (hval0 : ∀ (j : Nat) t v, Tryz.f4.params[j]? = some t → args[j]? = some v → Value.okWide Tryz.prog W .any base t v)
    (hW : DataW.Whole enc Tryz.prog Tryz.f4.params.toList Rows.mirrorQuietSpec.vars false W args.toList ds gs before) :
    Calls Tryz.prog 4 args W fun e W' => ∃ v, e = .returned v ∧ Rows.mirrorQuietSpec.post enc Tryz.prog Tryz.f4 false true false false W args v W' := by
  have hval : ∀ (j : Nat) t v, Tryz.f4.params[j]? = some t → args[j]? = some v → Value.okWide Tryz.prog W .any base t v := hval0
  have hW' := hW
  obtain ⟨p, q, hA0, hV, rfl, hfz, hnd⟩ := hW
  have hA : DataW.TrodAll enc Tryz.prog W 0 (fun _ => true) true Tryz.f4.params.toList args.toList ds p := hA0
  rw [Tryz.params4] at hA hval
  obtain ⟨v0, vs0, d0, ds0, p0, q0, hargs, rfl, rfl, h0, r0⟩ := trodAll_cons hA
  obtain ⟨rfl, rfl, rfl⟩ := trodAll_nil r0
  obtain rfl : args = #[v0] := by cases args; simp_all
  obtain ⟨rfl, rfl⟩ := trodVars_none hV
  have k0 := h0
  have lt0 : ∀ x ∈ p0, x.block < W.heap.size := by obtain ⟨m, hm⟩ := k0; exact DataW.trod_lt m _ _ _ hm
  obtain ⟨a0', l0', c0', rfl⟩ := okWide_slice Tryz.underlying64 (hval 0 64 v0 rfl rfl)
  obtain ⟨a0, a0l, a0c, a0z, he0, w0, w0l, w0m, w0w⟩ := open_ints_cell (c := .slice a0' l0' c0') Tryz.underlying64 Tryz.underlying67 (by kernel_rfl) (by obtain ⟨m, hm⟩ := h0; exact ⟨m, _, hm⟩)
  simp only [Value.slice.injEq] at he0
  obtain ⟨rfl, rfl, rfl⟩ := he0
  clear hA0 hval0
  refine (walk a0' l0' c0' a0z W w0 w0l w0m w0w).mono fun e W' ⟨he, bel⟩ => ?_
  subst he
  exact ⟨_, rfl, _, _, _, [], _, [], hW', trodAll_mk1 (shut_bool Tryz.underlying4 _), (trodAll_cons_mk (Below.trod laidOut (by kernel_rfl) (of_decide_eq_true (by kernel_rfl)) k0 bel lt0) trodAll_mk0), rfl, bel.frame _, fun h => by cases h⟩

noncomputable def laidWorld (os : Os) : World :=
  { World.holding Tryz.prog os ⟨#[], #[], []⟩ with heap := (((((World.holding Tryz.prog os ⟨#[], #[], []⟩).heap).modify 2 fun | .cells _ t frozen => .cells (#[.int .u8 128, .int .u8 191, .int .u8 160, .int .u8 191, .int .u8 128, .int .u8 159, .int .u8 144, .int .u8 191, .int .u8 128, .int .u8 143, .int .u8 0, .int .u8 0, .int .u8 0, .int .u8 0, .int .u8 0, .int .u8 0, .int .u8 0, .int .u8 0, .int .u8 0, .int .u8 0, .int .u8 0, .int .u8 0, .int .u8 0, .int .u8 0, .int .u8 0, .int .u8 0, .int .u8 0, .int .u8 0, .int .u8 0, .int .u8 0, .int .u8 0, .int .u8 0]) t frozen | o => o)).modify 1 fun | .cells _ t frozen => .cells ((Go.Pinned.utf8FirstZ.map fun z : Nat => Value.int .u8 (z : Int)).toArray) t frozen | o => o) }
theorem laid_met (os : Os) : laidMet Tryz.prog Rows.mirrorQuietRow.laid ((laidWorld os).forCall (fun _ _ => 0) ⟨#[], #[.slice none 0 0], []⟩).memory :=
  laidMet_of_run' 8 (by kernel_rfl) (by kernel_rfl)
theorem reads (os : Os) {H : Type} (enc : TypeId × Value → H) : ∃ places, DataW.whole enc Tryz.prog ((laidWorld os).forCall (fun _ _ => 0) ⟨#[], #[.slice none 0 0], []⟩).memory Tryz.f4.params.toList Rows.mirrorQuietSpec.vars false (#[.slice none 0 0] : Array Value).toList 8 = some ([.nil], [], places) :=
  ⟨[], by kernel_rfl⟩

set_option maxRecDepth 100000 in
theorem lifted (os : Os) (started : os.Started) (H : Type) (enc : TypeId × Value → H) (F : Stop.Interp) :
    ReturnsInHanded {} Tryz.checked os 4 .any ((OpenSpec.ofChange Rows.mirrorQuietSpec).preRow enc Tryz.prog Tryz.f4 Rows.mirrorQuietRow.domain false Rows.mirrorQuietRow.laid) (((OpenSpec.ofChange Rows.mirrorQuietSpec).at F).post enc Tryz.prog Tryz.f4 false true false false) := by
  obtain ⟨places, hx⟩ := reads os enc
  refine returnsInHanded_of_row (C := Tryz.checked) (s := OpenSpec.ofChange Rows.mirrorQuietSpec) own started (by kernel_rfl) Tryz.func4
    (witness_row_at (enc := enc) (C := Tryz.checked) false (laidWorld os) #[.slice none 0 0] rfl (by kernel_rfl) (by kernel_rfl) (by kernel_rfl)
      (OpenSpec.preRow_of_cond 8 hx (by kernel_rfl) (fun k hk => by cases hk) (by kernel_rfl) (laid_met os))) ?_
  intro W base args ds gs before hval hW _ _ _ hL _ _
  exact contract H enc W base args ds gs before hval hW

theorem said : Rows.MirrorQuietSaid :=
  OpenClaim.holds_of_cond 4 Tryz.f4 rfl rfl rfl rfl rfl rfl rfl ⟨rfl, rfl, rfl, rfl, rfl⟩ rfl rfl rfl rfl rfl (by kernel_rfl) Tryz.func4 (by kernel_rfl)
    (of_decide_eq_true (by kernel_rfl)) (by unfold Func.isWrapper; first | (rw [if_pos (by decide +kernel)]; kernel_rfl) | (rw [if_neg (by decide +kernel)]; exact ⟨rfl, rfl⟩))
    (fun os started H enc _ F => by rw [OpenClaim.pre_eq_preRow]; exact lifted os started H enc F)

theorem plain (f : FuncId) (fn : Func) (hf : Tryz.pinned.checked.prog.funcNamed "treenail/treenaillaw08.MirrorQuiet" = some f) (hfn : Tryz.pinned.checked.prog.funcs[f]? = some fn) :
    false = Tryz.pinned.checked.prog.looks [] ∧ ∀ (j : Nat) t, fn.params[j]? = some t → Tryz.pinned.checked.prog.wantsStandIn t = false := by
  obtain rfl : f = 4 := Option.some.inj ((show Tryz.prog.funcNamed "treenail/treenaillaw08.MirrorQuiet" = some 4 by kernel_rfl).symm.trans hf) |>.symm
  obtain rfl : fn = Tryz.f4 := (Option.some.inj (Tryz.func4.symm.trans hfn)).symm
  refine ⟨by kernel_rfl, fun j t ht => ?_⟩
  rw [Tryz.params4] at ht
  rcases j with _ | j
  · obtain rfl : t = 64 := by simpa using ht.symm
    exact (show Tryz.prog.wantsStandIn 64 = false by kernel_rfl)
  · simp at ht

/-- THE STATEMENT -/
theorem proved : Rows.MirrorQuietCardSaid :=
  Claim7.holds_tied_plain_at .later [] _ _ _ _ said (fun _ h => by cases h) (by kernel_rfl) (fun _ h => by cases h) mirrorQuiet_row_tie rfl ⟨rfl, rfl⟩ (by kernel_rfl) rfl plain (by kernel_rfl)
#print axioms proved
end Go.Proofs.YtcjfooikmaipdaaGreatDoor.mirrorQuiet
