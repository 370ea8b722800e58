/-
  The law NodeParts holds: each key belongs to just one child of a node that may be, and is within its range; cut by the ranges, each message is in just one part. Conditions: none but the row's own.
-/
import Derived.Test.YtfclecbhfamomaaRows
import Derived.Test.YtfclecbhfamomaaNoW
import Derived.Test.YtfclecbhfamomaaStructsZ
import Derived.WalkKit
import Derived.ProofKit
import Derived.OpenShut
import Derived.ShutString
import Derived.ChangeOld
import Derived.Below
import Derived.Carry
namespace Go.Proofs.Ytfclecbhfamomaa.nodeParts
open Go.ChangeShapes Go.WideShapes Go.ChangeAt Go.RowKit
open Go.Proofs.Ytfclecbhfamomaa
open Go.ChangeMaps (open_string shut_string)
set_option linter.unusedVariables false

theorem own : ownKnob Try.prog.godebug = none := by kernel_rfl
theorem laidOut : laidOutB Try.prog = true := by kernel_rfl

/-- the elements of argument 0 -/
def AR0 (w : World) (a : Option Addr) (len : Nat) : Prop := 0 < len → ∃ b off, a = some ⟨b, off, none⟩ ∧ ∀ i, i < len → ∃ (x0 : ByteArray) (x1 : Int) (x2 : Int) (x3 : Int), w.cell? ⟨b, off + (i * 4 + 0), none⟩ = some (.string x0) ∧ x0.size ≤ 140737488355327 ∧ w.cell? ⟨b, off + (i * 4 + 1), none⟩ = some (.int .i64 x1) ∧ (Lit.int .i64 x1).wf = true ∧ w.cell? ⟨b, off + (i * 4 + 2), none⟩ = some (.int .u64 x2) ∧ (Lit.int .u64 x2).wf = true ∧ w.cell? ⟨b, off + (i * 4 + 3), none⟩ = some (.int .u32 x3) ∧ (Lit.int .u32 x3).wf = true
theorem open_AR0 {H : Type} {enc : TypeId × Value → H} {w : World} {held : Bool} {c : Value} {d : DataW H} {pl : List MemPlace} (h : ∃ m, DataW.trod enc Try.prog w 0 (fun _ => true) held m 22 [c] = some (d, pl)) (hz : ∀ n ∈ d.weights Try.prog 22, n ≤ reachBytes) :
    ∃ a len cap, c = .slice a len cap ∧ AR0 w a len ∧ len ≤ cap ∧ cap ≤ maxLen := by
  obtain ⟨a, len, cap, hc, hl, hm, hx⟩ := open_structs_z Try.underlying22 Try.underlying72 (by kernel_rfl) (by kernel_rfl) (by decide) h hz
  refine ⟨a, len, cap, hc, fun hpos => ?_, hl, hm⟩
  obtain ⟨b, off, ha, hf⟩ := hx hpos
  refine ⟨b, off, ha, fun i hi => ?_⟩
  obtain ⟨v0, hc0, ht0, hz0⟩ := hf i hi 0 _ rfl
  obtain ⟨x0, rfl, hw0'⟩ := open_str_cell Try.underlying9 ht0
  have hw0 := hz0 Try.underlying9 _ rfl
  obtain ⟨v1, hc1, ht1, hz1⟩ := hf i hi 1 _ rfl
  obtain ⟨x1, rfl, hw1⟩ := open_int_cell Try.underlying3 ht1
  obtain ⟨v2, hc2, ht2, hz2⟩ := hf i hi 2 _ rfl
  obtain ⟨x2, rfl, hw2⟩ := open_int_cell Try.underlying47 ht2
  obtain ⟨v3, hc3, ht3, hz3⟩ := hf i hi 3 _ rfl
  obtain ⟨x3, rfl, hw3⟩ := open_int_cell Try.underlying48 ht3
  exact ⟨x0, x1, x2, x3, hc0, hw0, hc1, hw1, hc2, hw2, hc3, hw3⟩
/-- the elements of argument 1 -/
def AR1 (w : World) (a : Option Addr) (len : Nat) : Prop := 0 < len → ∃ b off, a = some ⟨b, off, none⟩ ∧ ∀ i, i < len → ∃ (x0 : Int) (x1 : ByteArray) (x2 : ByteArray) (x3 : Int), w.cell? ⟨b, off + (i * 4 + 0), none⟩ = some (.int .u8 x0) ∧ (Lit.int .u8 x0).wf = true ∧ w.cell? ⟨b, off + (i * 4 + 1), none⟩ = some (.string x1) ∧ x1.size ≤ 140737488355327 ∧ w.cell? ⟨b, off + (i * 4 + 2), none⟩ = some (.string x2) ∧ x2.size ≤ 140737488355327 ∧ w.cell? ⟨b, off + (i * 4 + 3), none⟩ = some (.int .u64 x3) ∧ (Lit.int .u64 x3).wf = true
theorem open_AR1 {H : Type} {enc : TypeId × Value → H} {w : World} {held : Bool} {c : Value} {d : DataW H} {pl : List MemPlace} (h : ∃ m, DataW.trod enc Try.prog w 0 (fun _ => true) held m 23 [c] = some (d, pl)) (hz : ∀ n ∈ d.weights Try.prog 23, n ≤ reachBytes) :
    ∃ a len cap, c = .slice a len cap ∧ AR1 w a len ∧ len ≤ cap ∧ cap ≤ maxLen := by
  obtain ⟨a, len, cap, hc, hl, hm, hx⟩ := open_structs_z Try.underlying23 Try.underlying66 (by kernel_rfl) (by kernel_rfl) (by decide) h hz
  refine ⟨a, len, cap, hc, fun hpos => ?_, hl, hm⟩
  obtain ⟨b, off, ha, hf⟩ := hx hpos
  refine ⟨b, off, ha, fun i hi => ?_⟩
  obtain ⟨v0, hc0, ht0, hz0⟩ := hf i hi 0 _ rfl
  obtain ⟨x0, rfl, hw0⟩ := open_int_cell Try.underlying5 ht0
  obtain ⟨v1, hc1, ht1, hz1⟩ := hf i hi 1 _ rfl
  obtain ⟨x1, rfl, hw1'⟩ := open_str_cell Try.underlying9 ht1
  have hw1 := hz1 Try.underlying9 _ rfl
  obtain ⟨v2, hc2, ht2, hz2⟩ := hf i hi 2 _ rfl
  obtain ⟨x2, rfl, hw2'⟩ := open_str_cell Try.underlying9 ht2
  have hw2 := hz2 Try.underlying9 _ rfl
  obtain ⟨v3, hc3, ht3, hz3⟩ := hf i hi 3 _ rfl
  obtain ⟨x3, rfl, hw3⟩ := open_int_cell Try.underlying47 ht3
  exact ⟨x0, x1, x2, x3, hc0, hw0, hc1, hw1, hc2, hw2, hc3, hw3⟩

set_option linter.unusedSimpArgs false
open Go.Proofs.Ytfclecbhfamomaa.Node Go.Proofs.Ytfclecbhfamomaa.Buf Go.Proofs.Ytfclecbhfamomaa.Msg Go.Proofs.Ytfclecbhfamomaa.Rec Go.Proofs.Ytfclecbhfamomaa.Lend

/-! ### STEP 1: THE WALK -/
set_option maxHeartbeats 16000000 in
set_option maxRecDepth 100000 in
theorem walk (a0 : Option Addr) (a0l a0c : Nat) (a1 : Option Addr) (a1l a1c : Nat) (a2 : ByteArray) (w : World) (w0 : AR0 w a0 a0l) (w0l : a0l ≤ a0c) (w0m : a0c ≤ maxLen) (w1 : AR1 w a1 a1l) (w1l : a1l ≤ a1c) (w1m : a1c ≤ maxLen) (w2 : a2.size ≤ maxLen) :
    Calls Try.prog 5 #[.slice a0 a0l a0c, .slice a1 a1l a1c, .string a2] w fun e w' => e = .returned (.bool true) ∧ Below w.heap.size w w' := by
  obtain ⟨cs, hl, hc, hq⟩ := chs_of (cap := a0c) w0
  obtain ⟨ms, hml, hm, hmq⟩ := ups_of (cap := a1c) w1
  subst hl hml
  obtain ⟨key, rfl⟩ : ∃ v, a2 = Lend.strOf v := ⟨a2.data.toList, Lend.strOf_ext rfl⟩
  have HM := Lib.hid hm
  have HQC := Lib.hid hq
  have HQM := Lib.hid hmq
  have HMA := Lib.hid (show ms.length ≤ a1c ∧ a1c ≤ 9223372036854775807 from ⟨w1l, by unfold maxLen at w1m; exact w1m⟩)
  have HTA := Lib.hid (tame_any hc w0l (by unfold maxLen at w0m; exact w0m) (fun c h => (hq c h).2) (fun c h => (hq c h).1))
  clear hc hq hm hmq w0 w0l w0m w1 w1l w1m w2
  obtain ⟨p, hp⟩ : ∃ z, z = cs.length := ⟨_, rfl⟩
  obtain ⟨q, hqq⟩ : ∃ z, z = ms.length := ⟨_, rfl⟩
  have HP := Lib.hid hp
  have HQQ := Lib.hid hqq
  rw [← hp] at HTA ⊢
  rw [← hqq] at HM HMA ⊢
  clear hp hqq
  obtain ⟨K, hK⟩ : ∃ z, z = Lend.strOf key := ⟨_, rfl⟩
  have HKY := Lib.hid hK
  rw [← hK]
  clear hK
  go_enter Try.func5, Try.ntmps5
  go_wp2_with fail
  refine HTA.out.mono ?_
  clear HTA
  rintro e w1 ⟨tv, rfl, htv, hb1⟩
  obtain ⟨ta, tc, hts, htc⟩ := own_shape htv
  subst hts
  have htm : tc ≤ 9223372036854775807 := by
    rcases htv.2 with ⟨h, _⟩ | ⟨g, cap, cur, h, _, _, _, hm, _⟩
    · simp at h; omega
    · simp at h
      unfold maxLen at hm
      omega
  have HTW := Lib.hid (show ∀ c ∈ tmC cs, Qc c from fun c h => by
    have := tmC_mem (fun x hx => (HQC.out x hx).1) h
    exact ⟨this.1, by have := this.2.1; omega⟩)
  have HOF := Lib.hid (of_any (CR.of_own htv) (by have h := HM.out.below hb1; rw [HQQ.out] at h; exact h) htc htm (by rw [← HQQ.out]; exact HMA.out.1) HMA.out.2 (fun c h => (HTW.out c h).2) (fun u h => (HQM.out u h).1) (fun u h => (HQM.out u h).2))
  rw [← HQQ.out] at HOF
  have HKQ := Lib.hid (kq_of (fun c h => (HTW.out c h).1) (fun u h => (HQM.out u h).1))
  have HKD := Lib.hid (show kidB (ofC (tmC cs)) = true by rw [ofC_tm (fun x hx => (HQC.out x hx).1)]; exact tmC_kid (fun x hx => (HQC.out x hx).1))
  have HB1 := Lib.hid hb1
  clear htv hb1 htc htm
  go_wp2_with fail
  refine HOF.out.mono ?_
  clear HOF
  rintro e w3 ⟨kv, bv, kv', bv', rfl, h1, h2, h3, h4, hb3⟩
  have hnx := Nx.new h1 h2 h3 h4
  obtain ⟨C, hC⟩ : ∃ z, z = ofC (tmC cs) := ⟨_, rfl⟩
  obtain ⟨L, hL⟩ : ∃ z, z = ofM ms := ⟨_, rfl⟩
  rw [← hC, ← hL] at HKQ hnx
  rw [← hC] at HKD
  rw [← hC] at h1 h3
  rw [← hL] at h2 h4
  have HCP := Lib.hid (cp_own h2)
  obtain ⟨ka, kc, hk1, _⟩ := own_shape h1
  obtain ⟨ba, bc, hk2, _⟩ := own_shape h2
  obtain ⟨xa, xc, hk3, _⟩ := own_shape h3
  obtain ⟨ya, yc, hk4, _⟩ := own_shape h4
  subst hk1 hk2 hk3 hk4
  have HB3 := Lib.hid (below_on HB1.out hb3)
  clear hC hL h1 h2 h3 h4 hb3
  obtain ⟨w4, hw4⟩ : ∃ z, z = (w3.alloc (.cells #[.slice ka C.length kc, .slice ba L.length bc] 31)).alloc (.cells #[.slice xa C.length xc, .slice ya L.length yc] 35) := ⟨_, rfl⟩
  have HB4 := Lib.hid (show Below w.heap.size w w4 by rw [hw4]; exact below_nw (below_nw HB3.out _) _)
  rw [← hw4] at hnx
  obtain ⟨X, hX⟩ : ∃ z, z = w3.heap.size := ⟨_, rfl⟩
  rw [← hX] at hnx
  have HX4 := Lib.hid hnx
  obtain ⟨cn, hcn⟩ : ∃ z, z = C.length := ⟨_, rfl⟩
  obtain ⟨ln, hln⟩ : ∃ z, z = L.length := ⟨_, rfl⟩
  have hcn20 : cn ≤ 20 := by rw [hcn]; exact HKQ.out.cl
  have hln10 : ln ≤ 10 := by rw [hln]; exact HKQ.out.ll
  have hcn1 : ¬ (cn : Int) = 0 := by have := ((kidB_iff C).1 HKD.out).1; omega
  have HCN := Lib.hid hcn
  have HLN := Lib.hid hln
  rw [← hcn, ← hln] at HX4 hw4
  rw [← hln] at HCP
  rw [← hcn, ← hln]
  clear hcn hln hnx
  go_upto_region 2 with fail
  rw [← hw4, ← hX]
  clear hw4 hX
  go_wp2_with fail
  refine (wakes_any w4).mono ?_
  rintro e w5 ⟨rfl, hb5⟩
  have HX5 := Lib.hid (HX4.out.on hb5)
  have HB5 := Lib.hid (below_on HB4.out hb5)
  clear hb5
  have x0 : w5.cell? ⟨X, 0, none⟩ = some (.slice ka cn kc) := HX5.out.n.cell 0
  have x1 : w5.cell? ⟨X, 1, none⟩ = some (.slice ba ln bc) := HX5.out.n.cell 1
  obtain ⟨I, hI⟩ : ∃ z, z = chI C key := ⟨_, rfl⟩
  have HCI := Lib.hid (child_any (bv := .slice ba ln bc) key HX5.out.ck (by have := HKQ.out.cl; omega))
  rw [← hI, ← HKY.out] at HCI
  have HI := Lib.hid hI
  clear hI
  go_wp2_with fail
  refine HCI.out.mono ?_
  clear HCI x0 x1
  rintro e w6 ⟨rfl, hb6⟩
  have HX6 := Lib.hid (HX5.out.on hb6)
  have HB6 := Lib.hid (below_on HB5.out hb6)
  clear hb6
  have x0 : w6.cell? ⟨X, 0, none⟩ = some (.slice ka cn kc) := HX6.out.n.cell 0
  have x1 : w6.cell? ⟨X, 1, none⟩ = some (.slice ba ln bc) := HX6.out.n.cell 1
  obtain ⟨w7, hw7⟩ : ∃ z, z = w6.alloc (.cells #[.slice ba ln bc] 29) := ⟨_, rfl⟩
  have HR7 := Lib.hid (show Has w7 w6.heap.size 29 [.slice ba ln bc] by rw [hw7]; exact Has.new w6 _ _)
  have HB7 := Lib.hid (show Below w6.heap.size w6 w7 by rw [hw7]; exact below_new _ _)
  go_upto_region 7 with fail
  rw [← hw7]
  clear hw7 x0 x1
  have x0 : w7.cell? ⟨X, 0, none⟩ = some (.slice ka cn kc) := (HX6.out.on HB7.out).n.cell 0
  have HU7 := Lib.hid (HX6.out.on HB7.out).cb
  go_wp2_with fail
  clear x0
  go_loopw [10, 40] (fun sv i wr => ∃ (j s : Nat) (rv : Value), j ≤ cn ∧ i = .int .i64 j ∧ sv = .int .i64 s ∧ Has wr w6.heap.size 29 [rv] ∧ UR wr rv (rsJ C L j) ∧ CpOk rv ∧ s + (rsJ C L j).length = L.length ∧ Below w6.heap.size w6 wr) (fun _ i _ => cn - (intOf i).toNat)
  case atStart => exact ⟨0, 0, _, Nat.zero_le _, rfl, rfl, HR7.out, HU7.out, HCP.out, by show 0 + L.length = _; omega, HB7.out⟩
  case round =>
    obtain ⟨j, s, rv, hj, rfl, rfl, hrv, hru, hrc, hsum, hbr⟩ := hrel
    rename World => wr
    have HRV := Lib.hid hrv
    have HRU := Lib.hid hru
    have HRC := Lib.hid hrc
    have HSU := Lib.hid hsum
    have HBR := Lib.hid hbr
    have HX8 := Lib.hid (HX6.out.on hbr)
    have hs10 : s ≤ 10 := by have := HLN.out; omega
    clear hrv hru hrc hsum hbr
    by_cases hlt : j < cn
    · have hji : (j : Int) < (cn : Int) := by omega
      have hjl : j < C.length := by rw [← HCN.out]; exact hlt
      have HII := Lib.hid (in_iff HKD.out key hjl)
      have hr := range_any (bv := .slice ba ln bc) (j : Int) HX8.out.ck (by have := HKQ.out.cl; omega)
      obtain ⟨lo, hlo⟩ : ∃ z, z = loC C (j : Int) := ⟨_, rfl⟩
      obtain ⟨hi, hhi⟩ : ∃ z, z = hiC C (j : Int) := ⟨_, rfl⟩
      have HSM := Lib.hid (rsJ_sum C L j)
      have HRN := Lib.hid (show rsJ C L (j + 1) = cutO lo hi (rsJ C L j) by rw [hlo, hhi]; rfl)
      have HRS := Lib.hid (rsJ_srt (C := C) HKQ.out.srt j)
      have HRL := Lib.hid (rsJ_len C L j)
      rw [← hlo, ← hhi] at HII hr HSM
      obtain ⟨A, hA⟩ : ∃ z, z = Lend.strOf lo := ⟨_, rfl⟩
      obtain ⟨B, hB⟩ : ∃ z, z = Lend.strOf hi := ⟨_, rfl⟩
      rw [← hA, ← hB] at hr
      have HR := Lib.hid hr
      have HA := Lib.hid hA
      have HBE := Lib.hid hB
      have x0 : wr.cell? ⟨X, 0, none⟩ = some (.slice ka cn kc) := HX8.out.n.cell 0
      have x1 : wr.cell? ⟨X, 1, none⟩ = some (.slice ba ln bc) := HX8.out.n.cell 1
      clear hlo hhi hr hA hB
      go_wp2_with fail
      refine HR.out.mono ?_
      clear HR x0 x1
      rintro e w9 ⟨rfl, hb9⟩
      have HB9 := Lib.hid hb9
      have HX9 := Lib.hid (HX8.out.on hb9)
      have HRV9 := Lib.hid (HRV.out.below hb9 HRV.out.lt)
      have HRU9 := Lib.hid (HRU.out.below hb9)
      have HB69 := Lib.hid (below_on HBR.out hb9)
      clear hb9
      go_upto_region 11 with fail
      go_cut [15] (fun b wx => b = .bool (decide ((j : Int) = I)) ∧ wx = w9)
      case first =>
        have hb1 := bl_str key lo
        have hb2 := bl_str key hi
        rw [← HKY.out, ← HA.out] at hb1
        rw [← HKY.out, ← HBE.out] at hb2
        have hE : (B.toList == []) = (hi == []) := by
          rw [HBE.out, ByteArray.toList_eq]; rfl
        have HDI : Hid (∀ b, inB lo hi key = b → decide ((j : Int) = I) = b) := Lib.hid (by
          intro b hb
          have h := HII.out
          rw [hb, ← HI.out] at h
          cases b with
          | true => rw [decide_eq_true_eq]; exact (h.1 rfl).symm
          | false => rw [decide_eq_false_iff_not]; intro e; exact absurd (h.2 e.symm) (by simp))
        cases h1 : kLt key lo with
        | true =>
          have HD := Lib.hid (HDI.out false (by unfold inB; rw [h1]; rfl))
          rw [h1] at hb1
          clear h1 hb2 hE
          go_wp2_with fail
          go_meet
          exact ⟨by rw [HD.out], rfl⟩
        | false =>
          rw [h1] at hb1
          by_cases h2 : hi = []
          · have HD := Lib.hid (HDI.out true (by unfold inB; rw [h1, h2]; rfl))
            have hk1 : B.toList = [] := by rw [HBE.out, h2, ByteArray.toList_eq]; rfl
            have hk2 : B.toList.isEmpty = true := by rw [hk1]; rfl
            clear h1 h2 hb2 hE
            go_wp2_with fail
            go_meet
            exact ⟨by rw [HD.out], rfl⟩
          · have hk1 : ¬ B.toList = [] := by rw [HBE.out]; exact str_ne h2
            have hk2 : B.toList.isEmpty = false := by rw [List.isEmpty_eq_false_iff]; exact hk1
            cases h3 : kLt key hi with
            | true =>
              have HD := Lib.hid (HDI.out true (by unfold inB; rw [h1, h3]; simp))
              rw [h3] at hb2
              clear h1 h2 h3 hE
              go_wp2_with fail
              go_meet
              exact ⟨by rw [HD.out], rfl⟩
            | false =>
              have HD := Lib.hid (HDI.out false (by unfold inB; rw [h1, h3]; simp [h2]))
              rw [h3] at hb2
              clear h1 h2 h3 hE
              go_wp2_with fail
              go_meet
              exact ⟨by rw [HD.out], rfl⟩
      case rest =>
        obtain ⟨rfl, hww⟩ := hcut
        have hww := hww.symm
        subst hww
        go_upto_region 12 with fail
        go_cut [65] (fun b wx => b = .bool false ∧ wx = w9)
        case first =>
          go_wp2_with fail
          go_meet
          refine ⟨?_, rfl⟩
          by_cases he : (j : Int) = I
          · simp [he]
          · simp [he]
        case rest =>
          obtain ⟨rfl, hww⟩ := hcut
          have hww := hww.symm
          subst hww
          obtain ⟨ra, rcp, hrs⟩ := HRU9.out.slice
          subst hrs
          obtain ⟨w10, hw10⟩ : ∃ z, z = w9.alloc (.cells #[.slice none 0 0] 29) := ⟨_, rfl⟩
          have hb10 : Below w9.heap.size w9 w10 := by rw [hw10]; exact below_new _ _
          have HT10 := Lib.hid (show Has w10 w9.heap.size 29 [.slice none 0 0] by rw [hw10]; exact Has.new w9 _ _)
          have HRV10 := Lib.hid (HRV9.out.below hb10 HRV9.out.lt)
          have HB10 := Lib.hid (below_on HB69.out hb10)
          have hcut := cut_any lo hi (HRU9.out.below hb10) HRC.out HRS.out (by have := HRL.out; have := HKQ.out.ll; omega)
          rw [← HA.out, ← HBE.out] at hcut
          have HCU := Lib.hid hcut
          have HLT := Lib.hid (show w6.heap.size < w9.heap.size from HRV9.out.lt)
          obtain ⟨rn, hrn⟩ : ∃ z, z = (rsJ C L j).length := ⟨_, rfl⟩
          have HRNN := Lib.hid hrn
          rw [← hrn] at HRV10 HCU
          clear hb10 hcut
          go_upto_region 15 with fail
          rw [← hw10]
          clear hw10 hrn
          have x0 : w10.cell? ⟨w6.heap.size, 0, none⟩ = some (.slice ra rn rcp) := HRV10.out.cell 0
          go_wp2_with fail
          refine HCU.out.mono ?_
          clear HCU x0
          rintro e w11 ⟨v1, v2, rfl, hv1, hv2, hb11⟩
          obtain ⟨ia, ic, hi1, _⟩ := own_shape hv1
          subst hi1
          obtain ⟨oa, oc, hi2, _⟩ := own_shape hv2
          subst hi2
          have HT11 := Lib.hid (HT10.out.below hb11 HT10.out.lt)
          have HRV11 := Lib.hid (HRV10.out.below hb11 HRV10.out.lt)
          have HB11 := Lib.hid (below_on HB10.out hb11)
          have HGE := Lib.hid (show w9.heap.size < w10.heap.size from HT10.out.lt)
          have HO1 := Lib.hid hv1
          have HO2 := Lib.hid hv2
          have HCP2 := Lib.hid (cp_own hv2)
          obtain ⟨n1, hn1⟩ : ∃ z, z = (cutI lo hi (rsJ C L j)).length := ⟨_, rfl⟩
          obtain ⟨n2, hn2⟩ : ∃ z, z = (cutO lo hi (rsJ C L j)).length := ⟨_, rfl⟩
          have HN1 := Lib.hid hn1
          have HN2 := Lib.hid hn2
          have z0 := HT11.out.cell 0
          have z1 := HT11.out.frozen 0
          have z2 := HRV11.out.cell 0
          have z3 := HRV11.out.frozen 0
          simp only [List.getElem?_cons_zero] at z0 z2
          rw [← hn1, ← hn2]
          obtain ⟨w12, hw12⟩ : ∃ z, z = (w11.setCell ⟨w9.heap.size, 0, none⟩ (.slice ia n1 ic)).setCell ⟨w6.heap.size, 0, none⟩ (.slice oa n2 oc) := ⟨_, rfl⟩
          have hlt6 : w6.heap.size ≠ w9.heap.size := by have := HLT.out; omega
          have HT12 := Lib.hid (show Has w12 w9.heap.size 29 [.slice ia n1 ic] by rw [hw12]; exact (HT11.out.set 0 _).setOther hlt6 _)
          have HRV12 := Lib.hid (show Has w12 w6.heap.size 29 [.slice oa n2 oc] by rw [hw12]; exact (HRV11.out.setOther (by show w9.heap.size ≠ w6.heap.size; omega) _).set 0 _)
          have HB12 := Lib.hid (show Below w6.heap.size w6 w12 by rw [hw12]; exact (HB11.out.setCell (by show w6.heap.size ≤ w9.heap.size; have := HLT.out; omega) _).setCell (Nat.le_refl _) _)
          have HU1 := Lib.hid (show UR w12 (.slice ia n1 ic) (cutI lo hi (rsJ C L j)) by
            rw [hw12, hn1]
            exact UR.of_own (row_st1 (row_st1 HO1.out HGE.out _) (by have := HLT.out; have := HGE.out; omega) _))
          have HU2 := Lib.hid (show UR w12 (.slice oa n2 oc) (cutO lo hi (rsJ C L j)) by
            rw [hw12, hn2]
            exact UR.of_own (row_st1 (row_st1 HO2.out HGE.out _) (by have := HLT.out; have := HGE.out; omega) _))
          rw [← hn2] at HCP2
          clear hv1 hv2 hb11 hn1 hn2
          go_upto_region 16 with fail
          rw [← hw12]
          clear hw12 z0 z1 z2 z3 hlt6
          have HLE := Lib.hid (len_any HU1.out)
          rw [← HN1.out] at HLE
          have x0 : w12.cell? ⟨w9.heap.size, 0, none⟩ = some (.slice ia n1 ic) := HT12.out.cell 0
          go_wp2_with fail
          refine HLE.out.mono ?_
          clear HLE x0
          rintro e w13 ⟨rfl, hb13⟩
          have HRV13 := Lib.hid (HRV12.out.below hb13 HRV12.out.lt)
          have HU13 := Lib.hid (HU2.out.below hb13)
          have HB13 := Lib.hid (below_on HB12.out hb13)
          have hnb : s + n1 + n2 = ln := by
            have h1 := HSU.out
            have h2 := HSM.out
            rw [HRN.out, ← HN1.out, ← HN2.out] at h2
            rw [← HLN.out] at h1
            omega
          clear hb13
          go_wp2_with fail
          go_roundw
          case rel => exact ⟨j + 1, s + n1, _, by omega, by go_num, by go_num, HRV13.out, by rw [HRN.out]; exact HU13.out, HCP2.out, by rw [HRN.out, ← HN2.out, ← HLN.out]; omega, HB13.out⟩
          case measure => simp [intOf]; omega
    · obtain rfl : j = cn := by omega
      have hji : ¬ ((j : Int) < (j : Int)) := by omega
      have hend : rsJ C L j = [] := by rw [HCN.out]; exact rsJ_end HKD.out L
      have hs : s = ln := by
        have := HSU.out
        rw [hend] at this
        have := HLN.out
        simp at *
        omega
      rw [hend] at HRU
      obtain ⟨ra, rcp, hrs⟩ := HRU.out.slice
      subst hrs
      subst hs
      have HL1 := Lib.hid (len_any HRU.out)
      have hz : ([] : List Up).length = 0 := rfl
      rw [hz] at HRV HL1
      have x0 : wr.cell? ⟨w6.heap.size, 0, none⟩ = some (.slice ra 0 rcp) := HRV.out.cell 0
      clear hend hz
      go_wp2_with fail
      refine HL1.out.mono ?_
      clear HL1 x0
      rintro e w9 ⟨rfl, hb9⟩
      have HX9 := Lib.hid (HX8.out.on hb9)
      have HL2 := Lib.hid (len_any HX9.out.cb)
      rw [← HLN.out] at HL2
      have x1 : w9.cell? ⟨X, 1, none⟩ = some (.slice ba s bc) := HX9.out.n.cell 1
      have HB9 := Lib.hid (below_on HBR.out hb9)
      clear hb9
      go_wp2_with fail
      refine HL2.out.mono ?_
      clear HL2 x1
      rintro e w10 ⟨rfl, hb10⟩
      have HBF := Lib.hid (below_on (below_on HB6.out HB9.out) hb10)
      clear hb10
      go_wp2_with fail
      go_ret
      exact ⟨rfl, HBF.out⟩

/-! ### THE ROW's STEP -/
set_option maxRecDepth 100000 in
theorem lifted (os : Os) (started : os.Started) (H : Type) (enc : TypeId × Value → H) :
    ReturnsInHanded {} Try.checked os 5 .any (Rows.nodePartsSpec.pre6 enc Try.prog Try.f5 Rows.nodePartsRow.domain false) (Rows.nodePartsSpec.post enc Try.prog Try.f5 false true false false) := by
  refine returnsInHanded_of_change_sized (C := Try.checked) own started (by kernel_rfl) Try.func5
    (ChangeSpec.witness6 (enc := enc) (C := Try.checked) false ⟨#[], #[.slice none 0 0, .slice none 0 0, .string ByteArray.empty], []⟩ 8 (by kernel_rfl) (by kernel_rfl) (by kernel_rfl) (by kernel_rfl)) ?_
  intro W base args ds gs before hval0 hW hcnd hsz _
  have hval : ∀ (j : Nat) t v, Try.f5.params[j]? = some t → args[j]? = some v → Value.okWide Try.prog W .any base t v := hval0
  have hW' := hW
  obtain ⟨p, q, hA0, hV, rfl, hfz, hnd⟩ := hW
  have hA : DataW.TrodAll enc Try.prog W 0 (fun _ => true) true Try.f5.params.toList args.toList ds p := hA0
  rw [Try.params5] at hA hval
  obtain ⟨v0, vs0, d0, ds0, p0, q0, hargs, rfl, rfl, h0, r0⟩ := trodAll_cons hA
  obtain ⟨v1, vs1, d1, ds1, p1, q1, rfl, rfl, rfl, h1, r1⟩ := trodAll_cons r0
  obtain ⟨v2, vs2, d2, ds2, p2, q2, rfl, rfl, rfl, h2, r2⟩ := trodAll_cons r1
  obtain ⟨rfl, rfl, rfl⟩ := trodAll_nil r2
  obtain rfl : args = #[v0, v1, v2] := by cases args; simp_all
  obtain ⟨rfl, rfl⟩ := trodVars_none hV
  have k0 := h0
  have lt0 : ∀ x ∈ p0, x.block < W.heap.size := by obtain ⟨m, hm⟩ := k0; exact DataW.trod_lt m _ _ _ hm
  obtain ⟨a0', l0', c0', rfl⟩ := okWide_slice Try.underlying22 (hval 0 22 v0 rfl rfl)
  obtain ⟨a0, a0l, a0c, he0, w0, w0l, w0m⟩ := open_AR0 (c := .slice a0' l0' c0') (by obtain ⟨m, hm⟩ := h0; exact ⟨m, hm⟩) (fun n hn => by have := List.all_eq_true.1 hsz n (DataW.weights_mem_each (j := 0) rfl rfl n hn); simpa using this)
  simp only [Value.slice.injEq] at he0
  obtain ⟨rfl, rfl, rfl⟩ := he0
  have k1 := h1
  have lt1 : ∀ x ∈ p1, x.block < W.heap.size := by obtain ⟨m, hm⟩ := k1; exact DataW.trod_lt m _ _ _ hm
  obtain ⟨a1', l1', c1', rfl⟩ := okWide_slice Try.underlying23 (hval 1 23 v1 rfl rfl)
  obtain ⟨a1, a1l, a1c, he1, w1, w1l, w1m⟩ := open_AR1 (c := .slice a1' l1' c1') (by obtain ⟨m, hm⟩ := h1; exact ⟨m, hm⟩) (fun n hn => by have := List.all_eq_true.1 hsz n (DataW.weights_mem_each (j := 1) rfl rfl n hn); simpa using this)
  simp only [Value.slice.injEq] at he1
  obtain ⟨rfl, rfl, rfl⟩ := he1
  obtain ⟨a2, rfl, rfl, rfl, w2⟩ := open_string Try.underlying9 (hval 2 9 v2 rfl rfl) h2
  clear hA0 hval0
  refine (walk a0' l0' c0' a1' l1' c1' a2 W w0 w0l w0m w1 w1l w1m w2).mono fun e W' ⟨he, bel⟩ => ?_
  subst he
  exact ⟨_, rfl, _, _, _, [], _, [], hW', trodAll_mk1 (shut_bool Try.underlying4 _), (trodAll_cons_mk (Below.trod laidOut (by kernel_rfl) (of_decide_eq_true (by kernel_rfl)) k0 bel lt0) (trodAll_cons_mk (Below.trod laidOut (by kernel_rfl) (of_decide_eq_true (by kernel_rfl)) k1 bel lt1) (trodAll_cons_mk (shut_string Try.underlying9 w2) trodAll_mk0))), rfl, bel.frame _, fun h => by cases h⟩

theorem over : Rows.nodePartsRow.holds Try.pinned (OpenSpec.ofChange Rows.nodePartsSpec) :=
  OpenClaim.holds_of_wide 5 Try.f5 rfl rfl rfl rfl rfl rfl rfl ⟨rfl, rfl, rfl, rfl, rfl⟩ rfl rfl rfl rfl rfl (by kernel_rfl) Try.func5 (by kernel_rfl)
    (of_decide_eq_true (by kernel_rfl)) (by unfold Func.isWrapper; first | (rw [if_pos (by decide +kernel)]; kernel_rfl) | (rw [if_neg (by decide +kernel)]; exact ⟨rfl, rfl⟩))
    (fun os started H enc _ => lifted os started H enc)

/-- THE STATEMENT -/
theorem proved : Rows.NodePartsSaid := over
#print axioms proved
end Go.Proofs.Ytfclecbhfamomaa.nodeParts
