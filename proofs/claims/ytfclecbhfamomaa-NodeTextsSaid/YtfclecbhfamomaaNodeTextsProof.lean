/-
  The law NodeTexts holds: which nodes may be, to which child every key belongs, and the bytes, are the document's, or its error. Conditions: none but the row's own.
-/
import Derived.Test.YtfclecbhfamomaaRows
import Derived.Test.YtfclecbhfamomaaNoW
import Derived.Test.YtfclecbhfamomaaNoB
import Derived.Test.YtfclecbhfamomaaRegion
import Derived.Test.YtfclecbhfamomaaRegionW
import Derived.Test.YtfclecbhfamomaaRegionV
import Derived.Test.YtfclecbhfamomaaStructsZ
import Derived.WalkKit
import Derived.ProofKit
import Derived.OpenShut
import Derived.ShutString
import Derived.ChangeOld
import Derived.Below
import Derived.Carry
namespace Go.Proofs.Ytfclecbhfamomaa.nodeTexts
open Go.ChangeShapes Go.WideShapes Go.ChangeAt Go.RowKit
open Go.Proofs.Ytfclecbhfamomaa
open Go.ChangeMaps (open_string shut_string)
set_option linter.unusedVariables false

theorem own : ownKnob Try.prog.godebug = none := by kernel_rfl
theorem laidOut : laidOutB Try.prog = true := by kernel_rfl

/-- the elements of argument 0 -/
def AR0 (w : World) (a : Option Addr) (len : Nat) : Prop := 0 < len → ∃ b off, a = some ⟨b, off, none⟩ ∧ ∀ i, i < len → ∃ (x0 : ByteArray) (x1 : Int) (x2 : Int) (x3 : Int), w.cell? ⟨b, off + (i * 4 + 0), none⟩ = some (.string x0) ∧ x0.size ≤ 140737488355327 ∧ w.cell? ⟨b, off + (i * 4 + 1), none⟩ = some (.int .i64 x1) ∧ (Lit.int .i64 x1).wf = true ∧ w.cell? ⟨b, off + (i * 4 + 2), none⟩ = some (.int .u64 x2) ∧ (Lit.int .u64 x2).wf = true ∧ w.cell? ⟨b, off + (i * 4 + 3), none⟩ = some (.int .u32 x3) ∧ (Lit.int .u32 x3).wf = true
theorem open_AR0 {H : Type} {enc : TypeId × Value → H} {w : World} {held : Bool} {c : Value} {d : DataW H} {pl : List MemPlace} (h : ∃ m, DataW.trod enc Try.prog w 0 (fun _ => true) held m 22 [c] = some (d, pl)) (hz : ∀ n ∈ d.weights Try.prog 22, n ≤ reachBytes) :
    ∃ a len cap, c = .slice a len cap ∧ AR0 w a len ∧ len ≤ cap ∧ cap ≤ maxLen := by
  obtain ⟨a, len, cap, hc, hl, hm, hx⟩ := open_structs_z Try.underlying22 Try.underlying72 (by kernel_rfl) (by kernel_rfl) (by decide) h hz
  refine ⟨a, len, cap, hc, fun hpos => ?_, hl, hm⟩
  obtain ⟨b, off, ha, hf⟩ := hx hpos
  refine ⟨b, off, ha, fun i hi => ?_⟩
  obtain ⟨v0, hc0, ht0, hz0⟩ := hf i hi 0 _ rfl
  obtain ⟨x0, rfl, hw0'⟩ := open_str_cell Try.underlying9 ht0
  have hw0 := hz0 Try.underlying9 _ rfl
  obtain ⟨v1, hc1, ht1, hz1⟩ := hf i hi 1 _ rfl
  obtain ⟨x1, rfl, hw1⟩ := open_int_cell Try.underlying3 ht1
  obtain ⟨v2, hc2, ht2, hz2⟩ := hf i hi 2 _ rfl
  obtain ⟨x2, rfl, hw2⟩ := open_int_cell Try.underlying47 ht2
  obtain ⟨v3, hc3, ht3, hz3⟩ := hf i hi 3 _ rfl
  obtain ⟨x3, rfl, hw3⟩ := open_int_cell Try.underlying48 ht3
  exact ⟨x0, x1, x2, x3, hc0, hw0, hc1, hw1, hc2, hw2, hc3, hw3⟩
/-- the elements of argument 1 -/
def AR1 (w : World) (a : Option Addr) (len : Nat) : Prop := 0 < len → ∃ b off, a = some ⟨b, off, none⟩ ∧ ∀ i, i < len → ∃ (x0 : Int) (x1 : ByteArray) (x2 : ByteArray) (x3 : Int), w.cell? ⟨b, off + (i * 4 + 0), none⟩ = some (.int .u8 x0) ∧ (Lit.int .u8 x0).wf = true ∧ w.cell? ⟨b, off + (i * 4 + 1), none⟩ = some (.string x1) ∧ x1.size ≤ 140737488355327 ∧ w.cell? ⟨b, off + (i * 4 + 2), none⟩ = some (.string x2) ∧ x2.size ≤ 140737488355327 ∧ w.cell? ⟨b, off + (i * 4 + 3), none⟩ = some (.int .u64 x3) ∧ (Lit.int .u64 x3).wf = true
theorem open_AR1 {H : Type} {enc : TypeId × Value → H} {w : World} {held : Bool} {c : Value} {d : DataW H} {pl : List MemPlace} (h : ∃ m, DataW.trod enc Try.prog w 0 (fun _ => true) held m 23 [c] = some (d, pl)) (hz : ∀ n ∈ d.weights Try.prog 23, n ≤ reachBytes) :
    ∃ a len cap, c = .slice a len cap ∧ AR1 w a len ∧ len ≤ cap ∧ cap ≤ maxLen := by
  obtain ⟨a, len, cap, hc, hl, hm, hx⟩ := open_structs_z Try.underlying23 Try.underlying66 (by kernel_rfl) (by kernel_rfl) (by decide) h hz
  refine ⟨a, len, cap, hc, fun hpos => ?_, hl, hm⟩
  obtain ⟨b, off, ha, hf⟩ := hx hpos
  refine ⟨b, off, ha, fun i hi => ?_⟩
  obtain ⟨v0, hc0, ht0, hz0⟩ := hf i hi 0 _ rfl
  obtain ⟨x0, rfl, hw0⟩ := open_int_cell Try.underlying5 ht0
  obtain ⟨v1, hc1, ht1, hz1⟩ := hf i hi 1 _ rfl
  obtain ⟨x1, rfl, hw1'⟩ := open_str_cell Try.underlying9 ht1
  have hw1 := hz1 Try.underlying9 _ rfl
  obtain ⟨v2, hc2, ht2, hz2⟩ := hf i hi 2 _ rfl
  obtain ⟨x2, rfl, hw2'⟩ := open_str_cell Try.underlying9 ht2
  have hw2 := hz2 Try.underlying9 _ rfl
  obtain ⟨v3, hc3, ht3, hz3⟩ := hf i hi 3 _ rfl
  obtain ⟨x3, rfl, hw3⟩ := open_int_cell Try.underlying47 ht3
  exact ⟨x0, x1, x2, x3, hc0, hw0, hc1, hw1, hc2, hw2, hc3, hw3⟩

set_option linter.unusedSimpArgs false
open Go.Proofs.Ytfclecbhfamomaa.Node Go.Proofs.Ytfclecbhfamomaa.Buf Go.Proofs.Ytfclecbhfamomaa.Msg Go.Proofs.Ytfclecbhfamomaa.Rec Go.Proofs.Ytfclecbhfamomaa.Lend

/-! ### STEP 1: THE WALK -/
set_option maxHeartbeats 16000000 in
set_option maxRecDepth 100000 in
theorem walk (a0 : Option Addr) (a0l a0c : Nat) (a1 : Option Addr) (a1l a1c : Nat) (a2 : ByteArray) (w : World) (w0 : AR0 w a0 a0l) (w0l : a0l ≤ a0c) (w0m : a0c ≤ maxLen) (w1 : AR1 w a1 a1l) (w1l : a1l ≤ a1c) (w1m : a1c ≤ maxLen) (w2 : a2.size ≤ maxLen) :
    Calls Try.prog 3 #[.slice a0 a0l a0c, .slice a1 a1l a1c, .string a2] w fun e w' => e = .returned (.bool true) ∧ Below w.heap.size w w' := by
  obtain ⟨cs, hl, hc, hq⟩ := chs_of (cap := a0c) w0
  obtain ⟨ms, hml, hm, hmq⟩ := ups_of (cap := a1c) w1
  subst hl hml
  obtain ⟨key, rfl⟩ : ∃ v, a2 = Lend.strOf v := ⟨a2.data.toList, Lend.strOf_ext rfl⟩
  have HC := Lib.hid hc
  have HM := Lib.hid hm
  have HQC := Lib.hid hq
  have HQM := Lib.hid hmq
  have HCA := Lib.hid (show cs.length ≤ a0c ∧ a0c ≤ 9223372036854775807 from ⟨w0l, by unfold maxLen at w0m; exact w0m⟩)
  have HMA := Lib.hid (show ms.length ≤ a1c ∧ a1c ≤ 9223372036854775807 from ⟨w1l, by unfold maxLen at w1m; exact w1m⟩)
  have HTA := Lib.hid (tame_any hc HCA.out.1 HCA.out.2 (fun c h => (hq c h).2) (fun c h => (hq c h).1))
  clear hc hq hm hmq w0 w0l w0m w1 w1l w1m w2
  obtain ⟨p, hp⟩ : ∃ z, z = cs.length := ⟨_, rfl⟩
  obtain ⟨q, hqq⟩ : ∃ z, z = ms.length := ⟨_, rfl⟩
  have HP := Lib.hid hp
  have HQQ := Lib.hid hqq
  rw [← hp] at HC HCA HTA ⊢
  rw [← hqq] at HM HMA ⊢
  clear hp hqq
  obtain ⟨K, hK⟩ : ∃ z, z = Lend.strOf key := ⟨_, rfl⟩
  have HKY := Lib.hid hK
  rw [← hK]
  clear hK
  go_enter Try.func3, Try.ntmps3
  go_wp2_with fail
  refine HTA.out.mono ?_
  clear HTA
  rintro e w1 ⟨tv, rfl, htv, hb1⟩
  obtain ⟨ta, tc, hts, htc⟩ := own_shape htv
  subst hts
  have htm : tc ≤ 9223372036854775807 := by
    rcases htv.2 with ⟨h, _⟩ | ⟨g, cap, cur, h, _, _, _, hm, _⟩
    · simp at h; omega
    · simp at h
      unfold maxLen at hm
      omega
  have HTC := Lib.hid (And.intro htc htm)
  have HB1 := Lib.hid hb1
  have HT1 := Lib.hid (CR.of_own htv)
  have HC1 := Lib.hid (HC.out.below hb1)
  have HM1 := Lib.hid (HM.out.below hb1)
  clear htv hb1 htc htm
  obtain ⟨w2, hw2⟩ : ∃ z, z = w1.alloc (.cells #[.slice a0 p a0c, .slice ta (tmC cs).length tc] 22) := ⟨_, rfl⟩
  have hb2 : Below w1.heap.size w1 w2 := by rw [hw2]; exact below_new _ _
  have HH2 := Lib.hid (show Has w2 w1.heap.size 22 [.slice a0 p a0c, .slice ta (tmC cs).length tc] by rw [hw2]; exact Has.new w1 _ _)
  have HB2 := Lib.hid (below_on HB1.out hb2)
  have HT2 := Lib.hid (HT1.out.below hb2)
  have HC2 := Lib.hid (HC1.out.below hb2)
  have HM2 := Lib.hid (HM1.out.below hb2)
  have HTW := Lib.hid (show ∀ c ∈ tmC cs, Qc c from fun c h => by
    have := tmC_mem (fun x hx => (HQC.out x hx).1) h
    exact ⟨this.1, by have := this.2.1; omega⟩)
  obtain ⟨tn, htn⟩ : ∃ z, z = (tmC cs).length := ⟨_, rfl⟩
  have HTN := Lib.hid htn
  rw [← htn] at HT2 HTC HH2 hw2
  rw [← htn]
  clear hb2 htn
  go_upto_region 2 with fail
  rw [← hw2]
  clear hw2
  go_loopw [25] (fun i wr => ∃ j : Nat, j ≤ 2 ∧ i = .int .i64 j ∧ Below w2.heap.size w2 wr) (fun i _ => 2 - (intOf i).toNat)
  case atStart => exact ⟨0, Nat.zero_le _, rfl, Below.refl _ _⟩
  case round =>
    obtain ⟨j, hj, rfl, hb⟩ := hrel
    rename World => wr
    have HBR := Lib.hid hb
    clear hb
    by_cases hlt : j < 2
    · have hji : (j : Int) < 2 := by omega
      have hj0 : 0 ≤ (j : Int) := by omega
      obtain ⟨da, dc, D, hcell, hdr, hd1, hd2, hdq⟩ : ∃ da dc D, wr.cell? ⟨w1.heap.size, j, none⟩ = some (.slice da D.length dc) ∧ CR wr (.slice da D.length dc) D ∧ D.length ≤ dc ∧ dc ≤ 9223372036854775807 ∧ (∀ c ∈ D, Qc c) := by
        have hh := HH2.out.below HBR.out HH2.out.lt
        have hj2 : j = 0 ∨ j = 1 := by omega
        rcases hj2 with rfl | rfl
        · exact ⟨a0, a0c, cs, by rw [← HP.out]; exact hh.cell 0, by rw [← HP.out]; exact HC2.out.below HBR.out, by rw [← HP.out]; exact HCA.out.1, HCA.out.2, HQC.out⟩
        · exact ⟨ta, tc, tmC cs, by rw [← HTN.out]; exact hh.cell 1, by rw [← HTN.out]; exact HT2.out.below HBR.out, by rw [← HTN.out]; exact HTC.out.1, HTC.out.2, HTW.out⟩
      have HOF := Lib.hid (of_any hdr (by have h := HM2.out.below HBR.out; rw [HQQ.out] at h; exact h) hd1 hd2 (by rw [← HQQ.out]; exact HMA.out.1) HMA.out.2 (fun c h => (hdq c h).2) (fun u h => (HQM.out u h).1) (fun u h => (HQM.out u h).2))
      rw [← HQQ.out] at HOF
      have HKQ := Lib.hid (kq_of (fun c h => (hdq c h).1) (fun u h => (HQM.out u h).1))
      obtain ⟨dn, hdn⟩ : ∃ z, z = D.length := ⟨_, rfl⟩
      rw [← hdn] at hcell HOF
      clear hdr hd1 hd2 hdq hdn
      go_upto_region 4 with fail
      clear hcell
      go_wp2_with fail
      refine HOF.out.mono ?_
      clear HOF
      rintro e w3 ⟨kv, bv, kv', bv', rfl, h1, h2, h3, h4, hb3⟩
      have hnx := Nx.new h1 h2 h3 h4
      obtain ⟨C, hC⟩ : ∃ z, z = ofC D := ⟨_, rfl⟩
      obtain ⟨L, hL⟩ : ∃ z, z = ofM ms := ⟨_, rfl⟩
      rw [← hC, ← hL] at HKQ hnx
      rw [← hC] at h1 h3
      rw [← hL] at h2 h4
      obtain ⟨ka, kc, hk1, _⟩ := own_shape h1
      obtain ⟨ba, bc, hk2, _⟩ := own_shape h2
      obtain ⟨xa, xc, hk3, _⟩ := own_shape h3
      obtain ⟨ya, yc, hk4, _⟩ := own_shape h4
      subst hk1 hk2 hk3 hk4
      have HB3 := Lib.hid (below_on HBR.out hb3)
      clear hC hL h1 h2 h3 h4 hb3
      go_upto_region 5 with fail
      obtain ⟨w4, hw4⟩ : ∃ z, z = (w3.alloc (.cells #[.slice ka C.length kc, .slice ba L.length bc] 31)).alloc (.cells #[.slice xa C.length xc, .slice ya L.length yc] 35) := ⟨_, rfl⟩
      have HB4 := Lib.hid (show Below w2.heap.size w2 w4 by rw [hw4]; exact below_nw (below_nw HB3.out _) _)
      rw [← hw4] at hnx ⊢
      clear hw4
      obtain ⟨X, hX⟩ : ∃ z, z = w3.heap.size := ⟨_, rfl⟩
      rw [← hX] at hnx ⊢
      clear hX
      have HX4 := Lib.hid hnx
      have HTX := Lib.hid (text_any hnx.ck hnx.cb HKQ.out.wc HKQ.out.wf HKQ.out.ris)
      have HTR := Lib.hid (fun (W : World) (hb : Below w4.heap.size w4 W) => ntext_any (hnx.on hb).dk (hnx.on hb).db HKQ.out.wf HKQ.out.wc)
      have HRI := Lib.hid (fun (W : World) (hb : Below w4.heap.size w4 W) => right_any (hnx.on hb).ck (hnx.on hb).cb HKQ.out.wc HKQ.out.wf HKQ.out.ris)
      have HRR := Lib.hid (fun (W : World) (hb : Below w4.heap.size w4 W) => nright_any (hnx.on hb).dk (hnx.on hb).db HKQ.out.wf)
      have HCI := Lib.hid (fun (W : World) (hb : Below w4.heap.size w4 W) => child_any (bv := .slice ba L.length bc) key (hnx.on hb).ck (by have := HKQ.out.cl; omega))
      have HCR := Lib.hid (fun (W : World) (hb : Below w4.heap.size w4 W) => chof_any (bv := .slice ya L.length yc) key (hnx.on hb).dk (by have := HKQ.out.cl; omega))
      have HRG := Lib.hid (fun (W : World) (hb : Below w4.heap.size w4 W) (i : Int) => range_any (bv := .slice ba L.length bc) i (hnx.on hb).ck (by have := HKQ.out.cl; omega))
      obtain ⟨cn, hcn⟩ : ∃ z, z = C.length := ⟨_, rfl⟩
      obtain ⟨ln, hln⟩ : ∃ z, z = L.length := ⟨_, rfl⟩
      have hcn20 : cn ≤ 20 := by rw [hcn]; exact HKQ.out.cl
      have HCN := Lib.hid hcn
      rw [← hcn, ← hln] at HX4 HTX HTR HRI HRR HCI HCR HRG
      rw [← hcn, ← hln]
      obtain ⟨R, hR⟩ : ∃ z, z = nodB C L := ⟨_, rfl⟩
      obtain ⟨T, hT⟩ : ∃ z, z = Lend.strOf (ttN C L) := ⟨_, rfl⟩
      obtain ⟨E, hE⟩ : ∃ z, z = teN C L := ⟨_, rfl⟩
      obtain ⟨I, hI⟩ : ∃ z, z = chI C key := ⟨_, rfl⟩
      rw [← hT, ← hE] at HTX HTR
      rw [← hR] at HRI HRR
      rw [← hI, ← HKY.out] at HCI HCR
      clear hcn hln hR hT hE hI hnx
      have x0 : w4.cell? ⟨X, 0, none⟩ = some (.slice ka cn kc) := HX4.out.n.cell 0
      have x1 : w4.cell? ⟨X, 1, none⟩ = some (.slice ba ln bc) := HX4.out.n.cell 1
      go_wp2_with fail
      refine HTX.out.mono ?_
      clear HTX x0 x1
      rintro e w5 ⟨rfl, hb5⟩
      have HX5 := Lib.hid (HX4.out.on hb5)
      have HB5 := Lib.hid hb5
      have x0 : w5.cell? ⟨X + 1, 0, none⟩ = some (.slice xa cn xc) := HX5.out.x.cell 0
      have x1 : w5.cell? ⟨X + 1, 1, none⟩ = some (.slice ya ln yc) := HX5.out.x.cell 1
      clear hb5
      go_wp2_with fail
      refine (HTR.out w5 HB5.out).mono ?_
      clear HTR x0 x1
      rintro e w6 ⟨rfl, hb6⟩
      have HX6 := Lib.hid (HX5.out.on hb6)
      have HB6 := Lib.hid (below_on HB5.out hb6)
      have HRI := Lib.hid (fun (W : World) (hb : Below w6.heap.size w6 W) => HRI.out W (below_on HB6.out hb))
      have HRR := Lib.hid (fun (W : World) (hb : Below w6.heap.size w6 W) => HRR.out W (below_on HB6.out hb))
      have HCI := Lib.hid (fun (W : World) (hb : Below w6.heap.size w6 W) => HCI.out W (below_on HB6.out hb))
      have HCR := Lib.hid (fun (W : World) (hb : Below w6.heap.size w6 W) => HCR.out W (below_on HB6.out hb))
      clear hb6
      go_upto_region 7 with fail
      refine Reg.region_vals (by kernel_rfl) [(45, .agg #[.slice ka cn kc, .slice ba ln bc]), (46, .bool R), (47, .agg #[.slice xa cn xc, .slice ya ln yc]), (48, .bool R), (49, .bool false), (50, .bool false), (51, .string T), (52, .string T), (53, .bool false), (54, .bool false), (55, .bool false), (56, .int .i64 E), (57, .int .i64 E), (58, .bool false), (59, .bool false), (60, .bool false), (61, .agg #[.slice ka cn kc, .slice ba ln bc]), (62, .string K), (63, .int .i64 I), (64, .agg #[.slice xa cn xc, .slice ya ln yc]), (65, .string K), (66, .int .i64 I), (67, .bool false), (68, .bool false)] (fun l wy => Below w6.heap.size w6 wy) (by kernel_rfl) (by kernel_rfl) (by kernel_rfl) ((Below.refl _ _).drew) ⟨?_, ?_, ?_, ?_, ?_, ?_, ?_, ?_, ?_, ?_, ?_, ?_, ?_, ?_, ?_, ?_, ?_, ?_, ?_, ?_, ?_, ?_, ?_, ?_, trivial⟩ ?hend
      · -- 0: 45 := Op.load 31 t9
        intro aq wq lq hI hl hdone hlater hold hd ho
        have h9 : aq.tmps.getD 9 undef = .pointer (some ⟨X, 0, none⟩) := ho 9 (by kernel_rfl)
        clear hd ho hdone hlater hold
        rw [Array.getD_eq_getD_getElem?] at h9
        have hx := HX6.out.on hI
        have e0 : wq.cell? ⟨X, 0, none⟩ = some (.slice ka cn kc) := hx.n.cell 0
        have e1 : wq.cell? ⟨X, 1, none⟩ = some (.slice ba ln bc) := hx.n.cell 1
        clear hx
        refine Reg.step2_val (.agg #[.slice ka cn kc, .slice ba ln bc]) ?_ rfl hI trivial
        go_simp
      · -- 1: 46 := Op.call ( value (Operand.func 11), args := #(t45), argTypes 
        intro aq wq lq hI hl hdone hlater hold hd ho
        have h45 : aq.tmps.getD 45 undef = .agg #[.slice ka cn kc, .slice ba ln bc] := hd 45 (by kernel_rfl)
        clear hd ho hdone hlater hold
        rw [Array.getD_eq_getD_getElem?] at h45
        refine Reg.step2_call 11 #[.agg #[.slice ka cn kc, .slice ba ln bc]] ?_ ((HRI.out wq hI).mono ?_)
        · clear hI
          simp [execOp]
          go_simp
        · rintro e w' ⟨rfl, hb⟩
          exact ⟨_, rfl, rfl, below_on hI hb, trivial⟩
      · -- 2: 47 := Op.load 35 t10
        intro aq wq lq hI hl hdone hlater hold hd ho
        have h10 : aq.tmps.getD 10 undef = .pointer (some ⟨X + 1, 0, none⟩) := ho 10 (by kernel_rfl)
        clear hd ho hdone hlater hold
        rw [Array.getD_eq_getD_getElem?] at h10
        have hx := HX6.out.on hI
        have e0 : wq.cell? ⟨X + 1, 0, none⟩ = some (.slice xa cn xc) := hx.x.cell 0
        have e1 : wq.cell? ⟨X + 1, 1, none⟩ = some (.slice ya ln yc) := hx.x.cell 1
        clear hx
        refine Reg.step2_val (.agg #[.slice xa cn xc, .slice ya ln yc]) ?_ rfl hI trivial
        go_simp
      · -- 3: 48 := Op.call ( value (Operand.func 12), args := #(t47), argTypes 
        intro aq wq lq hI hl hdone hlater hold hd ho
        have h47 : aq.tmps.getD 47 undef = .agg #[.slice xa cn xc, .slice ya ln yc] := hd 47 (by kernel_rfl)
        clear hd ho hdone hlater hold
        rw [Array.getD_eq_getD_getElem?] at h47
        refine Reg.step2_call 12 #[.agg #[.slice xa cn xc, .slice ya ln yc]] ?_ ((HRR.out wq hI).mono ?_)
        · clear hI
          simp [execOp]
          go_simp
        · rintro e w' ⟨rfl, hb⟩
          exact ⟨_, rfl, rfl, below_on hI hb, trivial⟩
      · -- 4: 49 := Op.binOp BinOp.neq 4 t46 t48 4
        intro aq wq lq hI hl hdone hlater hold hd ho
        have h46 : aq.tmps.getD 46 undef = .bool R := hd 46 (by kernel_rfl)
        have h48 : aq.tmps.getD 48 undef = .bool R := hd 48 (by kernel_rfl)
        clear hd ho hdone hlater hold
        rw [Array.getD_eq_getD_getElem?] at h46 h48
        refine Reg.step2_val (.bool false) ?_ rfl hI trivial
        simp [execOp, Act.eval, h46, h48]
        try go_simp
      · -- 5: 50 := Op.move t49
        intro aq wq lq hI hl hdone hlater hold hd ho
        have h49 : aq.tmps.getD 49 undef = .bool false := hd 49 (by kernel_rfl)
        clear hd ho hdone hlater hold
        exact Reg.step2_move (.tmp 49) rfl h49 hI trivial
      · -- 6: 51 := Op.move t11
        intro aq wq lq hI hl hdone hlater hold hd ho
        have h11 : aq.tmps.getD 11 undef = .string T := ho 11 (by kernel_rfl)
        clear hd ho hdone hlater hold
        exact Reg.step2_move (.tmp 11) rfl h11 hI trivial
      · -- 7: 52 := Op.move t13
        intro aq wq lq hI hl hdone hlater hold hd ho
        have h13 : aq.tmps.getD 13 undef = .string T := ho 13 (by kernel_rfl)
        clear hd ho hdone hlater hold
        exact Reg.step2_move (.tmp 13) rfl h13 hI trivial
      · -- 8: 53 := Op.binOp BinOp.neq 9 t51 t52 9
        intro aq wq lq hI hl hdone hlater hold hd ho
        have h51 : aq.tmps.getD 51 undef = .string T := hd 51 (by kernel_rfl)
        have h52 : aq.tmps.getD 52 undef = .string T := hd 52 (by kernel_rfl)
        clear hd ho hdone hlater hold
        rw [Array.getD_eq_getD_getElem?] at h51 h52
        refine Reg.step2_val (.bool false) ?_ rfl hI trivial
        simp [execOp, Act.eval, h51, h52]
        try go_simp
      · -- 9: 54 := Op.pick t50 (const (Value.bool true)) t53
        intro aq wq lq hI hl hdone hlater hold hd ho
        have h50 : aq.tmps.getD 50 undef = .bool false := hd 50 (by kernel_rfl)
        have h53 : aq.tmps.getD 53 undef = .bool false := hd 53 (by kernel_rfl)
        clear hd ho hdone hlater hold
        rw [Array.getD_eq_getD_getElem?] at h50 h53
        refine Reg.step2_val (.bool false) ?_ rfl hI trivial
        simp [execOp, Act.eval, h50, h53]
        try go_simp
      · -- 10: 55 := Op.move t54
        intro aq wq lq hI hl hdone hlater hold hd ho
        have h54 : aq.tmps.getD 54 undef = .bool false := hd 54 (by kernel_rfl)
        clear hd ho hdone hlater hold
        exact Reg.step2_move (.tmp 54) rfl h54 hI trivial
      · -- 11: 56 := Op.move t12
        intro aq wq lq hI hl hdone hlater hold hd ho
        have h12 : aq.tmps.getD 12 undef = .int .i64 E := ho 12 (by kernel_rfl)
        clear hd ho hdone hlater hold
        exact Reg.step2_move (.tmp 12) rfl h12 hI trivial
      · -- 12: 57 := Op.move t14
        intro aq wq lq hI hl hdone hlater hold hd ho
        have h14 : aq.tmps.getD 14 undef = .int .i64 E := ho 14 (by kernel_rfl)
        clear hd ho hdone hlater hold
        exact Reg.step2_move (.tmp 14) rfl h14 hI trivial
      · -- 13: 58 := Op.binOp BinOp.neq 3 t56 t57 3
        intro aq wq lq hI hl hdone hlater hold hd ho
        have h56 : aq.tmps.getD 56 undef = .int .i64 E := hd 56 (by kernel_rfl)
        have h57 : aq.tmps.getD 57 undef = .int .i64 E := hd 57 (by kernel_rfl)
        clear hd ho hdone hlater hold
        rw [Array.getD_eq_getD_getElem?] at h56 h57
        refine Reg.step2_val (.bool false) ?_ rfl hI trivial
        simp [execOp, Act.eval, h56, h57]
        try go_simp
      · -- 14: 59 := Op.pick t55 (const (Value.bool true)) t58
        intro aq wq lq hI hl hdone hlater hold hd ho
        have h55 : aq.tmps.getD 55 undef = .bool false := hd 55 (by kernel_rfl)
        have h58 : aq.tmps.getD 58 undef = .bool false := hd 58 (by kernel_rfl)
        clear hd ho hdone hlater hold
        rw [Array.getD_eq_getD_getElem?] at h55 h58
        refine Reg.step2_val (.bool false) ?_ rfl hI trivial
        simp [execOp, Act.eval, h55, h58]
        try go_simp
      · -- 15: 60 := Op.move t59
        intro aq wq lq hI hl hdone hlater hold hd ho
        have h59 : aq.tmps.getD 59 undef = .bool false := hd 59 (by kernel_rfl)
        clear hd ho hdone hlater hold
        exact Reg.step2_move (.tmp 59) rfl h59 hI trivial
      · -- 16: 61 := Op.load 31 t9
        intro aq wq lq hI hl hdone hlater hold hd ho
        have h9 : aq.tmps.getD 9 undef = .pointer (some ⟨X, 0, none⟩) := ho 9 (by kernel_rfl)
        clear hd ho hdone hlater hold
        rw [Array.getD_eq_getD_getElem?] at h9
        have hx := HX6.out.on hI
        have e0 : wq.cell? ⟨X, 0, none⟩ = some (.slice ka cn kc) := hx.n.cell 0
        have e1 : wq.cell? ⟨X, 1, none⟩ = some (.slice ba ln bc) := hx.n.cell 1
        clear hx
        refine Reg.step2_val (.agg #[.slice ka cn kc, .slice ba ln bc]) ?_ rfl hI trivial
        go_simp
      · -- 17: 62 := Op.move t2
        intro aq wq lq hI hl hdone hlater hold hd ho
        have h2 : aq.tmps.getD 2 undef = .string K := ho 2 (by kernel_rfl)
        clear hd ho hdone hlater hold
        exact Reg.step2_move (.tmp 2) rfl h2 hI trivial
      · -- 18: 63 := Op.call ( value (Operand.func 13), args := #(t61, t62), argT
        intro aq wq lq hI hl hdone hlater hold hd ho
        have h61 : aq.tmps.getD 61 undef = .agg #[.slice ka cn kc, .slice ba ln bc] := hd 61 (by kernel_rfl)
        have h62 : aq.tmps.getD 62 undef = .string K := hd 62 (by kernel_rfl)
        clear hd ho hdone hlater hold
        rw [Array.getD_eq_getD_getElem?] at h61 h62
        refine Reg.step2_call 13 #[.agg #[.slice ka cn kc, .slice ba ln bc], .string K] ?_ ((HCI.out wq hI).mono ?_)
        · clear hI
          simp [execOp]
          go_simp
        · rintro e w' ⟨rfl, hb⟩
          exact ⟨_, rfl, rfl, below_on hI hb, trivial⟩
      · -- 19: 64 := Op.load 35 t10
        intro aq wq lq hI hl hdone hlater hold hd ho
        have h10 : aq.tmps.getD 10 undef = .pointer (some ⟨X + 1, 0, none⟩) := ho 10 (by kernel_rfl)
        clear hd ho hdone hlater hold
        rw [Array.getD_eq_getD_getElem?] at h10
        have hx := HX6.out.on hI
        have e0 : wq.cell? ⟨X + 1, 0, none⟩ = some (.slice xa cn xc) := hx.x.cell 0
        have e1 : wq.cell? ⟨X + 1, 1, none⟩ = some (.slice ya ln yc) := hx.x.cell 1
        clear hx
        refine Reg.step2_val (.agg #[.slice xa cn xc, .slice ya ln yc]) ?_ rfl hI trivial
        go_simp
      · -- 20: 65 := Op.move t2
        intro aq wq lq hI hl hdone hlater hold hd ho
        have h2 : aq.tmps.getD 2 undef = .string K := ho 2 (by kernel_rfl)
        clear hd ho hdone hlater hold
        exact Reg.step2_move (.tmp 2) rfl h2 hI trivial
      · -- 21: 66 := Op.call ( value (Operand.func 14), args := #(t64, t65), argT
        intro aq wq lq hI hl hdone hlater hold hd ho
        have h64 : aq.tmps.getD 64 undef = .agg #[.slice xa cn xc, .slice ya ln yc] := hd 64 (by kernel_rfl)
        have h65 : aq.tmps.getD 65 undef = .string K := hd 65 (by kernel_rfl)
        clear hd ho hdone hlater hold
        rw [Array.getD_eq_getD_getElem?] at h64 h65
        refine Reg.step2_call 14 #[.agg #[.slice xa cn xc, .slice ya ln yc], .string K] ?_ ((HCR.out wq hI).mono ?_)
        · clear hI
          simp [execOp]
          go_simp
        · rintro e w' ⟨rfl, hb⟩
          exact ⟨_, rfl, rfl, below_on hI hb, trivial⟩
      · -- 22: 67 := Op.binOp BinOp.neq 3 t63 t66 3
        intro aq wq lq hI hl hdone hlater hold hd ho
        have h63 : aq.tmps.getD 63 undef = .int .i64 I := hd 63 (by kernel_rfl)
        have h66 : aq.tmps.getD 66 undef = .int .i64 I := hd 66 (by kernel_rfl)
        clear hd ho hdone hlater hold
        rw [Array.getD_eq_getD_getElem?] at h63 h66
        refine Reg.step2_val (.bool false) ?_ rfl hI trivial
        simp [execOp, Act.eval, h63, h66]
        try go_simp
      · -- 23: 68 := Op.pick t60 (const (Value.bool true)) t67
        intro aq wq lq hI hl hdone hlater hold hd ho
        have h60 : aq.tmps.getD 60 undef = .bool false := hd 60 (by kernel_rfl)
        have h67 : aq.tmps.getD 67 undef = .bool false := hd 67 (by kernel_rfl)
        clear hd ho hdone hlater hold
        rw [Array.getD_eq_getD_getElem?] at h60 h67
        refine Reg.step2_val (.bool false) ?_ rfl hI trivial
        simp [execOp, Act.eval, h60, h67]
        try go_simp
      case hend =>
        intro wx hI
        simp only [Reg.fill, List.foldl_cons, List.foldl_nil, List.setIfInBounds_toArray, List.set_cons_zero, List.set_cons_succ]
        have HB7 := Lib.hid (below_on HB6.out (show Below w6.heap.size w6 wx from hI))
        have HX7 := Lib.hid (HX4.out.on HB7.out)
        clear hI HRI HRR HCI HCR
        go_wp2_with fail
        go_loopw [15] (fun i wr => ∃ k : Nat, k ≤ cn + 2 ∧ i = .int .i64 ((k : Int) - 1) ∧ Below w4.heap.size w4 wr) (fun i _ => cn + 2 - (intOf i + 1).toNat)
        case atStart => exact ⟨0, Nat.zero_le _, rfl, HB7.out⟩
        case round =>
          obtain ⟨k, hk, rfl, hb⟩ := hrel
          rename World => wq
          have HX8 := Lib.hid (HX4.out.on hb)
          have HB8 := Lib.hid hb
          clear hb
          have x0 : wq.cell? ⟨X + 1, 0, none⟩ = some (.slice xa cn xc) := HX8.out.x.cell 0
          by_cases hlt2 : k < cn + 2
          · obtain ⟨Z, hZ⟩ : ∃ Z : Int, Z = (k : Int) - 1 := ⟨_, rfl⟩
            have HZK := Lib.hid hZ
            have hz1 : -1 ≤ Z := by omega
            have hz2 : Z ≤ (cn : Int) := by omega
            rw [← hZ]
            clear hZ
            have hwr : IntKind.i64.wrap (Z + 1) = Z + 1 := IntWalk.i64_in _ (by omega)
            have hr := HRG.out wq HB8.out Z
            have en : Lend.strOf [] = ⟨#[]⟩ := rfl
            by_cases h0 : 0 ≤ Z
            · by_cases hv : Z < (cn : Int)
              · have hvl : Z.toNat < C.length := by rw [← HCN.out]; omega
                obtain ⟨g2, off2, rfl⟩ := cr_some HX8.out.dk (by omega)
                have c0 := cr_low HX8.out.dk Z.toNat hvl
                have hZc : (Z.toNat : Int) = Z := by omega
                have hlo := loC_at hvl
                rw [hZc] at hlo
                rw [hlo] at hr
                by_cases hv2 : Z + 1 < (cn : Int)
                · have hv30 : 0 ≤ Z + 1 := by omega
                  have hvl2 : Z.toNat + 1 < C.length := by rw [← HCN.out]; omega
                  have c1 := cr_low HX8.out.dk (Z.toNat + 1) hvl2
                  have hhi := hiC_at hvl2
                  rw [hZc] at hhi
                  rw [hhi] at hr
                  have htn : (Z + 1).toNat = Z.toNat + 1 := by omega
                  clear hhi hlo
                  generalize Lend.strOf C[Z.toNat].low = K0 at *
                  generalize Lend.strOf C[Z.toNat + 1].low = K1 at *
                  have HR := Lib.hid hr
                  clear hr hZc en
                  have x1 : wq.cell? ⟨X, 0, none⟩ = some (.slice ka cn kc) := HX8.out.n.cell 0
                  have x2 : wq.cell? ⟨X, 1, none⟩ = some (.slice ba ln bc) := HX8.out.n.cell 1
                  go_wp2_with fail
                  refine HR.out.mono ?_
                  clear HR x0 x1 x2
                  rintro e w9 ⟨rfl, hb9⟩
                  have HB9 := Lib.hid (below_on HB8.out hb9)
                  clear hb9
                  go_wp2_with fail
                  go_roundw
                  case rel => exact ⟨k + 1, by omega, by have := HZK.out; go_num, HB9.out⟩
                  case measure => have := HZK.out; simp [intOf]; omega
                · have hhi := hiC_last (l := C) (i := Z.toNat) (by rw [← HCN.out]; omega)
                  rw [hZc] at hhi
                  rw [hhi, en] at hr
                  clear hhi hlo
                  generalize Lend.strOf C[Z.toNat].low = K0 at *
                  have HR := Lib.hid hr
                  clear hr hZc en
                  have x1 : wq.cell? ⟨X, 0, none⟩ = some (.slice ka cn kc) := HX8.out.n.cell 0
                  have x2 : wq.cell? ⟨X, 1, none⟩ = some (.slice ba ln bc) := HX8.out.n.cell 1
                  go_wp2_with fail
                  refine HR.out.mono ?_
                  clear HR x0 x1 x2
                  rintro e w9 ⟨rfl, hb9⟩
                  have HB9 := Lib.hid (below_on HB8.out hb9)
                  clear hb9
                  go_wp2_with fail
                  go_roundw
                  case rel => exact ⟨k + 1, by omega, by have := HZK.out; go_num, HB9.out⟩
                  case measure => have := HZK.out; simp [intOf]; omega
              · have hlo := loC_no (l := C) (i := Z) (.inr (by rw [← HCN.out]; omega))
                have hv2 : ¬ Z + 1 < (cn : Int) := by omega
                rw [hlo.1, hlo.2, en] at hr
                have HR := Lib.hid hr
                clear hr hlo en
                have x1 : wq.cell? ⟨X, 0, none⟩ = some (.slice ka cn kc) := HX8.out.n.cell 0
                have x2 : wq.cell? ⟨X, 1, none⟩ = some (.slice ba ln bc) := HX8.out.n.cell 1
                go_wp2_with fail
                refine HR.out.mono ?_
                clear HR x0 x1 x2
                rintro e w9 ⟨rfl, hb9⟩
                have HB9 := Lib.hid (below_on HB8.out hb9)
                clear hb9
                go_wp2_with fail
                go_roundw
                case rel => exact ⟨k + 1, by omega, by have := HZK.out; go_num, HB9.out⟩
                case measure => have := HZK.out; simp [intOf]; omega
            · have hlo := loC_no (l := C) (i := Z) (.inl (by omega))
              rw [hlo.1, hlo.2, en] at hr
              have HR := Lib.hid hr
              clear hr hlo en
              have x1 : wq.cell? ⟨X, 0, none⟩ = some (.slice ka cn kc) := HX8.out.n.cell 0
              have x2 : wq.cell? ⟨X, 1, none⟩ = some (.slice ba ln bc) := HX8.out.n.cell 1
              go_wp2_with fail
              refine HR.out.mono ?_
              clear HR x0 x1 x2
              rintro e w9 ⟨rfl, hb9⟩
              have HB9 := Lib.hid (below_on HB8.out hb9)
              clear hb9
              go_wp2_with fail
              go_roundw
              case rel => exact ⟨k + 1, by omega, by have := HZK.out; go_num, HB9.out⟩
              case measure => have := HZK.out; simp [intOf]; omega
          · obtain ⟨Z, hZ⟩ : ∃ Z : Int, Z = (k : Int) - 1 := ⟨_, rfl⟩
            have hle : ¬ Z ≤ (cn : Int) := by omega
            rw [← hZ]
            clear hZ
            have HB9 := Lib.hid (below_on HB4.out HB8.out)
            go_wp2_with fail
            go_roundw
            case rel => exact ⟨j + 1, by omega, by go_num, HB9.out⟩
            case measure => simp [intOf]; omega
    · obtain rfl : j = 2 := by omega
      have HBE := Lib.hid (below_on HB2.out HBR.out)
      go_wp2_with fail
      refine (wakes_any wr).mono ?_
      rintro e wz ⟨rfl, hbz⟩
      have HBF := Lib.hid (below_on HBE.out hbz)
      clear hbz
      go_wp2_with fail
      go_ret
      exact ⟨rfl, HBF.out⟩

/-! ### THE ROW's STEP -/
set_option maxRecDepth 100000 in
theorem lifted (os : Os) (started : os.Started) (H : Type) (enc : TypeId × Value → H) :
    ReturnsInHanded {} Try.checked os 3 .any (Rows.nodeTextsSpec.pre6 enc Try.prog Try.f3 Rows.nodeTextsRow.domain false) (Rows.nodeTextsSpec.post enc Try.prog Try.f3 false true false false) := by
  refine returnsInHanded_of_change_sized (C := Try.checked) own started (by kernel_rfl) Try.func3
    (ChangeSpec.witness6 (enc := enc) (C := Try.checked) false ⟨#[], #[.slice none 0 0, .slice none 0 0, .string ByteArray.empty], []⟩ 8 (by kernel_rfl) (by kernel_rfl) (by kernel_rfl) (by kernel_rfl)) ?_
  intro W base args ds gs before hval0 hW hcnd hsz _
  have hval : ∀ (j : Nat) t v, Try.f3.params[j]? = some t → args[j]? = some v → Value.okWide Try.prog W .any base t v := hval0
  have hW' := hW
  obtain ⟨p, q, hA0, hV, rfl, hfz, hnd⟩ := hW
  have hA : DataW.TrodAll enc Try.prog W 0 (fun _ => true) true Try.f3.params.toList args.toList ds p := hA0
  rw [Try.params3] at hA hval
  obtain ⟨v0, vs0, d0, ds0, p0, q0, hargs, rfl, rfl, h0, r0⟩ := trodAll_cons hA
  obtain ⟨v1, vs1, d1, ds1, p1, q1, rfl, rfl, rfl, h1, r1⟩ := trodAll_cons r0
  obtain ⟨v2, vs2, d2, ds2, p2, q2, rfl, rfl, rfl, h2, r2⟩ := trodAll_cons r1
  obtain ⟨rfl, rfl, rfl⟩ := trodAll_nil r2
  obtain rfl : args = #[v0, v1, v2] := by cases args; simp_all
  obtain ⟨rfl, rfl⟩ := trodVars_none hV
  have k0 := h0
  have lt0 : ∀ x ∈ p0, x.block < W.heap.size := by obtain ⟨m, hm⟩ := k0; exact DataW.trod_lt m _ _ _ hm
  obtain ⟨a0', l0', c0', rfl⟩ := okWide_slice Try.underlying22 (hval 0 22 v0 rfl rfl)
  obtain ⟨a0, a0l, a0c, he0, w0, w0l, w0m⟩ := open_AR0 (c := .slice a0' l0' c0') (by obtain ⟨m, hm⟩ := h0; exact ⟨m, hm⟩) (fun n hn => by have := List.all_eq_true.1 hsz n (DataW.weights_mem_each (j := 0) rfl rfl n hn); simpa using this)
  simp only [Value.slice.injEq] at he0
  obtain ⟨rfl, rfl, rfl⟩ := he0
  have k1 := h1
  have lt1 : ∀ x ∈ p1, x.block < W.heap.size := by obtain ⟨m, hm⟩ := k1; exact DataW.trod_lt m _ _ _ hm
  obtain ⟨a1', l1', c1', rfl⟩ := okWide_slice Try.underlying23 (hval 1 23 v1 rfl rfl)
  obtain ⟨a1, a1l, a1c, he1, w1, w1l, w1m⟩ := open_AR1 (c := .slice a1' l1' c1') (by obtain ⟨m, hm⟩ := h1; exact ⟨m, hm⟩) (fun n hn => by have := List.all_eq_true.1 hsz n (DataW.weights_mem_each (j := 1) rfl rfl n hn); simpa using this)
  simp only [Value.slice.injEq] at he1
  obtain ⟨rfl, rfl, rfl⟩ := he1
  obtain ⟨a2, rfl, rfl, rfl, w2⟩ := open_string Try.underlying9 (hval 2 9 v2 rfl rfl) h2
  clear hA0 hval0
  refine (walk a0' l0' c0' a1' l1' c1' a2 W w0 w0l w0m w1 w1l w1m w2).mono fun e W' ⟨he, bel⟩ => ?_
  subst he
  exact ⟨_, rfl, _, _, _, [], _, [], hW', trodAll_mk1 (shut_bool Try.underlying4 _), (trodAll_cons_mk (Below.trod laidOut (by kernel_rfl) (of_decide_eq_true (by kernel_rfl)) k0 bel lt0) (trodAll_cons_mk (Below.trod laidOut (by kernel_rfl) (of_decide_eq_true (by kernel_rfl)) k1 bel lt1) (trodAll_cons_mk (shut_string Try.underlying9 w2) trodAll_mk0))), rfl, bel.frame _, fun h => by cases h⟩

theorem over : Rows.nodeTextsRow.holds Try.pinned (OpenSpec.ofChange Rows.nodeTextsSpec) :=
  OpenClaim.holds_of_wide 3 Try.f3 rfl rfl rfl rfl rfl rfl rfl ⟨rfl, rfl, rfl, rfl, rfl⟩ rfl rfl rfl rfl rfl (by kernel_rfl) Try.func3 (by kernel_rfl)
    (of_decide_eq_true (by kernel_rfl)) (by unfold Func.isWrapper; first | (rw [if_pos (by decide +kernel)]; kernel_rfl) | (rw [if_neg (by decide +kernel)]; exact ⟨rfl, rfl⟩))
    (fun os started H enc _ => lifted os started H enc)

/-- THE STATEMENT -/
theorem proved : Rows.NodeTextsSaid := over
#print axioms proved
end Go.Proofs.Ytfclecbhfamomaa.nodeTexts
