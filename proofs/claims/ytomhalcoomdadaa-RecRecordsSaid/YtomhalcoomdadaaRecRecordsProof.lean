/-
  The law RecRecords holds: a record's bytes, and what it links by, are the document's, or its error. Conditions: none but the row's own.
-/
import Derived.Test.YtomhalcoomdadaaRows
import Derived.Test.YtomhalcoomdadaaRecK
import Derived.Test.YtomhalcoomdadaaStructs
import Derived.WalkKit
import Derived.ProofKit
import Derived.OpenShut
import Derived.ShutString
import Derived.ChangeOld
import Derived.Below
import Derived.Carry
namespace Go.Proofs.Ytomhalcoomdadaa.recRecords
open Go.ChangeShapes Go.WideShapes Go.ChangeAt Go.RowKit
open Go.Proofs.Ytomhalcoomdadaa
open Go.ChangeMaps (open_string shut_string)
set_option linter.unusedVariables false

theorem own : ownKnob Try.prog.godebug = none := by kernel_rfl
theorem laidOut : laidOutB Try.prog = true := by kernel_rfl

/-- the elements of argument 2 -/
def AR2 (w : World) (a : Option Addr) (len : Nat) : Prop := 0 < len → ∃ b off, a = some ⟨b, off, none⟩ ∧ ∀ i, i < len → ∃ (x0 : Int) (x1 : ByteArray) (x2 : ByteArray) (x3 : Int), w.cell? ⟨b, off + (i * 4 + 0), none⟩ = some (.int .u8 x0) ∧ (Lit.int .u8 x0).wf = true ∧ w.cell? ⟨b, off + (i * 4 + 1), none⟩ = some (.string x1) ∧ x1.size ≤ maxLen ∧ w.cell? ⟨b, off + (i * 4 + 2), none⟩ = some (.string x2) ∧ x2.size ≤ maxLen ∧ w.cell? ⟨b, off + (i * 4 + 3), none⟩ = some (.int .u64 x3) ∧ (Lit.int .u64 x3).wf = true
theorem open_AR2 {H : Type} {enc : TypeId × Value → H} {w : World} {held : Bool} {c : Value} (h : ∃ m y, DataW.trod enc Try.prog w 0 (fun _ => true) held m 22 [c] = some y) :
    ∃ a len cap, c = .slice a len cap ∧ AR2 w a len ∧ len ≤ cap ∧ cap ≤ maxLen := by
  obtain ⟨a, len, cap, hc, hl, hm, hx⟩ := open_structs Try.underlying22 Try.underlying43 (by kernel_rfl) (by kernel_rfl) (by decide) h
  refine ⟨a, len, cap, hc, fun hpos => ?_, hl, hm⟩
  obtain ⟨b, off, ha, hf⟩ := hx hpos
  refine ⟨b, off, ha, fun i hi => ?_⟩
  obtain ⟨v0, hc0, ht0⟩ := hf i hi 0 _ rfl
  obtain ⟨x0, rfl, hw0⟩ := open_int_cell Try.underlying5 ht0
  obtain ⟨v1, hc1, ht1⟩ := hf i hi 1 _ rfl
  obtain ⟨x1, rfl, hw1⟩ := open_str_cell Try.underlying9 ht1
  obtain ⟨v2, hc2, ht2⟩ := hf i hi 2 _ rfl
  obtain ⟨x2, rfl, hw2⟩ := open_str_cell Try.underlying9 ht2
  obtain ⟨v3, hc3, ht3⟩ := hf i hi 3 _ rfl
  obtain ⟨x3, rfl, hw3⟩ := open_int_cell Try.underlying31 ht3
  exact ⟨x0, x1, x2, x3, hc0, hw0, hc1, hw1, hc2, hw2, hc3, hw3⟩

open Go.Proofs.Ytomhalcoomdadaa.Rec
def Qu (u : Up) : Prop := WfU u ∧ SzU u
theorem ups {w : World} {a : Option Addr} {len cap : Nat} (h : AR2 w a len) : ∃ l, len = l.length ∧ UR w (.slice a len cap) l ∧ ∀ u ∈ l, Qu u := by
  refine ur_of Qu fun h0 => ?_
  obtain ⟨b, off, ha, hx⟩ := h h0
  refine ⟨b, off, ha, fun i hi => ?_⟩
  obtain ⟨x0, x1, x2, x3, c0, h0, c1, h1, c2, h2, c3, h3⟩ := hx i hi
  unfold maxLen at h1 h2
  exact ⟨_, ⟨⟨(u8_bd h0).1, (u8_bd h0).2, (u64_bd h3).1, (u64_bd h3).2⟩, by simpa using h1, by simpa using h2⟩, up_cells c0 c1 c2 c3⟩

/-! ### STEP 1: THE WALK -/
set_option maxHeartbeats 4000000 in
set_option maxRecDepth 100000 in
theorem walk (a0 : Int) (a1 : Int) (a2 : Option Addr) (a2l a2c : Nat) (w : World) (w0 : (Lit.int .u64 a0).wf = true) (w1 : (Lit.int .u32 a1).wf = true) (w2 : AR2 w a2 a2l) (w2l : a2l ≤ a2c) (w2m : a2c ≤ maxLen) :
    Calls Try.prog 5 #[.int .u64 a0, .int .u32 a1, .slice a2 a2l a2c] w fun e w' => e = .returned (.bool true) ∧ Below w.heap.size w w' := by
  obtain ⟨l, hl, hu, hq⟩ := ups (cap := a2c) w2
  have HOF := Lib.hid (of_any hu hl w2l w2m fun u h => (hq u h).2)
  have hm12 : (ofL l).length ≤ 12 := by rw [ofL_length]; omega
  have hwf := ofL_wf fun u h => (hq u h).1
  obtain ⟨m, hm⟩ : ∃ m, m = ofL l := ⟨_, rfl⟩
  rw [← hm] at HOF hm12 hwf
  have HWF := Lib.hid hwf
  have HF := Lib.hid (show Wf3 a0 a1 m.length from ⟨(u64_bd w0).1, (u64_bd w0).2, (u32_bd w1).1, (u32_bd w1).2, by omega⟩)
  clear hl hu hq w0 w1 w2 w2l w2m hm hwf
  go_enter Try.func5, Try.ntmps5
  go_wp2_with fail
  refine HOF.out.mono ?_
  rintro e w1 ⟨a, b, rfl, hra, hru, hb1⟩
  have HB1 := Lib.hid hb1
  have HUA := Lib.hid (UR.of_own hra)
  have HUB := Lib.hid (UR.of_own hru)
  obtain ⟨ao, ac, ha⟩ := HUA.out.slice
  obtain ⟨bo, bc, hb⟩ := HUB.out.slice
  subst ha hb
  clear hra hru hb1 HOF
  obtain ⟨n, hn⟩ : ∃ n, n = m.length := ⟨_, rfl⟩
  rw [← hn] at HUA HUB HF hm12 ⊢
  have HN := Lib.hid hn
  clear hn
  obtain ⟨w2, hw2⟩ : ∃ x, x = (w1.alloc (.cells #[.int .u64 a0, .int .u32 a1, .slice ao n ac] 57)).alloc (.cells #[.int .u64 a0, .int .u32 a1, .slice bo n bc] 48) := ⟨_, rfl⟩
  have HB2 := Lib.hid (show Below w1.heap.size w1 w2 by rw [hw2]; exact below_nw (below_new _ _) _)
  have HX := Lib.hid (show Has w2 w1.heap.size 57 [.int .u64 a0, .int .u32 a1, .slice ao n ac] by rw [hw2]; exact (Has.new _ _ _).alloc _)
  have HY := Lib.hid (show Has w2 (w1.heap.size + 1) 48 [.int .u64 a0, .int .u32 a1, .slice bo n bc] by
    rw [hw2]
    have h := Has.new (w1.alloc (.cells #[.int .u64 a0, .int .u32 a1, .slice ao n ac] 57)) [.int .u64 a0, .int .u32 a1, .slice bo n bc] 48
    rwa [World.size_alloc] at h)
  have HPA := Lib.hid (fun W (h : Below w1.heap.size w1 W) => Payload_any a0 a1 (HUA.out.below h) (HN.out ▸ HF.out) HWF.out)
  have HPB := Lib.hid (fun W (h : Below w1.heap.size w1 W) => refPayload_any a0 a1 (HUB.out.below h) (HN.out ▸ HF.out) HWF.out)
  have HLA := Lib.hid (fun W tb (h : Below w1.heap.size w1 W) (ht : Sum.IsTab W tb) => Link_any a0 a1 tb (HUA.out.below h) (HN.out ▸ HF.out) HWF.out ht)
  have HLB := Lib.hid (fun W (h : Below w1.heap.size w1 W) => refLink_any a0 a1 (HUB.out.below h) (HN.out ▸ HF.out) HWF.out)
  generalize Lend.strOf (pyT a0 a1 m) = P at *
  generalize lkN a0 a1 m = K at *
  generalize errL m = E at *
  have HP2 := Lib.hid (HPA.out w2 HB2.out)
  go_wp2_with fail
  rw [← hw2]
  refine HP2.out.mono ?_
  rintro e w3 ⟨rfl, hb3⟩
  have HB3 := Lib.hid (below_on HB2.out hb3)
  have hx3 := HX.out.below hb3 HX.out.lt
  have hy3 := HY.out.below hb3 HY.out.lt
  have HX3 := Lib.hid hx3
  have HY3 := Lib.hid hy3
  have d0 := hy3.cell 0
  have d1 := hy3.cell 1
  have d2 := hy3.cell 2
  simp only [List.getElem?_cons_zero, List.getElem?_cons_succ] at d0 d1 d2
  clear hx3 hy3 hb3 hw2 HP2
  go_wp2_with fail
  refine (HPB.out _ HB3.out).mono ?_
  rintro e w4 ⟨rfl, hb4⟩
  have HB4 := Lib.hid (below_on HB3.out hb4)
  have hx4 := HX3.out.below hb4 HX3.out.lt
  have HX4 := Lib.hid hx4
  have HY4 := Lib.hid (HY3.out.below hb4 HY3.out.lt)
  clear d0 d1 d2
  have c0 := hx4.cell 0
  have c1 := hx4.cell 1
  have c2 := hx4.cell 2
  simp only [List.getElem?_cons_zero, List.getElem?_cons_succ] at c0 c1 c2
  clear hx4 hb4
  go_wp2_with fail
  go_upto_region 5 with fail
  go_cut [15, 16] (fun s t wx => s = .int .u32 (K : Nat) ∧ t = .int .i64 E ∧ Below w4.heap.size w4 wx)
  case first =>
    have HWD := Lib.hid (HB4.out.drew)
    go_region_held3 (fun W => W.cell? ⟨w1.heap.size, 0, none⟩ = some (.int .u64 a0) ∧ W.cell? ⟨w1.heap.size, 1, none⟩ = some (.int .u32 a1) ∧ W.cell? ⟨w1.heap.size, 2, none⟩ = some (.slice ao n ac))
      (first
        | with_reducible exact keep3 (by assumption) (by assumption)
        | with_reducible exact keep3 (by assumption) (below_new _ _)
        | go_keep)
      (first
        | (go_at_call 23; refine (Sum.make_any _).mono ?_; rintro e wm ⟨bm, rfl, hbb, ht, hbel⟩)
        | (go_at_call 22
           refine (HLA.out _ bm (below_on HWD.out hbel) ht).mono ?_
           rintro e wo ⟨rfl, hbel2⟩))
    all_goals
      go_wp2_with fail
      go_meet
      exact ⟨rfl, rfl, below_on (below_on (below_drw _) hbel) hbel2⟩
  case rest =>
    obtain ⟨rfl, rfl, hbc⟩ := hcut
    have HB5 := Lib.hid (below_on HB4.out hbc)
    have HX5 := Lib.hid (HX4.out.below hbc HX4.out.lt)
    have hy5 := HY4.out.below hbc HY4.out.lt
    clear c0 c1 c2
    have d0 := hy5.cell 0
    have d1 := hy5.cell 1
    have d2 := hy5.cell 2
    simp only [List.getElem?_cons_zero, List.getElem?_cons_succ] at d0 d1 d2
    clear hbc hy5
    go_wp2_with fail
    refine (HLB.out _ HB5.out).mono ?_
    rintro e w5 ⟨rfl, hb5⟩
    have HB6 := Lib.hid (below_on HB5.out hb5)
    have hx6 := HX5.out.below hb5 HX5.out.lt
    clear d0 d1 d2
    have c0 := hx6.cell 0
    have c1 := hx6.cell 1
    have c2 := hx6.cell 2
    simp only [List.getElem?_cons_zero, List.getElem?_cons_succ] at c0 c1 c2
    clear hb5 hx6
    go_wp2_with fail
    refine (Link_nil a0 a1 _ _).mono ?_
    rintro e w6 ⟨rfl, hb6⟩
    have HB7 := Lib.hid (below_on HB6.out hb6)
    clear c0 c1 c2 hb6
    go_wp2_with fail
    refine (wakes_any _).mono ?_
    rintro e w7 ⟨rfl, hb7⟩
    have HB8 := Lib.hid (below_on (below_on HB1.out HB7.out) hb7)
    clear hb7
    go_wp2_with fail
    go_ret
    exact ⟨rfl, HB8.out⟩

/-! ### THE ROW's STEP -/
set_option maxRecDepth 100000 in
theorem lifted (os : Os) (started : os.Started) (H : Type) (enc : TypeId × Value → H) :
    ReturnsInHanded {} Try.checked os 5 .any (Rows.recRecordsSpec.pre6 enc Try.prog Try.f5 Rows.recRecordsRow.domain false) (Rows.recRecordsSpec.post enc Try.prog Try.f5 false true false false) := by
  refine returnsInHanded_of_change (C := Try.checked) own started (by kernel_rfl) Try.func5
    (ChangeSpec.witness6 (enc := enc) (C := Try.checked) false ⟨#[], #[.int .u64 0, .int .u32 0, .slice none 0 0], []⟩ 8 (by kernel_rfl) (by kernel_rfl) (by kernel_rfl) (by kernel_rfl)) ?_
  intro W base args ds gs before hval0 hW hcnd _
  have hval : ∀ (j : Nat) t v, Try.f5.params[j]? = some t → args[j]? = some v → Value.okWide Try.prog W .any base t v := hval0
  have hW' := hW
  obtain ⟨p, q, hA0, hV, rfl, hfz, hnd⟩ := hW
  have hA : DataW.TrodAll enc Try.prog W 0 (fun _ => true) true Try.f5.params.toList args.toList ds p := hA0
  rw [Try.params5] at hA hval
  obtain ⟨v0, vs0, d0, ds0, p0, q0, hargs, rfl, rfl, h0, r0⟩ := trodAll_cons hA
  obtain ⟨v1, vs1, d1, ds1, p1, q1, rfl, rfl, rfl, h1, r1⟩ := trodAll_cons r0
  obtain ⟨v2, vs2, d2, ds2, p2, q2, rfl, rfl, rfl, h2, r2⟩ := trodAll_cons r1
  obtain ⟨rfl, rfl, rfl⟩ := trodAll_nil r2
  obtain rfl : args = #[v0, v1, v2] := by cases args; simp_all
  obtain ⟨rfl, rfl⟩ := trodVars_none hV
  obtain ⟨a0, rfl, rfl, rfl, w0⟩ := open_int Try.underlying31 (hval 0 31 v0 rfl rfl) h0
  obtain ⟨a1, rfl, rfl, rfl, w1⟩ := open_int Try.underlying46 (hval 1 46 v1 rfl rfl) h1
  have k2 := h2
  have lt2 : ∀ x ∈ p2, x.block < W.heap.size := by obtain ⟨m, hm⟩ := k2; exact DataW.trod_lt m _ _ _ hm
  obtain ⟨a2', l2', c2', rfl⟩ := okWide_slice Try.underlying22 (hval 2 22 v2 rfl rfl)
  obtain ⟨a2, a2l, a2c, he2, w2, w2l, w2m⟩ := open_AR2 (c := .slice a2' l2' c2') (by obtain ⟨m, hm⟩ := h2; exact ⟨m, _, hm⟩)
  simp only [Value.slice.injEq] at he2
  obtain ⟨rfl, rfl, rfl⟩ := he2
  clear hA0 hval0
  refine (walk a0 a1 a2' l2' c2' W w0 w1 w2 w2l w2m).mono fun e W' ⟨he, bel⟩ => ?_
  subst he
  exact ⟨_, rfl, _, _, _, [], _, [], hW', trodAll_mk1 (shut_bool Try.underlying4 _), (trodAll_cons_mk (shut_int Try.underlying31 w0) (trodAll_cons_mk (shut_int Try.underlying46 w1) (trodAll_cons_mk (Below.trod laidOut (by kernel_rfl) (of_decide_eq_true (by kernel_rfl)) k2 bel lt2) trodAll_mk0))), rfl, bel.frame _, fun h => by cases h⟩

theorem over : Rows.recRecordsRow.holds Try.pinned (OpenSpec.ofChange Rows.recRecordsSpec) :=
  OpenClaim.holds_of_wide 5 Try.f5 rfl rfl rfl rfl rfl rfl rfl ⟨rfl, rfl, rfl, rfl, rfl⟩ rfl rfl rfl rfl rfl (by kernel_rfl) Try.func5 (by kernel_rfl)
    (of_decide_eq_true (by kernel_rfl)) (by unfold Func.isWrapper; first | (rw [if_pos (by decide +kernel)]; kernel_rfl) | (rw [if_neg (by decide +kernel)]; exact ⟨rfl, rfl⟩))
    (fun os started H enc _ => lifted os started H enc)

/-- THE STATEMENT -/
theorem proved : Rows.RecRecordsSaid := over
#print axioms proved
end Go.Proofs.Ytomhalcoomdadaa.recRecords
