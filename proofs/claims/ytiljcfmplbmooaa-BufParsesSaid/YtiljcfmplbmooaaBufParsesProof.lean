/-
  The law BufParses holds: the buffer of all bytes, and of all lists, is the document's, or its error. Conditions: none but the row's own.
-/
import Derived.Test.YtiljcfmplbmooaaRows
import Derived.Test.YtiljcfmplbmooaaBufN
import Derived.Test.YtiljcfmplbmooaaStructsZ
import Derived.WalkKit
import Derived.ProofKit
import Derived.OpenShut
import Derived.ShutString
import Derived.ChangeOld
import Derived.Below
import Derived.Carry
namespace Go.Proofs.Ytiljcfmplbmooaa.bufParses
open Go.ChangeShapes Go.WideShapes Go.ChangeAt Go.RowKit
open Go.Proofs.Ytiljcfmplbmooaa
open Go.ChangeMaps (open_string shut_string)
set_option linter.unusedVariables false

theorem own : ownKnob Try.prog.godebug = none := by kernel_rfl
theorem laidOut : laidOutB Try.prog = true := by kernel_rfl

theorem len2 {α : Type} : ∀ l : List α, l.length = 2 → ∃ z0 z1, l = [z0, z1]
  | [z0, z1], _ => ⟨z0, z1, rfl⟩
/-- the elements of argument 0 -/
def AR0 (w : World) (a : Option Addr) (len : Nat) : Prop := 0 < len → ∃ b off, a = some ⟨b, off, none⟩ ∧ ∀ i, i < len → ∃ (x0 : Int) (x1 : ByteArray) (x2 : ByteArray) (x3 : Int), w.cell? ⟨b, off + (i * 4 + 0), none⟩ = some (.int .u8 x0) ∧ (Lit.int .u8 x0).wf = true ∧ w.cell? ⟨b, off + (i * 4 + 1), none⟩ = some (.string x1) ∧ x1.size ≤ 140737488355327 ∧ w.cell? ⟨b, off + (i * 4 + 2), none⟩ = some (.string x2) ∧ x2.size ≤ 140737488355327 ∧ w.cell? ⟨b, off + (i * 4 + 3), none⟩ = some (.int .u64 x3) ∧ (Lit.int .u64 x3).wf = true
theorem open_AR0 {H : Type} {enc : TypeId × Value → H} {w : World} {held : Bool} {c : Value} {d : DataW H} {pl : List MemPlace} (h : ∃ m, DataW.trod enc Try.prog w 0 (fun _ => true) held m 22 [c] = some (d, pl)) (hz : ∀ n ∈ d.weights Try.prog 22, n ≤ reachBytes) :
    ∃ a len cap, c = .slice a len cap ∧ AR0 w a len ∧ len ≤ cap ∧ cap ≤ maxLen := by
  obtain ⟨a, len, cap, hc, hl, hm, hx⟩ := open_structs_z Try.underlying22 Try.underlying30 (by kernel_rfl) (by kernel_rfl) (by decide) h hz
  refine ⟨a, len, cap, hc, fun hpos => ?_, hl, hm⟩
  obtain ⟨b, off, ha, hf⟩ := hx hpos
  refine ⟨b, off, ha, fun i hi => ?_⟩
  obtain ⟨v0, hc0, ht0, hz0⟩ := hf i hi 0 _ rfl
  obtain ⟨x0, rfl, hw0⟩ := open_int_cell Try.underlying5 ht0
  obtain ⟨v1, hc1, ht1, hz1⟩ := hf i hi 1 _ rfl
  obtain ⟨x1, rfl, hw1'⟩ := open_str_cell Try.underlying9 ht1
  have hw1 := hz1 Try.underlying9 _ rfl
  obtain ⟨v2, hc2, ht2, hz2⟩ := hf i hi 2 _ rfl
  obtain ⟨x2, rfl, hw2'⟩ := open_str_cell Try.underlying9 ht2
  have hw2 := hz2 Try.underlying9 _ rfl
  obtain ⟨v3, hc3, ht3, hz3⟩ := hf i hi 3 _ rfl
  obtain ⟨x3, rfl, hw3⟩ := open_int_cell Try.underlying28 ht3
  exact ⟨x0, x1, x2, x3, hc0, hw0, hc1, hw1, hc2, hw2, hc3, hw3⟩

open Go.Proofs.Ytiljcfmplbmooaa.Buf Go.Proofs.Ytiljcfmplbmooaa.Msg Go.Proofs.Ytiljcfmplbmooaa.Rec Go.Proofs.Ytiljcfmplbmooaa.Lend
theorem ups0 {w : World} {a : Option Addr} {len cap : Nat} (h : AR0 w a len) : ∃ l, len = l.length ∧ UR w (.slice a len cap) l ∧ ∀ u ∈ l, Qu u := by
  refine ur_of Qu fun h0 => ?_
  obtain ⟨b, off, ha, hx⟩ := h h0
  refine ⟨b, off, ha, fun i hi => ?_⟩
  obtain ⟨x0, x1, x2, x3, c0, h0, c1, h1, c2, h2, c3, h3⟩ := hx i hi
  exact ⟨_, ⟨⟨(u8_bd h0).1, (u8_bd h0).2, (u64_bd h3).1, (u64_bd h3).2⟩, by simpa using h1, by simpa using h2⟩, up_cells c0 c1 c2 c3⟩

/-! ### STEP 1: THE WALK -/
set_option maxHeartbeats 8000000 in
set_option maxRecDepth 100000 in
theorem walk (a0 : Option Addr) (a0l a0c : Nat) (a1 : ByteArray) (a2x0 a2x1 : Int) (w : World) (w0 : AR0 w a0 a0l) (w0l : a0l ≤ a0c) (w0m : a0c ≤ maxLen) (w1 : a1.size ≤ maxLen) (w2x0 : (Lit.int .u16 a2x0).wf = true) (w2x1 : (Lit.int .u16 a2x1).wf = true) :
    Calls Try.prog 4 #[.slice a0 a0l a0c, .string a1, .agg #[.int .u16 a2x0, .int .u16 a2x1]] w fun e w' => e = .returned (.bool true) ∧ Below w.heap.size w w' := by
  obtain ⟨l, hl, hu, hq⟩ := ups0 (cap := a0c) w0
  have HU := Lib.hid hu
  have HN := Lib.hid hl
  have HQ := Lib.hid hq
  have HNC := Lib.hid (show a0l ≤ a0c ∧ a0c ≤ 9223372036854775807 from ⟨w0l, by unfold maxLen at w0m; exact w0m⟩)
  clear hl hu hq w0 w0l w0m
  have HX0 := Lib.hid (u16_bd w2x0)
  have HX1 := Lib.hid (u16_bd w2x1)
  unfold maxLen at w1
  obtain ⟨R0, hR0⟩ : ∃ x, x = a1 := ⟨_, rfl⟩
  rw [← hR0] at w1 ⊢
  clear hR0
  obtain ⟨w0, hw0⟩ : ∃ x, x = w.alloc (.cells #[.int .u16 a2x0, .int .u16 a2x1] 53) := ⟨_, rfl⟩
  have HB0 := Lib.hid (show Below w.heap.size w w0 by rw [hw0]; exact below_new _ _)
  have HAT := Lib.hid (show Has w0 w.heap.size 53 [.int .u16 a2x0, .int .u16 a2x1] by rw [hw0]; exact Has.new _ _ _)
  have HU0 := Lib.hid (HU.out.below HB0.out)
  have HB0' := Lib.hid (show w0.heap.size ≤ w0.heap.size from Nat.le_refl _)
  clear w2x0 w2x1
  obtain ⟨M, hm⟩ : ∃ m, m = min a0l 8 := ⟨_, rfl⟩
  have HMM := Lib.hid hm
  go_enter Try.func4, Try.ntmps4
  go_upto_region 3 with fail
  rw [← hw0]
  clear hw0
  go_cut [28, 29, 30] (fun s t i wx => ∃ a' cap', s = .slice a' M cap' ∧ t = .int .i64 M ∧ i = .int .i64 ((0 : Nat) : Int) ∧ (0 < M → a' = a0) ∧ wx = w0)
  case first =>
    have hnc := HNC.out
    go_wp2_with fail
    all_goals
      go_meet
      first
      | (have e : M = 8 := by have := HMM.out; omega
         exact ⟨_, _, by rw [e], by rw [e]; rfl, rfl, fun _ => rfl, rfl⟩)
      | (have e : M = a0l := by have := HMM.out; omega
         exact ⟨_, _, by rw [e], by rw [e], rfl, fun _ => rfl, rfl⟩)
  case rest =>
    obtain ⟨s, c, rfl, rfl, rfl, haa, hww⟩ := hcut
    have hww := hww.symm
    subst hww
    have hml : M ≤ l.length ∧ M ≤ 8 := by have := HMM.out; have := HN.out; omega
    obtain ⟨hml, hmk⟩ := hml
    have HAA := Lib.hid haa
    clear hm haa
    go_wp2_with fail
    go_loopw [7, 8, 30] (fun av mv i wr => ∃ (k : Nat) (va vm : Value), k ≤ M ∧ va = av ∧ vm = mv ∧ i = .int .i64 k ∧ Cor w0 w0.heap.size 33 34 va (tms (l.take k)) vm (tms (l.take k)) wr) (fun _ _ i _ => M - (intOf i).toNat)
    case atStart => exact ⟨0, _, _, Nat.zero_le _, rfl, rfl, rfl, ⟨Below.refl _ _, World.ownsRow_nil _ _ _ _, World.ownsRow_nil _ _ _ _, (fun k h => by cases h)⟩⟩
    case round =>
      obtain ⟨k, va, vm, hk, rfl, rfl, rfl, hcor⟩ := hrel
      rename World => wr
      have HC := Lib.hid hcor
      by_cases hlt : k < M
      · have hki : (k : Int) < (M : Int) := by omega
        have hke : k < l.length := by omega
        have hur := HU0.out.below hcor.bel
        obtain ⟨g, off, hg⟩ := ur_some HU0.out (by omega)
        obtain rfl : s = some ⟨g, off, none⟩ := by rw [HAA.out (by omega), hg]
        rw [hg] at hur
        obtain ⟨c0, c1, c2, c3⟩ := ur_cells hur k hke
        have hqu := HQ.out _ (List.getElem_mem hke)
        have HTM := Lib.hid (tms_snoc hke)
        have hTl : (tms (l.take k)).length ≤ 8 := by rw [tms_len, List.length_take]; omega
        obtain ⟨u, hue⟩ : ∃ u, u = l[k] := ⟨_, rfl⟩
        rw [← hue] at c0 c1 c2 c3 hqu HTM
        have HTA := Lib.hid (fun W => tame_any u W hqu.1 hqu.2.1 hqu.2.2)
        unfold TaE agU at HTA
        obtain ⟨x, hx⟩ : ∃ x, x = tmU u := ⟨_, rfl⟩
        obtain ⟨T, hT⟩ : ∃ T, T = tms (l.take k) := ⟨_, rfl⟩
        rw [← hx] at HTA HTM
        rw [← hT] at HC hTl HTM
        clear hg hur hue hx hke hqu hT hcor
        obtain ⟨w3, hw3⟩ : ∃ z, z = wr.alloc (.cells #[.int .u8 u.kind, .string (Lend.strOf u.key), .string (Lend.strOf u.val), .int .u64 u.delta] 30) := ⟨_, rfl⟩
        have HC3 := Lib.hid (HC.out.on (show Below wr.heap.size wr w3 by rw [hw3]; exact below_new _ _))
        go_wp2_with fail
        rw [← hw3]
        clear hw3 c0 c1 c2 c3
        refine (HTA.out w3).mono ?_
        rintro e w4 ⟨rfl, hb4⟩
        have HC4 := Lib.hid (HC3.out.on hb4)
        clear hb4
        obtain ⟨w5, hw5⟩ : ∃ z, z = (w4.alloc (.cells #[.int .u8 x.kind, .string (Lend.strOf x.key), .string (Lend.strOf x.val), .int .u64 x.delta] 33)).alloc (.cells #[.int .u8 x.kind, .string (Lend.strOf x.key), .string (Lend.strOf x.val), .int .u64 x.delta] 34) := ⟨_, rfl⟩
        have HB45 := Lib.hid (show Below w4.heap.size w4 w5 by rw [hw5]; exact below_nw (below_new _ _) _)
        have HC5 := Lib.hid (HC4.out.on HB45.out)
        have h1 := Has.new w4 (encU x) 33
        have h2 := Has.new (w4.alloc (.cells (encU x).toArray 33)) (encU x) 34
        simp only [World.size_alloc] at h2
        have HSA := Lib.hid (show Buf.Safe va vm w5 w4.heap.size 33 x from ⟨by rw [hw5]; exact h1.alloc _, fun k hk => by have := (HC4.out.o1.lt k hk).2; omega, fun k hk => by have := (HC4.out.o2.lt k hk).2; omega⟩)
        have HSB := Lib.hid (show Buf.Safe va vm w5 (w4.heap.size + 1) 34 x from ⟨by rw [hw5]; exact h2, fun k hk => by have := (HC4.out.o1.lt k hk).2; omega, fun k hk => by have := (HC4.out.o2.lt k hk).2; omega⟩)
        clear h1 h2
        go_wp2_with fail
        rw [← hw5]
        clear hw5
        obtain ⟨XK, hXK⟩ : ∃ z, z = Lend.strOf x.key := ⟨_, rfl⟩
        obtain ⟨XV, hXV⟩ : ∃ z, z = Lend.strOf x.val := ⟨_, rfl⟩
        have HXE := Lib.hid (show encU x = [.int .u8 x.kind, .string XK, .string XV, .int .u64 x.delta] by rw [hXK, hXV]; rfl)
        rw [← hXK, ← hXV]
        clear hXK hXV
        refine Reg.region_vals3 (by kernel_rfl) [(39, va), (40, .agg #[.int .u8 x.kind, .string XK, .string XV, .int .u64 x.delta]), (43, vm), (44, .agg #[.int .u8 x.kind, .string XK, .string XV, .int .u64 x.delta])] [41, 42, 45, 46, 7, 8]
          (Ap w0 w0.heap.size 33 34 w4.heap.size (w4.heap.size + 1) va vm T x 2 3 8 41 42 7 6 7 9 45 46 8) ?a1 ?a2 ?a3 ?a4 ?a5 ?a6 ?a7 ?hend
        case a1 => kernel_rfl
        case a2 => kernel_rfl
        case a3 => kernel_rfl
        case a4 => kernel_rfl
        case a5 => kernel_rfl
        case a6 => exact Ap.start _ HC5.out HSA.out HSB.out
        case a7 =>
          refine ⟨?_, ?_, ?_, ?_, ?_, ?_, ?_, ?_, ?_, ?_, trivial⟩
          · intro aq wq lq hz hI hl hdone hlater hold hd ho
            have h3 : aq.tmps.getD 7 undef = va := hold 8 7 (by kernel_rfl) (hlater 8 (by kernel_rfl))
            clear hd ho hdone hlater hold
            have hc : 39 < aq.tmps.size := (by have hz' : aq.tmps.size = 147 := hz; omega)
            exact Reg.step3_move (.tmp 7) rfl h3 (hI.keep _ rfl rfl hc) trivial
          · intro aq wq lq hz hI hl hdone hlater hold hd ho
            have h3 : aq.tmps.getD 11 undef = .pointer (some ⟨w4.heap.size, 0, none⟩) := ho 11 (by kernel_rfl)
            clear hd ho hdone hlater hold
            have hh := hI.b1.has
            have e0 := hh.cell 0
            have e1 := hh.cell 1
            have e2 := hh.cell 2
            have e3 := hh.cell 3
            rw [HXE.out] at e0 e1 e2 e3
            simp only [List.getElem?_cons_zero, List.getElem?_cons_succ] at e0 e1 e2 e3
            rw [Array.getD_eq_getD_getElem?] at h3
            have hc : 40 < aq.tmps.size := (by have hz' : aq.tmps.size = 147 := hz; omega)
            refine Reg.step3_val (.agg #[.int .u8 x.kind, .string XK, .string XV, .int .u64 x.delta]) ?_ rfl (hI.keep _ rfl rfl hc) trivial
            clear hI hh hz hc
            go_simp
          · intro aq wq lq hz hI hl hdone hlater hold hd ho
            have h3 : aq.tmps.getD 40 undef = .agg #[.int .u8 x.kind, .string XK, .string XV, .int .u64 x.delta] := hd 40 (by kernel_rfl)
            clear hd ho hdone hlater hold
            have hc : 41 < aq.tmps.size := (by have hz' : aq.tmps.size = 147 := hz; omega)
            have hA := (Ap.build hI rfl rfl hc)
            rw [HXE.out] at hA
            rw [Array.getD_eq_getD_getElem?] at h3
            refine Reg.step3_do (.slice (some ⟨wq.heap.size, 0, none⟩) 1 1) (wq.alloc (.cells #[.int .u8 x.kind, .string XK, .string XV, .int .u64 x.delta] 33)) ?_ trivial hA trivial
            clear hI hA hz hc
            simp [execOp]
            go_simp
          · intro aq wq lq hz hI hl hdone hlater hold hd ho
            have h3 : aq.tmps.getD 39 undef = va := hd 39 (by kernel_rfl)
            have h4 : lq 2 = true := hdone 2 (by kernel_rfl)
            have h5 : lq 8 = false := hlater 8 (by kernel_rfl)
            clear hd ho hdone hlater hold
            have hc : 42 < aq.tmps.size := (by have hz' : aq.tmps.size = 147 := hz; omega)
            obtain ⟨v', w', hrun, hA⟩ := Ap.app und_up isU_up 23 hI h4 hl h5 rfl rfl hc HB0'.out hI.cor.bel.size (by omega)
            refine Reg.step3_do v' w' ?_ trivial hA trivial
            have e1 : Act.eval aq (.tmp 39) = va := h3
            have e2 : Act.eval aq (.tmp 41) = aq.tmps.getD 41 undef := rfl
            unfold execOp
            simp only [resolve, invoke, builtin, Sem.run_bind, Sem.run_pure, Result.andThen_ok, List.map_toArray, List.map_cons, List.map_nil, e1, e2, hrun]
          · intro aq wq lq hz hI hl hdone hlater hold hd ho
            have h3 : aq.tmps.getD 8 undef = vm := hold 9 8 (by kernel_rfl) (hlater 9 (by kernel_rfl))
            clear hd ho hdone hlater hold
            have hc : 43 < aq.tmps.size := (by have hz' : aq.tmps.size = 147 := hz; omega)
            exact Reg.step3_move (.tmp 8) rfl h3 (hI.keep _ rfl rfl hc) trivial
          · intro aq wq lq hz hI hl hdone hlater hold hd ho
            have h3 : aq.tmps.getD 12 undef = .pointer (some ⟨w4.heap.size + 1, 0, none⟩) := ho 12 (by kernel_rfl)
            clear hd ho hdone hlater hold
            have hh := hI.b2.has
            have e0 := hh.cell 0
            have e1 := hh.cell 1
            have e2 := hh.cell 2
            have e3 := hh.cell 3
            rw [HXE.out] at e0 e1 e2 e3
            simp only [List.getElem?_cons_zero, List.getElem?_cons_succ] at e0 e1 e2 e3
            rw [Array.getD_eq_getD_getElem?] at h3
            have hc : 44 < aq.tmps.size := (by have hz' : aq.tmps.size = 147 := hz; omega)
            refine Reg.step3_val (.agg #[.int .u8 x.kind, .string XK, .string XV, .int .u64 x.delta]) ?_ rfl (hI.keep _ rfl rfl hc) trivial
            clear hI hh hz hc
            go_simp
          · intro aq wq lq hz hI hl hdone hlater hold hd ho
            have h3 : aq.tmps.getD 44 undef = .agg #[.int .u8 x.kind, .string XK, .string XV, .int .u64 x.delta] := hd 44 (by kernel_rfl)
            clear hd ho hdone hlater hold
            have hc : 45 < aq.tmps.size := (by have hz' : aq.tmps.size = 147 := hz; omega)
            have hA := (Ap.swap (Ap.build hI.swap rfl rfl hc))
            rw [HXE.out] at hA
            rw [Array.getD_eq_getD_getElem?] at h3
            refine Reg.step3_do (.slice (some ⟨wq.heap.size, 0, none⟩) 1 1) (wq.alloc (.cells #[.int .u8 x.kind, .string XK, .string XV, .int .u64 x.delta] 34)) ?_ trivial hA trivial
            clear hI hA hz hc
            simp [execOp]
            go_simp
          · intro aq wq lq hz hI hl hdone hlater hold hd ho
            have h3 : aq.tmps.getD 43 undef = vm := hd 43 (by kernel_rfl)
            have h4 : lq 6 = true := hdone 6 (by kernel_rfl)
            have h5 : lq 9 = false := hlater 9 (by kernel_rfl)
            clear hd ho hdone hlater hold
            have hc : 46 < aq.tmps.size := (by have hz' : aq.tmps.size = 147 := hz; omega)
            obtain ⟨v', w', hrun, hA⟩ := Ap.app und_ru isU_ru 26 hI.swap h4 hl h5 rfl rfl hc HB0'.out hI.cor.bel.size (by omega)
            refine Reg.step3_do v' w' ?_ trivial (Ap.swap hA) trivial
            have e1 : Act.eval aq (.tmp 43) = vm := h3
            have e2 : Act.eval aq (.tmp 45) = aq.tmps.getD 45 undef := rfl
            unfold execOp
            simp only [resolve, invoke, builtin, Sem.run_bind, Sem.run_pure, Result.andThen_ok, List.map_toArray, List.map_cons, List.map_nil, e1, e2, hrun]
          · intro aq wq lq hz hI hl hdone hlater hold hd ho
            clear hd ho hdone hlater hold
            have hc : 7 < aq.tmps.size := (by have hz' : aq.tmps.size = 147 := hz; omega)
            exact Reg.step3_assign (.tmp 42) rfl trivial (Ap.asg hI rfl rfl hc) trivial
          · intro aq wq lq hz hI hl hdone hlater hold hd ho
            clear hd ho hdone hlater hold
            have hc : 8 < aq.tmps.size := (by have hz' : aq.tmps.size = 147 := hz; omega)
            exact Reg.step3_assign (.tmp 46) rfl trivial (Ap.swap (Ap.asg hI.swap rfl rfl hc)) trivial
        case hend =>
          intro wx v aq hv hI
          have hc9 := Ap.done hI (by decide) (by decide) (by decide) (by decide)
          rw [hv 7 (by decide), hv 8 (by decide)] at hc9
          have HC9 := Lib.hid hc9
          clear hv hI hc9
          simp only [Reg.fill, List.map_cons, List.map_nil, List.foldl_cons, List.foldl_nil, List.setIfInBounds_toArray, List.set_cons_zero, List.set_cons_succ]
          generalize v 7 = v7 at *
          generalize v 8 = v8 at *
          generalize v 41 = v41 at *
          generalize v 42 = v42 at *
          generalize v 45 = v45 at *
          generalize v 46 = v46 at *
          go_wp2_with fail
          go_roundw
          case rel => exact ⟨k + 1, v7, v8, by omega, rfl, rfl, by go_num, by rw [HTM.out]; exact HC9.out⟩
          case measure => simp [intOf]; omega
      · obtain rfl : k = M := by omega
        have hki : ¬ ((k : Int) < (k : Int)) := by omega
        have hwf : ∀ u ∈ tms (l.take k), WfU u := tms_wf (fun u hu => (HQ.out u (List.mem_of_mem_take hu)).1)
        have hTl : (tms (l.take k)).length ≤ 8 := by rw [tms_len, List.length_take]; omega
        obtain ⟨T, hT⟩ : ∃ T, T = tms (l.take k) := ⟨_, rfl⟩
        rw [← hT] at HC hwf hTl
        have HWF := Lib.hid hwf
        have HTL := Lib.hid hTl
        obtain ⟨ao, ac, rfl, _⟩ := own_shape HC.out.o1
        obtain ⟨mo, mc, rfl, _⟩ := own_shape HC.out.o2
        have hof := of_any (UR.of_own HC.out.o1) (by omega)
        clear hT hwf hcor hml hmk hlt
        go_wp2_with fail
        refine hof.mono ?_
        clear hof
        rintro e w3 ⟨v3, rfl, hr3, hb3⟩
        have HM3 := Lib.hid (UR.of_own (own_bel HC.out.o2 hb3))
        have HB3 := Lib.hid (below_on HC.out.bel hb3)
        have HV3 := Lib.hid (UR.of_own hr3)
        obtain ⟨bo, bc, rfl, _⟩ := own_shape hr3
        clear hr3 hb3
        obtain ⟨w4, hw4⟩ : ∃ z, z = w3.alloc (.cells #[.slice bo (ofU T).length bc] 25) := ⟨_, rfl⟩
        have HB34 := Lib.hid (show Below w3.heap.size w3 w4 by rw [hw4]; exact below_new _ _)
        have HX4 := Lib.hid (show Has w4 w3.heap.size 25 [.slice bo (ofU T).length bc] by rw [hw4]; exact Has.new w3 _ _)
        have HM4 := Lib.hid (HM3.out.below HB34.out)
        have HV4 := Lib.hid (HV3.out.below HB34.out)
        have HB4 := Lib.hid (below_on HB3.out HB34.out)
        have hri := refrising_any HM4.out (by omega)
        have HOU := Lib.hid (ofU_srt T)
        go_upto_region 10 with fail
        rw [← hw4]
        clear hw4
        go_cut [14, 80] (fun v14 b wx => b = .bool false ∧ Below w0.heap.size w0 wx ∧ UR wx (.slice mo T.length mc) T)
        case first =>
          cases hrb : risB T with
          | true =>
            have he : ofN T = 0 ∧ ofU T = T := by unfold ofN ofU; rw [hrb]; exact ⟨rfl, rfl⟩
            rw [hrb] at hri
            rw [he.1]
            rw [he.2] at HX4 HV4 HOU
            rw [he.2]
            have HRI := Lib.hid hri
            clear he hri hrb
            go_wp2_with fail
            refine HRI.out.mono ?_
            rintro e w5 ⟨rfl, q, hw5⟩
            have hb5 : Below w4.heap.size w4 w5 := by rw [hw5]; exact bel_q (Below.refl _ _)
            have HB5 := Lib.hid (below_on HB4.out hb5)
            have HM5 := Lib.hid (HM4.out.below hb5)
            have HV5 := Lib.hid (HV4.out.below hb5)
            have z0 : w5.cell? ⟨w3.heap.size, 0, none⟩ = some (.slice bo T.length bc) := keep1 (HX4.out.cell 0) hb5
            clear hw5 hb5
            go_wp2_with fail
            refine (same_any HV5.out HM5.out HOU.out (by omega)).mono ?_
            rintro e w6 ⟨rfl, hb6⟩
            have HB6 := Lib.hid (below_on HB5.out hb6)
            have HM6 := Lib.hid (HM5.out.below hb6)
            clear hb6 z0
            go_wp2_with fail
            go_meet
            exact ⟨rfl, HB6.out, HM6.out⟩
          | false =>
            have he : ofN T = 2 ∧ ofU T = [] := by unfold ofN ofU; rw [hrb]; exact ⟨rfl, rfl⟩
            rw [hrb] at hri
            rw [he.1]
            rw [he.2] at HX4 HV4 HOU
            rw [he.2]
            have HRI := Lib.hid hri
            have hl0 : ([] : List Up).length = 0 := rfl
            rw [hl0] at HX4 HV4
            rw [hl0]
            clear he hri hrb hl0
            go_wp2_with fail
            refine HRI.out.mono ?_
            rintro e w5 ⟨rfl, q, hw5⟩
            have hb5 : Below w4.heap.size w4 w5 := by rw [hw5]; exact bel_q (Below.refl _ _)
            have HB5 := Lib.hid (below_on HB4.out hb5)
            have HM5 := Lib.hid (HM4.out.below hb5)
            have HV5 := Lib.hid (HV4.out.below hb5)
            have z0 : w5.cell? ⟨w3.heap.size, 0, none⟩ = some (.slice bo 0 bc) := keep1 (HX4.out.cell 0) hb5
            clear hw5 hb5
            go_wp2_with fail
            refine (len_any HV5.out).mono ?_
            rintro e w6 ⟨rfl, hb6⟩
            have HB6 := Lib.hid (below_on HB5.out hb6)
            have HM6 := Lib.hid (HM5.out.below hb6)
            clear hb6 z0
            go_wp2_with fail
            go_meet
            exact ⟨rfl, HB6.out, HM6.out⟩
        case rest =>
          obtain ⟨rfl, hbx, hmx⟩ := hcut
          rename World => wx
          have HBX := Lib.hid hbx
          have HMX := Lib.hid hmx
          clear hbx hmx HX4 HV4 HV3 HM4 HM3 HB4 HB34 HB3 hri HOU
          have hrt := reftext_any HMX.out (by have := HTL.out; omega) HWF.out
          have htl := txt_le T
          obtain ⟨S, hS⟩ : ∃ x, x = Lend.strOf (txT T) := ⟨_, rfl⟩
          have hss : S.size ≤ 408 := by rw [hS, ssize]; have := HTL.out; omega
          rw [← hS] at hrt
          generalize errL T = ER at *
          clear hS htl
          go_wp2_with fail
          refine hrt.mono ?_
          clear hrt
          rintro e w3 ⟨rfl, hb3⟩
          have HB3 := Lib.hid (below_on HBX.out hb3)
          have HAT3 := Lib.hid (HAT.out.below HB3.out HAT.out.lt)
          clear hb3 HMX HBX
          have hx00 := HX0.out.1
          have hx01 : a2x0 ≤ 65535 := by have := HX0.out.2; omega
          have hx10 := HX1.out.1
          have hx11 : a2x1 ≤ 65535 := by have := HX1.out.2; omega
          have hcv := run_bytes_brow w3 (S ++ ⟨#[120]⟩)
          have hrow := brow_bytesWorld w3 (S ++ ⟨#[120]⟩) 5
          have hb4 := below_bytesWorld w3 5 (S ++ ⟨#[120]⟩)
          have hsz4 : w3.heap.size < (Lib.bytesWorld w3 5 (S ++ ⟨#[120]⟩)).heap.size := by rw [Lib.bytesWorld_size]; omega
          have hsx : (S ++ ⟨#[120]⟩ : ByteArray).size = S.size + 1 := by rw [ByteArray.size_append, show (⟨#[120]⟩ : ByteArray).size = 1 from rfl]
          rw [hsx] at hcv
          obtain ⟨cp, hcp⟩ : ∃ c, c = grownCap w3 (S.size + 1) 0 5 := ⟨_, rfl⟩
          obtain ⟨xs, hxs⟩ : ∃ x, x = (S ++ ⟨#[120]⟩ : ByteArray).data.toList := ⟨_, rfl⟩
          obtain ⟨w4, hw4⟩ : ∃ x, x = Lib.bytesWorld w3 5 (S ++ ⟨#[120]⟩) := ⟨_, rfl⟩
          obtain ⟨g, hg⟩ : ∃ g, g = w3.heap.size := ⟨_, rfl⟩
          have hxl : xs.length = S.size + 1 := by rw [hxs, Lend.bytes_length, hsx]
          rw [← hcp, ← hw4, ← hg] at hcv
          rw [← hw4, ← hxs, ← hg] at hrow
          rw [← hw4] at hb4 hsz4
          rw [← hg] at hsz4
          have HGA := Lib.hid (show w0.heap.size ≤ g by rw [hg]; exact HB3.out.size)
          have HB4 := Lib.hid (below_on HB3.out hb4)
          have HROW := Lib.hid hrow
          have HGL := Lib.hid hsz4
          have HAT4 := Lib.hid (HAT3.out.below hb4 HAT3.out.lt)
          have HXL := Lib.hid hxl
          have HAG := Lib.hid (show w.heap.size < g by have := HAT.out.lt; have := HGA.out; omega)
          obtain ⟨d, hd, hdl⟩ : ∃ d : Nat, a2x0 % ((S.size : Int) + 1) = (d : Int) ∧ d < S.size + 1 := by
            have h1 : 0 ≤ a2x0 % ((S.size : Int) + 1) := Int.emod_nonneg _ (by omega)
            have h2 : a2x0 % ((S.size : Int) + 1) < (S.size : Int) + 1 := Int.emod_lt_of_pos _ (by omega)
            exact ⟨(a2x0 % ((S.size : Int) + 1)).toNat, by omega, by omega⟩
          clear hsx hcp hxs hw4 hg hrow hb4 hsz4 hxl
          go_wp2_with fail
          go_upto_region 14 with fail
          obtain ⟨y, hy⟩ : ∃ y : UInt8, (y.toNat : Int) = a2x1 % 256 := ⟨UInt8.ofNat (a2x1 % 256).toNat, by rw [UInt8.toNat_ofNat']; omega⟩
          have hyw : IntKind.u8.wrap a2x1 = (y.toNat : Int) := by rw [hy]; rfl
          have hym : a2x1 % 256 = (y.toNat : Int) := hy.symm
          obtain ⟨x, hx⟩ : ∃ x, x = xs.getD d 0 := ⟨_, rfl⟩
          obtain ⟨z, hz⟩ : ∃ z, z = x ^^^ y := ⟨_, rfl⟩
          have hxor : bits .xor .u8 (x.toNat : Int) (y.toNat : Int) = (z.toNat : Int) := by rw [hz, u8_xor_nat _ _ (bu8_lt x) (bu8_lt y), UInt8.toNat_xor]
          have HXX := Lib.hid hx
          have hd1 : ¬ (S.size : Int) + 1 = 0 := by omega
          have hdl2 : (d : Int) < (S.size : Int) + 1 := by omega
          have HDL := Lib.hid hdl
          have hws : IntKind.i64.wrap ((S.size : Int) + 1) = (S.size : Int) + 1 := IntWalk.i64_in _ (by omega)
          have hwi : IntKind.i64.wrap a2x0 = a2x0 := IntWalk.i64_in _ (by omega)
          have hdt : a2x0.tmod ((S.size : Int) + 1) = (d : Int) := by rw [Int.tmod_eq_emod_of_nonneg hx00]; exact hd
          clear hy hx hz
          refine Reg.region_vals (by kernel_rfl) [(89, .slice (some ⟨g, 0, none⟩) (S.size + 1) cp), (90, .pointer (some ⟨w.heap.size, 0, none⟩)), (91, .int .u16 a2x0), (92, .int .i64 a2x0), (93, .slice (some ⟨g, 0, none⟩) (S.size + 1) cp), (94, .int .i64 ((S.size : Int) + 1)), (95, .int .i64 (d : Nat)), (96, .pointer (some ⟨g, d, none⟩)), (97, .int .u8 (x.toNat : Int)), (98, .pointer (some ⟨w.heap.size, 1, none⟩)), (99, .int .u16 a2x1), (100, .int .u8 (y.toNat : Int)), (101, .int .u8 (z.toNat : Int)), (102, .pointer (some ⟨g, d, none⟩))] (fun l wy => Tn w w0 g a2x0 a2x1 (bif l 14 then xs.set d z else xs) wy) (by kernel_rfl) (by kernel_rfl) (by kernel_rfl) (Tn.drew ⟨HROW.out, HAT4.out, HB4.out, HGL.out, HAG.out⟩) ⟨?_, ?_, ?_, ?_, ?_, ?_, ?_, ?_, ?_, ?_, ?_, ?_, ?_, ?_, ?_, trivial⟩ ?hend
          · -- 0: 89 := Op.move t17
            intro aq wq lq hI hl hdone hlater hold hd ho
            have h17 : aq.tmps.getD 17 undef = .slice (some ⟨g, 0, none⟩) (S.size + 1) cp := ho 17 (by kernel_rfl)
            clear hd ho hdone hlater hold
            exact Reg.step2_move (.tmp 17) rfl h17 hI trivial
          · -- 1: 90 := Op.indexAddr 53 t5 (const (0:i64))
            intro aq wq lq hI hl hdone hlater hold hd ho
            have h5 : aq.tmps.getD 5 undef = .pointer (some ⟨w.heap.size, 0, none⟩) := ho 5 (by kernel_rfl)
            clear hd ho hdone hlater hold
            rw [Array.getD_eq_getD_getElem?] at h5
            refine Reg.step2_val (.pointer (some ⟨w.heap.size, 0, none⟩)) ?_ rfl hI trivial
            go_simp
          · -- 2: 91 := Op.load 52 t90
            intro aq wq lq hI hl hdone hlater hold hd ho
            have h90 : aq.tmps.getD 90 undef = .pointer (some ⟨w.heap.size, 0, none⟩) := hd 90 (by kernel_rfl)
            clear hd ho hdone hlater hold
            rw [Array.getD_eq_getD_getElem?] at h90
            have e0 : wq.cell? ⟨w.heap.size, 0, none⟩ = some (.int .u16 a2x0) := hI.at_.cell 0
            refine Reg.step2_val (.int .u16 a2x0) ?_ rfl hI trivial
            clear hI
            go_simp
          · -- 3: 92 := Op.convert 52 3 t91
            intro aq wq lq hI hl hdone hlater hold hd ho
            have h91 : aq.tmps.getD 91 undef = .int .u16 a2x0 := hd 91 (by kernel_rfl)
            clear hd ho hdone hlater hold
            rw [Array.getD_eq_getD_getElem?] at h91
            refine Reg.step2_val (.int .i64 a2x0) ?_ rfl hI trivial
            simp [execOp, Act.eval, h91]
            try go_simp
          · -- 4: 93 := Op.move t17
            intro aq wq lq hI hl hdone hlater hold hd ho
            have h17 : aq.tmps.getD 17 undef = .slice (some ⟨g, 0, none⟩) (S.size + 1) cp := ho 17 (by kernel_rfl)
            clear hd ho hdone hlater hold
            exact Reg.step2_move (.tmp 17) rfl h17 hI trivial
          · -- 5: 94 := Op.call ( builtin len, args := #(t93), argTypes := #(58) )
            intro aq wq lq hI hl hdone hlater hold hd ho
            have h93 : aq.tmps.getD 93 undef = .slice (some ⟨g, 0, none⟩) (S.size + 1) cp := hd 93 (by kernel_rfl)
            clear hd ho hdone hlater hold
            rw [Array.getD_eq_getD_getElem?] at h93
            refine Reg.step2_val (.int .i64 ((S.size : Int) + 1)) ?_ rfl hI trivial
            simp [execOp]
            go_simp
          · -- 6: 95 := Op.binOp BinOp.rem 3 t92 t94 3
            intro aq wq lq hI hl hdone hlater hold hd ho
            have h92 : aq.tmps.getD 92 undef = .int .i64 a2x0 := hd 92 (by kernel_rfl)
            have h94 : aq.tmps.getD 94 undef = .int .i64 ((S.size : Int) + 1) := hd 94 (by kernel_rfl)
            clear hd ho hdone hlater hold
            rw [Array.getD_eq_getD_getElem?] at h92 h94
            refine Reg.step2_val (.int .i64 (d : Nat)) ?_ rfl hI trivial
            simp [execOp, Act.eval, h92, h94]
            try go_simp
          · -- 7: 96 := Op.indexAddr 58 t89 t95
            intro aq wq lq hI hl hdone hlater hold hd ho
            have h89 : aq.tmps.getD 89 undef = .slice (some ⟨g, 0, none⟩) (S.size + 1) cp := hd 89 (by kernel_rfl)
            have h95 : aq.tmps.getD 95 undef = .int .i64 (d : Nat) := hd 95 (by kernel_rfl)
            clear hd ho hdone hlater hold
            rw [Array.getD_eq_getD_getElem?] at h89 h95
            refine Reg.step2_val (.pointer (some ⟨g, d, none⟩)) ?_ rfl hI trivial
            go_simp
          · -- 8: 97 := Op.load 5 t96
            intro aq wq lq hI hl hdone hlater hold hd ho
            have h96 : aq.tmps.getD 96 undef = .pointer (some ⟨g, d, none⟩) := hd 96 (by kernel_rfl)
            have gl14 : lq 14 = false := hlater 14 (by kernel_rfl)
            clear hd ho hdone hlater hold
            rw [Array.getD_eq_getD_getElem?] at h96
            have hJ := hI
            rw [gl14] at hJ
            have e0 : wq.cell? ⟨g, d, none⟩ = some (.int .u8 (x.toNat : Int)) := by rw [HXX.out]; exact hJ.row.at_ d (by rw [cond_false, HXL.out]; exact HDL.out)
            refine Reg.step2_val (.int .u8 (x.toNat : Int)) ?_ rfl hI trivial
            clear hI hJ
            go_simp
          · -- 9: 98 := Op.indexAddr 53 t5 (const (1:i64))
            intro aq wq lq hI hl hdone hlater hold hd ho
            have h5 : aq.tmps.getD 5 undef = .pointer (some ⟨w.heap.size, 0, none⟩) := ho 5 (by kernel_rfl)
            clear hd ho hdone hlater hold
            rw [Array.getD_eq_getD_getElem?] at h5
            refine Reg.step2_val (.pointer (some ⟨w.heap.size, 1, none⟩)) ?_ rfl hI trivial
            go_simp
          · -- 10: 99 := Op.load 52 t98
            intro aq wq lq hI hl hdone hlater hold hd ho
            have h98 : aq.tmps.getD 98 undef = .pointer (some ⟨w.heap.size, 1, none⟩) := hd 98 (by kernel_rfl)
            clear hd ho hdone hlater hold
            rw [Array.getD_eq_getD_getElem?] at h98
            have e0 : wq.cell? ⟨w.heap.size, 1, none⟩ = some (.int .u16 a2x1) := hI.at_.cell 1
            refine Reg.step2_val (.int .u16 a2x1) ?_ rfl hI trivial
            clear hI
            go_simp
          · -- 11: 100 := Op.convert 52 5 t99
            intro aq wq lq hI hl hdone hlater hold hd ho
            have h99 : aq.tmps.getD 99 undef = .int .u16 a2x1 := hd 99 (by kernel_rfl)
            clear hd ho hdone hlater hold
            rw [Array.getD_eq_getD_getElem?] at h99
            refine Reg.step2_val (.int .u8 (y.toNat : Int)) ?_ rfl hI trivial
            simp [execOp, Act.eval, h99]
            try go_simp
          · -- 12: 101 := Op.binOp BinOp.xor 5 t97 t100 5
            intro aq wq lq hI hl hdone hlater hold hd ho
            have h97 : aq.tmps.getD 97 undef = .int .u8 (x.toNat : Int) := hd 97 (by kernel_rfl)
            have h100 : aq.tmps.getD 100 undef = .int .u8 (y.toNat : Int) := hd 100 (by kernel_rfl)
            clear hd ho hdone hlater hold
            rw [Array.getD_eq_getD_getElem?] at h97 h100
            refine Reg.step2_val (.int .u8 (z.toNat : Int)) ?_ rfl hI trivial
            simp [execOp, Act.eval, h97, h100]
            try go_simp
          · -- 13: 102 := Op.indexAddr 58 t89 t95
            intro aq wq lq hI hl hdone hlater hold hd ho
            have h89 : aq.tmps.getD 89 undef = .slice (some ⟨g, 0, none⟩) (S.size + 1) cp := hd 89 (by kernel_rfl)
            have h95 : aq.tmps.getD 95 undef = .int .i64 (d : Nat) := hd 95 (by kernel_rfl)
            clear hd ho hdone hlater hold
            rw [Array.getD_eq_getD_getElem?] at h89 h95
            refine Reg.step2_val (.pointer (some ⟨g, d, none⟩)) ?_ rfl hI trivial
            go_simp
          · -- 14: None := Op.store 5 t102 t101
            intro aq wq lq hI hl hdone hlater hold hd ho
            have h102 : aq.tmps.getD 102 undef = .pointer (some ⟨g, d, none⟩) := hd 102 (by kernel_rfl)
            have h101 : aq.tmps.getD 101 undef = .int .u8 (z.toNat : Int) := hd 101 (by kernel_rfl)
            clear hd ho hdone hlater hold
            rw [Array.getD_eq_getD_getElem?] at h102 h101
            have hJ := hI
            clear hI
            rw [show lq 14 = false from hl, cond_false] at hJ
            have e0 := hJ.row.at_ d (by rw [HXL.out]; exact HDL.out)
            have f0 := hJ.row.froz d (by rw [HXL.out]; exact HDL.out)
            refine Reg.step2_skip (wq.setCell ⟨g, d, none⟩ (.int .u8 (z.toNat : Int))) rfl ?_ (hJ.set HGA.out (by rw [HXL.out]; exact HDL.out) _) trivial
            clear hJ
            simp [execOp]
            go_simp
          case hend =>
            intro wx2 hI
            simp only [Reg.fill, List.foldl_cons, List.foldl_nil, List.setIfInBounds_toArray, List.set_cons_zero, List.set_cons_succ]
            obtain ⟨zs, hzs⟩ : ∃ ys, ys = xs.set d z := ⟨_, rfl⟩
            have HZL := Lib.hid (show S.size + 1 = zs.length by rw [hzs, List.length_set, HXL.out])
            have HTN := Lib.hid (show Tn w w0 g a2x0 a2x1 zs wx2 by rw [hzs]; exact hI)
            clear hI hzs hyw hym hxor
            go_wp2_with fail
            have hd0 : d ≤ S.size := by have := HDL.out; omega
            obtain ⟨R, hR⟩ : ∃ R, R = R0.extract 0 (min R0.size 200) := ⟨_, rfl⟩
            obtain ⟨m, hm⟩ : ∃ m, m = min R0.size 200 := ⟨_, rfl⟩
            rw [← hm] at hR
            have HRS := Lib.hid (show R.size ≤ 1000 by rw [hR]; simp; omega)
            have hre : R0.extract 0 m = R := hR.symm
            have hmn : min (R0.size : Int) 200 = (m : Int) := by omega
            have hmi : (if (200 : Int) < (R0.size : Int) then 200 else (R0.size : Int)) = (m : Int) := by split <;> omega
            have hml : (m : Int) ≤ (R0.size : Int) := by omega
            have hml2 : m ≤ R0.size := by omega
            obtain ⟨G, hG⟩ : ∃ G, wx2.heap.size = G := ⟨_, rfl⟩
            have HT4 := Lib.hid (show T4 w w0 g a2x0 a2x1 zs G R S (strOf zs) (S.extract 0 d) false wx2 from ⟨HTN.out, fun _ => hG, fun h => by cases h⟩)
            have HG := Lib.hid hG
            clear hG hd hdl hdl2 hR hm
            refine Reg.region_vals (by kernel_rfl) [(103, .string R0), (104, .string R0), (105, .int .i64 (R0.size : Nat)), (106, .int .i64 (m : Nat)), (107, .string R), (108, .string S), (109, .slice (some ⟨g, 0, none⟩) (S.size + 1) cp), (110, .string (strOf zs)), (111, .string S), (112, .pointer (some ⟨w.heap.size, 0, none⟩)), (113, .int .u16 a2x0), (114, .int .i64 a2x0), (115, .string S), (116, .int .i64 (S.size : Nat)), (117, .int .i64 ((S.size : Int) + 1)), (118, .int .i64 (d : Nat)), (119, .string (S.extract 0 d)), (120, .slice (some ⟨G, 0, none⟩) 4 4), (121, .int .i64 4), (122, .int .i64 0)] (fun l wy => T4 w w0 g a2x0 a2x1 zs G R S (strOf zs) (S.extract 0 d) (l 17) wy) (by kernel_rfl) (by kernel_rfl) (by kernel_rfl) (HT4.out.drew) ⟨?_, ?_, ?_, ?_, ?_, ?_, ?_, ?_, ?_, ?_, ?_, ?_, ?_, ?_, ?_, ?_, ?_, ?_, ?_, ?_, trivial⟩ ?hend
            · -- 0: 103 := Op.move t1
              intro aq wq lq hI hl hdone hlater hold hd ho
              have h1 : aq.tmps.getD 1 undef = .string R0 := ho 1 (by kernel_rfl)
              clear hd ho hdone hlater hold
              exact Reg.step2_move (.tmp 1) rfl h1 hI trivial
            · -- 1: 104 := Op.move t1
              intro aq wq lq hI hl hdone hlater hold hd ho
              have h1 : aq.tmps.getD 1 undef = .string R0 := ho 1 (by kernel_rfl)
              clear hd ho hdone hlater hold
              exact Reg.step2_move (.tmp 1) rfl h1 hI trivial
            · -- 2: 105 := Op.call ( builtin len, args := #(t104), argTypes := #(9) )
              intro aq wq lq hI hl hdone hlater hold hd ho
              have h104 : aq.tmps.getD 104 undef = .string R0 := hd 104 (by kernel_rfl)
              clear hd ho hdone hlater hold
              rw [Array.getD_eq_getD_getElem?] at h104
              refine Reg.step2_val (.int .i64 (R0.size : Nat)) ?_ rfl hI trivial
              simp [execOp]
              go_simp
            · -- 3: 106 := Op.call ( builtin min, args := #(t105, const (200:i64)), arg
              intro aq wq lq hI hl hdone hlater hold hd ho
              have h105 : aq.tmps.getD 105 undef = .int .i64 (R0.size : Nat) := hd 105 (by kernel_rfl)
              clear hd ho hdone hlater hold
              rw [Array.getD_eq_getD_getElem?] at h105
              refine Reg.step2_val (.int .i64 (m : Nat)) ?_ rfl hI trivial
              simp [execOp]
              go_simp
            · -- 4: 107 := Op.slice 9 t103 none (some t106) none
              intro aq wq lq hI hl hdone hlater hold hd ho
              have h103 : aq.tmps.getD 103 undef = .string R0 := hd 103 (by kernel_rfl)
              have h106 : aq.tmps.getD 106 undef = .int .i64 (m : Nat) := hd 106 (by kernel_rfl)
              clear hd ho hdone hlater hold
              rw [Array.getD_eq_getD_getElem?] at h103 h106
              refine Reg.step2_val (.string R) ?_ rfl hI trivial
              simp [execOp]
              go_simp
            · -- 5: 108 := Op.move t15
              intro aq wq lq hI hl hdone hlater hold hd ho
              have h15 : aq.tmps.getD 15 undef = .string S := ho 15 (by kernel_rfl)
              clear hd ho hdone hlater hold
              exact Reg.step2_move (.tmp 15) rfl h15 hI trivial
            · -- 6: 109 := Op.move t17
              intro aq wq lq hI hl hdone hlater hold hd ho
              have h17 : aq.tmps.getD 17 undef = .slice (some ⟨g, 0, none⟩) (S.size + 1) cp := ho 17 (by kernel_rfl)
              clear hd ho hdone hlater hold
              exact Reg.step2_move (.tmp 17) rfl h17 hI trivial
            · -- 7: 110 := Op.convert 58 9 t109
              intro aq wq lq hI hl hdone hlater hold hd ho
              have h109 : aq.tmps.getD 109 undef = .slice (some ⟨g, 0, none⟩) (S.size + 1) cp := hd 109 (by kernel_rfl)
              clear hd ho hdone hlater hold
              rw [Array.getD_eq_getD_getElem?] at h109
              have e0 := run_string_brow wq g cp (S.size + 1) zs hI.tn.row HZL.out
              refine Reg.step2_val (.string (strOf zs)) ?_ rfl hI trivial
              clear hI
              simp [execOp]
              go_simp
            · -- 8: 111 := Op.move t15
              intro aq wq lq hI hl hdone hlater hold hd ho
              have h15 : aq.tmps.getD 15 undef = .string S := ho 15 (by kernel_rfl)
              clear hd ho hdone hlater hold
              exact Reg.step2_move (.tmp 15) rfl h15 hI trivial
            · -- 9: 112 := Op.indexAddr 53 t5 (const (0:i64))
              intro aq wq lq hI hl hdone hlater hold hd ho
              have h5 : aq.tmps.getD 5 undef = .pointer (some ⟨w.heap.size, 0, none⟩) := ho 5 (by kernel_rfl)
              clear hd ho hdone hlater hold
              rw [Array.getD_eq_getD_getElem?] at h5
              refine Reg.step2_val (.pointer (some ⟨w.heap.size, 0, none⟩)) ?_ rfl hI trivial
              go_simp
            · -- 10: 113 := Op.load 52 t112
              intro aq wq lq hI hl hdone hlater hold hd ho
              have h112 : aq.tmps.getD 112 undef = .pointer (some ⟨w.heap.size, 0, none⟩) := hd 112 (by kernel_rfl)
              clear hd ho hdone hlater hold
              rw [Array.getD_eq_getD_getElem?] at h112
              have e0 : wq.cell? ⟨w.heap.size, 0, none⟩ = some (.int .u16 a2x0) := hI.tn.at_.cell 0
              refine Reg.step2_val (.int .u16 a2x0) ?_ rfl hI trivial
              clear hI
              go_simp
            · -- 11: 114 := Op.convert 52 3 t113
              intro aq wq lq hI hl hdone hlater hold hd ho
              have h113 : aq.tmps.getD 113 undef = .int .u16 a2x0 := hd 113 (by kernel_rfl)
              clear hd ho hdone hlater hold
              rw [Array.getD_eq_getD_getElem?] at h113
              refine Reg.step2_val (.int .i64 a2x0) ?_ rfl hI trivial
              simp [execOp, Act.eval, h113]
              try go_simp
            · -- 12: 115 := Op.move t15
              intro aq wq lq hI hl hdone hlater hold hd ho
              have h15 : aq.tmps.getD 15 undef = .string S := ho 15 (by kernel_rfl)
              clear hd ho hdone hlater hold
              exact Reg.step2_move (.tmp 15) rfl h15 hI trivial
            · -- 13: 116 := Op.call ( builtin len, args := #(t115), argTypes := #(9) )
              intro aq wq lq hI hl hdone hlater hold hd ho
              have h115 : aq.tmps.getD 115 undef = .string S := hd 115 (by kernel_rfl)
              clear hd ho hdone hlater hold
              rw [Array.getD_eq_getD_getElem?] at h115
              refine Reg.step2_val (.int .i64 (S.size : Nat)) ?_ rfl hI trivial
              simp [execOp]
              go_simp
            · -- 14: 117 := Op.binOp BinOp.add 3 t116 (const (1:i64)) 3
              intro aq wq lq hI hl hdone hlater hold hd ho
              have h116 : aq.tmps.getD 116 undef = .int .i64 (S.size : Nat) := hd 116 (by kernel_rfl)
              clear hd ho hdone hlater hold
              rw [Array.getD_eq_getD_getElem?] at h116
              refine Reg.step2_val (.int .i64 ((S.size : Int) + 1)) ?_ rfl hI trivial
              simp [execOp, Act.eval, h116]
              try go_simp
            · -- 15: 118 := Op.binOp BinOp.rem 3 t114 t117 3
              intro aq wq lq hI hl hdone hlater hold hd ho
              have h114 : aq.tmps.getD 114 undef = .int .i64 a2x0 := hd 114 (by kernel_rfl)
              have h117 : aq.tmps.getD 117 undef = .int .i64 ((S.size : Int) + 1) := hd 117 (by kernel_rfl)
              clear hd ho hdone hlater hold
              rw [Array.getD_eq_getD_getElem?] at h114 h117
              refine Reg.step2_val (.int .i64 (d : Nat)) ?_ rfl hI trivial
              simp [execOp, Act.eval, h114, h117]
              try go_simp
            · -- 16: 119 := Op.slice 9 t111 none (some t118) none
              intro aq wq lq hI hl hdone hlater hold hd ho
              have h111 : aq.tmps.getD 111 undef = .string S := hd 111 (by kernel_rfl)
              have h118 : aq.tmps.getD 118 undef = .int .i64 (d : Nat) := hd 118 (by kernel_rfl)
              clear hd ho hdone hlater hold
              rw [Array.getD_eq_getD_getElem?] at h111 h118
              refine Reg.step2_val (.string (S.extract 0 d)) ?_ rfl hI trivial
              simp [execOp, Act.eval, h111, h118]
              try go_simp
            · -- 17: 120 := Op.buildSlice 59 4 #((0, t107), (1, t108), (2, t110), (3, t1
              intro aq wq lq hI hl hdone hlater hold hd ho
              have h107 : aq.tmps.getD 107 undef = .string R := hd 107 (by kernel_rfl)
              have h108 : aq.tmps.getD 108 undef = .string S := hd 108 (by kernel_rfl)
              have h110 : aq.tmps.getD 110 undef = .string (strOf zs) := hd 110 (by kernel_rfl)
              have h119 : aq.tmps.getD 119 undef = .string (S.extract 0 d) := hd 119 (by kernel_rfl)
              clear hd ho hdone hlater hold
              rw [Array.getD_eq_getD_getElem?] at h107 h108 h110 h119
              have hJ := hI
              clear hI
              rw [show lq 17 = false from hl] at hJ
              have hsz := hJ.sz rfl
              refine Reg.step2_do (.slice (some ⟨G, 0, none⟩) 4 4) (wq.alloc (.cells #[.string R, .string S, .string (strOf zs), .string (S.extract 0 d)] 9)) ?_ rfl hJ.mk' trivial
              clear hJ
              simp [execOp]
              go_simp
            · -- 18: 121 := Op.call ( builtin len, args := #(t120), argTypes := #(59) )
              intro aq wq lq hI hl hdone hlater hold hd ho
              have h120 : aq.tmps.getD 120 undef = .slice (some ⟨G, 0, none⟩) 4 4 := hd 120 (by kernel_rfl)
              clear hd ho hdone hlater hold
              rw [Array.getD_eq_getD_getElem?] at h120
              refine Reg.step2_val (.int .i64 4) ?_ rfl hI trivial
              simp [execOp]
              go_simp
            · -- 19: 122 := Op.move (const (0:i64))
              intro aq wq lq hI hl hdone hlater hold hd ho
              clear hd ho hdone hlater hold
              refine Reg.step2_val (.int .i64 0) ?_ rfl hI trivial
              simp [execOp, Act.eval]
              try go_simp
            case hend =>
              intro wt hI
              simp only [Reg.fill, List.foldl_cons, List.foldl_nil, List.setIfInBounds_toArray, List.set_cons_zero, List.set_cons_succ]
              have HF4 : Hid (Four wt G R S (strOf zs) (S.extract 0 d)) := Lib.hid ((show T4 w w0 g a2x0 a2x1 zs G R S (strOf zs) (S.extract 0 d) true wt from hI).four rfl)
              have HB9 := Lib.hid (show Below w.heap.size w wt from below_on HB0.out (show T4 w w0 g a2x0 a2x1 zs G R S (strOf zs) (S.extract 0 d) true wt from hI).tn.bel)
              have HSZ := Lib.hid (show R.size ≤ 1000 ∧ S.size ≤ 1000 ∧ (strOf zs).size ≤ 1000 ∧ (S.extract 0 d).size ≤ 1000 from by
                refine ⟨HRS.out, by omega, by rw [strOf_size, ← HZL.out]; omega, by simp; omega⟩)
              clear hI hd1 hws hwi hdt hd0 hre hmn hmi hml hml2
              go_wp2_with fail
              go_loopw [122] (fun i wz => ∃ k : Nat, k ≤ 4 ∧ i = .int .i64 k ∧ Below wt.heap.size wt wz) (fun i _ => 4 - (intOf i).toNat)
              case atStart => exact ⟨0, Nat.zero_le _, rfl, Below.refl _ _⟩
              case round =>
                obtain ⟨kk, hkk, rfl, hb⟩ := hrel
                rename World => wz
                have HZ := Lib.hid hb
                by_cases hlt : kk < 4
                · have hkki : (kk : Int) < 4 := by omega
                  obtain ⟨τ, hτ, hcell⟩ := HF4.out.at_ HSZ.out hlt
                  have c0 : wz.cell? ⟨G, kk, none⟩ = some (.string (Lend.strOf τ)) := by rw [hb.cell (World.block_lt_of_cell? _ _ hcell)]; exact hcell
                  have hpa := bparse_any wz (show τ.length ≤ 100000 by omega)
                  have hpr := fun W => rparse_any W (show τ.length ≤ 100000 by omega)
                  have hpl : (paU τ).length ≤ 100000 := by have := paU_len τ; omega
                  have hps := paU_srt τ
                  unfold PrP at hpa
                  unfold RpP at hpr
                  obtain ⟨L, hL⟩ : ∃ L, L = paU τ := ⟨_, rfl⟩
                  obtain ⟨E, hE⟩ : ∃ E, E = paN τ := ⟨_, rfl⟩
                  obtain ⟨TT, hTT⟩ : ∃ z, z = Lend.strOf τ := ⟨_, rfl⟩
                  rw [← hL, ← hE, ← hTT] at hpa hpr
                  rw [← hL] at hpl hps
                  rw [← hTT] at c0
                  have HPR := Lib.hid hpr
                  have HPS := Lib.hid hps
                  clear hτ hcell hb hL hE hTT hpr hps
                  go_wp2_with fail
                  refine hpa.mono ?_
                  clear hpa c0
                  rintro e w5 ⟨v5, rfl, hr5, hb5⟩
                  have HB5 := Lib.hid (below_on HZ.out hb5)
                  have HV5 := Lib.hid (UR.of_own hr5)
                  obtain ⟨bo5, bc5, rfl, _⟩ := own_shape hr5
                  clear hb5 hr5
                  obtain ⟨w6, hw6⟩ : ∃ z, z = w5.alloc (.cells #[.slice bo5 L.length bc5] 25) := ⟨_, rfl⟩
                  have HB56 := Lib.hid (show Below w5.heap.size w5 w6 by rw [hw6]; exact below_new _ _)
                  have HX6 := Lib.hid (show Has w6 w5.heap.size 25 [.slice bo5 L.length bc5] by rw [hw6]; exact Has.new w5 _ _)
                  have HB6 := Lib.hid (below_on HB5.out HB56.out)
                  have HV6 := Lib.hid (HV5.out.below HB56.out)
                  go_wp2_with fail
                  rw [← hw6]
                  clear hw6
                  refine (HPR.out w6).mono ?_
                  rintro e w7 ⟨v7, rfl, hr7, hb7⟩
                  have HB7 := Lib.hid (below_on HB6.out hb7)
                  have HV7 := Lib.hid (HV6.out.below hb7)
                  have HQ7 := Lib.hid (UR.of_own hr7)
                  have z0 : w7.cell? ⟨w5.heap.size, 0, none⟩ = some (.slice bo5 L.length bc5) := keep1 (HX6.out.cell 0) hb7
                  clear hb7 hr7
                  go_wp2_with fail
                  refine (same_any HV7.out HQ7.out HPS.out hpl).mono ?_
                  rintro e w8 ⟨rfl, hb8⟩
                  have HB8 := Lib.hid (below_on HB7.out hb8)
                  clear hb8 z0
                  go_wp2_with fail
                  go_roundw
                  case rel => exact ⟨kk + 1, by omega, by go_num, HB8.out⟩
                  case measure => simp [intOf]; omega
                · obtain rfl : kk = 4 := by omega
                  go_wp2_with fail
                  refine (wakes_any _).mono ?_
                  rintro e w5 ⟨rfl, hb5⟩
                  have HBF := Lib.hid (below_on (below_on HB9.out HZ.out) hb5)
                  clear hb5 hb
                  go_wp2_with fail
                  go_ret
                  exact ⟨rfl, HBF.out⟩

/-! ### THE ROW's STEP -/
set_option maxRecDepth 100000 in
theorem lifted (os : Os) (started : os.Started) (H : Type) (enc : TypeId × Value → H) :
    ReturnsInHanded {} Try.checked os 4 .any (Rows.bufParsesSpec.pre6 enc Try.prog Try.f4 Rows.bufParsesRow.domain false) (Rows.bufParsesSpec.post enc Try.prog Try.f4 false true false false) := by
  refine returnsInHanded_of_change_sized (C := Try.checked) own started (by kernel_rfl) Try.func4
    (ChangeSpec.witness6 (enc := enc) (C := Try.checked) false ⟨#[], #[.slice none 0 0, .string ByteArray.empty, .agg #[.int .u16 0, .int .u16 0]], []⟩ 8 (by kernel_rfl) (by kernel_rfl) (by kernel_rfl) (by kernel_rfl)) ?_
  intro W base args ds gs before hval0 hW hcnd hsz _
  have hval : ∀ (j : Nat) t v, Try.f4.params[j]? = some t → args[j]? = some v → Value.okWide Try.prog W .any base t v := hval0
  have hW' := hW
  obtain ⟨p, q, hA0, hV, rfl, hfz, hnd⟩ := hW
  have hA : DataW.TrodAll enc Try.prog W 0 (fun _ => true) true Try.f4.params.toList args.toList ds p := hA0
  rw [Try.params4] at hA hval
  obtain ⟨v0, vs0, d0, ds0, p0, q0, hargs, rfl, rfl, h0, r0⟩ := trodAll_cons hA
  obtain ⟨v1, vs1, d1, ds1, p1, q1, rfl, rfl, rfl, h1, r1⟩ := trodAll_cons r0
  obtain ⟨v2, vs2, d2, ds2, p2, q2, rfl, rfl, rfl, h2, r2⟩ := trodAll_cons r1
  obtain ⟨rfl, rfl, rfl⟩ := trodAll_nil r2
  obtain rfl : args = #[v0, v1, v2] := by cases args; simp_all
  obtain ⟨rfl, rfl⟩ := trodVars_none hV
  have k0 := h0
  have lt0 : ∀ x ∈ p0, x.block < W.heap.size := by obtain ⟨m, hm⟩ := k0; exact DataW.trod_lt m _ _ _ hm
  obtain ⟨a0', l0', c0', rfl⟩ := okWide_slice Try.underlying22 (hval 0 22 v0 rfl rfl)
  obtain ⟨a0, a0l, a0c, he0, w0, w0l, w0m⟩ := open_AR0 (c := .slice a0' l0' c0') (by obtain ⟨m, hm⟩ := h0; exact ⟨m, hm⟩) (fun n hn => by have := List.all_eq_true.1 hsz n (DataW.weights_mem_each (j := 0) rfl rfl n hn); simpa using this)
  simp only [Value.slice.injEq] at he0
  obtain ⟨rfl, rfl, rfl⟩ := he0
  obtain ⟨a1, rfl, rfl, rfl, w1⟩ := open_string Try.underlying9 (hval 1 9 v1 rfl rfl) h1
  have k2 := h2
  have lt2 : ∀ x ∈ p2, x.block < W.heap.size := by obtain ⟨m, hm⟩ := k2; exact DataW.trod_lt m _ _ _ hm
  obtain ⟨cs2, rfl, hl2, hc2⟩ := open_arr Try.underlying53 (by kernel_rfl) (by kernel_rfl) (hval 2 53 v2 rfl rfl) h2
  obtain ⟨y2_0, y2_1, rfl⟩ := len2 cs2 hl2
  obtain ⟨a2x0, rfl, w2x0⟩ := open_int_cell Try.underlying52 (hc2 0 _ rfl)
  obtain ⟨a2x1, rfl, w2x1⟩ := open_int_cell Try.underlying52 (hc2 1 _ rfl)
  clear hA0 hval0
  refine (walk a0' l0' c0' a1 a2x0 a2x1 W w0 w0l w0m w1 w2x0 w2x1).mono fun e W' ⟨he, bel⟩ => ?_
  subst he
  exact ⟨_, rfl, _, _, _, [], _, [], hW', trodAll_mk1 (shut_bool Try.underlying4 _), (trodAll_cons_mk (Below.trod laidOut (by kernel_rfl) (of_decide_eq_true (by kernel_rfl)) k0 bel lt0) (trodAll_cons_mk (shut_string Try.underlying9 w1) (trodAll_cons_mk (Below.trod laidOut (by kernel_rfl) (of_decide_eq_true (by kernel_rfl)) k2 bel lt2) trodAll_mk0))), rfl, bel.frame _, fun h => by cases h⟩

theorem over : Rows.bufParsesRow.holds Try.pinned (OpenSpec.ofChange Rows.bufParsesSpec) :=
  OpenClaim.holds_of_wide 4 Try.f4 rfl rfl rfl rfl rfl rfl rfl ⟨rfl, rfl, rfl, rfl, rfl⟩ rfl rfl rfl rfl rfl (by kernel_rfl) Try.func4 (by kernel_rfl)
    (of_decide_eq_true (by kernel_rfl)) (by unfold Func.isWrapper; first | (rw [if_pos (by decide +kernel)]; kernel_rfl) | (rw [if_neg (by decide +kernel)]; exact ⟨rfl, rfl⟩))
    (fun os started H enc _ => lifted os started H enc)

/-- THE STATEMENT -/
theorem proved : Rows.BufParsesSaid := over
#print axioms proved
end Go.Proofs.Ytiljcfmplbmooaa.bufParses
