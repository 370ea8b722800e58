/- Contracts of layer 5 (super): parse, Open. -/
import Derived.Test.YtimdemdopnmijaaDoorSupPA
namespace Go.Proofs.YtimdemdopnmijaaDoor.Sup
open Go.RowKit Go.Proofs.YtimdemdopnmijaaDoor Go.Proofs.YtimdemdopnmijaaDoor.Lend Go.Proofs.YtimdemdopnmijaaDoor.Env
set_option linter.unusedVariables false

set_option maxRecDepth 100000 in
theorem unseal_nil (s : ByteArray) (w : World) :
    Calls Tryd.prog 32 #[.pointer none, .string s] w fun e w' => e = .returned (noOpen 1) ∧ Below w.heap.size w w' := by
  go_enter Tryd.func32, Tryd.ntmps32
  go_wp2
  refine bodyPost_ret (v := noOpen 1) (by simp [results, Tryd.results32, go_sem, noOpen]) rfl ⟨rfl, ?_⟩
  repeat (first | exact Below.refl _ _ | apply below_nw | apply below_dr | refine below_st ?_ (Nat.le_succ _) _ | refine below_st ?_ (Nat.le_refl _) _)
set_option maxRecDepth 100000 in
theorem envopen_nil (s : ByteArray) (w : World) :
    Calls Tryd.prog 18 #[.pointer none, .string s] w fun e w' => e = .returned (.tuple #[.agg #[.int .u8 0, .int .i64 0, .int .u64 0], .string ⟨#[]⟩, .int .i64 1]) ∧ Below w.heap.size w w' := by
  go_enter Tryd.func18, Tryd.ntmps18
  go_wp2_with fail
  refine (unseal_nil s _).mono ?_
  rintro e w1 ⟨rfl, hb⟩
  unfold noOpen
  have hn := (New3.new w (.int .u8 0) (.int .i64 0) (.int .u64 0) _).on hb
  have HB := Lib.hid (below_on (below_new _ _) hb)
  obtain ⟨r0, r1, r2, f0, f1, f2⟩ := hn
  have hlw : w.heap.size < w1.heap.size := World.block_lt_of_cell? _ _ r0
  clear hb
  go_wp2_with fail
  refine bodyPost_ret (v := .tuple #[.agg #[.int .u8 0, .int .i64 0, .int .u64 0], .string ⟨#[]⟩, .int .i64 1]) (by simp [results, Tryd.results18, go_sem, r0, r1, r2, hlw]) rfl ⟨rfl, ?_⟩
  repeat (first | exact HB.out | apply below_nw | refine below_st ?_ (Nat.le_refl _) _)
set_option maxRecDepth 100000 in
theorem open_nil (s : ByteArray) (w : World) :
    Calls Tryd.prog 15 #[.pointer none, .string s] w fun e w' => e = .returned (noSou 1) ∧ Below w.heap.size w w' := by
  have hx := Has.new w [.int .u64 0, .int .i64 0, .int .u64 0, .int .u32 0, .int .i64 0, .int .u64 0, .int .u32 0] 36
  go_enter Tryd.func15, Tryd.ntmps15
  go_wp2_with fail
  refine (envopen_nil s _).mono ?_
  rintro e w1 ⟨rfl, hb⟩
  have HX := Lib.hid (hx.below hb (by simp))
  have HB := Lib.hid (below_on (below_new _ _) hb)
  obtain ⟨x0, x1, x2, x3, x4, x5, x6⟩ := has7 HX.out
  have hl := HX.out.lt
  have fz := HX.out.frozen
  clear hx hb
  go_wp2_with fail
  refine bodyPost_ret (v := noSou 1) (by simp [results, Tryd.results15, go_sem, x0, x1, x2, x3, x4, x5, x6, hl, noSou]) rfl ⟨rfl, ?_⟩
  exact below_nw (set7_below (Nat.le_refl _) _ _ _ _ _ _ _ HB.out) _
/-- the numbers of a payload -/
def pN (p : List UInt8) (i : Nat) : Int := (rdL allW p).getD i 0
def psB (g : Int) (p : List UInt8) : Bool := decide (p.length = 29) && supB g (pN p 0) (pN p 1) (pN p 3)
theorem pN_ptr (p : List UInt8) : pG p 0 = pN p 0 ∧ pG p 1 = pN p 1 ∧ pG p 2 = pN p 2 := by simp [pN, pG, allW, ptrW, rdL]
theorem pN_tail (p : List UInt8) : rdL tailW (p.drop 16) = [pN p 3, pN p 4, pN p 5] := by simp [pN, tailW, allW, rdL, List.drop_drop]
theorem pN_bd (p : List UInt8) : (0 ≤ pN p 3 ∧ pN p 3 < 256) ∧ (0 ≤ pN p 4 ∧ pN p 4 < 18446744073709551616) ∧ (0 ≤ pN p 5 ∧ pN p 5 < 4294967296) := by
  have h3 := getL_lt ((p.drop 16).take 1) 1 256 (by simp; omega) rfl
  have h4 := getL_lt ((p.drop 17).take 8) 8 18446744073709551616 (by simp; omega) rfl
  have h5 := getL_lt ((p.drop 25).take 4) 4 4294967296 (by simp; omega) rfl
  have e := pN_tail p
  simp only [tailW, rdL, List.drop_drop, List.cons.injEq, and_true] at e
  obtain ⟨e3, e4, e5⟩ := e
  rw [← e3, ← e4, ← e5]
  simp only [Int.toNat_one, Int.reduceToNat, Nat.reduceAdd]
  refine ⟨⟨?_, ?_⟩, ⟨?_, ?_⟩, ⟨?_, ?_⟩⟩ <;> omega
def TwoI (w : World) (a b : Nat) (cs : List Value) (l : Bool) (wy : World) : Prop :=
  Below w.heap.size w wy ∧ Has wy b 36 cs ∧ Has wy a 36 (if l = true then cs else [.int .u64 0, .int .i64 0, .int .u64 0, .int .u32 0, .int .i64 0, .int .u64 0, .int .u32 0])
set_option maxHeartbeats 4000000 in
set_option maxRecDepth 100000 in
theorem parse_any (g : Int) (P : ByteArray) (w : World) (hs : P.size ≤ 1000000) :
    Calls Tryd.prog 29 #[.int .u64 g, .string P] w fun e w' => ∃ y0 y1 y2 y3 y4 y5 y6 : Int, e = .returned (.tuple #[.agg #[.int .u64 y0, .int .i64 y1, .int .u64 y2, .int .u32 y3, .int .i64 y4, .int .u64 y5, .int .u32 y6], .bool (psB g P.data.toList)]) ∧
      (psB g P.data.toList = true → y0 = g ∧ y1 = pN P.data.toList 0 ∧ y2 = pN P.data.toList 1 ∧ y3 = pN P.data.toList 2 ∧ y4 = pN P.data.toList 3 ∧ y5 = pN P.data.toList 4 ∧ y6 = pN P.data.toList 5) ∧ Below w.heap.size w w' := by
  obtain ⟨p, hp⟩ : ∃ p, P.data.toList = p := ⟨_, rfl⟩
  have hsz := sz_of hp
  rw [hp]
  have HP := Lib.hid hp
  have hx := Has.new w [.int .u64 0, .int .i64 0, .int .u64 0, .int .u32 0, .int .i64 0, .int .u64 0, .int .u32 0] 36
  cases h1 : ppB p with
  | false =>
    have hf : psB g p = false := by
      unfold psB
      by_cases hl : p.length = 29
      · have : ¬ pN p 0 ≤ 2147483647 := by
          intro hh; rw [ppB_ok (by omega) (by rw [(pN_ptr p).1]; exact hh)] at h1; cases h1
        rw [supB_rg, adB_no (.inr (by omega))]; simp
      · rw [decide_eq_false hl]; rfl
    have HF := Lib.hid hf
    have HV := Lib.hid (ppV_no h1)
    clear h1 hf hp hsz
    go_enter Tryd.func29, Tryd.ntmps29
    go_wp2_with fail
    refine (parsePtr_any P _ hs).mono ?_
    rintro e w1 ⟨rfl, hb⟩
    rw [HP.out, HV.out]
    have HX := Lib.hid (hx.below hb (by simp))
    have HB := Lib.hid (below_on (below_new _ _) hb)
    obtain ⟨x0, x1, x2, x3, x4, x5, x6⟩ := has7 HX.out
    have hl := HX.out.lt
    have fz := HX.out.frozen
    clear hx hb
    go_wp2_with fail
    refine bodyPost_ret (v := .tuple #[.agg #[.int .u64 0, .int .i64 0, .int .u64 0, .int .u32 0, .int .i64 0, .int .u64 0, .int .u32 0], .bool false]) (by simp [results, Tryd.results29, go_sem, x0, x1, x2, x3, x4, x5, x6, hl]) rfl ⟨0, 0, 0, 0, 0, 0, 0, by rw [HF.out], (by rw [HF.out]; exact fun h => by cases h), ?_⟩
    exact below_nw (set7_below (Nat.le_refl _) _ _ _ _ _ _ _ HB.out) _
  | true =>
    have h16 : 16 ≤ p.length := by
      by_cases h : 16 ≤ p.length
      · exact h
      · rw [ppB_short h] at h1; cases h1
    have hle : pG p 0 ≤ 2147483647 := by
      by_cases h : pG p 0 ≤ 2147483647
      · exact h
      · rw [ppB_big h] at h1; cases h1
    obtain ⟨g0, g1, g2, g3, g4⟩ := pG_bd p
    obtain ⟨e0, e1, e2⟩ := pN_ptr p
    rw [e0] at g0 hle
    rw [e1] at g1 g2
    rw [e2] at g3 g4
    obtain ⟨⟨m0, m1⟩, ⟨m2, m3⟩, ⟨m4, m5⟩⟩ := pN_bd p
    obtain ⟨R, hR⟩ : ∃ R, R = strOf (p.drop 16) := ⟨_, rfl⟩
    have HV := Lib.hid (show ppV p = .tuple #[.agg #[.int .i64 (pN p 0), .int .u64 (pN p 1), .int .u32 (pN p 2)], .string R, .bool true] by rw [ppV_yes h1, e0, e1, e2, hR])
    have hRd : R.data.toList = p.drop 16 := by rw [hR]; rfl
    have hRs : R.size = p.length - 16 := by rw [sz_of hRd, List.length_drop]
    have hRs2 : R.size ≤ 1000000 := by omega
    have had : adB (pN p 0) = true := adB_yes g0 hle
    have HPS := Lib.hid (show p.length = 29 → psB g p = rgB g (pN p 1) (pN p 3) from fun h => by unfold psB; rw [decide_eq_true h, supB_rg, had]; rfl)
    have HPN := Lib.hid (show p.length ≠ 29 → psB g p = false from fun h => by unfold psB; rw [decide_eq_false h]; rfl)
    have HTL := Lib.hid (pN_tail p)
    obtain ⟨q0, hq0⟩ : ∃ x, x = pN p 0 := ⟨_, rfl⟩
    obtain ⟨q1, hq1⟩ : ∃ x, x = pN p 1 := ⟨_, rfl⟩
    obtain ⟨q2, hq2⟩ : ∃ x, x = pN p 2 := ⟨_, rfl⟩
    obtain ⟨q3, hq3⟩ : ∃ x, x = pN p 3 := ⟨_, rfl⟩
    obtain ⟨q4, hq4⟩ : ∃ x, x = pN p 4 := ⟨_, rfl⟩
    obtain ⟨q5, hq5⟩ : ∃ x, x = pN p 5 := ⟨_, rfl⟩
    rw [← hq0, ← hq1, ← hq2] at HV
    rw [← hq3, ← hq4, ← hq5] at HTL
    rw [← hq1, ← hq3] at HPS
    rw [← hq3] at m0 m1
    rw [← hq4] at m2 m3
    rw [← hq5] at m4 m5
    have v3 : IntKind.i64.wrap q3 = q3 := IntWalk.i64_in _ (by omega)
    have v5 : IntKind.u32.wrap q5 = q5 := by rw [IntKind.wrap_u32]; omega
    have HQ := Lib.hid (show q0 = pN p 0 ∧ q1 = pN p 1 ∧ q2 = pN p 2 ∧ q3 = pN p 3 ∧ q4 = pN p 4 ∧ q5 = pN p 5 from ⟨hq0, hq1, hq2, hq3, hq4, hq5⟩)
    have HRD := Lib.hid hRd
    have HRS := Lib.hid hRs
    have H16 := Lib.hid h16
    clear h1 hle g0 g1 g2 g3 g4 e0 e1 e2 m0 m1 m2 m3 m4 m5 hR hRd hRs had hq0 hq1 hq2 hq3 hq4 hq5 hp hsz h16
    go_enter Tryd.func29, Tryd.ntmps29
    go_wp2_with fail
    refine (parsePtr_any P _ hs).mono ?_
    rintro e w1 ⟨rfl, hb⟩
    rw [HP.out, HV.out]
    have HX := Lib.hid (hx.below hb (by simp))
    have HB := Lib.hid (below_on (below_new _ _) hb)
    have hl := HX.out.lt
    clear hx hb
    go_wp2_with fail
    have ht := Has.new w1 [.int .i64 q0, .int .u64 q1, .int .u32 q2] 34
    refine (widths_any _).mono ?_
    rintro e w2 ⟨wb, rfl, hrow, hb⟩
    have HROW := Lib.hid hrow
    have HT2 := Lib.hid (ht.below hb (by simp))
    have HX2 := Lib.hid ((HX.out.alloc (.cells #[.int .i64 q0, .int .u64 q1, .int .u32 q2] 34)).below hb (by simp; omega))
    have HB2 := Lib.hid (below_on (below_nw HB.out _) hb)
    clear ht hrow hb
    go_wp2_with fail
    refine (read_any _ 3 3 tailW R _ HROW.out (by decide) hRs2).mono ?_
    rintro e w3 ⟨bo, n, cap, rfl, hown, hb⟩
    rw [HRD.out] at hown ⊢
    have HT3 := Lib.hid (HT2.out.below hb HT2.out.lt)
    have hx3 := HX2.out.below hb HX2.out.lt
    have HX3 := Lib.hid hx3
    have HB3 := Lib.hid (below_on HB2.out hb)
    obtain ⟨x0, x1, x2, x3, x4, x5, x6⟩ := has7 hx3
    have hl := hx3.lt
    have fz := hx3.frozen
    clear hb hx3
    by_cases h29 : 29 ≤ p.length
    · obtain ⟨r1, r2, r3⟩ := rd_ok (ws := tailW) (l := p.drop 16) tailW_ok (by show (13 : Int) ≤ _; rw [List.length_drop]; omega)
      rw [r1, r3]
      rw [r2, HTL.out] at hown
      have hr := Row.own hown
      obtain rfl : 3 = n := hr.len_eq
      obtain ⟨rb, ro, rfl, hcc⟩ := hr.at_ (by decide)
      have c0 : w3.cell? ⟨rb, ro, none⟩ = some (.int .u64 q3) := hcc 0 (by decide)
      have c1 : w3.cell? ⟨rb, ro + 1, none⟩ = some (.int .u64 q4) := hcc 1 (by decide)
      have c2 : w3.cell? ⟨rb, ro + 2, none⟩ = some (.int .u64 q5) := hcc 2 (by decide)
      clear r1 r2 r3 hown hr hcc
      by_cases h29' : p.length = 29
      · have hz : strOf ((p.drop 16).drop (sumW tailW).toNat) = ⟨#[]⟩ := by
          rw [show (sumW tailW).toNat = 13 from rfl, List.drop_of_length_le (by rw [List.length_drop]; omega)]; rfl
        rw [hz]
        have HF := Lib.hid (HPS.out h29')
        have hz0 : w3.cell? ⟨rb, ro, none⟩ = some (.int .u64 q3) ∧ w3.cell? ⟨rb, ro + 1, none⟩ = some (.int .u64 q4) ∧ w3.cell? ⟨rb, ro + 2, none⟩ = some (.int .u64 q5) := ⟨c0, c1, c2⟩
        have HC := Lib.hid hz0
        clear hz h29 h29' hz0
        go_wp2_with fail
        clear c0 c1 c2 x0 x1 x2 x3 x4 x5 x6 fz
        refine Reg.region_vals3 (by kernel_rfl) [(35, .int .u64 g), (36, .agg #[.int .i64 q0, .int .u64 q1, .int .u32 q2]), (37, .slice (some ⟨rb, ro, none⟩) 3 cap), (38, .pointer (some ⟨rb, ro, none⟩)), (39, .int .u64 q3), (40, .int .i64 q3), (41, .slice (some ⟨rb, ro, none⟩) 3 cap), (42, .pointer (some ⟨rb, ro + 1, none⟩)), (43, .int .u64 q4), (44, .slice (some ⟨rb, ro, none⟩) 3 cap), (45, .pointer (some ⟨rb, ro + 2, none⟩)), (46, .int .u64 q5), (47, .int .u32 q5), (48, .agg #[.int .u64 g, .int .i64 q0, .int .u64 q1, .int .u32 q2, .int .i64 q3, .int .u64 q4, .int .u32 q5])] [11] (Uno w3 11 14 15 36 [.int .u64 0, .int .i64 0, .int .u64 0, .int .u32 0, .int .i64 0, .int .u64 0, .int .u32 0] [.int .u64 g, .int .i64 q0, .int .u64 q1, .int .u32 q2, .int .i64 q3, .int .u64 q4, .int .u32 q5]) ?a1 ?a2 ?a3 ?a4 ?a5 ?a6 ?a7 ?hend
        case a1 => kernel_rfl
        case a2 => kernel_rfl
        case a3 => kernel_rfl
        case a4 => kernel_rfl
        case a5 => kernel_rfl
        case a6 => exact Uno.start _
        case a7 =>
          refine ⟨?_, ?_, ?_, ?_, ?_, ?_, ?_, ?_, ?_, ?_, ?_, ?_, ?_, ?_, ?_, ?_, trivial⟩
          · -- 0: 35 := Op.move t0
            intro aq wq lq hz hI hl hdone hlater hold hd ho
            have h0 : aq.tmps.getD 0 undef = .int .u64 g := ho 0 (by kernel_rfl)
            clear hd ho hdone hlater hold
            have hc : 35 < aq.tmps.size := by have hz' : aq.tmps.size = 54 := hz; omega
            exact Reg.step3_move (.tmp 0) rfl h0 (hI.keep _ (Below.refl _ _) (by decide) (by decide) (by decide) hc) trivial
          · -- 1: 36 := Op.load 34 t6
            intro aq wq lq hz hI hl hdone hlater hold hd ho
            have h6 : aq.tmps.getD 6 undef = .pointer (some ⟨w1.heap.size, 0, none⟩) := ho 6 (by kernel_rfl)
            clear hd ho hdone hlater hold
            rw [Array.getD_eq_getD_getElem?] at h6
            have hc : 36 < aq.tmps.size := by have hz' : aq.tmps.size = 54 := hz; omega
            have hq := HT3.out.below hI.1 HT3.out.lt
            have e0 : wq.cell? ⟨w1.heap.size, 0, none⟩ = some (.int .i64 q0) := hq.cell 0
            have e1 : wq.cell? ⟨w1.heap.size, 1, none⟩ = some (.int .u64 q1) := hq.cell 1
            have e2 : wq.cell? ⟨w1.heap.size, 2, none⟩ = some (.int .u32 q2) := hq.cell 2
            clear hq
            refine Reg.step3_val (.agg #[.int .i64 q0, .int .u64 q1, .int .u32 q2]) ?_ rfl (hI.keep _ (Below.refl _ _) (by decide) (by decide) (by decide) hc) trivial
            clear hz hc hI
            go_simp
          · -- 2: 37 := Op.move t9
            intro aq wq lq hz hI hl hdone hlater hold hd ho
            have h9 : aq.tmps.getD 9 undef = .slice (some ⟨rb, ro, none⟩) 3 cap := ho 9 (by kernel_rfl)
            clear hd ho hdone hlater hold
            have hc : 37 < aq.tmps.size := by have hz' : aq.tmps.size = 54 := hz; omega
            exact Reg.step3_move (.tmp 9) rfl h9 (hI.keep _ (Below.refl _ _) (by decide) (by decide) (by decide) hc) trivial
          · -- 3: 38 := Op.indexAddr 75 t37 (const (0:i64))
            intro aq wq lq hz hI hl hdone hlater hold hd ho
            have h37 : aq.tmps.getD 37 undef = .slice (some ⟨rb, ro, none⟩) 3 cap := hd 37 (by kernel_rfl)
            clear hd ho hdone hlater hold
            rw [Array.getD_eq_getD_getElem?] at h37
            have hc : 38 < aq.tmps.size := by have hz' : aq.tmps.size = 54 := hz; omega
            refine Reg.step3_val (.pointer (some ⟨rb, ro, none⟩)) ?_ rfl (hI.keep _ (Below.refl _ _) (by decide) (by decide) (by decide) hc) trivial
            clear hz hc hI
            go_simp
          · -- 4: 39 := Op.load 22 t38
            intro aq wq lq hz hI hl hdone hlater hold hd ho
            have h38 : aq.tmps.getD 38 undef = .pointer (some ⟨rb, ro, none⟩) := hd 38 (by kernel_rfl)
            clear hd ho hdone hlater hold
            rw [Array.getD_eq_getD_getElem?] at h38
            have hc : 39 < aq.tmps.size := by have hz' : aq.tmps.size = 54 := hz; omega
            have e0 := cells_on HC.out.1 hI.1
            refine Reg.step3_val (.int .u64 q3) ?_ rfl (hI.keep _ (Below.refl _ _) (by decide) (by decide) (by decide) hc) trivial
            clear hz hc hI
            go_simp
          · -- 5: 40 := Op.convert 22 3 t39
            intro aq wq lq hz hI hl hdone hlater hold hd ho
            have h39 : aq.tmps.getD 39 undef = .int .u64 q3 := hd 39 (by kernel_rfl)
            clear hd ho hdone hlater hold
            rw [Array.getD_eq_getD_getElem?] at h39
            have hc : 40 < aq.tmps.size := by have hz' : aq.tmps.size = 54 := hz; omega
            refine Reg.step3_val (.int .i64 q3) ?_ rfl (hI.keep _ (Below.refl _ _) (by decide) (by decide) (by decide) hc) trivial
            clear hz hc hI
            simp [execOp, Act.eval, h39]
            try go_simp
          · -- 6: 41 := Op.move t9
            intro aq wq lq hz hI hl hdone hlater hold hd ho
            have h9 : aq.tmps.getD 9 undef = .slice (some ⟨rb, ro, none⟩) 3 cap := ho 9 (by kernel_rfl)
            clear hd ho hdone hlater hold
            have hc : 41 < aq.tmps.size := by have hz' : aq.tmps.size = 54 := hz; omega
            exact Reg.step3_move (.tmp 9) rfl h9 (hI.keep _ (Below.refl _ _) (by decide) (by decide) (by decide) hc) trivial
          · -- 7: 42 := Op.indexAddr 75 t41 (const (1:i64))
            intro aq wq lq hz hI hl hdone hlater hold hd ho
            have h41 : aq.tmps.getD 41 undef = .slice (some ⟨rb, ro, none⟩) 3 cap := hd 41 (by kernel_rfl)
            clear hd ho hdone hlater hold
            rw [Array.getD_eq_getD_getElem?] at h41
            have hc : 42 < aq.tmps.size := by have hz' : aq.tmps.size = 54 := hz; omega
            refine Reg.step3_val (.pointer (some ⟨rb, ro + 1, none⟩)) ?_ rfl (hI.keep _ (Below.refl _ _) (by decide) (by decide) (by decide) hc) trivial
            clear hz hc hI
            go_simp
          · -- 8: 43 := Op.load 22 t42
            intro aq wq lq hz hI hl hdone hlater hold hd ho
            have h42 : aq.tmps.getD 42 undef = .pointer (some ⟨rb, ro + 1, none⟩) := hd 42 (by kernel_rfl)
            clear hd ho hdone hlater hold
            rw [Array.getD_eq_getD_getElem?] at h42
            have hc : 43 < aq.tmps.size := by have hz' : aq.tmps.size = 54 := hz; omega
            have e0 := cells_on HC.out.2.1 hI.1
            refine Reg.step3_val (.int .u64 q4) ?_ rfl (hI.keep _ (Below.refl _ _) (by decide) (by decide) (by decide) hc) trivial
            clear hz hc hI
            go_simp
          · -- 9: 44 := Op.move t9
            intro aq wq lq hz hI hl hdone hlater hold hd ho
            have h9 : aq.tmps.getD 9 undef = .slice (some ⟨rb, ro, none⟩) 3 cap := ho 9 (by kernel_rfl)
            clear hd ho hdone hlater hold
            have hc : 44 < aq.tmps.size := by have hz' : aq.tmps.size = 54 := hz; omega
            exact Reg.step3_move (.tmp 9) rfl h9 (hI.keep _ (Below.refl _ _) (by decide) (by decide) (by decide) hc) trivial
          · -- 10: 45 := Op.indexAddr 75 t44 (const (2:i64))
            intro aq wq lq hz hI hl hdone hlater hold hd ho
            have h44 : aq.tmps.getD 44 undef = .slice (some ⟨rb, ro, none⟩) 3 cap := hd 44 (by kernel_rfl)
            clear hd ho hdone hlater hold
            rw [Array.getD_eq_getD_getElem?] at h44
            have hc : 45 < aq.tmps.size := by have hz' : aq.tmps.size = 54 := hz; omega
            refine Reg.step3_val (.pointer (some ⟨rb, ro + 2, none⟩)) ?_ rfl (hI.keep _ (Below.refl _ _) (by decide) (by decide) (by decide) hc) trivial
            clear hz hc hI
            go_simp
          · -- 11: 46 := Op.load 22 t45
            intro aq wq lq hz hI hl hdone hlater hold hd ho
            have h45 : aq.tmps.getD 45 undef = .pointer (some ⟨rb, ro + 2, none⟩) := hd 45 (by kernel_rfl)
            clear hd ho hdone hlater hold
            rw [Array.getD_eq_getD_getElem?] at h45
            have hc : 46 < aq.tmps.size := by have hz' : aq.tmps.size = 54 := hz; omega
            have e0 := cells_on HC.out.2.2 hI.1
            refine Reg.step3_val (.int .u64 q5) ?_ rfl (hI.keep _ (Below.refl _ _) (by decide) (by decide) (by decide) hc) trivial
            clear hz hc hI
            go_simp
          · -- 12: 47 := Op.convert 22 23 t46
            intro aq wq lq hz hI hl hdone hlater hold hd ho
            have h46 : aq.tmps.getD 46 undef = .int .u64 q5 := hd 46 (by kernel_rfl)
            clear hd ho hdone hlater hold
            rw [Array.getD_eq_getD_getElem?] at h46
            have hc : 47 < aq.tmps.size := by have hz' : aq.tmps.size = 54 := hz; omega
            refine Reg.step3_val (.int .u32 q5) ?_ rfl (hI.keep _ (Below.refl _ _) (by decide) (by decide) (by decide) hc) trivial
            clear hz hc hI
            simp [execOp, Act.eval, h46]
            try go_simp
          · -- 13: 48 := Op.build 36 #(0, t35), (1, t36), (2, t40), (3, t43), (4, t4
            intro aq wq lq hz hI hl hdone hlater hold hd ho
            have h35 : aq.tmps.getD 35 undef = .int .u64 g := hd 35 (by kernel_rfl)
            have h36 : aq.tmps.getD 36 undef = .agg #[.int .i64 q0, .int .u64 q1, .int .u32 q2] := hd 36 (by kernel_rfl)
            have h40 : aq.tmps.getD 40 undef = .int .i64 q3 := hd 40 (by kernel_rfl)
            have h43 : aq.tmps.getD 43 undef = .int .u64 q4 := hd 43 (by kernel_rfl)
            have h47 : aq.tmps.getD 47 undef = .int .u32 q5 := hd 47 (by kernel_rfl)
            clear hd ho hdone hlater hold
            rw [Array.getD_eq_getD_getElem?] at h35 h36 h40 h43 h47
            have hc : 48 < aq.tmps.size := by have hz' : aq.tmps.size = 54 := hz; omega
            refine Reg.step3_val (.agg #[.int .u64 g, .int .i64 q0, .int .u64 q1, .int .u32 q2, .int .i64 q3, .int .u64 q4, .int .u32 q5]) ?_ rfl (hI.keep _ (Below.refl _ _) (by decide) (by decide) (by decide) hc) trivial
            clear hz hc hI
            simp [execOp, Act.eval, h35, h36, h40, h43, h47]
            try go_simp
          · -- 14: 11 := Op.alloc 36
            intro aq wq lq hz hI hl hdone hlater hold hd ho
            have hst : lq 15 = false := hlater 15 (by kernel_rfl)
            clear hd ho hdone hlater hold
            have hc : 11 < aq.tmps.size := by have hz' : aq.tmps.size = 54 := hz; omega
            refine Reg.step3_do (.pointer (some ⟨wq.heap.size, 0, none⟩)) (wq.alloc (.cells #[.int .u64 0, .int .i64 0, .int .u64 0, .int .u32 0, .int .i64 0, .int .u64 0, .int .u32 0] 36)) ?_ trivial (Uno.mk hI hst (by decide) hc) trivial
            clear hz hc hI
            simp [execOp]
            go_simp
          · -- 15: None := Op.store 36 t11 t48
            intro aq wq lq hz hI hl hdone hlater hold hd ho
            have h48 : aq.tmps.getD 48 undef = .agg #[.int .u64 g, .int .i64 q0, .int .u64 q1, .int .u32 q2, .int .i64 q3, .int .u64 q4, .int .u32 q5] := hd 48 (by kernel_rfl)
            have hia : lq 14 = true := hdone 14 (by kernel_rfl)
            clear hd ho hdone hlater hold
            rw [Array.getD_eq_getD_getElem?] at h48
            obtain ⟨gq, hgp, hge, hH, hBx, hU⟩ := hI.st hia hl (by decide)
            rw [Array.getD_eq_getD_getElem?] at hgp
            have e0 : wq.cell? ⟨gq, 0, none⟩ = some (.int .u64 0) := hH.cell 0
            have e1 : wq.cell? ⟨gq, 1, none⟩ = some (.int .i64 0) := hH.cell 1
            have e2 : wq.cell? ⟨gq, 2, none⟩ = some (.int .u64 0) := hH.cell 2
            have e3 : wq.cell? ⟨gq, 3, none⟩ = some (.int .u32 0) := hH.cell 3
            have e4 : wq.cell? ⟨gq, 4, none⟩ = some (.int .i64 0) := hH.cell 4
            have e5 : wq.cell? ⟨gq, 5, none⟩ = some (.int .u64 0) := hH.cell 5
            have e6 : wq.cell? ⟨gq, 6, none⟩ = some (.int .u32 0) := hH.cell 6
            have fz := hH.frozen
            refine Reg.step3_skip (((((((wq.setCell ⟨gq, 0, none⟩ (.int .u64 g)).setCell ⟨gq, 1, none⟩ (.int .i64 q0)).setCell ⟨gq, 2, none⟩ (.int .u64 q1)).setCell ⟨gq, 3, none⟩ (.int .u32 q2)).setCell ⟨gq, 4, none⟩ (.int .i64 q3)).setCell ⟨gq, 5, none⟩ (.int .u64 q4)).setCell ⟨gq, 6, none⟩ (.int .u32 q5)) rfl ?_ (hU _ (Has.set (Has.set (Has.set (Has.set (Has.set (Has.set (Has.set hH 0 (.int .u64 g)) 1 (.int .i64 q0)) 2 (.int .u64 q1)) 3 (.int .u32 q2)) 4 (.int .i64 q3)) 5 (.int .u64 q4)) 6 (.int .u32 q5)) (Below.setCell (Below.setCell (Below.setCell (Below.setCell (Below.setCell (Below.setCell (Below.setCell hBx (by exact hge) _) (by exact hge) _) (by exact hge) _) (by exact hge) _) (by exact hge) _) (by exact hge) _) (by exact hge) _)) trivial
            clear hU hH hBx hI hz
            simp [execOp]
            go_simp
        case hend =>
          intro wx v aq hv hI
          obtain ⟨gq, hgp, hge, hH, hBx⟩ := Uno.done hI (by decide) (by decide)
          rw [hv 11 (by decide)] at hgp
          clear hv hI
          simp only [Reg.fill, List.map_cons, List.map_nil, List.foldl_cons, List.foldl_nil, List.setIfInBounds_toArray, List.set_cons_zero, List.set_cons_succ]
          rw [hgp]
          clear hgp
          have HB4 := Lib.hid (below_on HB3.out hBx)
          have HX4 := Lib.hid (HX3.out.below hBx HX3.out.lt)
          have HG4 := Lib.hid hH
          obtain ⟨n0, n1, n2, n3, n4, n5, n6⟩ := has7 hH
          have hl5 := hH.lt
          have hne4 : gq ≠ w.heap.size := by have := HX3.out.lt; omega
          clear hge hBx hH
          obtain ⟨B, hB⟩ : ∃ B, B = rgB g q1 q3 := ⟨_, rfl⟩
          have HRB := Lib.hid hB
          clear hB
          go_wp2_with fail
          refine (right_any _ _ _ _ _ _ _ _).mono ?_
          rintro e w6 ⟨rfl, hb⟩
          rw [← HRB.out]
          have hg6 := HG4.out.below hb HG4.out.lt
          have hx6 := HX4.out.below hb HX4.out.lt
          have HB6 := Lib.hid (below_on HB4.out hb)
          clear n0 n1 n2 n3 n4 n5 n6 hl5 hb
          obtain ⟨n0, n1, n2, n3, n4, n5, n6⟩ := has7 hg6
          obtain ⟨x0, x1, x2, x3, x4, x5, x6⟩ := has7 hx6
          have hl4 := hx6.lt
          have hl5 := hg6.lt
          have fz := hx6.frozen
          clear hg6 hx6
          cases B with
          | false =>
            go_wp2_with fail
            refine bodyPost_ret (v := .tuple #[.agg #[.int .u64 0, .int .i64 0, .int .u64 0, .int .u32 0, .int .i64 0, .int .u64 0, .int .u32 0], .bool false]) (by simp [results, Tryd.results29, go_sem, x0, x1, x2, x3, x4, x5, x6]) rfl ⟨0, 0, 0, 0, 0, 0, 0, by rw [HF.out, ← HRB.out], (by rw [HF.out, ← HRB.out]; exact fun h => by cases h), ?_⟩
            exact set7_below (Nat.le_refl _) _ _ _ _ _ _ _ HB6.out
          | true =>
            go_wp2_with fail
            refine bodyPost_ret (v := .tuple #[.agg #[.int .u64 g, .int .i64 q0, .int .u64 q1, .int .u32 q2, .int .i64 q3, .int .u64 q4, .int .u32 q5], .bool true]) (by simp [results, Tryd.results29, go_sem, x0, x1, x2, x3, x4, x5, x6]) rfl ⟨g, q0, q1, q2, q3, q4, q5, by rw [HF.out, ← HRB.out], fun _ => ⟨rfl, HQ.out⟩, ?_⟩
            exact set7_below (Nat.le_refl _) _ _ _ _ _ _ _ HB6.out
      · have HF := Lib.hid (HPN.out h29')
        obtain ⟨Y, hY⟩ : ∃ Y, Y = strOf ((p.drop 16).drop (sumW tailW).toNat) := ⟨_, rfl⟩
        have hne : ¬ Y.toList = [] := fun h => by
          have h2 : Y.size = 0 := by rw [ByteArray.toList_eq] at h; have := congrArg List.length h; simpa using this
          rw [hY] at h2
          have h3 : ((p.drop 16).drop (sumW tailW).toNat).length = 0 := h2
          rw [List.length_drop, List.length_drop, show (sumW tailW).toNat = 13 from rfl] at h3
          omega
        have hne2 : Y.toList.isEmpty = false := by simpa using hne
        rw [← hY]
        clear hY h29 h29'
        go_wp2_with fail
        refine bodyPost_ret (v := .tuple #[.agg #[.int .u64 0, .int .i64 0, .int .u64 0, .int .u32 0, .int .i64 0, .int .u64 0, .int .u32 0], .bool false]) (by simp [results, Tryd.results29, go_sem, x0, x1, x2, x3, x4, x5, x6]) rfl ⟨0, 0, 0, 0, 0, 0, 0, by rw [HF.out], (by rw [HF.out]; exact fun h => by cases h), ?_⟩
        exact set7_below (Nat.le_refl _) _ _ _ _ _ _ _ HB3.out
    · obtain ⟨r1, r2, r3⟩ := rd_no (ws := tailW) (l := p.drop 16) (.inr (by show ¬ (13 : Int) ≤ _; rw [List.length_drop]; omega))
      have HF := Lib.hid (HPN.out (by omega))
      rw [r1, r3]
      clear r1 r2 r3 hown h29
      go_wp2_with fail
      refine bodyPost_ret (v := .tuple #[.agg #[.int .u64 0, .int .i64 0, .int .u64 0, .int .u32 0, .int .i64 0, .int .u64 0, .int .u32 0], .bool false]) (by simp [results, Tryd.results29, go_sem, x0, x1, x2, x3, x4, x5, x6]) rfl ⟨0, 0, 0, 0, 0, 0, 0, by rw [HF.out], (by rw [HF.out]; exact fun h => by cases h), ?_⟩
      exact set7_below (Nat.le_refl _) _ _ _ _ _ _ _ HB3.out
theorem souB_ps (l : List UInt8) : souB l = (decide (F l 0 = 1) && (decide (F l 3 = F l 4 % 2) && psB (F l 4) (opP l))) := by
  unfold souB psB sP pN
  cases decide ((opP l).length = 29) <;> cases decide (F l 0 = 1) <;> cases decide (F l 3 = F l 4 % 2) <;> rfl
set_option maxHeartbeats 4000000 in
set_option maxRecDepth 100000 in
theorem open_sup (b : Nat) (s : ByteArray) (w : World) (ht : Sum.IsTab w b) (hs : s.size ≤ 1000000) :
    Calls Tryd.prog 15 #[.pointer (some ⟨b, 0, none⟩), .string s] w fun e w' => e = .returned (souV s.data.toList (souE s.data.toList)) ∧ Below w.heap.size w w' := by
  obtain ⟨l, hl⟩ : ∃ l, s.data.toList = l := ⟨_, rfl⟩
  have hsz := sz_of hl
  rw [hl]
  have HL := Lib.hid hl
  have HT := Lib.hid ht
  have hx := Has.new w [.int .u64 0, .int .i64 0, .int .u64 0, .int .u32 0, .int .i64 0, .int .u64 0, .int .u32 0] 36
  obtain ⟨E, hE⟩ : ∃ E, opE l = E := ⟨_, rfl⟩
  by_cases h0 : E = 0
  · have HE := Lib.hid (show opE l = 0 by rw [hE, h0])
    obtain ⟨hf, _⟩ := F_bd l
    obtain ⟨k, hk⟩ : ∃ x, x = F l 0 := ⟨_, rfl⟩
    obtain ⟨a, ha⟩ : ∃ x, x = F l 3 := ⟨_, rfl⟩
    obtain ⟨g, hg⟩ : ∃ x, x = F l 4 := ⟨_, rfl⟩
    obtain ⟨P, hP⟩ : ∃ P, P = strOf (opP l) := ⟨_, rfl⟩
    have hPd : P.data.toList = opP l := by rw [hP]; rfl
    have HPD := Lib.hid hPd
    have HR := Lib.hid (show open3V l = .tuple #[.agg #[.int .u8 k, .int .i64 a, .int .u64 g], .string P, .int .i64 0] by
      simp only [open3V, oK, oA, oG, oP, HE.out, if_true, hk, ha, hg, hP])
    have hps : P.size ≤ 1000000 := by rw [sz_of hPd]; have := opP_le l; omega
    rw [← hk, ← ha, ← hg] at hf
    have hg0 := hf.g0
    have HSB := Lib.hid (show souB l = (decide (k = 1) && (decide (a = g % 2) && psB g (opP l))) by rw [souB_ps, hk, ha, hg])
    have HNO := Lib.hid (show souB l = false → souV l (souE l) = noSou 4 from fun h => souV_no (souE_no HE.out h) (by decide))
    have HYES := Lib.hid (show souB l = true → souV l (souE l) = .tuple #[.agg #[.int .u64 g, .int .i64 (pN (opP l) 0), .int .u64 (pN (opP l) 1), .int .u32 (pN (opP l) 2), .int .i64 (pN (opP l) 3), .int .u64 (pN (opP l) 4), .int .u32 (pN (opP l) 5)], .int .i64 0] from fun h => by
      have e := souE_yes HE.out h
      rw [e, souV, if_pos e, hg]; rfl)
    obtain ⟨sl, hsl⟩ : ∃ x, x = g % 2 := ⟨_, rfl⟩
    have HSL := Lib.hid hsl
    rw [← hsl] at HSB
    clear h0 hE hk ha hg hP hPd hf hl hsz ht hsl
    go_enter Tryd.func15, Tryd.ntmps15
    go_wp2_with fail
    refine (open_any b s _ (tab_nw HT.out _) hs).mono ?_
    rintro e w1 ⟨rfl, hb⟩
    rw [HL.out, HR.out]
    have HX := Lib.hid (hx.below hb (by simp))
    have HB := Lib.hid (below_on (below_new _ _) hb)
    have hn := New3.new w1 (.int .u8 k) (.int .i64 a) (.int .u64 g) 61
    have hl0 := HX.out.lt
    clear hx hb
    go_wp2_with fail
    refine (parse_any g P _ hps).mono ?_
    rintro e w2 ⟨y0, y1, y2, y3, y4, y5, y6, rfl, hy, hb⟩
    rw [HPD.out] at hy ⊢
    have HY := Lib.hid hy
    have HX2 := Lib.hid ((HX.out.alloc (.cells #[.int .u8 k, .int .i64 a, .int .u64 g] 61)).below hb (by simp; omega))
    have HN2 := Lib.hid (hn.on hb)
    have HB2 := Lib.hid (below_on (below_nw HB.out _) hb)
    have hc := Has.new w2 [.int .u64 y0, .int .i64 y1, .int .u64 y2, .int .u32 y3, .int .i64 y4, .int .u64 y5, .int .u32 y6] 36
    have HC := Lib.hid hc
    have HX3 := Lib.hid (HX2.out.alloc (.cells #[.int .u64 y0, .int .i64 y1, .int .u64 y2, .int .u32 y3, .int .i64 y4, .int .u64 y5, .int .u32 y6] 36))
    have HN3 := Lib.hid (HN2.out.on (below_new w2 (.cells #[.int .u64 y0, .int .i64 y1, .int .u64 y2, .int .u32 y3, .int .i64 y4, .int .u64 y5, .int .u32 y6] 36)))
    go_wp2_with fail
    obtain ⟨cb, hcb⟩ : ∃ x, x = w2.heap.size := ⟨_, rfl⟩
    obtain ⟨W5, hW5⟩ : ∃ x, x = w2.alloc (.cells #[.int .u64 y0, .int .i64 y1, .int .u64 y2, .int .u32 y3, .int .i64 y4, .int .u64 y5, .int .u32 y6] 36) := ⟨_, rfl⟩
    rw [← hW5] at HX3 HN3
    have HC5 := Lib.hid (show Has W5 cb 36 [.int .u64 y0, .int .i64 y1, .int .u64 y2, .int .u32 y3, .int .i64 y4, .int .u64 y5, .int .u32 y6] by rw [hW5, hcb]; exact HC.out)
    have HB5 := Lib.hid (show Below w.heap.size w W5 by rw [hW5]; exact below_nw HB2.out _)
    try rw [← hW5, ← hcb]
    obtain ⟨x0, x1, x2, x3, x4, x5, x6⟩ := has7 HX3.out
    obtain ⟨c0, c1, c2, c3, c4, c5, c6⟩ := has7 HC5.out
    obtain ⟨z0, z1, z2, _, _, _⟩ := HN3.out
    have hl1 := HX3.out.lt
    have hl2 := HC5.out.lt
    have fz := HX3.out.frozen
    clear hy hb hn hc hW5 hcb HC
    cases hps2 : psB g (opP l) with
    | false =>
      have HV := Lib.hid (HNO.out (by rw [HSB.out, hps2]; simp))
      clear hps2
      go_quiet (fail)
      go_wp2_with fail
      refine bodyPost_ret (v := noSou 4) (by simp [results, Tryd.results15, go_sem, x0, x1, x2, x3, x4, x5, x6, noSou]) rfl ⟨by rw [HV.out], ?_⟩
      exact set7_below (Nat.le_refl _) _ _ _ _ _ _ _ (below_dn HB5.out _)
    | true =>
      obtain ⟨rfl, rfl, rfl, rfl, rfl, rfl, rfl⟩ := HY.out hps2
      obtain ⟨D, hD⟩ : ∃ D, D = !(decide (k = 1) && decide (a = sl)) := ⟨_, rfl⟩
      have HD := Lib.hid hps2
      have HDD := Lib.hid hD
      clear hps2 hD x0 x1 x2 x3 x4 x5 x6 c0 c1 c2 c3 c4 c5 c6 z0 z1 z2 fz
      refine Reg.region_vals (by kernel_rfl) [(29, .bool true), (30, .bool false), (31, .bool false), (32, .agg #[.int .u8 k, .int .i64 a, .int .u64 y0]), (33, .pointer (some ⟨w1.heap.size, 2, none⟩)), (34, .int .u64 y0), (35, .agg #[.int .u8 1, .int .i64 sl, .int .u64 y0]), (36, .bool D), (37, .bool D)] (fun l wy => Below W5.heap.size W5 wy) (by kernel_rfl) (by kernel_rfl) (by kernel_rfl) (below_dr (Below.refl _ _)) ⟨?_, ?_, ?_, ?_, ?_, ?_, ?_, ?_, ?_, trivial⟩ ?hend
      · -- 0: 29 := Op.move t10
        intro aq wq lq hI hl hdone hlater hold hd ho
        have h10 : aq.tmps.getD 10 undef = .bool true := ho 10 (by kernel_rfl)
        clear hd ho hdone hlater hold
        exact Reg.step2_move (.tmp 10) rfl h10 hI trivial
      · -- 1: 30 := Op.unOp UnOp.not 4 t29
        intro aq wq lq hI hl hdone hlater hold hd ho
        have h29 : aq.tmps.getD 29 undef = .bool true := hd 29 (by kernel_rfl)
        clear hd ho hdone hlater hold
        rw [Array.getD_eq_getD_getElem?] at h29
        refine Reg.step2_val (.bool false) ?_ rfl hI trivial
        simp [execOp, Act.eval, h29]
        try go_simp
      · -- 2: 31 := Op.move t30
        intro aq wq lq hI hl hdone hlater hold hd ho
        have h30 : aq.tmps.getD 30 undef = .bool false := hd 30 (by kernel_rfl)
        clear hd ho hdone hlater hold
        exact Reg.step2_move (.tmp 30) rfl h30 hI trivial
      · -- 3: 32 := Op.load 61 t6
        intro aq wq lq hI hl hdone hlater hold hd ho
        have h6 : aq.tmps.getD 6 undef = .pointer (some ⟨w1.heap.size, 0, none⟩) := ho 6 (by kernel_rfl)
        clear hd ho hdone hlater hold
        rw [Array.getD_eq_getD_getElem?] at h6
        have e0 := (HN3.out.on hI).c0
        have e1 := (HN3.out.on hI).c1
        have e2 := (HN3.out.on hI).c2
        refine Reg.step2_val (.agg #[.int .u8 k, .int .i64 a, .int .u64 y0]) ?_ rfl hI trivial
        go_simp
      · -- 4: 33 := Op.fieldAddr 61 t6 2
        intro aq wq lq hI hl hdone hlater hold hd ho
        have h6 : aq.tmps.getD 6 undef = .pointer (some ⟨w1.heap.size, 0, none⟩) := ho 6 (by kernel_rfl)
        clear hd ho hdone hlater hold
        rw [Array.getD_eq_getD_getElem?] at h6
        refine Reg.step2_val (.pointer (some ⟨w1.heap.size, 2, none⟩)) ?_ rfl hI trivial
        go_simp
      · -- 5: 34 := Op.load 22 t33
        intro aq wq lq hI hl hdone hlater hold hd ho
        have h33 : aq.tmps.getD 33 undef = .pointer (some ⟨w1.heap.size, 2, none⟩) := hd 33 (by kernel_rfl)
        clear hd ho hdone hlater hold
        rw [Array.getD_eq_getD_getElem?] at h33
        have e0 := (HN3.out.on hI).c2
        refine Reg.step2_val (.int .u64 y0) ?_ rfl hI trivial
        go_simp
      · -- 6: 35 := Op.call ( value (Operand.func 22), args := #(t34), argTypes 
        intro aq wq lq hI hl hdone hlater hold hd ho
        have h34 : aq.tmps.getD 34 undef = .int .u64 y0 := hd 34 (by kernel_rfl)
        clear hd ho hdone hlater hold
        rw [Array.getD_eq_getD_getElem?] at h34
        refine Reg.step2_call 22 #[.int .u64 y0] ?_ ((headOf_any y0 wq hg0).mono ?_)
        · clear hI
          simp [execOp]
          go_simp
        · rintro e w' ⟨rfl, hb⟩
          exact ⟨_, rfl, by rw [← HSL.out]; rfl, below_on hI hb, trivial⟩
      · -- 7: 36 := Op.binOp BinOp.neq 61 t32 t35 61
        intro aq wq lq hI hl hdone hlater hold hd ho
        have h32 : aq.tmps.getD 32 undef = .agg #[.int .u8 k, .int .i64 a, .int .u64 y0] := hd 32 (by kernel_rfl)
        have h35 : aq.tmps.getD 35 undef = .agg #[.int .u8 1, .int .i64 sl, .int .u64 y0] := hd 35 (by kernel_rfl)
        clear hd ho hdone hlater hold
        rw [Array.getD_eq_getD_getElem?] at h32 h35
        refine Reg.step2_val (.bool D) ?_ rfl hI trivial
        clear hI
        rw [HDD.out]
        simp [execOp, Act.eval, h32, h35]
        try go_simp
        by_cases h1 : k = 1 <;> by_cases h2 : a = sl <;> simp [h1, h2]
      · -- 8: 37 := Op.pick t31 (const (Value.bool true)) t36
        intro aq wq lq hI hl hdone hlater hold hd ho
        have h31 : aq.tmps.getD 31 undef = .bool false := hd 31 (by kernel_rfl)
        have h36 : aq.tmps.getD 36 undef = .bool D := hd 36 (by kernel_rfl)
        clear hd ho hdone hlater hold
        rw [Array.getD_eq_getD_getElem?] at h31 h36
        refine Reg.step2_val (.bool D) ?_ rfl hI trivial
        simp [execOp, Act.eval, h31, h36]
        try go_simp
      case hend =>
        intro wy hI
        simp only [Reg.fill, List.foldl_cons, List.foldl_nil, List.setIfInBounds_toArray, List.set_cons_zero, List.set_cons_succ]
        have HB6 := Lib.hid (below_on HB5.out hI)
        have hx6 := HX3.out.below hI HX3.out.lt
        have hc6 := HC5.out.below hI HC5.out.lt
        obtain ⟨x0, x1, x2, x3, x4, x5, x6⟩ := has7 hx6
        obtain ⟨c0, c1, c2, c3, c4, c5, c6⟩ := has7 hc6
        have fz := hx6.frozen
        clear hI hx6 hc6
        cases D with
        | true =>
          have HV := Lib.hid (HNO.out (by
            have h := HDD.out
            rw [HSB.out]
            by_cases h1 : k = 1
            · by_cases h2 : a = sl
              · simp [h1, h2] at h
              · simp [h2]
            · simp [h1]))
          go_wp2_with fail
          refine bodyPost_ret (v := noSou 4) (by simp [results, Tryd.results15, go_sem, x0, x1, x2, x3, x4, x5, x6, noSou]) rfl ⟨by rw [HV.out], ?_⟩
          exact set7_below (Nat.le_refl _) _ _ _ _ _ _ _ HB6.out
        | false =>
          have HV := Lib.hid (HYES.out (by
            have h := HDD.out
            rw [HSB.out, HD.out]
            by_cases h1 : k = 1
            · by_cases h2 : a = sl
              · simp [h1, h2]
              · simp [h2] at h
            · simp [h1] at h))
          go_wp2_with fail
          refine bodyPost_ret (v := .tuple #[.agg #[.int .u64 y0, .int .i64 (pN (opP l) 0), .int .u64 (pN (opP l) 1), .int .u32 (pN (opP l) 2), .int .i64 (pN (opP l) 3), .int .u64 (pN (opP l) 4), .int .u32 (pN (opP l) 5)], .int .i64 0]) (by simp [results, Tryd.results15, go_sem, x0, x1, x2, x3, x4, x5, x6]) rfl ⟨by rw [HV.out], ?_⟩
          exact set7_below (Nat.le_refl _) _ _ _ _ _ _ _ HB6.out
  · have HV := Lib.hid (souV_no (l := l) (e := E) (by rw [souE, hE, if_neg h0]) h0)
    have HR := Lib.hid (show open3V l = .tuple #[.agg #[.int .u8 0, .int .i64 0, .int .u64 0], .string ⟨#[]⟩, .int .i64 E] by
      simp only [open3V, oK, oA, oG, oP, hE, if_neg h0])
    have h0' : (E == 0) = false := by simpa using h0
    clear hE hl hsz ht
    go_enter Tryd.func15, Tryd.ntmps15
    go_wp2_with fail
    refine (open_any b s _ (tab_nw HT.out _) hs).mono ?_
    rintro e w1 ⟨rfl, hb⟩
    rw [HL.out, HR.out]
    have HX := Lib.hid (hx.below hb (by simp))
    have HB := Lib.hid (below_on (below_new _ _) hb)
    obtain ⟨x0, x1, x2, x3, x4, x5, x6⟩ := has7 HX.out
    have hl := HX.out.lt
    have fz := HX.out.frozen
    clear hx hb
    go_wp2_with fail
    refine bodyPost_ret (v := noSou E) (by simp [results, Tryd.results15, go_sem, x0, x1, x2, x3, x4, x5, x6, hl, noSou]) rfl ⟨by rw [HV.out], ?_⟩
    exact below_nw (set7_below (Nat.le_refl _) _ _ _ _ _ _ _ HB.out) _
end Go.Proofs.YtimdemdopnmijaaDoor.Sup
