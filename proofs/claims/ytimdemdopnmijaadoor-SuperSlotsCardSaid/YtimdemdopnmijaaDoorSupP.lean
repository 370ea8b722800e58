/- Contracts of layer 5 (super): Newest. -/
import Derived.Test.YtimdemdopnmijaaDoorSupPB
namespace Go.Proofs.YtimdemdopnmijaaDoor.Sup
open Go.RowKit Go.Proofs.YtimdemdopnmijaaDoor Go.Proofs.YtimdemdopnmijaaDoor.Lend Go.Proofs.YtimdemdopnmijaaDoor.Env
set_option linter.unusedVariables false

theorem souV_cells (l : List UInt8) : ∃ y0 y1 y2 y3 y4 y5 y6 : Int, souV l (souE l) = .tuple #[.agg #[.int .u64 y0, .int .i64 y1, .int .u64 y2, .int .u32 y3, .int .i64 y4, .int .u64 y5, .int .u32 y6], .int .i64 (souE l)] ∧
    (souE l = 0 → F l 4 = y0 ∧ nwV (some l) = .tuple #[.agg #[.int .u64 y0, .int .i64 y1, .int .u64 y2, .int .u32 y3, .int .i64 y4, .int .u64 y5, .int .u32 y6], .bool true]) := by
  by_cases h : souE l = 0
  · refine ⟨_, _, _, _, _, _, _, by unfold souV; rw [if_pos h], fun _ => ⟨rfl, rfl⟩⟩
  · refine ⟨_, _, _, _, _, _, _, by unfold souV; rw [if_neg h], fun hh => absurd hh h⟩
theorem souE_gen {l : List UInt8} (h : souE l = 0) : 1 ≤ F l 4 := by
  by_cases h0 : opE l = 0
  · rw [souE, if_pos h0] at h
    split at h
    · rename_i hb
      have : souB l = true := hb
      rw [souB] at this
      simp only [Bool.and_eq_true, decide_eq_true_eq] at this
      exact (supB_parts this.2.2.2).1
    · cases h
  · rw [souE_open h0] at h; exact absurd h h0
theorem nwS_good {o : Option (List UInt8)} (h : ∀ b, o = some b → souE b = 0) (l : List UInt8) : ∀ b, nwS o l = some b → souE b = 0 := by
  intro b hb
  cases o with
  | none =>
    rw [nwS] at hb
    split at hb
    · rename_i hh; cases hb; exact hh
    · cases hb
  | some c =>
    rw [nwS] at hb
    split at hb
    · rename_i hh; cases hb; exact hh.1
    · cases hb; exact h _ rfl
theorem nwF_good (ls : List (List UInt8)) : ∀ {o : Option (List UInt8)}, (∀ b, o = some b → souE b = 0) → ∀ b, nwF o ls = some b → souE b = 0 := by
  induction ls with
  | nil => intro o h b hb; exact h b hb
  | cons l ls ih => intro o h b hb; exact ih (nwS_good h l) b hb
/-- what stands for the newest one: its cells; none is told by a generation of 0 -/
theorem nwV_cells {o : Option (List UInt8)} (hg : ∀ b, o = some b → souE b = 0) : ∃ (y0 y1 y2 y3 y4 y5 y6 : Int), nwV o = .tuple #[.agg #[.int .u64 y0, .int .i64 y1, .int .u64 y2, .int .u32 y3, .int .i64 y4, .int .u64 y5, .int .u32 y6], .bool (decide (0 < y0))] ∧
    0 ≤ y0 ∧ (o = none → y0 = 0) ∧ (∀ b, o = some b → F b 4 = y0) := by
  cases o with
  | none => exact ⟨0, 0, 0, 0, 0, 0, 0, rfl, by decide, fun _ => rfl, (fun b h => by cases h)⟩
  | some b =>
    have h1 := souE_gen (hg b rfl)
    refine ⟨F b 4, sP b 0, sP b 1, sP b 2, sP b 3, sP b 4, sP b 5, ?_, by omega, (fun h => by cases h), (fun c h => by cases h; rfl)⟩
    have : decide (0 < F b 4) = true := decide_eq_true (by omega)
    rw [this]; rfl
theorem nwF_succ (ss : List ByteArray) (k : Nat) (hk : k < ss.length) : nwF none ((ss.take (k + 1)).map fun s => s.data.toList) = nwS (nwF none ((ss.take k).map fun s => s.data.toList)) (ss.getD k ByteArray.empty).data.toList := by
  rw [List.take_succ_eq_append_getElem hk, List.map_append, nwF, List.foldl_append, List.getD_eq_getElem?_getD, List.getElem?_eq_getElem hk]; rfl
set_option maxHeartbeats 4000000 in
set_option maxRecDepth 100000 in
theorem newest_any (b : Nat) (ao : Option Addr) (la ca : Nat) (ss : List ByteArray) (w : World) (ht : Sum.IsTab w b) (hr : Sum.StrRow w ao la ss) (hla : la ≤ 1000) (hs : ∀ s ∈ ss, s.size ≤ 1000000) :
    Calls Tryd.prog 17 #[.pointer (some ⟨b, 0, none⟩), .slice ao la ca] w fun e w' => e = .returned (nwV (nwF none (ss.map fun s => s.data.toList))) ∧ Below w.heap.size w w' := by
  have HT := Lib.hid ht
  have HR := Lib.hid hr
  have HS := Lib.hid hs
  have HL := Lib.hid hr.len_eq
  have hx := (Has.new w [.int .u64 0, .int .i64 0, .int .u64 0, .int .u32 0, .int .i64 0, .int .u64 0, .int .u32 0] 36).alloc (.cells #[.int .u64 0, .int .i64 0, .int .u64 0, .int .u32 0, .int .i64 0, .int .u64 0, .int .u32 0] 36)
  have hy := Has.new (w.alloc (.cells #[.int .u64 0, .int .i64 0, .int .u64 0, .int .u32 0, .int .i64 0, .int .u64 0, .int .u32 0] 36)) [.int .u64 0, .int .i64 0, .int .u64 0, .int .u32 0, .int .i64 0, .int .u64 0, .int .u32 0] 36
  rw [World.size_alloc] at hy
  have HX := Lib.hid hx
  have HY := Lib.hid hy
  clear ht hr hs hx hy
  go_enter Tryd.func17, Tryd.ntmps17
  go_wp2_with fail
  go_loopw [13] (fun i wr => ∃ (k : Nat) (y0 y1 y2 y3 y4 y5 y6 : Int), k ≤ la ∧ i = .int .i64 k ∧ nwV (nwF none ((ss.take k).map fun s => s.data.toList)) = .tuple #[.agg #[.int .u64 y0, .int .i64 y1, .int .u64 y2, .int .u32 y3, .int .i64 y4, .int .u64 y5, .int .u32 y6], .bool (decide (0 < y0))] ∧
    Below w.heap.size w wr ∧ Has wr w.heap.size 36 [.int .u64 0, .int .i64 0, .int .u64 0, .int .u32 0, .int .i64 0, .int .u64 0, .int .u32 0] ∧ Has wr (w.heap.size + 1) 36 [.int .u64 y0, .int .i64 y1, .int .u64 y2, .int .u32 y3, .int .i64 y4, .int .u64 y5, .int .u32 y6]) (fun i _ => la - (intOf i).toNat)
  case atStart => exact ⟨0, 0, 0, 0, 0, 0, 0, 0, Nat.zero_le _, rfl, rfl, below_nw (below_new _ _) _, HX.out, HY.out⟩
  case round =>
    obtain ⟨k, y0, y1, y2, y3, y4, y5, y6, hk, rfl, hv, hbr, hxr, hyr⟩ := hrel
    by_cases hlt : k < la
    · obtain ⟨ab, off, rfl, hcell⟩ := HR.out.at_ (by omega)
      have d0 : wr.cell? ⟨ab, off + k, none⟩ = some (.string (ss.getD k ByteArray.empty)) := cells_on (hcell k hlt) hbr
      obtain ⟨X, hX⟩ : ∃ X, X = ss.getD k ByteArray.empty := ⟨_, rfl⟩
      have hXs : X.size ≤ 1000000 := by
        rw [hX, List.getD_eq_getElem?_getD, List.getElem?_eq_getElem (by rw [HL.out]; exact hlt)]
        exact HS.out _ (List.getElem_mem _)
      rw [← hX] at d0
      have hkl : (k : Int) < (la : Int) := by omega
      obtain ⟨z0, z1, z2, z3, z4, z5, z6, hz, hz2⟩ := souV_cells X.data.toList
      obtain ⟨E, hE⟩ : ∃ E, E = souE X.data.toList := ⟨_, rfl⟩
      rw [← hE] at hz2
      have hz' : souV X.data.toList (souE X.data.toList) = .tuple #[.agg #[.int .u64 z0, .int .i64 z1, .int .u64 z2, .int .u32 z3, .int .i64 z4, .int .u64 z5, .int .u32 z6], .int .i64 E] := by rw [hz, hE]
      have HZ := Lib.hid hz'
      obtain ⟨O, hO⟩ : ∃ O, O = nwF none ((ss.take k).map fun s => s.data.toList) := ⟨_, rfl⟩
      rw [← hO] at hv
      have hgd : ∀ b, O = some b → souE b = 0 := by rw [hO]; exact nwF_good _ (fun b h => by cases h)
      have hnx : nwF none ((ss.take (k + 1)).map fun s => s.data.toList) = nwS O X.data.toList := by rw [nwF_succ ss k (by rw [HL.out]; exact hlt), ← hO, ← hX]
      obtain ⟨u0, u1, u2, u3, u4, u5, u6, hu, hu0, hu1, hu2⟩ := nwV_cells hgd
      rw [hv] at hu
      simp only [Value.tuple.injEq, Array.mk.injEq, List.cons.injEq, Value.agg.injEq, Value.int.injEq, Value.bool.injEq, and_true, true_and] at hu
      obtain ⟨⟨e0, e1, e2, e3, e4, e5, e6⟩, ef⟩ := hu
      rw [← e0] at hu0 hu1 hu2
      -- the step, as the three ways have it
      have HSK := Lib.hid (show E ≠ 0 → nwS O X.data.toList = O from fun h => by
        rw [hE] at h
        cases O with
        | none => rw [nwS, if_neg h]
        | some b => rw [nwS, if_neg (fun hh => h hh.1)])
      have HKP := Lib.hid (show E = 0 → z0 ≤ y0 → nwS O X.data.toList = O from fun h h3 => by
        have hg := souE_gen (l := X.data.toList) (by rw [← hE]; exact h)
        rw [(hz2 h).1] at hg
        cases hOc : O with
        | none => have := hu1 hOc; omega
        | some b => rw [nwS, if_neg (fun hh => by have := hh.2; rw [hu2 b hOc, (hz2 h).1] at this; omega)])
      have HNW := Lib.hid (show E = 0 → y0 < z0 → nwV (nwS O X.data.toList) = .tuple #[.agg #[.int .u64 z0, .int .i64 z1, .int .u64 z2, .int .u32 z3, .int .i64 z4, .int .u64 z5, .int .u32 z6], .bool (decide (0 < z0))] from fun h h2 => by
        rw [decide_eq_true (show 0 < z0 by omega), ← (hz2 h).2]
        congr 1
        cases hOc : O with
        | none => rw [nwS, if_pos (by rw [← hE]; exact h)]
        | some b => rw [nwS, if_pos ⟨by rw [← hE]; exact h, by rw [hu2 b hOc, (hz2 h).1]; exact h2⟩])
      have HNX := Lib.hid hnx
      have HV := Lib.hid hv
      have HBR := Lib.hid hbr
      have HXR := Lib.hid hxr
      have HYR := Lib.hid hyr
      have HTR := Lib.hid (tab_on HT.out hbr)
      clear hz hz2 hz' hE hO hnx hgd hu0 hu1 hu2 e0 e1 e2 e3 e4 e5 e6 ef hv hbr hxr hyr hcell hX
      go_wp2_with fail
      refine (open_sup b X _ HTR.out hXs).mono ?_
      rintro e w2 ⟨rfl, hb⟩
      rw [HZ.out]
      have HBb := Lib.hid (below_on HBR.out hb)
      have hyb := HYR.out.below hb HYR.out.lt
      have HXb := Lib.hid (HXR.out.below hb HXR.out.lt)
      have HYb := Lib.hid hyb
      obtain ⟨n0, n1, n2, n3, n4, n5, n6⟩ := has7 hyb
      have hyl := hyb.lt
      have fz := hyb.frozen
      clear hb d0 hyb
      by_cases hE0 : E = 0
      · subst hE0
        by_cases hlt2 : y0 < z0
        · have HN := Lib.hid (HNW.out rfl hlt2)
          go_wp2_with fail
          go_roundw
          case rel => exact ⟨k + 1, z0, z1, z2, z3, z4, z5, z6, by omega, by go_num, by rw [HNX.out, HN.out], below_nw (set7_below (b := w.heap.size + 1) (Nat.le_succ _) (.int .u64 z0) (.int .i64 z1) (.int .u64 z2) (.int .u32 z3) (.int .i64 z4) (.int .u64 z5) (.int .u32 z6) HBb.out) _, (set7_other HXb.out (b := w.heap.size + 1) (by omega) (.int .u64 z0) (.int .i64 z1) (.int .u64 z2) (.int .u32 z3) (.int .i64 z4) (.int .u64 z5) (.int .u32 z6)).alloc _, (set7_has (.int .u64 z0) (.int .i64 z1) (.int .u64 z2) (.int .u32 z3) (.int .i64 z4) (.int .u64 z5) (.int .u32 z6) HYb.out).alloc _⟩
          case measure => simp [intOf]; omega
        · have HN := Lib.hid (HKP.out rfl (by omega))
          have hge : z0 ≤ y0 := by omega
          clear hlt2
          go_wp2_with fail
          go_roundw
          case rel => exact ⟨k + 1, y0, y1, y2, y3, y4, y5, y6, by omega, by go_num, by rw [HNX.out, HN.out, HV.out], below_nw HBb.out _, HXb.out.alloc _, HYb.out.alloc _⟩
          case measure => simp [intOf]; omega
      · have HN := Lib.hid (HSK.out hE0)
        go_wp2_with fail
        go_roundw
        case rel => exact ⟨k + 1, y0, y1, y2, y3, y4, y5, y6, by omega, by go_num, by rw [HNX.out, HN.out, HV.out], below_nw HBb.out _, HXb.out.alloc _, HYb.out.alloc _⟩
        case measure => simp [intOf]; omega
    · have hkk : k = la := by omega
      obtain ⟨B, hB⟩ : ∃ B, B = decide (0 < y0) := ⟨_, rfl⟩
      have HBB := Lib.hid hB
      have HV := Lib.hid (show nwV (nwF none (ss.map fun s => s.data.toList)) = .tuple #[.agg #[.int .u64 y0, .int .i64 y1, .int .u64 y2, .int .u32 y3, .int .i64 y4, .int .u64 y5, .int .u32 y6], .bool B] by
        rw [hB, ← hv, hkk, List.take_of_length_le (by rw [HL.out]; exact Nat.le_refl _)])
      have H0 := Lib.hid (show TwoI w w.heap.size (w.heap.size + 1) [.int .u64 y0, .int .i64 y1, .int .u64 y2, .int .u32 y3, .int .i64 y4, .int .u64 y5, .int .u32 y6] false wr.drew from ⟨below_dr hbr, hyr.drew, hxr.drew⟩)
      have hyl := hyr.lt
      clear hbr hyr hxr hv hkk hB
      go_wp2_with fail
      refine Reg.region_vals (by kernel_rfl) [(34, .agg #[.int .u64 y0, .int .i64 y1, .int .u64 y2, .int .u32 y3, .int .i64 y4, .int .u64 y5, .int .u32 y6]), (35, .pointer (some ⟨w.heap.size + 1, 0, none⟩)), (36, .int .u64 y0), (37, .bool B), (5, .bool B)] (fun l wy => TwoI w w.heap.size (w.heap.size + 1) [.int .u64 y0, .int .i64 y1, .int .u64 y2, .int .u32 y3, .int .i64 y4, .int .u64 y5, .int .u32 y6] (l 4) wy) (by kernel_rfl) (by kernel_rfl) (by kernel_rfl) (H0.out) ⟨?_, ?_, ?_, ?_, ?_, ?_, trivial⟩ ?hend
      · -- 0: 34 := Op.load 36 t6
        intro aq wq lq hI hl hdone hlater hold hd ho
        have h6 : aq.tmps.getD 6 undef = .pointer (some ⟨w.heap.size + 1, 0, none⟩) := ho 6 (by kernel_rfl)
        clear hd ho hdone hlater hold
        rw [Array.getD_eq_getD_getElem?] at h6
        obtain ⟨e0, e1, e2, e3, e4, e5, e6⟩ := has7 hI.2.1
        refine Reg.step2_val (.agg #[.int .u64 y0, .int .i64 y1, .int .u64 y2, .int .u32 y3, .int .i64 y4, .int .u64 y5, .int .u32 y6]) ?_ rfl hI trivial
        go_simp
      · -- 1: 35 := Op.fieldAddr 36 t6 0
        intro aq wq lq hI hl hdone hlater hold hd ho
        have h6 : aq.tmps.getD 6 undef = .pointer (some ⟨w.heap.size + 1, 0, none⟩) := ho 6 (by kernel_rfl)
        clear hd ho hdone hlater hold
        rw [Array.getD_eq_getD_getElem?] at h6
        refine Reg.step2_val (.pointer (some ⟨w.heap.size + 1, 0, none⟩)) ?_ rfl hI trivial
        go_simp
      · -- 2: 36 := Op.load 22 t35
        intro aq wq lq hI hl hdone hlater hold hd ho
        have h35 : aq.tmps.getD 35 undef = .pointer (some ⟨w.heap.size + 1, 0, none⟩) := hd 35 (by kernel_rfl)
        clear hd ho hdone hlater hold
        rw [Array.getD_eq_getD_getElem?] at h35
        obtain ⟨e0, e1, e2, e3, e4, e5, e6⟩ := has7 hI.2.1
        refine Reg.step2_val (.int .u64 y0) ?_ rfl hI trivial
        go_simp
      · -- 3: 37 := Op.binOp BinOp.gtr 22 t36 (const (0:u64)) 22
        intro aq wq lq hI hl hdone hlater hold hd ho
        have h36 : aq.tmps.getD 36 undef = .int .u64 y0 := hd 36 (by kernel_rfl)
        clear hd ho hdone hlater hold
        rw [Array.getD_eq_getD_getElem?] at h36
        refine Reg.step2_val (.bool B) ?_ rfl hI trivial
        clear hI
        rw [HBB.out]
        simp [execOp, Act.eval, h36]
        try go_simp
      · -- 4: None := Op.store 36 t4 t34
        intro aq wq lq hI hl hdone hlater hold hd ho
        have h4 : aq.tmps.getD 4 undef = .pointer (some ⟨w.heap.size, 0, none⟩) := ho 4 (by kernel_rfl)
        have h34 : aq.tmps.getD 34 undef = .agg #[.int .u64 y0, .int .i64 y1, .int .u64 y2, .int .u32 y3, .int .i64 y4, .int .u64 y5, .int .u32 y6] := hd 34 (by kernel_rfl)
        clear hd ho hdone hlater hold
        rw [Array.getD_eq_getD_getElem?] at h4 h34
        have hJ := hI
        clear hI
        rw [show lq 4 = false from hl] at hJ
        obtain ⟨b1, b2, b3⟩ := hJ
        have b3' : Has wq w.heap.size _ [.int .u64 0, .int .i64 0, .int .u64 0, .int .u32 0, .int .i64 0, .int .u64 0, .int .u32 0] := b3
        obtain ⟨e0, e1, e2, e3, e4, e5, e6⟩ := has7 b3'
        have f0 := b3'.frozen
        have hN : TwoI w w.heap.size (w.heap.size + 1) [.int .u64 y0, .int .i64 y1, .int .u64 y2, .int .u32 y3, .int .i64 y4, .int .u64 y5, .int .u32 y6] true (set7 w.heap.size (.int .u64 y0) (.int .i64 y1) (.int .u64 y2) (.int .u32 y3) (.int .i64 y4) (.int .u64 y5) (.int .u32 y6) wq) := ⟨set7_below (Nat.le_refl _) _ _ _ _ _ _ _ b1, set7_other b2 (by omega) _ _ _ _ _ _ _, set7_has _ _ _ _ _ _ _ b3'⟩
        refine Reg.step2_skip (set7 w.heap.size (.int .u64 y0) (.int .i64 y1) (.int .u64 y2) (.int .u32 y3) (.int .i64 y4) (.int .u64 y5) (.int .u32 y6) wq) rfl ?_ hN trivial
        clear hN b1 b2 b3 b3'
        unfold set7
        simp [execOp]
        go_simp
      · -- 5: 5 := Op.assign t37
        intro aq wq lq hI hl hdone hlater hold hd ho
        have h37 : aq.tmps.getD 37 undef = .bool B := hd 37 (by kernel_rfl)
        clear hd ho hdone hlater hold
        exact Reg.step2_assign (.tmp 37) rfl h37 hI trivial
      case hend =>
        intro wy hI
        simp only [Reg.fill, List.foldl_cons, List.foldl_nil, List.setIfInBounds_toArray, List.set_cons_zero, List.set_cons_succ]
        obtain ⟨b1, b2, b3⟩ := hI
        have b3' : Has wy w.heap.size _ [.int .u64 y0, .int .i64 y1, .int .u64 y2, .int .u32 y3, .int .i64 y4, .int .u64 y5, .int .u32 y6] := b3
        obtain ⟨x0, x1, x2, x3, x4, x5, x6⟩ := has7 b3'
        have HB6 := Lib.hid b1
        clear b1 b2 b3 b3'
        go_wp2_with fail
        refine bodyPost_ret (v := .tuple #[.agg #[.int .u64 y0, .int .i64 y1, .int .u64 y2, .int .u32 y3, .int .i64 y4, .int .u64 y5, .int .u32 y6], .bool B]) (by simp [results, Tryd.results17, go_sem, x0, x1, x2, x3, x4, x5, x6]) rfl ⟨by rw [HV.out], HB6.out⟩
end Go.Proofs.YtimdemdopnmijaaDoor.Sup
