/- Layer 17 (node): parseChild, parseChildren, Parse. -/
import Derived.Test.YtfclecbhfamomaaNoQ
import Derived.Test.YtfclecbhfamomaaNoA
namespace Go.Proofs.Ytfclecbhfamomaa.Node
open Go Go.RowKit Go.Proofs.Ytfclecbhfamomaa Go.Proofs.Ytfclecbhfamomaa.Lend Go.Proofs.Ytfclecbhfamomaa.Rec Go.Proofs.Ytfclecbhfamomaa.Msg Go.Proofs.Ytfclecbhfamomaa.Buf
set_option linter.unusedVariables false

/-- is there a child that the program takes? -/
def chP (s : List UInt8) : Bool := splB s && PtrE.ppB (splR s)
theorem pG_chU (s : List UInt8) : PtrE.pG (splR s) 0 = (chU s).addr ∧ PtrE.pG (splR s) 1 = (chU s).gen ∧ PtrE.pG (splR s) 2 = (chU s).sum := by
  refine ⟨?_, ?_, ?_⟩ <;> simp [PtrE.pG, Env.ptrW, rdL, chU, List.drop_drop]
theorem chP_yes {s : List UInt8} (h : chP s = true) : chB s = true ∧ Env.adB (chU s).addr = true := by
  unfold chP PtrE.ppB at h
  simp only [Bool.and_eq_true, decide_eq_true_eq] at h
  rw [(pG_chU s).1] at h
  unfold chB Env.adB
  simp only [Bool.and_eq_true, decide_eq_true_eq]
  exact ⟨⟨h.1, h.2.1⟩, (chU_wf s).2.2, h.2.2⟩
theorem chP_no {s : List UInt8} (h : chP s = false) : chB s = false ∨ Env.adB (chU s).addr = false := by
  by_cases hb : chB s = true
  · by_cases ha : Env.adB (chU s).addr = true
    · exfalso
      unfold chB at hb
      unfold Env.adB at ha
      simp only [Bool.and_eq_true, decide_eq_true_eq] at hb ha
      unfold chP PtrE.ppB at h
      rw [(pG_chU s).1] at h
      simp only [hb.1, Bool.true_and, Bool.and_eq_false_iff, decide_eq_false_iff_not] at h
      omega
    · exact .inr (by simpa using ha)
  · exact .inl (by simpa using hb)
/-- what parseChild answers -/
def PcP (s : List UInt8) (w : World) (e : Ending) (w' : World) : Prop := ∃ (c : Ch) (R : List UInt8), e = .returned (.tuple #[.agg #[.string (Lend.strOf c.low), .int .i64 c.addr, .int .u64 c.gen, .int .u32 c.sum], .string (Lend.strOf R), .bool (chP s)]) ∧ (chP s = true → c = chU s ∧ R = chR s) ∧ R.length ≤ s.length ∧ Below w.heap.size w w'
theorem run_split (s : List UInt8) (w : World) (h : s.length ≤ 1000000) : Calls Try.prog 68 #[.string (Lend.strOf s)] w fun e w' => e = .returned (.tuple #[.string (Lend.strOf (splT s)), .string (Lend.strOf (splR s)), .bool (splB s)]) ∧ Below w.heap.size w w' := by
  have h := split_any (Lend.strOf s) w (by rw [ssize]; omega)
  rw [Lend.strOf_data] at h
  exact h
theorem run_parsePtr (s : List UInt8) (w : World) (h : s.length ≤ 1000000) : Calls Try.prog 69 #[.string (Lend.strOf s)] w fun e w' => e = .returned (PtrE.ppV s) ∧ Below w.heap.size w w' := by
  have h := PtrE.parsePtr_any (Lend.strOf s) w (by rw [ssize]; omega)
  rw [Lend.strOf_data] at h
  exact h
set_option maxRecDepth 100000 in
set_option maxHeartbeats 8000000 in
theorem pchild_any (s : List UInt8) (w : World) (hl : s.length ≤ 100000) : Calls Try.prog 53 #[.string (Lend.strOf s)] w (PcP s w) := by
  have HSP := Lib.hid (fun w => run_split s w (by omega))
  have HPP := Lib.hid (fun w => run_parsePtr (splR s) w (by have := splR_le s; omega))
  have hb0 := below_new w (.cells #[.string ⟨#[]⟩, .int .i64 0, .int .u64 0, .int .u32 0] 76)
  have hh := Has.new w [.string ⟨#[]⟩, .int .i64 0, .int .u64 0, .int .u32 0] 76
  obtain ⟨w1, hw1⟩ : ∃ z, z = w.alloc (.cells #[.string ⟨#[]⟩, .int .i64 0, .int .u64 0, .int .u32 0] 76) := ⟨_, rfl⟩
  have HX1 := Lib.hid (show Has w1 w.heap.size 76 [.string ⟨#[]⟩, .int .i64 0, .int .u64 0, .int .u32 0] by rw [hw1]; exact hh)
  have HB1 := Lib.hid (show Below w.heap.size w w1 by rw [hw1]; exact hb0)
  have HL := Lib.hid hl
  have HCH : Hid (∀ x, splB s = x → chP s = (x && PtrE.ppB (splR s))) := Lib.hid fun x h => by unfold chP; rw [h]
  have HRL := Lib.hid (splR_le s)
  have HRR := Lib.hid (show chR s = (splR s).drop 16 from rfl)
  have HG := Lib.hid (pG_chU s)
  have HLO := Lib.hid (show (chU s).low = splT s from rfl)
  clear hl hb0 hh
  go_enter Try.func53, Try.ntmps53
  go_upto_region 1 with fail
  rw [← hw1]
  clear hw1
  go_wp2_with fail
  refine (HSP.out w1).mono ?_
  clear HSP
  rintro e w2 ⟨rfl, hb2⟩
  have HX2 := Lib.hid (HX1.out.below hb2 HX1.out.lt)
  have HB2 := Lib.hid (below_on HB1.out hb2)
  clear hb2
  cases hsb : splB s with
  | false =>
    have HR := Lib.hid (HCH.out _ hsb)
    simp only [Bool.false_and] at HR
    have f0 := HX2.out.frozen 0
    have f1 := HX2.out.frozen 1
    have f2 := HX2.out.frozen 2
    have f3 := HX2.out.frozen 3
    have d0 := HX2.out.cell 0
    have d1 := HX2.out.cell 1
    have d2 := HX2.out.cell 2
    have d3 := HX2.out.cell 3
    simp only [List.getElem?_cons_zero, List.getElem?_cons_succ] at d0 d1 d2 d3
    clear hsb
    go_wp2_with fail
    refine bodyPost_ret (v := .tuple #[.agg #[.string ⟨#[]⟩, .int .i64 0, .int .u64 0, .int .u32 0], .string ⟨#[]⟩, .bool false]) (by simp [results, Try.results53, go_sem, d0, d1, d2, d3]) rfl ⟨⟨[], 0, 0, 0⟩, [], by rw [HR.out]; rfl, (fun h => by rw [HR.out] at h; cases h), Nat.zero_le _, ?_⟩
    exact bel_st (bel_st (bel_st (bel_st HB2.out)))
  | true =>
    have HR := Lib.hid (HCH.out _ hsb)
    simp only [Bool.true_and] at HR
    have HP2 := Lib.hid (HPP.out w2)
    clear hsb HPP
    go_wp2_with fail
    refine HP2.out.mono ?_
    clear HP2
    rintro e w3 ⟨rfl, hb3⟩
    have HX3 := Lib.hid (HX2.out.below hb3 HX2.out.lt)
    have HB3 := Lib.hid (below_on HB2.out hb3)
    clear hb3
    obtain ⟨c, R, hv, hc, hrl⟩ : ∃ (c : Ch) (R : List UInt8), PtrE.ppV (splR s) = .tuple #[.agg #[.int .i64 c.addr, .int .u64 c.gen, .int .u32 c.sum], .string (Lend.strOf R), .bool (PtrE.ppB (splR s))] ∧ (PtrE.ppB (splR s) = true → c.addr = (chU s).addr ∧ c.gen = (chU s).gen ∧ c.sum = (chU s).sum ∧ R = chR s) ∧ R.length ≤ (splR s).length := by
      cases hp : PtrE.ppB (splR s) with
      | false => exact ⟨⟨[], 0, 0, 0⟩, [], by rw [PtrE.ppV_no hp]; rfl, (fun h => by cases h), Nat.zero_le _⟩
      | true => exact ⟨chU s, chR s, by rw [PtrE.ppV_yes hp, HG.out.1, HG.out.2.1, HG.out.2.2]; rfl, fun _ => ⟨rfl, rfl, rfl, rfl⟩, by rw [HRR.out, List.length_drop]; omega⟩
    rw [hv]
    have HV := Lib.hid hc
    have HRX := Lib.hid hrl
    clear hv hc hrl
    obtain ⟨w4, hw4⟩ : ∃ z, z = w3.alloc (.cells #[.int .i64 c.addr, .int .u64 c.gen, .int .u32 c.sum] 74) := ⟨_, rfl⟩
    have HX4 := Lib.hid (show Has w4 w.heap.size 76 [.string ⟨#[]⟩, .int .i64 0, .int .u64 0, .int .u32 0] by rw [hw4]; exact HX3.out.alloc _)
    have HH4 := Lib.hid (show Has w4 w3.heap.size 74 [.int .i64 c.addr, .int .u64 c.gen, .int .u32 c.sum] by rw [hw4]; exact Has.new w3 _ _)
    have HB4 := Lib.hid (show Below w.heap.size w w4 by rw [hw4]; exact below_nw HB3.out _)
    go_upto_region 5 with fail
    rw [← hw4]
    clear hw4
    have y0 := HH4.out.cell 0
    have y1 := HH4.out.cell 1
    have y2 := HH4.out.cell 2
    have f0 := HX4.out.frozen 0
    have f1 := HX4.out.frozen 1
    have f2 := HX4.out.frozen 2
    have f3 := HX4.out.frozen 3
    have d0 := HX4.out.cell 0
    have d1 := HX4.out.cell 1
    have d2 := HX4.out.cell 2
    have d3 := HX4.out.cell 3
    simp only [List.getElem?_cons_zero, List.getElem?_cons_succ] at d0 d1 d2 d3 y0 y1 y2
    rw [← HLO.out] at *
    generalize hT : (chU s).low = T at *
    generalize PtrE.ppB (splR s) = B at *
    go_wp2_with fail
    refine bodyPost_ret (v := .tuple #[.agg #[.string (Lend.strOf T), .int .i64 c.addr, .int .u64 c.gen, .int .u32 c.sum], .string (Lend.strOf R), .bool B]) (by simp [results, Try.results53, go_sem, d0, d1, d2, d3]) rfl ⟨⟨T, c.addr, c.gen, c.sum⟩, R, by rw [HR.out], (fun h => ?_), by have := HRX.out; have := HRL.out; omega, ?_⟩
    · rw [HR.out] at h
      obtain ⟨h1, h2, h3, h4⟩ := HV.out h
      rw [h1, h2, h3, ← hT]
      exact ⟨rfl, h4⟩
    · exact bel_st (bel_st (bel_st (bel_st HB4.out)))
theorem kidsL_pre {j k : Nat} (hjk : j ≤ k) {r t : List UInt8} {l : List Ch} (hj : kidsL j r = some (l, t)) : ∀ {cs t'}, kidsL k r = some (cs, t') → ∃ m, cs = l ++ m := by
  induction k with
  | zero =>
    intro cs t' h
    rw [show j = 0 by omega, h] at hj
    cases hj
    exact ⟨[], by simp⟩
  | succ k ih =>
    intro cs t' h
    by_cases e : j = k + 1
    · rw [← e, hj] at h
      cases h
      exact ⟨[], by simp⟩
    · rw [kidsL_snoc] at h
      cases hk : kidsL k r with
      | none => rw [hk] at h; cases h
      | some p =>
        obtain ⟨l', t''⟩ := p
        rw [hk] at h
        obtain ⟨m, rfl⟩ := ih (by omega) hk
        simp only at h
        split at h
        · cases h
          exact ⟨m ++ [chU t''], by simp⟩
        · cases h
theorem kidB_bad {l : List Ch} {c : Ch} (hc : c ∈ l) (h : Env.adB c.addr = false) : kidB l = false := by
  cases g : kidB l with
  | false => rfl
  | true =>
    obtain ⟨i, hi, rfl⟩ := List.mem_iff_getElem.1 hc
    have := (kid_at g hi)
    unfold Env.adB at h
    simp only [Bool.and_eq_false_iff, decide_eq_false_iff_not] at h
    omega
theorem pnK_stop {b : UInt8} {r t : List UInt8} {j : Nat} {l : List Ch} (hk : kidsL j r = some (l, t)) (hj : j < b.toNat) (h : chP t = false) : pnK (b :: r) = none := by
  rcases chP_no h with hc | ha
  · exact pnK_kids (kidsL_none (show j + 1 ≤ b.toNat from hj) (by rw [kidsL_snoc, hk]; simp [hc]))
  · cases hc : chB t with
    | false => exact pnK_kids (kidsL_none (show j + 1 ≤ b.toNat from hj) (by rw [kidsL_snoc, hk]; simp [hc]))
    | true =>
      have h1 : kidsL (j + 1) r = some (l ++ [chU t], chR t) := by rw [kidsL_snoc, hk]; simp [hc]
      cases hb : kidsL b.toNat r with
      | none => exact pnK_kids hb
      | some p =>
        obtain ⟨cs, t'⟩ := p
        obtain ⟨m, rfl⟩ := kidsL_pre hj h1 hb
        rw [pnK_at hb, if_neg]
        rintro ⟨_, h⟩
        have := (nod_parts h).1
        rw [kidB_bad (c := chU t) (by simp) ha] at this
        cases this
theorem isC_p : IsC 76 := by unfold IsC; kernel_rfl
theorem und_p : Try.prog.underlying 26 = some (.slice 76) := Try.underlying26
/-- what parseChildren answers -/
def PksP (s : List UInt8) (w : World) (e : Ending) (w' : World) : Prop := ∃ (kv : Value) (T : List UInt8) (B : Bool), e = .returned (.tuple #[kv, .string (Lend.strOf T), .bool B]) ∧ T.length ≤ s.length ∧ Below w.heap.size w w' ∧
  ((B = false ∧ pnK s = none) ∨ (B = true ∧ ∃ b r cs, s = b :: r ∧ kidsL b.toNat r = some (cs, T) ∧ (∀ c ∈ cs, WfC c) ∧ CO 76 w' w.heap.size kv cs))
theorem cw_any (w : World) : Calls Try.prog 25 #[] w fun e w' => e = .returned (.slice (some ⟨w.heap.size, 0, none⟩) 1 1) ∧ w' = w.alloc (.cells #[.int .i64 1] 3) := by
  go_enter Try.func25, Try.ntmps25
  go_wp2_with fail
  go_ret
  exact ⟨rfl, rfl⟩
theorem row_one (kd : IntKind) (w : World) (a : Int) (e : TypeId) : Row kd (w.alloc (.cells #[.int kd a] e)) (some ⟨w.heap.size, 0, none⟩) 1 [a] := ⟨rfl, fun _ => ⟨_, _, rfl, fun i hi => by
  obtain rfl : i = 0 := by omega
  exact (Has.new w [.int kd a] e).cell 0⟩⟩
set_option maxRecDepth 100000 in
set_option maxHeartbeats 8000000 in
theorem pchildren_any (s : List UInt8) (w : World) (hl : s.length ≤ 100000) : Calls Try.prog 33 #[.string (Lend.strOf s)] w (PksP s w) := by
  have HRD := Lib.hid (fun (_ : World) => read_any (some ⟨w.heap.size, 0, none⟩) 1 1 [1] (Lend.strOf s) (w.alloc (.cells #[.int .i64 1] 3)) (row_one .i64 w 1 _) (by decide) (by rw [ssize]; omega))
  rw [Lend.strOf_data] at HRD
  have HB1 := Lib.hid (below_new w (.cells #[.int .i64 1] 3))
  obtain ⟨w1, hw1⟩ : ∃ z, z = w.alloc (.cells #[.int .i64 1] 3) := ⟨_, rfl⟩
  rw [← hw1] at HRD HB1
  have HCW := Lib.hid (cw_any w)
  rw [← hw1] at HCW
  clear hw1
  go_enter Try.func33, Try.ntmps33
  go_wp2_with fail
  refine HCW.out.mono ?_
  clear HCW
  rintro e wq ⟨rfl, rfl⟩
  go_wp2_with fail
  refine (HRD.out wq).mono ?_
  clear HRD
  rintro e w2 ⟨bo, n, cap, rfl, hown, hb2⟩
  have HB2 := Lib.hid (below_on HB1.out hb2)
  cases s with
  | nil =>
    have hr := (rd_no (ws := [1]) (l := []) (.inr (by decide))).1
    rw [hr]
    clear hown hb2
    go_wp2_with fail
    go_ret3
    exact ⟨_, [], false, rfl, Nat.le_refl _, HB2.out, .inl ⟨rfl, rfl⟩⟩
  | cons b r =>
    obtain ⟨hr1, hr2, hr3⟩ := rd_ok (ws := [1]) (l := b :: r) rfl (by show (1 : Int) ≤ _; simp; omega)
    rw [hr1, hr3]
    rw [hr2] at hown
    have hn1 : n = 1 := by have := hown.1; simpa [rdL] using this.symm
    subst hn1
    obtain ⟨g, lc', hbo, _, hgB⟩ := own_some hown (by decide)
    simp only [Value.slice.injEq, true_and] at hbo
    obtain ⟨rfl, rfl⟩ := hbo
    have c0 : w2.cell? ⟨g, 0, none⟩ = some (.int .u64 (b.toNat : Int)) := by
      have := hown.cells rfl 0 (.int .u64 (b.toNat : Int)) (by simp [rdL, getL])
      rw [Addr.add_lit, Nat.zero_add] at this
      exact this
    have hd1 : (b :: r).drop (sumW [1]).toNat = r := rfl
    rw [hd1]
    clear hown hr1 hr2 hr3 hd1 hgB
    rw [List.length_cons] at hl
    have HL := Lib.hid hl
    obtain ⟨k, hk⟩ : ∃ z, z = b.toNat := ⟨_, rfl⟩
    have HK := Lib.hid hk
    have hkb : k ≤ 255 := by have := b.toNat_lt; omega
    rw [← hk] at c0
    clear hk hl hb2
    go_wp2_with fail
    clear c0
    go_loopw [6, 7, 8, 22] (fun sv _ kv i wr => ∃ (j : Nat) (t : List UInt8) (l : List Ch), j ≤ k ∧ i = .int .u64 j ∧ sv = .string (Lend.strOf t) ∧ Hid (kidsL j r = some (l, t)) ∧ Hid (∀ c ∈ l, WfC c) ∧ CO 76 wr w2.heap.size kv l ∧ Below w2.heap.size w2 wr) (fun _ _ _ i _ => k - (intOf i).toNat)
    case atStart => exact ⟨0, r, [], Nat.zero_le _, rfl, rfl, Lib.hid rfl, Lib.hid (fun c h => by cases h), World.ownsRow_nil _ _ _ _, Below.refl _ _⟩
    case round =>
      obtain ⟨j, t, l, hj, rfl, rfl, HKL, HWF, hown, hbw⟩ := hrel
      rename World => wr
      have HBW := Lib.hid hbw
      have HOW := Lib.hid hown
      have htl : t.length ≤ 100000 := by have := (kidsL_len HKL.out).2; have := HL.out; omega
      have HTL := Lib.hid htl
      have HLL := Lib.hid (show l.length ≤ 1000000 by have := (kidsL_len HKL.out).1; omega)
      clear hown hbw
      by_cases hlt : j < k
      · have hji : (j : Int) < (k : Int) := by omega
        obtain ⟨w3, hw3⟩ : ∃ z, z = wr.alloc (.cells #[.string ⟨#[]⟩, .int .i64 0, .int .u64 0, .int .u32 0] 76) := ⟨_, rfl⟩
        have HX3 := Lib.hid (show Has w3 wr.heap.size 76 [.string ⟨#[]⟩, .int .i64 0, .int .u64 0, .int .u32 0] by rw [hw3]; exact Has.new wr _ _)
        have hb3 : Below wr.heap.size wr w3 := by rw [hw3]; exact below_new _ _
        have HB3 := Lib.hid (below_on HBW.out hb3)
        have HO3 := Lib.hid (own_bel HOW.out hb3)
        have HPC := Lib.hid (pchild_any t w3 htl)
        clear hb3 htl
        obtain ⟨ka, kc, hkv, _⟩ := own_shape HO3.out
        subst hkv
        go_upto_region 8 with fail
        rw [← hw3]
        clear hw3
        go_wp2_with fail
        refine HPC.out.mono ?_
        clear HPC
        rintro e w4 ⟨c, R, rfl, hcR, hRl, hb4⟩
        have HX4 := Lib.hid (HX3.out.below hb4 HX3.out.lt)
        have HB4 := Lib.hid (below_on HB3.out hb4)
        have HO4 := Lib.hid (own_bel HO3.out hb4)
        have f0 := HX4.out.frozen 0
        have f1 := HX4.out.frozen 1
        have f2 := HX4.out.frozen 2
        have f3 := HX4.out.frozen 3
        have d0 := HX4.out.cell 0
        have d1 := HX4.out.cell 1
        have d2 := HX4.out.cell 2
        have d3 := HX4.out.cell 3
        simp only [List.getElem?_cons_zero, List.getElem?_cons_succ] at d0 d1 d2 d3
        have hgr := HBW.out.size
        cases hp : chP t with
        | false =>
          have HNO := Lib.hid (pnK_stop HKL.out (by rw [← HK.out]; exact hlt) hp)
          clear hp hcR hb4
          have HBE : Hid (Below w.heap.size w (((((w4.setCell ⟨wr.heap.size, 0, none⟩ (.string (Lend.strOf c.low))).setCell ⟨wr.heap.size, 1, none⟩ (.int .i64 c.addr)).setCell ⟨wr.heap.size, 2, none⟩ (.int .u64 c.gen)).setCell ⟨wr.heap.size, 3, none⟩ (.int .u32 c.sum)))) := Lib.hid (by
            have h := HB2.out.trans (HB4.out.mono HB2.out.size)
            have hs : w.heap.size ≤ wr.heap.size := Nat.le_trans HB2.out.size hgr
            exact (((h.setCell (by exact hs) _).setCell (by exact hs) _).setCell (by exact hs) _).setCell (by exact hs) _)
          go_wp2_with fail
          go_ret3
          exact ⟨_, [], false, rfl, Nat.zero_le _, HBE.out, .inl ⟨rfl, HNO.out⟩⟩
        | true =>
          obtain ⟨hc1, hc2⟩ := hcR hp
          have HCH := Lib.hid (chP_yes hp)
          have HCW := Lib.hid (show WfC c by rw [hc1]; exact (chU_wf t).1)
          have HKS := Lib.hid (show kidsL (j + 1) r = some (l ++ [c], R) by rw [kidsL_snoc, HKL.out]; simp [HCH.out.1, hc1, hc2])
          obtain ⟨w5, hw5⟩ : ∃ z, z = ((((w4.setCell ⟨wr.heap.size, 0, none⟩ (.string (Lend.strOf c.low))).setCell ⟨wr.heap.size, 1, none⟩ (.int .i64 c.addr)).setCell ⟨wr.heap.size, 2, none⟩ (.int .u64 c.gen)).setCell ⟨wr.heap.size, 3, none⟩ (.int .u32 c.sum)) := ⟨_, rfl⟩
          have HX5 := Lib.hid (show Has w5 wr.heap.size 76 (encC c) by rw [hw5]; exact (((HX4.out.set 0 _).set 1 _).set 2 _).set 3 _)
          have HB5 := Lib.hid (show Below w2.heap.size w2 w5 by rw [hw5]; exact (((HB4.out.setCell (by exact hgr) _).setCell (by exact hgr) _).setCell (by exact hgr) _).setCell (by exact hgr) _)
          have HO5 := Lib.hid (show CO 76 w5 w2.heap.size (.slice ka l.length kc) l by
            rw [hw5]
            have hne : ∀ q, Value.ownBlock (.slice ka l.length kc) = some q → q ≠ wr.heap.size := fun q e => by have := (HOW.out.lt q e).2; omega
            exact owns_same (owns_same (owns_same (owns_same HO4.out fun q e => Below.heap_setCell _ _ _ _ (hne q e)) fun q e => Below.heap_setCell _ _ _ _ (hne q e)) fun q e => Below.heap_setCell _ _ _ _ (hne q e)) fun q e => Below.heap_setCell _ _ _ _ (hne q e))
          clear hp hc1 hc2 hcR hb4
          go_upto_region 9 with fail
          rw [← hw5]
          clear hw5 d0 d1 d2 d3 f0 f1 f2 f3
          have y0 : w5.cell? ⟨wr.heap.size, 0, none⟩ = some (.string (Lend.strOf c.low)) := HX5.out.cell 0
          have y1 : w5.cell? ⟨wr.heap.size, 1, none⟩ = some (.int .i64 c.addr) := HX5.out.cell 1
          have y2 : w5.cell? ⟨wr.heap.size, 2, none⟩ = some (.int .u64 c.gen) := HX5.out.cell 2
          have y3 : w5.cell? ⟨wr.heap.size, 3, none⟩ = some (.int .u32 c.sum) := HX5.out.cell 3
          have HNW := Lib.hid (has_news (Has.new w5 (encC c) 76))
          obtain ⟨i0, hi, hz0, hz1, hz2⟩ := info_parts isC_p
          go_wp2_with (at_builtin; refine wpList_append_own _ rfl _ _ 26 rfl w2.heap.size 76 i0 _ 4 40 und_p hi hz0 hz1 hz2 rfl (by decide) _ l.length (flatC l) rfl (HO5.out.alloc _) ⟨w5.heap.size, 0, none⟩ 1 1 (encC c) rfl rfl HNW.out (encC_one c) ?c1 ?c2 ?c3 ?_)
          case c1 => unfold maxLen; have := HLL.out; omega
          case c2 => have := HLL.out; omega
          case c3 => exact Nat.le_trans HB5.out.size (by simp)
          intro v' w6 hown6 hgr6 _
          have HB6 := Lib.hid ((below_nw HB5.out (.cells #[.string (Lend.strOf c.low), .int .i64 c.addr, .int .u64 c.gen, .int .u32 c.sum] 76)).grown hgr6 (Nat.le_trans HB5.out.size (by simp)) (fun q hq => (HO5.out.lt q hq).1))
          have HO6 := Lib.hid (show CO 76 w6 w2.heap.size v' (l ++ [c]) by unfold CO; rw [flatC_snoc, List.length_append]; exact hown6)
          have HWF6 := Lib.hid (show ∀ x ∈ l ++ [c], WfC x by
            intro x hx
            rcases List.mem_append.1 hx with hx | hx
            · exact HWF.out x hx
            · rw [List.mem_singleton.1 hx]; exact HCW.out)
          clear hown6 hgr6 y0 y1 y2 y3
          go_wp2_with fail
          go_roundw
          case rel => exact ⟨j + 1, R, l ++ [c], by omega, by go_num, rfl, HKS, HWF6, HO6.out, HB6.out⟩
          case measure => simp [intOf]; omega
      · obtain rfl : j = k := by omega
        have hji : ¬ ((j : Int) < (j : Int)) := by omega
        clear htl
        go_wp2_with fail
        go_ret3
        refine ⟨_, t, true, rfl, by have := (kidsL_len HKL.out).2; rw [List.length_cons]; omega, HB2.out.trans (HBW.out.mono HB2.out.size), .inr ⟨rfl, b, r, l, rfl, by rw [← HK.out]; exact HKL.out, HWF.out, own_base HOW.out HB2.out.size⟩⟩
end Go.Proofs.Ytfclecbhfamomaa.Node
/- Layer 17 (node): Parse. -/
namespace Go.Proofs.Ytfclecbhfamomaa.Node
open Go Go.RowKit Go.Proofs.Ytfclecbhfamomaa Go.Proofs.Ytfclecbhfamomaa.Lend Go.Proofs.Ytfclecbhfamomaa.Rec Go.Proofs.Ytfclecbhfamomaa.Msg Go.Proofs.Ytfclecbhfamomaa.Buf
set_option linter.unusedVariables false

/-- what Parse leaves -/
def NpR (s : List UInt8) (w : World) (e : Ending) (w' : World) : Prop := ∃ kv bv, e = .returned (.tuple #[.agg #[kv, bv], .int .i64 (pnN s)]) ∧ CO 76 w' w.heap.size kv (pnC s) ∧ RA w' w.heap.size bv (pnU s) ∧ Below w.heap.size w w'
theorem npR_none {w w' : World} {s : List UInt8} (h : pnK s = none) (hb : Below w.heap.size w w') : NpR s w (.returned (.tuple #[.agg #[.slice none 0 0, .slice none 0 0], .int .i64 4])) w' := by
  obtain ⟨h1, h2, h3⟩ := pn_none h
  exact ⟨_, _, by rw [h1], by rw [h2]; exact World.ownsRow_nil _ _ _ _, by rw [h3]; exact World.ownsRow_nil _ _ _ _, hb⟩
set_option maxRecDepth 100000 in
set_option maxHeartbeats 8000000 in
theorem parse_any (s : List UInt8) (w : World) (hl : s.length ≤ 100000) : Calls Try.prog 17 #[.string (Lend.strOf s)] w (NpR s w) := by
  obtain ⟨w1, hw1⟩ : ∃ z, z = w.alloc (.cells #[.slice none 0 0, .slice none 0 0] 31) := ⟨_, rfl⟩
  have HX1 := Lib.hid (show Has w1 w.heap.size 31 [.slice none 0 0, .slice none 0 0] by rw [hw1]; exact Has.new w _ _)
  have HB1 := Lib.hid (show Below w.heap.size w w1 by rw [hw1]; exact below_new w _)
  have HPK := Lib.hid (pchildren_any s w1 hl)
  have HL := Lib.hid hl
  clear hl
  go_enter Try.func17, Try.ntmps17
  go_upto_region 1 with fail
  rw [← hw1]
  clear hw1
  go_wp2_with fail
  refine HPK.out.mono ?_
  clear HPK
  rintro e w2 ⟨kv, T, B, rfl, hT, hb2, hcase⟩
  have HX2 := Lib.hid (HX1.out.below hb2 HX1.out.lt)
  have HB2 := Lib.hid (below_on HB1.out hb2)
  rcases hcase with ⟨rfl, hno⟩ | ⟨rfl, b, r, cs, rfl, hkl, hwc, hown⟩
  · have HNO := Lib.hid hno
    have f0 := HX2.out.frozen 0
    have f1 := HX2.out.frozen 1
    have d0 := HX2.out.cell 0
    have d1 := HX2.out.cell 1
    simp only [List.getElem?_cons_zero, List.getElem?_cons_succ] at d0 d1
    clear hno hT hb2
    go_wp2_with fail
    refine bodyPost_ret (v := .tuple #[.agg #[.slice none 0 0, .slice none 0 0], .int .i64 4]) (by simp [results, Try.results17, go_sem, d0, d1]) rfl (npR_none HNO.out ?_)
    exact bel_st (bel_st HB2.out)
  · have HKL := Lib.hid (pnK_at hkl)
    have HWC := Lib.hid hwc
    have HO2 := Lib.hid (own_base hown HX1.out.lt)
    have HTL := Lib.hid (show T.length ≤ 100000 by have := HL.out; omega)
    have HPR := Lib.hid (bparse_any w2 HTL.out)
    clear hkl hwc hown hT hb2
    go_wp2_with fail
    refine HPR.out.mono ?_
    clear HPR
    rintro e w3 ⟨bv, rfl, hbv, hb3⟩
    have HX3 := Lib.hid (HX2.out.below hb3 HX2.out.lt)
    have HB3 := Lib.hid (below_on HB2.out hb3)
    have HO3 := Lib.hid (own_bel HO2.out hb3)
    have HU3 := Lib.hid (own_base hbv (show w.heap.size + 1 ≤ w2.heap.size from HX2.out.lt))
    clear hb3 hbv
    obtain ⟨ka, kc, hkv, _⟩ := own_shape HO3.out
    subst hkv
    obtain ⟨ba, bc, hbv, _⟩ := own_shape HU3.out
    subst hbv
    obtain ⟨w4, hw4⟩ : ∃ z, z = w3.alloc (.cells #[.slice ba (paU T).length bc] 29) := ⟨_, rfl⟩
    have HH4 := Lib.hid (show Has w4 w3.heap.size 29 [.slice ba (paU T).length bc] by rw [hw4]; exact Has.new w3 _ _)
    have hb4 : Below w3.heap.size w3 w4 := by rw [hw4]; exact below_new w3 _
    have HX4 := Lib.hid (HX3.out.below hb4 HX3.out.lt)
    have HB4 := Lib.hid (below_on HB3.out hb4)
    have HO4 := Lib.hid (own_bel HO3.out hb4)
    have HU4 := Lib.hid (own_bel HU3.out hb4)
    obtain ⟨n, hn⟩ : ∃ n, n = cs.length := ⟨_, rfl⟩
    obtain ⟨m, hm⟩ : ∃ m, m = (paU T).length := ⟨_, rfl⟩
    have HN := Lib.hid hn
    have HM := Lib.hid hm
    rw [← hm] at HH4 hw4
    clear hb4
    go_upto_region 5 with fail
    rw [← hn, ← hm, ← hw4]
    clear hw4 hn hm
    have y0 : w4.cell? ⟨w3.heap.size, 0, none⟩ = some (.slice ba m bc) := HH4.out.cell 0
    obtain ⟨w5, hw5⟩ : ∃ z, z = w4.alloc (.cells #[.slice ka n kc, .slice ba m bc] 31) := ⟨_, rfl⟩
    have HH5 := Lib.hid (show Has w5 w4.heap.size 31 [.slice ka n kc, .slice ba m bc] by rw [hw5]; exact Has.new w4 _ _)
    have hb5 : Below w4.heap.size w4 w5 := by rw [hw5]; exact below_new w4 _
    have HX5 := Lib.hid (HX4.out.below hb5 HX4.out.lt)
    have HB5 := Lib.hid (below_on HB4.out hb5)
    have HO5 := Lib.hid (own_bel HO4.out hb5)
    have HU5 := Lib.hid (own_bel HU4.out hb5)
    have HRI := Lib.hid (by
      have h := right_any (w := w5) (CR.of_own HO5.out) (UR.of_own HU5.out) HWC.out (paU_wf T) ((ris_iff _).2 (paU_srt T))
      rw [← HN.out, ← HM.out] at h
      exact h)
    clear hb5
    go_upto_region 6 with fail
    rw [← hw5]
    clear hw5 y0
    by_cases hp : paN T = 0
    · have z0 : w5.cell? ⟨w4.heap.size, 0, none⟩ = some (.slice ka n kc) := HH5.out.cell 0
      have z1 : w5.cell? ⟨w4.heap.size, 1, none⟩ = some (.slice ba m bc) := HH5.out.cell 1
      rw [hp]
      have HP := Lib.hid hp
      clear hp
      go_wp2_with fail
      refine HRI.out.mono ?_
      clear HRI z0 z1
      rintro e w6 ⟨rfl, hb6⟩
      have HX6 := Lib.hid (HX5.out.below hb6 HX5.out.lt)
      have HH6 := Lib.hid (HH5.out.below hb6 HH5.out.lt)
      have HB6 := Lib.hid (below_on HB5.out hb6)
      have HO6 := Lib.hid (own_bel HO5.out hb6)
      have HU6 := Lib.hid (own_bel HU5.out hb6)
      have f0 := HX6.out.frozen 0
      have f1 := HX6.out.frozen 1
      have d0 := HX6.out.cell 0
      have d1 := HX6.out.cell 1
      simp only [List.getElem?_cons_zero, List.getElem?_cons_succ] at d0 d1
      clear hb6
      cases hN : nodB cs (paU T) with
      | true =>
        have HPS := Lib.hid (pn_some (show pnK (b :: r) = some (cs, paU T) by rw [HKL.out, if_pos ⟨HP.out, hN⟩]))
        have z0 : w6.cell? ⟨w4.heap.size, 0, none⟩ = some (.slice ka n kc) := HH6.out.cell 0
        have z1 : w6.cell? ⟨w4.heap.size, 1, none⟩ = some (.slice ba m bc) := HH6.out.cell 1
        clear hN
        go_wp2_with fail
        refine bodyPost_ret (v := .tuple #[.agg #[.slice ka n kc, .slice ba m bc], .int .i64 0]) (by simp [results, Try.results17, go_sem, d0, d1]) rfl ⟨_, _, by rw [HPS.out.1], ?_, ?_, bel_st (bel_st HB6.out)⟩
        · rw [HPS.out.2.1]
          rw [HN.out]
          exact own_base (row_st2 HO6.out (by omega)) (by omega)
        · rw [HPS.out.2.2]
          rw [HM.out]
          exact own_base (row_st2 HU6.out (by omega)) (by omega)
      | false =>
        have HNO := Lib.hid (show pnK (b :: r) = none by rw [HKL.out, if_neg (by rintro ⟨_, h⟩; rw [hN] at h; cases h)])
        clear hN
        go_wp2_with fail
        exact bodyPost_ret (v := .tuple #[.agg #[.slice none 0 0, .slice none 0 0], .int .i64 4]) (by simp [results, Try.results17, go_sem, d0, d1]) rfl (npR_none HNO.out (bel_st (bel_st HB6.out)))
    · have HNO := Lib.hid (show pnK (b :: r) = none by rw [HKL.out, if_neg (fun h => hp h.1)])
      have f0 := HX5.out.frozen 0
      have f1 := HX5.out.frozen 1
      have d0 := HX5.out.cell 0
      have d1 := HX5.out.cell 1
      simp only [List.getElem?_cons_zero, List.getElem?_cons_succ] at d0 d1
      generalize paN T = E at *
      go_wp2_with fail
      exact bodyPost_ret (v := .tuple #[.agg #[.slice none 0 0, .slice none 0 0], .int .i64 4]) (by simp [results, Try.results17, go_sem, d0, d1]) rfl (npR_none HNO.out (bel_st (bel_st HB5.out)))
end Go.Proofs.Ytfclecbhfamomaa.Node
