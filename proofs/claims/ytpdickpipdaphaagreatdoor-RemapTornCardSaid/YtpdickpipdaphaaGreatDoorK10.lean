/- Layers' contracts, bundled: RemE, RemF, RemG, RemH, RemI. -/
import Derived.Test.YtpdickpipdaphaaGreatDoorK09
import Derived.LaidEqlPtr
import Derived.Laws.CopyRow
/- Layer 7 (remap): longest, Blocks. -/
namespace Go.Proofs.YtpdickpipdaphaaGreatDoor.Rem
open Go Go.RowKit Go.Proofs.YtpdickpipdaphaaGreatDoor Dev Tab
set_option linter.unusedVariables false

theorem good_zeros {n k : Int} (h : mayB n k = true) {j : Nat} (hj : (j : Int) ≤ k) : Tab.Good n k (List.replicate j 0) :=
  ⟨h, by simpa using hj, fun x hx => by rw [List.eq_of_mem_replicate hx]; have := mayB_parts h; omega⟩
set_option maxHeartbeats 1000000 in
set_option maxRecDepth 100000 in
theorem longest_any (n k : Int) (w : World) (h : mayB n k = true) : Calls Tryz.prog 57 #[.agg (ta n k [])] w fun e w' => e = .returned (.string (txS (List.replicate k.toNat 0))) ∧ Below w.heap.size w w' := by
  have hp := mayB_parts h
  have HM := Lib.hid h
  have HT := Lib.hid (TAt.made w n k [])
  have HB := Lib.hid (b_new w (.cells (ta n k []) 35))
  obtain ⟨K, hK⟩ : ∃ K : Nat, (K : Int) = k := ⟨k.toNat, by omega⟩
  subst hK
  obtain ⟨p, hpw⟩ : ∃ p, p = w.heap.size := ⟨_, rfl⟩
  rw [← hpw] at HT
  have HPW := Lib.hid hpw
  have hK32 : (K : Int) ≤ 32 := by omega
  have HK := Lib.hid hK32
  rw [Int.toNat_natCast]
  clear h hp hK32
  go_enter Tryz.func57, Tryz.ntmps57
  go_wp2_with fail
  rw [← hpw]
  clear hpw
  go_loopw [3] (fun _ wr => ∃ j : Nat, j ≤ K ∧ TAt wr p n K (List.replicate j 0) ∧ Below w.heap.size w wr) (fun _ wr => K - (match wr.cell? ⟨p, 2, none⟩ with | some v => (intOf v).toNat | none => 0))
  case atStart => exact ⟨0, by omega, HT.out, HB.out⟩
  case round =>
    obtain ⟨j, hj, ht, hb⟩ := hrel
    clear HT HB
    have HT := Lib.hid ht
    have HB := Lib.hid hb
    have hld := ht.ld
    have HG := Lib.hid (good_zeros (j := j) HM.out (by omega))
    have hk0 : (0 : Int) ≤ K := by omega
    have HC := Lib.hid ht.c2
    clear ht hb
    go_wp2_with fail
    refine (left_any n K _ _ hk0 HK.out (by have := HG.out.bd; omega)).mono ?_
    rintro e w1 ⟨rfl, hb⟩
    have HT1 := Lib.hid (HT.out.on hb)
    have HB1 := Lib.hid (b_on HB.out hb)
    have hld1 := HT1.out.ld
    clear hb hld hk0
    rw [List.length_replicate]
    by_cases hjk : j = K
    · subst hjk
      rw [show (j : Int) - j = 0 by omega]
      go_wp2_with fail
      refine (Tab.text_any n j _ _ HG.out).mono ?_
      rintro e w2 ⟨rfl, hb⟩
      go_wp2
      go_ret
      exact ⟨rfl, b_on HB1.out hb⟩
    · obtain ⟨u, hu⟩ : ∃ u : Int, u = (K : Int) - j := ⟨_, rfl⟩
      have hu0 : 0 < u := by omega
      rw [← hu]
      have hj2 : j < K := by omega
      have HJ := Lib.hid hj2
      have hME := mv_yes (n := n) (k := (K : Int)) (m := List.replicate j 0) (b := 0) (by omega) (by have := mayB_parts HM.out; omega) (by simp; omega)
      obtain ⟨m1, m2, m3⟩ := mv_ok hME
      have HV := Lib.hid (And.intro hME (And.intro m1 (And.intro m2 m3)))
      clear hME m1 m2 m3 hu hj2 hj hjk
      go_wp2_with fail
      refine (Tab.move_any n K 0 _ _ HG.out).mono ?_
      rintro e w2 ⟨rfl, hb⟩
      rw [HV.out.1, HV.out.2.1, HV.out.2.2.1, HV.out.2.2.2]
      have HT2 := Lib.hid (HT1.out.on hb)
      have HB2 := Lib.hid (b_on HB1.out hb)
      have hrep : List.replicate j (0 : Int) ++ [0] = List.replicate (j + 1) 0 := List.replicate_succ'.symm
      rw [hrep]
      have hst := HT2.out.st n K (List.replicate (j + 1) 0)
      have HT3 := Lib.hid (HT2.out.put n K (List.replicate (j + 1) 0))
      have HB3 := Lib.hid (b_row HB2.out (p := p) (by have := HPW.out; omega) (ta n K (List.replicate (j + 1) 0)))
      clear hb hld1 hrep
      go_wp2_with fail
      go_roundw
      case rel => exact ⟨j + 1, by have := HJ.out; omega, HT3.out, HB3.out⟩
      case measure =>
        have c1 := HT3.out.c2
        have c0 := HC.out
        simp only [c0, c1, intOf, List.length_replicate, Int.toNat_natCast]
        exact Nat.sub_lt_sub_left HJ.out (Nat.lt_succ_self j)
theorem bl_wrap {n k : Int} (hn : 8 ≤ n ∧ n ≤ 4096) (hk : 0 ≤ k ∧ k ≤ 32) : wrap64 (wrap64 (n - 4) - k) = n - 4 - k := by
  unfold wrap64; omega
/-- there may be a pair of such devices -/
def Fit (n z k : Int) : Prop := shapeR n z = true ∧ 0 ≤ k ∧ k ≤ 32 ∧ 2 ≤ n - 4 - k ∧ 8 + 2 * k ≤ z - 24
instance (n z k : Int) : Decidable (Fit n z k) := by unfold Fit; infer_instance
def blN (n z k : Int) : Int := if Fit n z k then n - 4 - k else 0
theorem shapeR_parts {n z : Int} (h : shapeR n z = true) : 8 ≤ n ∧ n ≤ 4096 ∧ 128 ≤ z ∧ z ≤ 1024 := by
  have := of_decide_eq_true (show decide (8 ≤ n ∧ n ≤ 4096 ∧ 128 ≤ z ∧ z ≤ 1024 ∧ z % 64 = 0) = true from h); omega
set_option maxHeartbeats 1000000 in
set_option maxRecDepth 100000 in
theorem blocks_any (n z k : Int) (w : World) : Calls Tryz.prog 26 #[.agg #[.int .i64 n, .int .i64 z], .int .i64 k] w fun e w' => e = .returned (.int .i64 (blN n z k)) ∧ Below w.heap.size w w' := by
  have hn0 := Has.new w [.int .i64 n, .int .i64 z] 61
  have HB := Lib.hid (b_new w (.cells #[.int .i64 n, .int .i64 z] 61))
  cases hr : shapeR n z with
  | false =>
    have HE := Lib.hid (show blN n z k = 0 from if_neg fun h => by rw [h.1] at hr; cases hr)
    have HR := Lib.hid hr
    clear hr hn0
    go_enter Tryz.func26, Tryz.ntmps26
    go_wp2_with fail
    refine (right_any n z _).mono ?_
    rintro e w1 ⟨rfl, hb⟩
    rw [HR.out]
    go_wp2
    go_ret
    exact ⟨by rw [HE.out]; rfl, b_on HB.out hb⟩
  | true =>
    have hp4 := shapeR_parts hr
    have HR := Lib.hid hr
    obtain ⟨p, hpw⟩ : ∃ p, p = w.heap.size := ⟨_, rfl⟩
    rw [← hpw] at hn0
    have HN := Lib.hid hn0
    obtain ⟨b, hb0⟩ : ∃ b, b = wrap64 (wrap64 (n - 4) - k) := ⟨_, rfl⟩
    have hbw := hb0.symm
    have HBB := Lib.hid hb0
    have HPN := Lib.hid hp4
    obtain ⟨E, hE⟩ : ∃ E, E = nwE b k := ⟨_, rfl⟩
    obtain ⟨x, hx⟩ : ∃ x, x = nwN b k := ⟨_, rfl⟩
    obtain ⟨y, hy⟩ : ∃ y, y = nwK b k := ⟨_, rfl⟩
    have HXY := Lib.hid (And.intro hE (And.intro hx hy))
    clear hr hb0 hp4 hn0
    go_enter Tryz.func26, Tryz.ntmps26
    go_wp2_with fail
    rw [← hpw]
    refine (right_any n z _).mono ?_
    rintro e w1 ⟨rfl, hb⟩
    rw [HR.out]
    have hn1 := HN.out.below hb HN.out.lt
    have c0 := hn1.cell 0
    simp only [List.getElem?_cons_zero] at c0
    have HN1 := Lib.hid hn1
    have HB1 := Lib.hid (b_on HB.out hb)
    clear hb hpw hn1 HN HB
    go_wp2_with fail
    rw [hbw]
    clear hbw c0
    refine (new_any b k _).mono ?_
    rintro e w2 ⟨rfl, hb⟩
    rw [← hE, ← hx, ← hy]
    have HN2 := Lib.hid (HN1.out.below hb HN1.out.lt)
    have HB2 := Lib.hid (b_on HB1.out hb)
    clear hb hE hx hy HN1 HB1
    obtain ⟨g, hg⟩ : ∃ g, g = w2.heap.size := ⟨_, rfl⟩
    have hO0 : Below w.heap.size w (w2.alloc (.cells (ta x y []) 35)) ∧ Has (w2.alloc (.cells (ta x y []) 35)) p 61 [.int .i64 n, .int .i64 z] ∧ TAt (w2.alloc (.cells (ta x y []) 35)) g x y [] := ⟨b_nw HB2.out _, HN2.out.alloc _, by rw [hg]; exact TAt.made _ _ _ _⟩
    clear HN2 HB2
    by_cases hbad : E ≠ 0
    · have HE := Lib.hid (show blN n z k = 0 from if_neg fun h => by
        obtain ⟨h1, h2, h3, h4, h5⟩ := h
        have hpn := HPN.out
        have e1 : b = n - 4 - k := by rw [HBB.out, bl_wrap (by omega) (by omega)]
        exact hbad (by rw [HXY.out.1]; exact (nw_yes (mayB_of (by omega) (by omega) (by omega) (by omega))).1))
      have hd : decide (E = 0) = false := decide_eq_false hbad
      have hbad' : ¬ E = 0 := hbad
      clear hbad
      go_wp2_with (first | with_reducible refine wl_alloc ?_)
      rw [← hg]
      clear hg
      refine Reg.region_valsG (by kernel_rfl) [(22, .int .i64 E), (23, .bool true), (24, .bool true), (25, undef), (26, undef), (27, .bool true), (28, .bool true), (29, undef), (30, undef), (31, undef), (32, undef), (33, undef), (34, undef), (35, undef), (36, .bool true)] (fun _ wy => Below w.heap.size w wy ∧ Has wy p 61 [.int .i64 n, .int .i64 z] ∧ TAt wy g x y []) (by kernel_rfl) (by kernel_rfl) [3, 4, 7, 8, 9, 10, 11, 12, 13] (by kernel_rfl) (⟨hO0.1.drew, hO0.2.1.drew, hO0.2.2.drew⟩) ⟨?_, ?_, ?_, ?_, ?_, ?_, ?_, ?_, ?_, ?_, ?_, ?_, ?_, ?_, ?_, trivial⟩ ?hend
      · skip
        intro aq wq lq hI hl hdone hlater hold hd ho
        have h7 : aq.tmps.getD 7 undef = .int .i64 E := ho 7 (by kernel_rfl)
        clear hd ho hdone hlater hold
        exact Reg.step2_move (.tmp 7) rfl h7 hI trivial
      · skip
        intro aq wq lq hI hl hdone hlater hold hd ho
        have h22 : aq.tmps.getD 22 undef = .int .i64 E := hd 22 (by kernel_rfl)
        clear hd ho hdone hlater hold
        rw [Array.getD_eq_getD_getElem?] at h22
        refine Reg.step2_val (.bool true) ?_ rfl hI trivial
        simp [execOp, Act.eval, h22]
        try go_simp
      · skip
        intro aq wq lq hI hl hdone hlater hold hd ho
        have h23 : aq.tmps.getD 23 undef = .bool true := hd 23 (by kernel_rfl)
        clear hd ho hdone hlater hold
        exact Reg.step2_move (.tmp 23) rfl h23 hI trivial
      · skip
        intro aq wq lq hI hl hdone hlater hold hd ho
        exact Reg.stepG_skip rfl hI trivial
      · skip
        intro aq wq lq hI hl hdone hlater hold hd ho
        exact Reg.stepG_skip rfl hI trivial
      · skip
        intro aq wq lq hI hl hdone hlater hold hd ho
        have h24 : aq.tmps.getD 24 undef = .bool true := hd 24 (by kernel_rfl)
        have h26 : aq.tmps.getD 26 undef = undef := hd 26 (by kernel_rfl)
        clear hd ho hdone hlater hold
        rw [Array.getD_eq_getD_getElem?] at h24 h26
        refine Reg.step2_val (.bool true) ?_ rfl hI trivial
        simp [execOp, Act.eval, h24, h26]
        try go_simp
      · skip
        intro aq wq lq hI hl hdone hlater hold hd ho
        have h27 : aq.tmps.getD 27 undef = .bool true := hd 27 (by kernel_rfl)
        clear hd ho hdone hlater hold
        exact Reg.step2_move (.tmp 27) rfl h27 hI trivial
      · skip
        intro aq wq lq hI hl hdone hlater hold hd ho
        exact Reg.stepG_skip rfl hI trivial
      · skip
        intro aq wq lq hI hl hdone hlater hold hd ho
        exact Reg.stepG_skip rfl hI trivial
      · skip
        intro aq wq lq hI hl hdone hlater hold hd ho
        exact Reg.stepG_skip rfl hI trivial
      · skip
        intro aq wq lq hI hl hdone hlater hold hd ho
        exact Reg.stepG_skip rfl hI trivial
      · skip
        intro aq wq lq hI hl hdone hlater hold hd ho
        exact Reg.stepG_skip rfl hI trivial
      · skip
        intro aq wq lq hI hl hdone hlater hold hd ho
        exact Reg.stepG_skip rfl hI trivial
      · skip
        intro aq wq lq hI hl hdone hlater hold hd ho
        exact Reg.stepG_skip rfl hI trivial
      · skip
        intro aq wq lq hI hl hdone hlater hold hd ho
        have h28 : aq.tmps.getD 28 undef = .bool true := hd 28 (by kernel_rfl)
        have h35 : aq.tmps.getD 35 undef = undef := hd 35 (by kernel_rfl)
        clear hd ho hdone hlater hold
        rw [Array.getD_eq_getD_getElem?] at h28 h35
        refine Reg.step2_val (.bool true) ?_ rfl hI trivial
        simp [execOp, Act.eval, h28, h35]
        try go_simp
      case hend =>
        intro wz hI
        simp only [Reg.fill, List.foldl_cons, List.foldl_nil, List.setIfInBounds_toArray, List.set_cons_zero, List.set_cons_succ]
        have HZ := Lib.hid hI.1
        clear hI hO0
        go_wp2
        go_ret
        exact ⟨by rw [HE.out]; rfl, HZ.out⟩
    · obtain rfl : E = 0 := by omega
      clear hbad
      have hmay : mayB b k = true := by
        cases hm : mayB b k with
        | true => rfl
        | false => have := HXY.out.1; rw [(nw_no hm).1] at this; cases this
      obtain ⟨m1, m2, m3, m4⟩ := mayB_parts hmay
      have e1 : b = n - 4 - k := by
        have hpn := HPN.out
        rw [HBB.out, bl_wrap (by omega) (by omega)]
      have HMAY := Lib.hid hmay
      obtain ⟨n1, n2, n3⟩ := nw_yes hmay
      rw [HXY.out.2.1, HXY.out.2.2, n2, n3] at hO0 ⊢
      by_cases hlow : b < 2
      · have HE := Lib.hid (show blN n z k = 0 from if_neg fun h => by
          obtain ⟨h1, h2, h3, h4, h5⟩ := h
          omega)
        clear HXY m1 m2 m3 m4 n1 n2 n3 HBB hmay e1
        go_wp2_with (first | with_reducible refine wl_alloc ?_)
        rw [← hg]
        clear hg
        refine Reg.region_valsG (by kernel_rfl) [(22, .int .i64 0), (23, .bool false), (24, .bool false), (25, .int .i64 b), (26, .bool true), (27, .bool true), (28, .bool true), (29, undef), (30, undef), (31, undef), (32, undef), (33, undef), (34, undef), (35, undef), (36, .bool true)] (fun _ wy => Below w.heap.size w wy ∧ Has wy p 61 [.int .i64 n, .int .i64 z] ∧ TAt wy g b k []) (by kernel_rfl) (by kernel_rfl) [7, 8, 9, 10, 11, 12, 13] (by kernel_rfl) (⟨hO0.1.drew, hO0.2.1.drew, hO0.2.2.drew⟩) ⟨?_, ?_, ?_, ?_, ?_, ?_, ?_, ?_, ?_, ?_, ?_, ?_, ?_, ?_, ?_, trivial⟩ ?hend
        · skip
          intro aq wq lq hI hl hdone hlater hold hd ho
          have h7 : aq.tmps.getD 7 undef = .int .i64 0 := ho 7 (by kernel_rfl)
          clear hd ho hdone hlater hold
          exact Reg.step2_move (.tmp 7) rfl h7 hI trivial
        · skip
          intro aq wq lq hI hl hdone hlater hold hd ho
          have h22 : aq.tmps.getD 22 undef = .int .i64 0 := hd 22 (by kernel_rfl)
          clear hd ho hdone hlater hold
          rw [Array.getD_eq_getD_getElem?] at h22
          refine Reg.step2_val (.bool false) ?_ rfl hI trivial
          simp [execOp, Act.eval, h22]
          try go_simp
        · skip
          intro aq wq lq hI hl hdone hlater hold hd ho
          have h23 : aq.tmps.getD 23 undef = .bool false := hd 23 (by kernel_rfl)
          clear hd ho hdone hlater hold
          exact Reg.step2_move (.tmp 23) rfl h23 hI trivial
        · skip
          intro aq wq lq hI hl hdone hlater hold hd ho
          have h5 : aq.tmps.getD 5 undef = .int .i64 b := ho 5 (by kernel_rfl)
          clear hd ho hdone hlater hold
          exact Reg.step2_move (.tmp 5) rfl h5 hI trivial
        · skip
          intro aq wq lq hI hl hdone hlater hold hd ho
          have h25 : aq.tmps.getD 25 undef = .int .i64 b := hd 25 (by kernel_rfl)
          clear hd ho hdone hlater hold
          rw [Array.getD_eq_getD_getElem?] at h25
          refine Reg.step2_val (.bool true) ?_ rfl hI trivial
          simp [execOp, Act.eval, h25]
          try go_simp
        · skip
          intro aq wq lq hI hl hdone hlater hold hd ho
          have h24 : aq.tmps.getD 24 undef = .bool false := hd 24 (by kernel_rfl)
          have h26 : aq.tmps.getD 26 undef = .bool true := hd 26 (by kernel_rfl)
          clear hd ho hdone hlater hold
          rw [Array.getD_eq_getD_getElem?] at h24 h26
          refine Reg.step2_val (.bool true) ?_ rfl hI trivial
          simp [execOp, Act.eval, h24, h26]
          try go_simp
        · skip
          intro aq wq lq hI hl hdone hlater hold hd ho
          have h27 : aq.tmps.getD 27 undef = .bool true := hd 27 (by kernel_rfl)
          clear hd ho hdone hlater hold
          exact Reg.step2_move (.tmp 27) rfl h27 hI trivial
        · skip
          intro aq wq lq hI hl hdone hlater hold hd ho
          exact Reg.stepG_skip rfl hI trivial
        · skip
          intro aq wq lq hI hl hdone hlater hold hd ho
          exact Reg.stepG_skip rfl hI trivial
        · skip
          intro aq wq lq hI hl hdone hlater hold hd ho
          exact Reg.stepG_skip rfl hI trivial
        · skip
          intro aq wq lq hI hl hdone hlater hold hd ho
          exact Reg.stepG_skip rfl hI trivial
        · skip
          intro aq wq lq hI hl hdone hlater hold hd ho
          exact Reg.stepG_skip rfl hI trivial
        · skip
          intro aq wq lq hI hl hdone hlater hold hd ho
          exact Reg.stepG_skip rfl hI trivial
        · skip
          intro aq wq lq hI hl hdone hlater hold hd ho
          exact Reg.stepG_skip rfl hI trivial
        · skip
          intro aq wq lq hI hl hdone hlater hold hd ho
          have h28 : aq.tmps.getD 28 undef = .bool true := hd 28 (by kernel_rfl)
          have h35 : aq.tmps.getD 35 undef = undef := hd 35 (by kernel_rfl)
          clear hd ho hdone hlater hold
          rw [Array.getD_eq_getD_getElem?] at h28 h35
          refine Reg.step2_val (.bool true) ?_ rfl hI trivial
          simp [execOp, Act.eval, h28, h35]
          try go_simp
        case hend =>
          intro wz hI
          simp only [Reg.fill, List.foldl_cons, List.foldl_nil, List.setIfInBounds_toArray, List.set_cons_zero, List.set_cons_succ]
          have HZ := Lib.hid hI.1
          clear hI hO0
          go_wp2
          go_ret
          exact ⟨by rw [HE.out]; rfl, HZ.out⟩
      · have hz := HPN.out
        have hlow' : ¬ b < 2 := hlow
        have HE := Lib.hid (show blN n z k = b by unfold blN; rw [if_pos ⟨HR.out, by omega, by omega, by omega, by omega⟩]; exact e1.symm)
        obtain ⟨LS, hLS⟩ : ∃ LS, LS = txS (List.replicate k.toNat 0) := ⟨_, rfl⟩
        have hsz : (LS.size : Int) = 8 + 2 * k := by
          have : LS.size = (txL (List.replicate k.toNat 0)).length := by rw [hLS]; rfl
          rw [this, txL_length, List.length_replicate]; omega
        obtain ⟨rz, hrz⟩ : ∃ rz, rz = Env.roomN z := ⟨_, rfl⟩
        have hle : ¬ rz < (LS.size : Int) := by
          have : Env.roomN z = z - 24 := (Env.roomN_yes (n := z) (by unfold Env.szB; simp; omega)).1
          omega
        have HLS := Lib.hid hLS
        have HRZ := Lib.hid hrz
        clear HXY m1 m2 m3 m4 n1 n2 n3 HBB hmay e1 hz hLS hsz hrz hlow
        go_wp2_with (first | with_reducible refine wl_alloc ?_)
        rw [← hg]
        clear hg
        refine Reg.region_valsG (by kernel_rfl) [(22, .int .i64 0), (23, .bool false), (24, .bool false), (25, .int .i64 b), (26, .bool false), (27, .bool false), (28, .bool false), (29, .agg (ta b k [])), (30, .string LS), (31, .int .i64 (LS.size : Nat)), (32, .pointer (some ⟨p, 1, none⟩)), (33, .int .i64 z), (34, .int .i64 rz), (35, .bool false), (36, .bool false)] (fun _ wy => Below w.heap.size w wy ∧ Has wy p 61 [.int .i64 n, .int .i64 z] ∧ TAt wy g b k []) (by kernel_rfl) (by kernel_rfl) [] (by kernel_rfl) (⟨hO0.1.drew, hO0.2.1.drew, hO0.2.2.drew⟩) ⟨?_, ?_, ?_, ?_, ?_, ?_, ?_, ?_, ?_, ?_, ?_, ?_, ?_, ?_, ?_, trivial⟩ ?hend
        · skip
          intro aq wq lq hI hl hdone hlater hold hd ho
          have h7 : aq.tmps.getD 7 undef = .int .i64 0 := ho 7 (by kernel_rfl)
          clear hd ho hdone hlater hold
          exact Reg.step2_move (.tmp 7) rfl h7 hI trivial
        · skip
          intro aq wq lq hI hl hdone hlater hold hd ho
          have h22 : aq.tmps.getD 22 undef = .int .i64 0 := hd 22 (by kernel_rfl)
          clear hd ho hdone hlater hold
          rw [Array.getD_eq_getD_getElem?] at h22
          refine Reg.step2_val (.bool false) ?_ rfl hI trivial
          simp [execOp, Act.eval, h22]
          try go_simp
        · skip
          intro aq wq lq hI hl hdone hlater hold hd ho
          have h23 : aq.tmps.getD 23 undef = .bool false := hd 23 (by kernel_rfl)
          clear hd ho hdone hlater hold
          exact Reg.step2_move (.tmp 23) rfl h23 hI trivial
        · skip
          intro aq wq lq hI hl hdone hlater hold hd ho
          have h5 : aq.tmps.getD 5 undef = .int .i64 b := ho 5 (by kernel_rfl)
          clear hd ho hdone hlater hold
          exact Reg.step2_move (.tmp 5) rfl h5 hI trivial
        · skip
          intro aq wq lq hI hl hdone hlater hold hd ho
          have h25 : aq.tmps.getD 25 undef = .int .i64 b := hd 25 (by kernel_rfl)
          clear hd ho hdone hlater hold
          rw [Array.getD_eq_getD_getElem?] at h25
          refine Reg.step2_val (.bool false) ?_ rfl hI trivial
          simp [execOp, Act.eval, h25]
          try go_simp
        · skip
          intro aq wq lq hI hl hdone hlater hold hd ho
          have h24 : aq.tmps.getD 24 undef = .bool false := hd 24 (by kernel_rfl)
          have h26 : aq.tmps.getD 26 undef = .bool false := hd 26 (by kernel_rfl)
          clear hd ho hdone hlater hold
          rw [Array.getD_eq_getD_getElem?] at h24 h26
          refine Reg.step2_val (.bool false) ?_ rfl hI trivial
          simp [execOp, Act.eval, h24, h26]
          try go_simp
        · skip
          intro aq wq lq hI hl hdone hlater hold hd ho
          have h27 : aq.tmps.getD 27 undef = .bool false := hd 27 (by kernel_rfl)
          clear hd ho hdone hlater hold
          exact Reg.step2_move (.tmp 27) rfl h27 hI trivial
        · skip
          intro aq wq lq hI hl hdone hlater hold hd ho
          have h6 : aq.tmps.getD 6 undef = .pointer (some ⟨g, 0, none⟩) := ho 6 (by kernel_rfl)
          clear hd ho hdone hlater hold
          rw [Array.getD_eq_getD_getElem?] at h6
          have hld := hI.2.2.ld
          refine Reg.step2_val (.agg (ta b k [])) ?_ rfl hI trivial
          go_simp
        · skip
          intro aq wq lq hI hl hdone hlater hold hd ho
          have h29 : aq.tmps.getD 29 undef = .agg (ta b k []) := hd 29 (by kernel_rfl)
          clear hd ho hdone hlater hold
          rw [Array.getD_eq_getD_getElem?] at h29
          refine Reg.step2_call 57 #[.agg (ta b k [])] ?_ ((longest_any b k wq HMAY.out).mono ?_)
          · clear hI
            simp [execOp]
            go_simp
          · rintro e w2 ⟨rfl, hb⟩
            exact ⟨_, rfl, by rw [HLS.out]; exact rfl, ⟨b_on hI.1 hb, hI.2.1.below hb hI.2.1.lt, hI.2.2.on hb⟩, trivial⟩
        · skip
          intro aq wq lq hI hl hdone hlater hold hd ho
          have h30 : aq.tmps.getD 30 undef = .string LS := hd 30 (by kernel_rfl)
          clear hd ho hdone hlater hold
          rw [Array.getD_eq_getD_getElem?] at h30
          refine Reg.step2_val (.int .i64 (LS.size : Nat)) ?_ rfl hI trivial
          simp [execOp]
          go_simp
        · skip
          intro aq wq lq hI hl hdone hlater hold hd ho
          have h2 : aq.tmps.getD 2 undef = .pointer (some ⟨p, 0, none⟩) := ho 2 (by kernel_rfl)
          clear hd ho hdone hlater hold
          rw [Array.getD_eq_getD_getElem?] at h2
          refine Reg.step2_val (.pointer (some ⟨p, 1, none⟩)) ?_ rfl hI trivial
          go_simp
        · skip
          intro aq wq lq hI hl hdone hlater hold hd ho
          have h32 : aq.tmps.getD 32 undef = .pointer (some ⟨p, 1, none⟩) := hd 32 (by kernel_rfl)
          clear hd ho hdone hlater hold
          rw [Array.getD_eq_getD_getElem?] at h32
          have c1 := hI.2.1.cell 1
          simp only [List.getElem?_cons_zero, List.getElem?_cons_succ] at c1
          refine Reg.step2_val (.int .i64 z) ?_ rfl hI trivial
          go_simp
        · skip
          intro aq wq lq hI hl hdone hlater hold hd ho
          have h33 : aq.tmps.getD 33 undef = .int .i64 z := hd 33 (by kernel_rfl)
          clear hd ho hdone hlater hold
          rw [Array.getD_eq_getD_getElem?] at h33
          refine Reg.step2_call 58 #[.int .i64 z] ?_ ((Env.room_any z wq).mono ?_)
          · clear hI
            simp [execOp]
            go_simp
          · rintro e w2 ⟨rfl, rfl⟩
            exact ⟨_, rfl, by rw [HRZ.out]; exact rfl, hI, trivial⟩
        · skip
          intro aq wq lq hI hl hdone hlater hold hd ho
          have h31 : aq.tmps.getD 31 undef = .int .i64 (LS.size : Nat) := hd 31 (by kernel_rfl)
          have h34 : aq.tmps.getD 34 undef = .int .i64 rz := hd 34 (by kernel_rfl)
          clear hd ho hdone hlater hold
          rw [Array.getD_eq_getD_getElem?] at h31 h34
          refine Reg.step2_val (.bool false) ?_ rfl hI trivial
          simp [execOp, Act.eval, h31, h34]
          try go_simp
        · skip
          intro aq wq lq hI hl hdone hlater hold hd ho
          have h28 : aq.tmps.getD 28 undef = .bool false := hd 28 (by kernel_rfl)
          have h35 : aq.tmps.getD 35 undef = .bool false := hd 35 (by kernel_rfl)
          clear hd ho hdone hlater hold
          rw [Array.getD_eq_getD_getElem?] at h28 h35
          refine Reg.step2_val (.bool false) ?_ rfl hI trivial
          simp [execOp, Act.eval, h28, h35]
          try go_simp
        case hend =>
          intro wz hI
          simp only [Reg.fill, List.foldl_cons, List.foldl_nil, List.setIfInBounds_toArray, List.set_cons_zero, List.set_cons_succ]
          have HZ := Lib.hid hI.1
          clear hI hO0
          go_wp2
          go_ret
          exact ⟨by rw [HE.out]; rfl, HZ.out⟩
theorem blocks_c (n z k : Int) (w : World) : Calls Tryz.prog 26 #[.agg #[.int .i64 n, .int .i64 z], .int .i64 k] w fun e w' => e = .returned (.int .i64 (if Fit n z k then n - 4 - k else 0)) ∧ Below w.heap.size w w' := blocks_any n z k w
end Go.Proofs.YtpdickpipdaphaaGreatDoor.Rem

/- Layer 7 (remap): join, Format, Open. -/
namespace Go.Proofs.YtpdickpipdaphaaGreatDoor.Rem
open Go Go.RowKit Go.Proofs.YtpdickpipdaphaaGreatDoor Dev Tab
set_option linter.unusedVariables false

theorem shape_l {p sb : Nat} {cv : Value} {D : Dv} (w : World) (h : DevAt w p sb cv D) (n z : Int) (hn : (D.n : Int) = n) (hz : (D.size : Int) = z) :
    Calls Tryz.prog 62 #[.pointer (some ⟨p, 0, none⟩)] w fun e w' => e = .returned (.agg #[.int .i64 n, .int .i64 z]) ∧ Below w.heap.size w w' := by
  subst hn; subst hz; exact shape_d w h
/-- a pair's cells -/
def pc (x y : Value) (l n : List Int) : Array Value := ([x, y] ++ tl 12 4 l ++ tl 12 4 n).toArray
theorem built78 : (Tryz.prog).built 78 [(0, .agg (ta 12 4 [])), (1, .agg (ta 12 4 []))] = some (tb [] []) := by kernel_rfl
theorem built80 (a b : Option Addr) : (Tryz.prog).built 80 [(0, .agg #[.pointer a, .pointer b]), (1, .agg (tb [] []))] = some (pc (.pointer a) (.pointer b) [] []) := by kernel_rfl
set_option maxRecDepth 100000 in
theorem wl_build78 {ops : Array Oper} {rest : List Oper} {dst : Option Tmp} {ty : TypeId} {pos : String} {after : Array Edge} {a : Act} {w : World} {Q : Exit → Act → World → Prop} {x y : Operand}
    (hx : a.eval x = .agg (ta 12 4 [])) (hy : a.eval y = .agg (ta 12 4 []))
    (h : wpList Tryz.prog ops Q rest (a.put dst (.agg (tb [] []))) w) : wpList Tryz.prog ops Q (⟨dst, .build 78 #[(0, x), (1, y)], ty, pos, after, none⟩ :: rest) a w := by
  refine wpList_plain rfl fun K' hK' => wp_build 78 #[(0, x), (1, y)] rfl ?_ ?_
  · simp only [List.map_toArray, List.map_cons, List.map_nil, hx, hy, built78]; rfl
  · simp only [List.map_toArray, List.map_cons, List.map_nil, hx, hy, built78]; exact hK' _ _ h
set_option maxRecDepth 100000 in
theorem wl_build80 {ops : Array Oper} {rest : List Oper} {dst : Option Tmp} {ty : TypeId} {pos : String} {after : Array Edge} {a : Act} {w : World} {Q : Exit → Act → World → Prop} {x y : Operand} (p q : Option Addr)
    (hx : a.eval x = .agg #[.pointer p, .pointer q]) (hy : a.eval y = .agg (tb [] []))
    (h : wpList Tryz.prog ops Q rest (a.put dst (.agg (pc (.pointer p) (.pointer q) [] []))) w) : wpList Tryz.prog ops Q (⟨dst, .build 80 #[(0, x), (1, y)], ty, pos, after, none⟩ :: rest) a w := by
  refine wpList_plain rfl fun K' hK' => wp_build 80 #[(0, x), (1, y)] rfl ?_ ?_
  · simp only [List.map_toArray, List.map_cons, List.map_nil, hx, hy, built80]; rfl
  · simp only [List.map_toArray, List.map_cons, List.map_nil, hx, hy, built80]; exact hK' _ _ h
theorem info_dev : ∃ j, (Tryz.prog).info? 91 = some j ∧ j.size ≠ 0 := by
  have : ((Tryz.prog).info? 91).any (fun j => decide (j.size ≠ 0)) = true := by kernel_rfl
  cases h : (Tryz.prog).info? 91 with
  | none => rw [h] at this; cases this
  | some j => rw [h] at this; exact ⟨j, rfl, by simpa using this⟩
theorem eq_dev {w : World} {pa pb sa sb : Nat} {ca cb : Value} {Da Db : Dv} (ha : DevAt w pa sa ca Da) (hb : DevAt w pb sb cb Db) (hab : pa ≠ pb) : (binOp .eql 23 (.pointer (some ⟨pa, 0, none⟩)) (.pointer (some ⟨pb, 0, none⟩))).run Tryz.prog w = .ok (.bool false) w := by
  obtain ⟨j, h1, h2⟩ := info_dev
  exact run_eql_ptr_other w Tryz.underlying23 h1 h2 (fun e => hab (by injection e)) ha.main hb.main
theorem same_dev (w : World) (pa : Nat) : (binOp .eql 23 (.pointer (some ⟨pa, 0, none⟩)) (.pointer (some ⟨pa, 0, none⟩))).run Tryz.prog w = .ok (.bool true) w := by
  obtain ⟨j, h1, h2⟩ := info_dev
  exact run_eql_ptr_same w ⟨pa, 0, none⟩ Tryz.underlying23 h1
def pdOf (a b : Nat) : Nat → Nat := fun s => if s = 0 then a else b
set_option maxHeartbeats 1000000 in
set_option maxRecDepth 100000 in
theorem join_ok {pa pb sa sb : Nat} {ca cb : Value} {Da Db : Dv} {w : World} (ha : DevAt w pa sa ca Da) (hb : DevAt w pb sb cb Db) (hab : pa ≠ pb) (na : (Da.n : Int) = 20) (za : (Da.size : Int) = 128) (nb : (Db.n : Int) = 20) (zb : (Db.size : Int) = 128) :
    Calls Tryz.prog 47 #[.pointer (some ⟨pa, 0, none⟩), .pointer (some ⟨pb, 0, none⟩), .int .i64 4] w fun e w' => ∃ q, e = .returned (.tuple #[.pointer (some ⟨q, 0, none⟩), .int .i64 0]) ∧ w.heap.size ≤ q ∧ PB w' q (pdOf pa pb) (fun _ => []) ∧ Below w.heap.size w w' := by
  have HA := Lib.hid ha
  have HB := Lib.hid hb
  have HAB := Lib.hid hab
  have HS := Lib.hid (And.intro na (And.intro za (And.intro nb zb)))
  have HBL := Lib.hid (show blN 20 128 4 = 12 from by decide)
  clear ha hb na za nb zb hab
  go_enter Tryz.func47, Tryz.ntmps47
  go_wp2_with fail
  refine (shape_l _ HA.out 20 128 HS.out.1 HS.out.2.1).mono ?_
  rintro e w1 ⟨rfl, hb1⟩
  have HA1 := Lib.hid (HA.out.below hb1 (Nat.le_refl _))
  have HB1 := Lib.hid (HB.out.below hb1 (Nat.le_refl _))
  have HW1 := Lib.hid hb1
  clear hb1 HA HB
  go_wp2_with fail
  refine (blocks_any 20 128 4 _).mono ?_
  rintro e w2 ⟨rfl, hb⟩
  rw [HBL.out]
  have HA2 := Lib.hid (HA1.out.below hb (Nat.le_refl _))
  have HB2 := Lib.hid (HB1.out.below hb (Nat.le_refl _))
  have HW2 := Lib.hid (b_on HW1.out hb)
  clear hb HA1 HB1 HW1
  go_wp2_with fail
  refine (shape_l _ HA2.out 20 128 HS.out.1 HS.out.2.1).mono ?_
  rintro e w3 ⟨rfl, hb⟩
  have HA3 := Lib.hid (HA2.out.below hb (Nat.le_refl _))
  have HB3 := Lib.hid (HB2.out.below hb (Nat.le_refl _))
  have HW3 := Lib.hid (b_on HW2.out hb)
  clear hb HA2 HB2 HW2
  go_wp2_with fail
  refine (shape_l _ HB3.out 20 128 HS.out.2.2.1 HS.out.2.2.2).mono ?_
  rintro e w4 ⟨rfl, hb⟩
  have HW4 := Lib.hid (b_on HW3.out hb)
  have heq := eq_dev (HA3.out.below hb (Nat.le_refl _)) (HB3.out.below hb (Nat.le_refl _)) HAB.out
  clear hb HA3 HB3 HW3
  go_wp2_with fail
  clear heq
  refine (new_any 12 4 _).mono ?_
  rintro e w5 ⟨rfl, hb⟩
  rw [show nwN 12 4 = 12 from by decide, show nwK 12 4 = 4 from by decide, show nwE 12 4 = 0 from by decide]
  have HW5 := Lib.hid (b_on HW4.out hb)
  clear hb HW4
  have hT := TAt.made w5 12 4 []
  have HW6 := Lib.hid (b_nw HW5.out (.cells (ta 12 4 []) 35))
  have hld := hT.ld
  clear hT
  go_wp2_with (first | with_reducible refine wl_alloc ?_ | with_reducible refine wl_build78 rfl rfl ?_ | with_reducible refine wl_build80 _ _ rfl rfl ?_)
  have HP := Lib.hid (show PB (((w5.alloc (.cells (ta 12 4 []) 35)).alloc (.cells (pc (.pointer (some ⟨pa, 0, none⟩)) (.pointer (some ⟨pb, 0, none⟩)) [] []) 80))) (w5.heap.size + 1) (pdOf pa pb) (fun _ => []) from by
    have := Has.new (w5.alloc (.cells (ta 12 4 []) 35)) ([.pointer (some ⟨pa, 0, none⟩), .pointer (some ⟨pb, 0, none⟩)] ++ tl 12 4 [] ++ tl 12 4 []) 80
    rw [show (w5.alloc (.cells (ta 12 4 []) 35)).heap.size = w5.heap.size + 1 by simp] at this
    exact this)
  go_ret2
  exact ⟨w5.heap.size + 1, rfl, by have := HW5.out.size; omega, HP.out, b_nw HW6.out _⟩
set_option maxHeartbeats 1000000 in
set_option maxRecDepth 100000 in
theorem join_same {pa sa : Nat} {ca : Value} {Da : Dv} {w : World} (ha : DevAt w pa sa ca Da) (na : (Da.n : Int) = 20) (za : (Da.size : Int) = 128) :
    Calls Tryz.prog 47 #[.pointer (some ⟨pa, 0, none⟩), .pointer (some ⟨pa, 0, none⟩), .int .i64 4] w fun e w' => e = .returned (.tuple #[.pointer none, .int .i64 2]) ∧ Below w.heap.size w w' := by
  have HA := Lib.hid ha
  have HS := Lib.hid (And.intro na za)
  have HBL := Lib.hid (show blN 20 128 4 = 12 from by decide)
  clear ha na za
  go_enter Tryz.func47, Tryz.ntmps47
  go_wp2_with fail
  refine (shape_l _ HA.out 20 128 HS.out.1 HS.out.2).mono ?_
  rintro e w1 ⟨rfl, hb1⟩
  have HA1 := Lib.hid (HA.out.below hb1 (Nat.le_refl _))
  have HW1 := Lib.hid hb1
  clear hb1 HA
  go_wp2_with fail
  refine (blocks_any 20 128 4 _).mono ?_
  rintro e w2 ⟨rfl, hb⟩
  rw [HBL.out]
  have HA2 := Lib.hid (HA1.out.below hb (Nat.le_refl _))
  have HW2 := Lib.hid (b_on HW1.out hb)
  clear hb HA1 HW1
  go_wp2_with fail
  refine (shape_l _ HA2.out 20 128 HS.out.1 HS.out.2).mono ?_
  rintro e w3 ⟨rfl, hb⟩
  have HA3 := Lib.hid (HA2.out.below hb (Nat.le_refl _))
  have HW3 := Lib.hid (b_on HW2.out hb)
  clear hb HA2 HW2
  go_wp2_with fail
  refine (shape_l _ HA3.out 20 128 HS.out.1 HS.out.2).mono ?_
  rintro e w4 ⟨rfl, hb⟩
  have HW4 := Lib.hid (b_on HW3.out hb)
  have heq := same_dev w4 pa
  clear hb HA3 HW3
  go_wp2_with fail
  go_ret2
  exact ⟨rfl, HW4.out⟩
set_option maxHeartbeats 1000000 in
set_option maxRecDepth 100000 in
theorem join_unlike {pa pb sa sb : Nat} {ca cb : Value} {Da Db : Dv} {w : World} (ha : DevAt w pa sa ca Da) (hb : DevAt w pb sb cb Db) (na : (Da.n : Int) = 20) (za : (Da.size : Int) = 128) (nb : (Db.n : Int) = 21) (zb : (Db.size : Int) = 128) :
    Calls Tryz.prog 47 #[.pointer (some ⟨pa, 0, none⟩), .pointer (some ⟨pb, 0, none⟩), .int .i64 4] w fun e w' => e = .returned (.tuple #[.pointer none, .int .i64 2]) ∧ Below w.heap.size w w' := by
  have HA := Lib.hid ha
  have HB := Lib.hid hb
  have HS := Lib.hid (And.intro na (And.intro za (And.intro nb zb)))
  have HBL := Lib.hid (show blN 20 128 4 = 12 from by decide)
  clear ha hb na za nb zb
  go_enter Tryz.func47, Tryz.ntmps47
  go_wp2_with fail
  refine (shape_l _ HA.out 20 128 HS.out.1 HS.out.2.1).mono ?_
  rintro e w1 ⟨rfl, hb1⟩
  have HA1 := Lib.hid (HA.out.below hb1 (Nat.le_refl _))
  have HB1 := Lib.hid (HB.out.below hb1 (Nat.le_refl _))
  have HW1 := Lib.hid hb1
  clear hb1 HA HB
  go_wp2_with fail
  refine (blocks_any 20 128 4 _).mono ?_
  rintro e w2 ⟨rfl, hb⟩
  rw [HBL.out]
  have HA2 := Lib.hid (HA1.out.below hb (Nat.le_refl _))
  have HB2 := Lib.hid (HB1.out.below hb (Nat.le_refl _))
  have HW2 := Lib.hid (b_on HW1.out hb)
  clear hb HA1 HB1 HW1
  go_wp2_with fail
  refine (shape_l _ HA2.out 20 128 HS.out.1 HS.out.2.1).mono ?_
  rintro e w3 ⟨rfl, hb⟩
  have HB3 := Lib.hid (HB2.out.below hb (Nat.le_refl _))
  have HW3 := Lib.hid (b_on HW2.out hb)
  clear hb HA2 HB2 HW2
  go_wp2_with fail
  refine (shape_l _ HB3.out 21 128 HS.out.2.2.1 HS.out.2.2.2).mono ?_
  rintro e w4 ⟨rfl, hb⟩
  have HW4 := Lib.hid (b_on HW3.out hb)
  clear hb HB3 HW3
  go_wp2_with fail
  go_ret2
  exact ⟨rfl, HW4.out⟩
theorem join_nil (v : Option Addr) (w : World) : Calls Tryz.prog 47 #[.pointer none, .pointer v, .int .i64 4] w fun e w' => e = .returned (.tuple #[.pointer none, .int .i64 1]) ∧ w = w' := by
  go_enter Tryz.func47, Tryz.ntmps47
  go_wp2
  go_ret2
  exact ⟨rfl, rfl⟩
/-! ### a table is stored into the pair -/
def prow (pd : Nat → Nat) (m : Nat → List Int) : Array Value := ([Value.pointer (some ⟨pd 0, 0, none⟩), Value.pointer (some ⟨pd 1, 0, none⟩)] ++ tl 12 4 (m 0) ++ tl 12 4 (m 1)).toArray
theorem PB.st {w : World} {q : Nat} {pd : Nat → Nat} {m : Nat → List Int} (h : PB w q pd m) {s : Nat} (hs : s < 2) (l : List Int) : (storeCells ⟨q, 2 + 35 * s, none⟩ (ta 12 4 l).toList 0).run Tryz.prog w = .ok () (w.setRow q (prow pd (upd m s l))) := by
  have hone : ∀ v ∈ tl 12 4 l, v.oneCell' = true := fun v hv => by
    have := ta_one 12 4 l
    rw [Array.all_eq_true] at this
    obtain ⟨i, hi, rfl⟩ := List.mem_iff_getElem.1 hv
    have := this i (by simpa [ta] using hi)
    simpa [ta] using this
  have := run_storeCells_at (P := Tryz.prog) q (2 + 35 * s) 80 (tl 12 4 l) 0 (prow pd m) w h (by
    have : (prow pd m).size = 72 := by unfold prow; simp [tl_length]
    rw [this, tl_length]; omega) hone
  rw [show (ta 12 4 l).toList = tl 12 4 l from rfl, this]
  congr 2
  rcases (show s = 0 ∨ s = 1 by omega) with rfl | rfl
  · unfold prow
    rw [upd_same, upd_ne _ _ (by omega)]
    congr 1
  · unfold prow
    rw [upd_same, upd_ne _ _ (by omega)]
    congr 1
theorem PB.put {w : World} {q : Nat} {pd : Nat → Nat} {m : Nat → List Int} (h : PB w q pd m) (m' : Nat → List Int) : PB (w.setRow q (prow pd m')) q pd m' := setRow_heap w q _ _ _ _ h
/-- .. and the rest of the world stays -/
theorem CPe.put {w0 w : World} {X : List Nat} {q : Nat} {pd : Nat → Nat} {m : Nat → List Int} {D : Nat → Dv} (h : CPe w0 X q pd m D w) (m' : Nat → List Int) : CPe w0 X q pd m' D (w.setRow q (prow pd m')) ∧ Same X w (w.setRow q (prow pd m')) := by
  have hc := chg_row (R := fun k => k = q) w q (prow pd m') rfl
  obtain ⟨⟨sb, cv, hd, hf, hff⟩, hp, hq, hx, hb⟩ := h
  refine ⟨⟨⟨sb, cv, fun s h2 => (hd s h2).chg hc fun k hk => (hf s h2 k hk).2.2, hf, hff⟩, hp.put m', hq, fun k hk => ⟨(hx k hk).1, Nat.lt_of_lt_of_le (hx k hk).2 hc.size⟩, hb.trans (hc.below hb.size fun k hk => by rw [hk]; exact hq.1)⟩, fun k hk => setRow_other _ _ _ _ fun e => hq.2 (e ▸ hk)⟩
end Go.Proofs.YtpdickpipdaphaaGreatDoor.Rem

/- Layer 7 (remap): Format, Open. -/
namespace Go.Proofs.YtpdickpipdaphaaGreatDoor.Rem
open Go Go.RowKit Go.Proofs.YtpdickpipdaphaaGreatDoor Dev Tab
set_option linter.unusedVariables false

section
variable {w0 w : World} {X : List Nat} {pd : Nat → Nat} {D : Nat → Dv}
/-- two devices apart, from w0's end on, and none of it in X; X lies there, too -/
structure Dvs (w0 : World) (X : List Nat) (pd : Nat → Nat) (D : Nat → Dv) (w : World) : Prop where
  some_ : ∃ (sb : Nat → Nat) (cv : Nat → Value), (∀ s, s < 2 → DevAt w (pd s) (sb s) (cv s) (D s)) ∧
    (∀ s, s < 2 → ∀ k, foot (pd s) (sb s) (cv s) k → w0.heap.size ≤ k ∧ k ∉ X) ∧ (∀ k, foot (pd 0) (sb 0) (cv 0) k → ¬ foot (pd 1) (sb 1) (cv 1) k)
  x : ∀ k ∈ X, w0.heap.size ≤ k ∧ k < w.heap.size
  below : Below w0.heap.size w0 w
theorem CPe.dvs {q : Nat} {m : Nat → List Int} (h : CPe w0 X q pd m D w) : Dvs w0 (q :: X) pd D w := by
  have hl := h.lt
  obtain ⟨⟨sb, cv, hd, hf, hff⟩, hp, hq, hx, hb⟩ := h
  refine ⟨⟨sb, cv, hd, fun s hs k hk => ⟨(hf s hs k hk).1, fun he => ?_⟩, hff⟩, fun k hk => ?_, hb⟩
  · rcases List.mem_cons.1 he with rfl | he
    · exact (hf s hs _ hk).2.2 rfl
    · exact (hf s hs k hk).2.1 he
  · rcases List.mem_cons.1 hk with rfl | hk
    · exact ⟨hq.1, hl⟩
    · exact hx k hk
theorem Dvs.pair (h : Dvs w0 X pd D w) {w' : World} (hb : Below w.heap.size w w') {q : Nat} (hq : w.heap.size ≤ q) {m : Nat → List Int} (hp : PB w' q pd m) : CPe w0 X q pd m D w' := by
  obtain ⟨⟨sb, cv, hd, hf, hff⟩, hx, hb0⟩ := h
  refine ⟨⟨sb, cv, fun s hs => (hd s hs).below hb (Nat.le_refl _), fun s hs k hk => ⟨(hf s hs k hk).1, (hf s hs k hk).2, fun e => ?_⟩, hff⟩, hp, ⟨Nat.le_trans hb0.size hq, fun e => ?_⟩, fun k hk => ⟨(hx k hk).1, Nat.lt_of_lt_of_le (hx k hk).2 hb.size⟩, hb0.trans (hb.mono hb0.size)⟩
  · have := (hd s hs).lt k hk; omega
  · have := (hx q e).2; omega
theorem Dvs.ne (h : Dvs w0 X pd D w) : pd 0 ≠ pd 1 := fun e => by
  obtain ⟨⟨sb, cv, hd, hf, hff⟩, hx, hb0⟩ := h
  exact hff (pd 0) (.inl rfl) (.inl e)
theorem Dvs.later (h : Dvs w0 X pd D w) {w' : World} (hb : Below w.heap.size w w') : Dvs w0 X pd D w' := by
  obtain ⟨⟨sb, cv, hd, hf, hff⟩, hx, hb0⟩ := h
  exact ⟨⟨sb, cv, fun s hs => (hd s hs).below hb (Nat.le_refl _), hf, hff⟩, fun k hk => ⟨(hx k hk).1, Nat.lt_of_lt_of_le (hx k hk).2 hb.size⟩, hb0.trans (hb.mono hb0.size)⟩
theorem Dvs.same (h : Dvs w0 X pd D w) {w' : World} (hb : Below w.heap.size w w') : Same X w w' := fun k hk => hb.block k (h.x k hk).2
/-- of 20 sectors of 128 bytes -/
def Sz (D : Nat → Dv) : Prop := ∀ s, s < 2 → ((D s).n : Int) = 20 ∧ ((D s).size : Int) = 128 ∧ (D s).cache.length ≤ 1000000
end
/-- a pair, where there is no error -/
def ptV (E : Int) (q : Nat) : Value := .pointer (if E = 0 then some ⟨q, 0, none⟩ else none)
set_option maxHeartbeats 1000000 in
set_option maxRecDepth 100000 in
theorem format_e {w0 w : World} {X : List Nat} {pa pb : Nat} {D : Nat → Dv} (h : Dvs w0 X (pdOf pa pb) D w) (hz : Sz D) :
    Calls Tryz.prog 28 #[.pointer (some ⟨pa, 0, none⟩), .pointer (some ⟨pb, 0, none⟩), .int .i64 4] w fun e w' => ∃ q, e = .returned (.tuple #[ptV (kbE D (fun _ => [])) q, .int .i64 (kbE D (fun _ => []))]) ∧ w.heap.size ≤ q ∧ CPe w0 X q (pdOf pa pb) (fun _ => []) (kbD D (fun _ => [])) w' ∧ Same X w w' := by
  have HD := Lib.hid h
  have HZ := Lib.hid hz
  obtain ⟨E, hE⟩ : ∃ E, E = kbE D (fun _ => []) := ⟨_, rfl⟩
  have HE := Lib.hid hE
  rw [← hE]
  clear h hz hE
  go_enter Tryz.func28, Tryz.ntmps28
  go_wp2_with fail
  obtain ⟨sb, cv, hd, -, -⟩ := HD.out.some_
  refine (join_ok (hd 0 (by omega)) (hd 1 (by omega)) HD.out.ne (HZ.out 0 (by omega)).1 (HZ.out 0 (by omega)).2.1 (HZ.out 1 (by omega)).1 (HZ.out 1 (by omega)).2.1).mono ?_
  rintro e w1 ⟨q, rfl, hq, hp, hb⟩
  have HC := Lib.hid (HD.out.pair hb hq hp)
  have HS := Lib.hid (HD.out.same hb)
  have HQ := Lib.hid hq
  clear hq hp hb hd
  go_wp2_with fail
  refine (keepBoth_e HC.out (fun s hs => Tab.Good.nil (by decide)) (fun s hs => by have := (HZ.out s hs).2.1; omega) (fun t ht => (HZ.out t ht).2.2)).mono ?_
  rintro e w2 ⟨rfl, hc, hsm⟩
  rw [← HE.out]
  have HC2 := Lib.hid hc
  have HS2 := Lib.hid (HS.out.trans (fun k hk => hsm k (List.mem_cons_of_mem _ hk) : Same X w1 w2))
  clear hc hsm HC
  by_cases h0 : E = 0
  · subst h0
    go_wp2_with fail
    go_ret2
    exact ⟨q, rfl, HQ.out, HC2.out, HS2.out⟩
  · go_wp2_with fail
    go_ret2
    exact ⟨q, by unfold ptV; rw [if_neg h0]; rfl, HQ.out, HC2.out, HS2.out⟩
set_option maxHeartbeats 1000000 in
set_option maxRecDepth 100000 in
theorem format_same {w : World} {pa sa : Nat} {ca : Value} {Da : Dv} (ha : DevAt w pa sa ca Da) (na : (Da.n : Int) = 20) (za : (Da.size : Int) = 128) :
    Calls Tryz.prog 28 #[.pointer (some ⟨pa, 0, none⟩), .pointer (some ⟨pa, 0, none⟩), .int .i64 4] w fun e w' => e = .returned (.tuple #[.pointer none, .int .i64 2]) ∧ Below w.heap.size w w' := by
  have HA := Lib.hid (And.intro ha (And.intro na za))
  clear ha na za
  go_enter Tryz.func28, Tryz.ntmps28
  go_wp2_with fail
  refine (join_same HA.out.1 HA.out.2.1 HA.out.2.2).mono ?_
  rintro e w1 ⟨rfl, hb⟩
  go_wp2
  go_ret2
  exact ⟨rfl, hb⟩
set_option maxHeartbeats 1000000 in
set_option maxRecDepth 100000 in
theorem format_unlike {w : World} {pa pb sa sb : Nat} {ca cb : Value} {Da Db : Dv} (ha : DevAt w pa sa ca Da) (hb : DevAt w pb sb cb Db) (na : (Da.n : Int) = 20) (za : (Da.size : Int) = 128) (nb : (Db.n : Int) = 21) (zb : (Db.size : Int) = 128) :
    Calls Tryz.prog 28 #[.pointer (some ⟨pa, 0, none⟩), .pointer (some ⟨pb, 0, none⟩), .int .i64 4] w fun e w' => e = .returned (.tuple #[.pointer none, .int .i64 2]) ∧ Below w.heap.size w w' := by
  have HA := Lib.hid (And.intro ha (And.intro na za))
  have HB := Lib.hid (And.intro hb (And.intro nb zb))
  clear ha na za hb nb zb
  go_enter Tryz.func28, Tryz.ntmps28
  go_wp2_with fail
  refine (join_unlike HA.out.1 HB.out.1 HA.out.2.1 HA.out.2.2 HB.out.2.1 HB.out.2.2).mono ?_
  rintro e w1 ⟨rfl, hb⟩
  go_wp2
  go_ret2
  exact ⟨rfl, hb⟩
theorem format_nil (v : Option Addr) (w : World) : Calls Tryz.prog 28 #[.pointer none, .pointer v, .int .i64 4] w fun e w' => e = .returned (.tuple #[.pointer none, .int .i64 1]) ∧ w = w' := by
  go_enter Tryz.func28, Tryz.ntmps28
  go_wp2_with fail
  refine (join_nil v _).mono ?_
  rintro e w1 ⟨rfl, rfl⟩
  go_wp2
  go_ret2
  exact ⟨rfl, rfl⟩
/-! ### Open -/
theorem PB.st0 {w : World} {q : Nat} {pd : Nat → Nat} {m : Nat → List Int} (h : PB w q pd m) (l : List Int) : (storeCells ⟨q, 2, none⟩ (ta 12 4 l).toList 0).run Tryz.prog w = .ok () (w.setRow q (prow pd (upd m 0 l))) := h.st (s := 0) (by omega) l
theorem PB.st1 {w : World} {q : Nat} {pd : Nat → Nat} {m : Nat → List Int} (h : PB w q pd m) (l : List Int) : (storeCells ⟨q, 37, none⟩ (ta 12 4 l).toList 0).run Tryz.prog w = .ok () (w.setRow q (prow pd (upd m 1 l))) := h.st (s := 1) (by omega) l
/-- behind r sides -/
def opnM (D : Nat → Dv) (r : Nat) : Nat → List Int := fun s => if s < r then (bst D s 4).getD [] else []
theorem opnM_zero (D : Nat → Dv) : opnM D 0 = fun _ => [] := by funext s; unfold opnM; rw [if_neg (by omega)]
theorem opnM_succ (D : Nat → Dv) (r : Nat) {l : List Int} (h : bst D r 4 = some l) : upd (opnM D r) r l = opnM D (r + 1) := by
  funext s
  by_cases e : s = r
  · subst e; rw [upd_same]; show l = if s < s + 1 then (bst D s 4).getD [] else []; rw [if_pos (by omega), h]; rfl
  · rw [upd_ne _ _ e]
    show (if s < r then (bst D s 4).getD [] else []) = if s < r + 1 then (bst D s 4).getD [] else []
    by_cases e2 : s < r
    · rw [if_pos e2, if_pos (by omega)]
    · rw [if_neg e2, if_neg (by omega)]
theorem EqR.bst {D E : Nat → Dv} (h : EqR D E) (s : Nat) : ∀ r, bst E s r = bst D s r
  | 0 => rfl
  | r + 1 => by rw [bst_succ, bst_succ, h.bst s r, h.rdT]
/-- what Open answers -/
def opE2 (D : Nat → Dv) : Int := if (bst D 0 4).isSome = true ∧ (bst D 1 4).isSome = true then 0 else 10
set_option maxHeartbeats 2000000 in
set_option maxRecDepth 100000 in
theorem open_e {w0 w : World} {X : List Nat} {pa pb : Nat} {D : Nat → Dv} (h : Dvs w0 X (pdOf pa pb) D w) (hz : Sz D) (ho : ∀ s, s < 2 → (D s).off = false) :
    Calls Tryz.prog 19 #[.pointer (some ⟨pa, 0, none⟩), .pointer (some ⟨pb, 0, none⟩), .int .i64 4] w fun e w' => ∃ q E m, e = .returned (.tuple #[ptV (opE2 D) q, .int .i64 (opE2 D)]) ∧ (opE2 D = 0 → m = opnM D 2) ∧ w.heap.size ≤ q ∧ EqR D E ∧ CPe w0 X q (pdOf pa pb) m E w' ∧ Same X w w' := by
  have HD := Lib.hid h
  have HZ := Lib.hid hz
  have HO := Lib.hid ho
  obtain ⟨E0, hE⟩ : ∃ E0, E0 = opE2 D := ⟨_, rfl⟩
  have HE := Lib.hid hE
  rw [← hE]
  clear h hz ho hE
  go_enter Tryz.func19, Tryz.ntmps19
  go_wp2_with fail
  obtain ⟨sb, cv, hd, -, -⟩ := HD.out.some_
  refine (join_ok (hd 0 (by omega)) (hd 1 (by omega)) HD.out.ne (HZ.out 0 (by omega)).1 (HZ.out 0 (by omega)).2.1 (HZ.out 1 (by omega)).1 (HZ.out 1 (by omega)).2.1).mono ?_
  rintro e w1 ⟨q, rfl, hq, hp, hb⟩
  have HC := Lib.hid (HD.out.pair hb hq hp)
  have HS := Lib.hid (HD.out.same hb)
  have HQ := Lib.hid hq
  clear hq hp hb hd
  go_wp2_with fail
  obtain ⟨sb, cv, hd, -, -⟩ := HC.out.some_
  refine (off_any _ (hd 0 (by omega))).mono ?_
  rintro e w' ⟨rfl, rfl⟩
  rw [HO.out 0 (by omega)]
  go_wp2_with fail
  refine (off_any _ (hd 1 (by omega))).mono ?_
  rintro e w' ⟨rfl, rfl⟩
  rw [HO.out 1 (by omega)]
  have hld := HC.out.pb.ldd
  clear hd
  go_wp2_with fail
  clear hld
  go_loopw [34] (fun i wr => ∃ (r : Nat) (E : Nat → Dv), r ≤ 2 ∧ i = .int .i64 r ∧ (∀ s, s < r → (bst D s 4).isSome = true) ∧ EqR D E ∧ CPe w0 X q (pdOf pa pb) (opnM D r) E wr ∧ Same X w wr) (fun i _ => 2 - (intOf i).toNat)
  case atStart => exact ⟨0, D, by omega, rfl, fun s hs => by omega, EqR.refl D, by rw [opnM_zero]; exact HC.out, HS.out⟩
  case round =>
    obtain ⟨r, E, hr, rfl, hn, hq, hc, hsm⟩ := hrel
    clear HC HS
    have HC := Lib.hid hc
    have HN := Lib.hid hn
    have HQE := Lib.hid hq
    have HS := Lib.hid hsm
    clear hc hn hq hsm
    by_cases h2 : r = 2
    · subst h2
      have HE0 := Lib.hid (show E0 = 0 by rw [HE.out]; unfold opE2; rw [if_pos ⟨HN.out 0 (by omega), HN.out 1 (by omega)⟩])
      go_wp2_with fail
      go_ret2
      exact ⟨q, E, opnM D 2, by rw [HE0.out]; rfl, fun _ => rfl, HQ.out, HQE.out, HC.out, HS.out⟩
    · have hr2 : r < 2 := by omega
      have HR := Lib.hid hr2
      have hi0 := ix_0 [] []
      have hi1 := ix_1 [] []
      obtain ⟨rr, hrr⟩ : ∃ rr, rr = r := ⟨_, rfl⟩
      have HRR := Lib.hid hrr
      have hld := (TAt.made wr 12 4 []).ld
      obtain ⟨F, hF⟩ : ∃ F, F = (bst D rr 4).isSome := ⟨_, rfl⟩
      have HF := Lib.hid hF
      clear hr h2 hrr hF
      rcases (show r = 0 ∨ r = 1 by omega) with rfl | rfl
      all_goals
        clear hr2
        first
        | rw [show ((0 : Nat) : Int) = 0 from rfl]
        | rw [show ((1 : Nat) : Int) = 1 from rfl]
        go_wp2_with (first | with_reducible refine wl_alloc ?_)
        clear hi0 hi1 hld
        refine (newest_e (HC.out.later (b_new wr (.cells (ta 12 4 []) 35))) HR.out (fun t ht => by rw [HQE.out.cache]; have := (HZ.out t ht).2.2; omega)).mono ?_
        rintro e w2 ⟨x, y, M, E2, rfl, his, heq, hc, hsm⟩
        rw [HQE.out.bst] at his ⊢
        have HC2 := Lib.hid (hc.later (b_new w2 (.cells (ta x y M) 35)))
        have HQ2 := Lib.hid (HQE.out.trans heq)
        have HS2 := Lib.hid (show Same X w (w2.alloc (.cells (ta x y M) 35)) from fun k hk => (Below.heap_alloc _ _ _ (hc.x k hk).2).trans ((hsm k (List.mem_cons_of_mem _ hk)).trans ((Below.heap_alloc _ _ _ (HC.out.x k hk).2).trans (HS.out k hk))))
        have HI := Lib.hid his
        have hl2 := (TAt.made w2 x y M).ld
        clear his heq hc hsm HC HS HQE
        cases F with
        | false =>
          have HF2 := Lib.hid (show (bst D rr 4).isSome = false from HF.out.symm)
          rw [HRR.out] at HF2
          have HE0 := Lib.hid (show E0 = 10 by
            rw [HE.out]; unfold opE2
            refine if_neg fun h => ?_
            first
            | (have := HF2.out; rw [h.1] at this; cases this)
            | (have := HF2.out; rw [h.2] at this; cases this))
          rw [HF2.out]
          go_wp2_with (first | with_reducible refine wl_alloc ?_)
          go_ret2
          exact ⟨q, E2, _, by rw [HE0.out]; rfl, (fun h => by rw [HE0.out] at h; cases h), HQ.out, HQ2.out, HC2.out, HS2.out⟩
        | true =>
          have HF2 := Lib.hid (show (bst D rr 4).isSome = true from HF.out.symm)
          rw [HRR.out] at HF2
          obtain ⟨l, hl⟩ := Option.isSome_iff_exists.1 HF2.out
          obtain ⟨hx, hy, hM⟩ := HI.out l hl
          subst hx; subst hy; subst hM
          have HLL := Lib.hid hl
          rw [HF2.out]
          have HCd := Lib.hid (HC2.out.later (Below.refl _ _).drew)
          have hl3 := ((TAt.made w2 12 4 M).on (Below.refl _ _).drew).ld
          have hsucc := opnM_succ D _ hl
          first
          | (have hst := HCd.out.pb.st0 M; rw [hsucc] at hst)
          | (have hst := HCd.out.pb.st1 M; rw [hsucc] at hst)
          clear hsucc
          have HPUT := Lib.hid (fun m' => HCd.out.put m')
          clear HI hl
          go_wp2_with (first | with_reducible refine wl_alloc ?_)
          refine Reg.still_tail 6 (by kernel_rfl) (by kernel_rfl) ?_
          simp only [List.take_succ_cons, List.take_zero, List.drop_succ_cons, List.drop_zero]
          repeat still_step
          try refine wpStill_nil ?_
          go_wp2_with fail
          have hsd : Same X (w2.alloc (.cells (ta 12 4 M) 35)) (w2.alloc (.cells (ta 12 4 M) 35)).drew := fun _ _ => rfl
          have hsome : ∀ s, s < rr + 1 → (bst D s 4).isSome = true := fun s hs => by
            by_cases e : s = rr
            · rw [e]; exact HF.out.symm
            · exact HN.out s (by have := HRR.out; omega)
          rw [HRR.out] at hsome
          first
          | (have h01 : rr = 0 := HRR.out
             exact ⟨⟨0 + 1, E2, by omega, by go_num, hsome, HQ2.out, (HPUT.out _).1, HS2.out.trans (hsd.trans (HPUT.out _).2)⟩, by simp [intOf]⟩)
          | (have h01 : rr = 1 := HRR.out
             exact ⟨⟨1 + 1, E2, by omega, by go_num, hsome, HQ2.out, (HPUT.out _).1, HS2.out.trans (hsd.trans (HPUT.out _).2)⟩, by simp [intOf]⟩)
end Go.Proofs.YtpdickpipdaphaaGreatDoor.Rem

/- Layer 7 (remap): Device, Table, Alive, Read, Move, Flush, over devices as plain data. -/
namespace Go.Proofs.YtpdickpipdaphaaGreatDoor.Rem
open Go Go.RowKit Go.Proofs.YtpdickpipdaphaaGreatDoor Dev Tab
set_option linter.unusedVariables false

theorem refR_ok {s : Nat} (hs : s < 2) : refR (s : Nat) = 0 := by
  rcases (show s = 0 ∨ s = 1 by omega) with rfl | rfl <;> rfl
theorem refR_no {s : Int} (hs : s < 0 ∨ 1 < s) : refR s = 2 := by
  unfold refR sideB
  rw [if_neg]
  simp; omega
section
variable {w0 w : World} {X : List Nat} {q : Nat} {pd : Nat → Nat} {m : Nat → List Int} {D : Nat → Dv} {s : Nat}
theorem device_e (h : PB w q pd m) (hs : s < 2) : Calls Tryz.prog 15 #[.pointer (some ⟨q, 0, none⟩), .int .i64 (s : Nat)] w fun e w' => e = .returned (.pointer (some ⟨pd s, 0, none⟩)) ∧ w = w' := by
  have c0 := h.dev (s := 0) (by omega)
  have c1 := h.dev (s := 1) (by omega)
  clear h
  rcases (show s = 0 ∨ s = 1 by omega) with rfl | rfl
  all_goals
    clear hs
    go_enter Tryz.func15, Tryz.ntmps15
    go_wp2_with fail
    refine (refusal_any q _ _).mono ?_
    rintro e w' ⟨rfl, rfl⟩
    rw [show refR _ = 0 from rfl]
    go_wp2
    go_ret
    exact ⟨rfl, rfl⟩
theorem device_no (q : Nat) (s : Int) (w : World) (hs : s < 0 ∨ 1 < s) : Calls Tryz.prog 15 #[.pointer (some ⟨q, 0, none⟩), .int .i64 s] w fun e w' => e = .returned (.pointer none) ∧ w = w' := by
  have HR := Lib.hid (refR_no hs)
  clear hs
  go_enter Tryz.func15, Tryz.ntmps15
  go_wp2_with fail
  refine (refusal_any q _ _).mono ?_
  rintro e w' ⟨rfl, rfl⟩
  rw [HR.out]
  go_wp2
  go_ret
  exact ⟨rfl, rfl⟩
theorem device_nil (s : Int) (w : World) : Calls Tryz.prog 15 #[.pointer none, .int .i64 s] w fun e w' => e = .returned (.pointer none) ∧ w = w' := by
  go_enter Tryz.func15, Tryz.ntmps15
  go_wp2_with fail
  refine (refusal_nil _ _).mono ?_
  rintro e w' ⟨rfl, rfl⟩
  go_wp2
  go_ret
  exact ⟨rfl, rfl⟩
set_option maxRecDepth 100000 in
theorem table_e (h : PB w q pd m) (hs : s < 2) : Calls Tryz.prog 11 #[.pointer (some ⟨q, 0, none⟩), .int .i64 (s : Nat)] w fun e w' => e = .returned (.agg (ta 12 4 (m s))) ∧ Below w.heap.size w w' := by
  have h2 := h.later (b_new w (.cells (ta 0 0 []) 35))
  have hl := h2.ld hs
  have HT := Lib.hid (TAt.made w 0 0 [])
  have s0 := HT.out.st 12 4 (m s)
  have z0 := (HT.out.put 12 4 (m s)).ld
  have HB := Lib.hid (b_row (b_new w (.cells (ta 0 0 []) 35)) (p := w.heap.size) (Nat.le_refl _) (ta 12 4 (m s)))
  obtain ⟨l, hm⟩ : ∃ l, l = m s := ⟨_, rfl⟩
  rw [World.setRow_alloc_new] at s0 z0 HB
  rw [← hm] at hl s0 z0 HB ⊢
  clear h h2 hm
  rcases (show s = 0 ∨ s = 1 by omega) with rfl | rfl
  all_goals
    clear hs
    go_enter Tryz.func11, Tryz.ntmps11
    go_wp2_with (first | with_reducible refine wl_alloc ?_)
    refine (refusal_any q _ _).mono ?_
    rintro e w' ⟨rfl, rfl⟩
    rw [show refR _ = 0 from rfl]
    go_wp2_with fail
    exact bodyPost_ret (v := .agg (ta 12 4 l)) (by simp [results, Tryz.results11, go_sem, z0]) rfl ⟨rfl, HB.out⟩
set_option maxRecDepth 100000 in
theorem table_nil (s : Int) (w : World) : Calls Tryz.prog 11 #[.pointer none, .int .i64 s] w fun e w' => e = .returned (.agg (ta 0 0 [])) ∧ Below w.heap.size w w' := by
  have HT := Lib.hid (TAt.made w 0 0 [])
  have s0 := HT.out.st 0 0 []
  have z0 := HT.out.ld
  have HB := Lib.hid (b_new w (.cells (ta 0 0 []) 35))
  rw [World.setRow_alloc_new] at s0
  go_enter Tryz.func11, Tryz.ntmps11
  go_wp2_with (first | with_reducible refine wl_alloc ?_)
  refine (refusal_nil _ _).mono ?_
  rintro e w' ⟨rfl, rfl⟩
  go_wp2_with (first | with_reducible refine wl_build0 ?_)
  exact bodyPost_ret (v := .agg (ta 0 0 [])) (by simp [results, Tryz.results11, go_sem, z0]) rfl ⟨rfl, HB.out⟩
theorem alive_e (h : CPe w0 X q pd m D w) (hs : s < 2) : Calls Tryz.prog 31 #[.pointer (some ⟨q, 0, none⟩), .int .i64 (s : Nat)] w fun e w' => e = .returned (.bool (!(D s).dead)) ∧ w = w' := by
  have HC := Lib.hid h
  obtain ⟨u, hu⟩ : ∃ u, u = (D s).dead := ⟨_, rfl⟩
  have HU := Lib.hid hu
  rw [← hu]
  clear h hu
  go_enter Tryz.func31, Tryz.ntmps31
  go_wp2_with fail
  refine (device_e HC.out.pb hs).mono ?_
  rintro e w' ⟨rfl, rfl⟩
  go_wp2_with fail
  obtain ⟨sb, cv, hd, -, -⟩ := HC.out.some_
  refine (dead_any _ (hd s hs)).mono ?_
  rintro e w' ⟨rfl, rfl⟩
  rw [← HU.out]
  clear hd
  go_wp2
  go_ret
  exact ⟨rfl, rfl⟩
theorem alive_no (q : Nat) (s : Int) (w : World) (hs : s < 0 ∨ 1 < s) : Calls Tryz.prog 31 #[.pointer (some ⟨q, 0, none⟩), .int .i64 s] w fun e w' => e = .returned (.bool false) ∧ w = w' := by
  have HS := Lib.hid hs
  clear hs
  go_enter Tryz.func31, Tryz.ntmps31
  go_wp2_with fail
  refine (device_no q s w HS.out).mono ?_
  rintro e w' ⟨rfl, rfl⟩
  go_wp2
  go_ret
  exact ⟨rfl, rfl⟩
theorem alive_nil (s : Int) (w : World) : Calls Tryz.prog 31 #[.pointer none, .int .i64 s] w fun e w' => e = .returned (.bool false) ∧ w = w' := by
  go_enter Tryz.func31, Tryz.ntmps31
  go_wp2_with fail
  refine (device_nil _ _).mono ?_
  rintro e w' ⟨rfl, rfl⟩
  go_wp2
  go_ret
  exact ⟨rfl, rfl⟩
theorem dflush_e (h : CPe w0 X q pd m D w) (hs : s < 2) (hl : (D s).cache.length ≤ 1000000) (p : Nat) (hp : p = pd s) : Calls Tryz.prog 46 #[.pointer (some ⟨p, 0, none⟩)] w fun e w' => e = .returned (.int .i64 (D s).flushE) ∧ CPe w0 X q pd m (upd D s (D s).flushD) w' ∧ Same (q :: X) w w' := by
  subst hp
  refine (h.dev (R := fun e => e = .returned (.int .i64 (D s).flushE)) (G := fun E => E = (D s).flushD) hs fun sb cv hd => (flush_any _ hd (by omega)).mono ?_).mono ?_
  · rintro e w' ⟨rfl, hn⟩
    exact ⟨rfl, _, rfl, hn⟩
  · rintro e w' ⟨rfl, E, rfl, hc, hsm⟩
    exact ⟨rfl, hc, hsm⟩
theorem dread_e (h : CPe w0 X q pd m D w) (hs : s < 2) (hl : (D s).cache.length ≤ 1000000) (i : Int) (p : Nat) (hp : p = pd s) : Calls Tryz.prog 45 #[.pointer (some ⟨p, 0, none⟩), .int .i64 i] w fun e w' => e = .returned (.tuple #[.string ((D s).readT i), .int .i64 ((D s).readE i)]) ∧ CPe w0 X q pd m (upd D s ((D s).readD i)) w' ∧ Same (q :: X) w w' := by
  subst hp
  refine (h.dev (R := fun e => e = .returned (.tuple #[.string ((D s).readT i), .int .i64 ((D s).readE i)])) (G := fun E => E = (D s).readD i) hs fun sb cv hd => (read_any i _ hd (by omega)).mono ?_).mono ?_
  · rintro e w' ⟨rfl, hch, hd'⟩
    exact ⟨rfl, _, rfl, .same hch hd'⟩
  · rintro e w' ⟨rfl, E, rfl, hc, hsm⟩
    exact ⟨rfl, hc, hsm⟩
theorem dwrite_e (h : CPe w0 X q pd m D w) (hs : s < 2) (hl : (D s).cache.length ≤ 1000000) (i : Int) (t : ByteArray) (ht : t.size ≤ 1000000) (p : Nat) (hp : p = pd s) : Calls Tryz.prog 52 #[.pointer (some ⟨p, 0, none⟩), .int .i64 i, .string t] w fun e w' => e = .returned (.int .i64 ((D s).writeE i t)) ∧ CPe w0 X q pd m (upd D s ((D s).writeD i t)) w' ∧ Same (q :: X) w w' := by
  subst hp
  refine (h.dev (R := fun e => e = .returned (.int .i64 ((D s).writeE i t))) (G := fun E => E = (D s).writeD i t) hs fun sb cv hd => (write_any i t _ hd (by omega) (by omega)).mono ?_).mono ?_
  · rintro e w' ⟨rfl, hn⟩
    exact ⟨rfl, _, rfl, hn⟩
  · rintro e w' ⟨rfl, E, rfl, hc, hsm⟩
    exact ⟨rfl, hc, hsm⟩
theorem flush_e (h : CPe w0 X q pd m D w) (hs : s < 2) (hl : (D s).cache.length ≤ 1000000) : Calls Tryz.prog 18 #[.pointer (some ⟨q, 0, none⟩), .int .i64 (s : Nat)] w fun e w' => e = .returned (.int .i64 (D s).flushE) ∧ CPe w0 X q pd m (upd D s (D s).flushD) w' ∧ Same (q :: X) w w' := by
  have HC := Lib.hid h
  have c0 := h.pb.dev (s := 0) (by omega)
  have c1 := h.pb.dev (s := 1) (by omega)
  have HL := Lib.hid hl
  have HS := Lib.hid hs
  obtain ⟨u, hu⟩ : ∃ u, u = (D s).flushE := ⟨_, rfl⟩
  have HU := Lib.hid hu
  rw [← hu]
  clear h hl hu
  rcases (show s = 0 ∨ s = 1 by omega) with rfl | rfl
  all_goals
    clear hs
    go_enter Tryz.func18, Tryz.ntmps18
    go_wp2_with fail
    refine (refusal_any q _ _).mono ?_
    rintro e w' ⟨rfl, rfl⟩
    rw [show refR _ = 0 from rfl]
    go_wp2_with fail
    clear c0 c1
    refine (dflush_e HC.out HS.out HL.out _ rfl).mono ?_
    rintro e w' ⟨rfl, hc, hsm⟩
    rw [← HU.out]
    have HC2 := Lib.hid hc
    have HS2 := Lib.hid hsm
    clear hc hsm
    go_wp2
    go_ret
    exact ⟨rfl, HC2.out, HS2.out⟩
/-- what Read reads: the block's sector -/
def sec (m : Nat → List Int) (s b : Nat) : Int := 4 + plc 12 (m s) b
theorem read_e (h : CPe w0 X q pd m D w) (hs : s < 2) (hg : Tab.Good 12 4 (m s)) (hl : (D s).cache.length ≤ 1000000) {b : Nat} (hb : b < 12) : Calls Tryz.prog 17 #[.pointer (some ⟨q, 0, none⟩), .int .i64 (s : Nat), .int .i64 (b : Nat)] w fun e w' => e = .returned (.tuple #[.string ((D s).readT (sec m s b)), .int .i64 ((D s).readE (sec m s b))]) ∧ CPe w0 X q pd m (upd D s ((D s).readD (sec m s b))) w' ∧ Same (q :: X) w w' := by
  have HC := Lib.hid h
  have HG := Lib.hid hg
  have HL := Lib.hid hl
  have HS := Lib.hid hs
  obtain ⟨p, hp⟩ : ∃ p, p = pd s := ⟨_, rfl⟩
  have HP := Lib.hid hp
  have hat := at_yes (n := 12) (m := m s) (b := (b : Int)) (by omega) (by omega)
  have HA := Lib.hid hat
  obtain ⟨v, hv⟩ : ∃ v, v = sec m s b := ⟨_, rfl⟩
  have HV := Lib.hid hv
  rw [← hv]
  clear h hg hl hat hv hp
  go_enter Tryz.func17, Tryz.ntmps17
  go_wp2_with fail
  refine (sector_e HC.out.pb hs HG.out b).mono ?_
  rintro e w1 ⟨rfl, hb1⟩
  rw [HA.out.2.1, HA.out.2.2, show 4 + plc 12 (m s) (b : Int) = v from HV.out.symm]
  have HC1 := Lib.hid (HC.out.later hb1)
  have HS1 := Lib.hid (same_below HC.out hb1)
  have c1 := HC1.out.pb.dev hs
  rw [← HP.out] at c1
  have hs0 : 0 ≤ (s : Int) := by omega
  have hs2 : (s : Int) < 2 := by omega
  clear hb1 HC
  go_wp2_with fail
  clear c1
  refine (dread_e HC1.out hs HL.out v p HP.out).mono ?_
  rintro e w2 ⟨rfl, hc, hsm⟩
  have HC2 := Lib.hid hc
  have HS2 := Lib.hid (HS1.out.trans hsm)
  clear hc hsm
  obtain ⟨t, ht⟩ : ∃ t, t = (D s).readT v := ⟨_, rfl⟩
  obtain ⟨e, he⟩ : ∃ e, e = (D s).readE v := ⟨_, rfl⟩
  rw [← ht, ← he]
  go_wp2
  go_ret2
  exact ⟨rfl, HC2.out, HS2.out⟩
theorem read_no (h : CPe w0 X q pd m D w) (s b : Int) (E : Int) (hE : E ≠ 0) (hsec : Calls Tryz.prog 44 #[.pointer (some ⟨q, 0, none⟩), .int .i64 s, .int .i64 b] w fun e w' => (∃ x, e = .returned (.tuple #[.int .i64 x, .int .i64 E])) ∧ Below w.heap.size w w') : Calls Tryz.prog 17 #[.pointer (some ⟨q, 0, none⟩), .int .i64 s, .int .i64 b] w fun e w' => e = .returned (.tuple #[.string ⟨#[]⟩, .int .i64 E]) ∧ Below w.heap.size w w' := by
  have HX := Lib.hid hsec
  clear h hsec
  go_enter Tryz.func17, Tryz.ntmps17
  go_wp2_with fail
  refine HX.out.mono ?_
  rintro e w1 ⟨⟨x, rfl⟩, hb1⟩
  go_wp2
  go_ret2
  exact ⟨rfl, hb1⟩
theorem write_no (h : CPe w0 X q pd m D w) (s b : Int) (t : ByteArray) (E : Int) (hE : E ≠ 0) (hsec : Calls Tryz.prog 44 #[.pointer (some ⟨q, 0, none⟩), .int .i64 s, .int .i64 b] w fun e w' => (∃ x, e = .returned (.tuple #[.int .i64 x, .int .i64 E])) ∧ Below w.heap.size w w') : Calls Tryz.prog 21 #[.pointer (some ⟨q, 0, none⟩), .int .i64 s, .int .i64 b, .string t] w fun e w' => e = .returned (.int .i64 E) ∧ Below w.heap.size w w' := by
  have HX := Lib.hid hsec
  clear h hsec
  go_enter Tryz.func21, Tryz.ntmps21
  go_wp2_with fail
  go_loopw [11] (fun _ wr => wr = w) (fun _ _ => 0)
  case atStart => rfl
  case round =>
    subst hrel
    go_wp2_with fail
    refine HX.out.mono ?_
    rintro e w1 ⟨⟨x, rfl⟩, hb1⟩
    go_wp2
    go_ret
    exact ⟨rfl, hb1⟩
theorem flush_nil (s : Int) (w : World) : Calls Tryz.prog 18 #[.pointer none, .int .i64 s] w fun e w' => e = .returned (.int .i64 1) ∧ w = w' := by
  go_enter Tryz.func18, Tryz.ntmps18
  go_wp2_with fail
  refine (refusal_nil _ _).mono ?_
  rintro e w' ⟨rfl, rfl⟩
  go_wp2
  go_ret
  exact ⟨rfl, rfl⟩
theorem move_nil (s b : Int) (w : World) : Calls Tryz.prog 13 #[.pointer none, .int .i64 s, .int .i64 b] w fun e w' => e = .returned (.int .i64 1) ∧ w = w' := by
  go_enter Tryz.func13, Tryz.ntmps13
  go_wp2_with fail
  refine (refusal_nil _ _).mono ?_
  rintro e w' ⟨rfl, rfl⟩
  go_wp2
  go_ret
  exact ⟨rfl, rfl⟩
theorem read_nil (s b : Int) (w : World) : Calls Tryz.prog 17 #[.pointer none, .int .i64 s, .int .i64 b] w fun e w' => e = .returned (.tuple #[.string ⟨#[]⟩, .int .i64 1]) ∧ Below w.heap.size w w' := by
  go_enter Tryz.func17, Tryz.ntmps17
  go_wp2_with fail
  refine (sector_nil s b _).mono ?_
  rintro e w' ⟨rfl, hb⟩
  go_wp2
  go_ret2
  exact ⟨rfl, hb⟩
theorem write_nil (s b : Int) (t : ByteArray) (w : World) : Calls Tryz.prog 21 #[.pointer none, .int .i64 s, .int .i64 b, .string t] w fun e w' => e = .returned (.int .i64 1) ∧ Below w.heap.size w w' := by
  go_enter Tryz.func21, Tryz.ntmps21
  go_wp2_with fail
  go_loopw [11] (fun _ wr => wr = w) (fun _ _ => 0)
  case atStart => rfl
  case round =>
    subst hrel
    go_wp2_with fail
    refine (sector_nil s b _).mono ?_
    rintro e w' ⟨rfl, hb⟩
    go_wp2
    go_ret
    exact ⟨rfl, hb⟩
end
end Go.Proofs.YtpdickpipdaphaaGreatDoor.Rem

/- Layer 7 (remap): Move, Replace. -/
namespace Go.Proofs.YtpdickpipdaphaaGreatDoor.Rem
open Go Go.RowKit Go.Proofs.YtpdickpipdaphaaGreatDoor Dev Tab
set_option linter.unusedVariables false

section
variable {w0 w : World} {X : List Nat} {q : Nat} {pd : Nat → Nat} {m : Nat → List Int} {D : Nat → Dv} {s : Nat}
set_option maxHeartbeats 1000000 in
set_option maxRecDepth 100000 in
theorem move_full (h : PB w q pd m) (hs : s < 2) (hg : Tab.Good 12 4 (m s)) {b : Nat} (hb : b < 12) (hm : ¬ (m s).length < 4) : Calls Tryz.prog 13 #[.pointer (some ⟨q, 0, none⟩), .int .i64 (s : Nat), .int .i64 (b : Nat)] w fun e w' => e = .returned (.int .i64 9) ∧ Below w.heap.size w w' := by
  have hld := h.ld hs
  have HG := Lib.hid hg
  have hE := mv_full (n := 12) (k := 4) (m := m s) (b := (b : Int)) (by omega) (by omega) (by omega)
  obtain ⟨b1, b2, b3⟩ := mv_bad (n := 12) (k := 4) (m := m s) (b := (b : Int)) (by rw [hE]; decide)
  have HV := Lib.hid (And.intro hE (And.intro b1 (And.intro b2 b3)))
  clear h hg hE b1 b2 b3 hm hb
  rcases (show s = 0 ∨ s = 1 by omega) with rfl | rfl
  all_goals
    clear hs
    go_enter Tryz.func13, Tryz.ntmps13
    go_wp2_with fail
    refine (refusal_any q _ _).mono ?_
    rintro e w' ⟨rfl, rfl⟩
    rw [show refR _ = 0 from rfl]
    go_wp2_with fail
    clear hld
    refine (Tab.move_any 12 4 b _ _ HG.out).mono ?_
    rintro e w1 ⟨rfl, hb⟩
    rw [HV.out.1, HV.out.2.1, HV.out.2.2.1, HV.out.2.2.2]
    have HB := Lib.hid (b_nw hb (.cells (ta 0 0 []) 35))
    clear hb
    go_wp2_with (first | with_reducible refine wl_alloc ?_)
    go_ret
    exact ⟨rfl, HB.out⟩
set_option maxHeartbeats 1000000 in
set_option maxRecDepth 100000 in
theorem move_e (h : CPe w0 X q pd m D w) (hs : s < 2) (hg : Tab.Good 12 4 (m s)) (hz : Sz D) {b : Nat} (hb : b < 12) (hm : (m s).length < 4) {l : List Int} (hl : l = m s ++ [(b : Int)]) : Calls Tryz.prog 13 #[.pointer (some ⟨q, 0, none⟩), .int .i64 (s : Nat), .int .i64 (b : Nat)] w fun e w' => e = .returned (.int .i64 (kpE D s l)) ∧ (∃ m', (kpE D s l = 0 → m' = upd m s l) ∧ (kpE D s l ≠ 0 → m' = m) ∧ CPe w0 X q pd m' (kpD D s l) w') ∧ Same X w w' := by
  have HC := Lib.hid h
  have hld := h.pb.ld hs
  have HG := Lib.hid hg
  have HZ := Lib.hid hz
  have HS := Lib.hid hs
  have hE := mv_yes (n := 12) (k := 4) (m := m s) (b := (b : Int)) (by omega) (by omega) (by omega)
  have HG2 := Lib.hid (show Tab.Good 12 4 l by rw [hl]; exact (hg.push hE).1)
  obtain ⟨b1, b2, b3⟩ := mv_ok hE
  have HV := Lib.hid (show mvE 12 4 (m s) b = 0 ∧ mvN 12 4 (m s) b = 12 ∧ mvK 12 4 (m s) b = 4 ∧ mvM 12 4 (m s) b = l from ⟨hE, b1, b2, b3.trans hl.symm⟩)
  obtain ⟨E, hEE⟩ : ∃ E, E = kpE D s l := ⟨_, rfl⟩
  have HE := Lib.hid hEE
  rw [← hEE]
  clear h hg hz hE b1 b2 b3 hl hEE hm hb
  rcases (show s = 0 ∨ s = 1 by omega) with rfl | rfl
  all_goals
    clear hs
    go_enter Tryz.func13, Tryz.ntmps13
    go_wp2_with fail
    refine (refusal_any q _ _).mono ?_
    rintro e w' ⟨rfl, rfl⟩
    rw [show refR _ = 0 from rfl]
    go_wp2_with fail
    clear hld
    refine (Tab.move_any 12 4 b _ _ HG.out).mono ?_
    rintro e w1 ⟨rfl, hb⟩
    rw [HV.out.1, HV.out.2.1, HV.out.2.2.1, HV.out.2.2.2]
    obtain ⟨g, hg⟩ : ∃ g, g = w1.heap.size := ⟨_, rfl⟩
    have HC1 := Lib.hid (HC.out.later hb)
    have HC2 := Lib.hid (show CPe w0 (g :: X) q pd m D (w1.alloc (.cells (ta 12 4 l) 35)) from by rw [hg]; exact HC1.out.new _)
    have HT2 := Lib.hid (show TAt (w1.alloc (.cells (ta 12 4 l) 35)) g 12 4 l from by rw [hg]; exact TAt.made _ _ _ _)
    have HS2 := Lib.hid (show Same X w (w1.alloc (.cells (ta 12 4 l) 35)) from fun k hk => (Below.heap_alloc _ _ _ (HC1.out.x k hk).2).trans (hb.block k (HC.out.x k hk).2))
    have hl2 := (TAt.made w1 12 4 l).ld
    clear hb HC HC1
    go_wp2_with (first | with_reducible refine wl_alloc ?_)
    rw [← hg]
    clear hg hl2
    refine (keep_e HC2.out HS.out HG2.out (by have := (HZ.out _ HS.out).2.1; omega) (fun t ht => by have := (HZ.out t ht).2.2; omega)).mono ?_
    rintro e w3 ⟨rfl, hc, hsm⟩
    rw [← HE.out]
    have HC3 := Lib.hid (hc.sub (Y := X) fun k hk => List.mem_cons_of_mem _ hk)
    have HT3 := Lib.hid (show TAt w3 g 12 4 l from HT2.out.same (hsm g (by simp)))
    have HS3 := Lib.hid (HS2.out.trans (fun k hk => hsm k (by simp [hk]) : Same X _ w3))
    clear hc hsm HC2 HT2 HS2
    by_cases h0 : E = 0
    · subst h0
      have HCd := Lib.hid (HC3.out.later (Below.refl _ _).drew)
      have hl3 := (HT3.out.on (Below.refl _ _).drew).ld
      first
      | (have hst := HCd.out.pb.st0 l
         have hput := HCd.out.put (upd m 0 l)
         have HP := Lib.hid hput
         clear hput
         go_wp2_with fail
         refine Reg.still_tail 6 (by kernel_rfl) (by kernel_rfl) ?_
         simp only [List.take_succ_cons, List.take_zero, List.drop_succ_cons, List.drop_zero]
         repeat still_step
         try refine wpStill_nil ?_
         go_wp2_with fail
         go_ret
         exact ⟨rfl, HP.out.1, HS3.out.trans ((show Same X w3 w3.drew from fun _ _ => rfl).trans HP.out.2)⟩)
      | (have hst := HCd.out.pb.st1 l
         have hput := HCd.out.put (upd m 1 l)
         have HP := Lib.hid hput
         clear hput
         go_wp2_with fail
         refine Reg.still_tail 6 (by kernel_rfl) (by kernel_rfl) ?_
         simp only [List.take_succ_cons, List.take_zero, List.drop_succ_cons, List.drop_zero]
         repeat still_step
         try refine wpStill_nil ?_
         go_wp2_with fail
         go_ret
         exact ⟨rfl, HP.out.1, HS3.out.trans ((show Same X w3 w3.drew from fun _ _ => rfl).trans HP.out.2)⟩)
    · go_wp2_with fail
      go_ret
      exact ⟨rfl, ⟨m, fun h => absurd h h0, fun _ => rfl, HC3.out⟩, HS3.out⟩
end
end Go.Proofs.YtpdickpipdaphaaGreatDoor.Rem

