/- Layers' contracts, bundled: RemE, RemF, RemG, RemH, RemI, RemJ, RemR, RemP. -/
import Derived.Test.YtflanjcfkdjpjaaGreatDoorL08
import Derived.LaidEqlPtr
import Derived.Laws.CopyRow
/- Layer 7 (remap): longest, Blocks. -/
namespace Go.Proofs.YtflanjcfkdjpjaaGreatDoor.Rem
open Go Go.RowKit Go.Proofs.YtflanjcfkdjpjaaGreatDoor Dev Tab
set_option linter.unusedVariables false

theorem good_zeros {n k : Int} (h : mayB n k = true) {j : Nat} (hj : (j : Int) ≤ k) : Tab.Good n k (List.replicate j 0) :=
  ⟨h, by simpa using hj, fun x hx => by rw [List.eq_of_mem_replicate hx]; have := mayB_parts h; omega⟩
set_option maxHeartbeats 1000000 in
set_option maxRecDepth 100000 in
theorem longest_any (n k : Int) (w : World) (h : mayB n k = true) : Calls Tryz.prog 116 #[.agg (ta n k [])] w fun e w' => e = .returned (.string (txS (List.replicate k.toNat 0))) ∧ Below w.heap.size w w' := by
  have hp := mayB_parts h
  have HM := Lib.hid h
  have HT := Lib.hid (TAt.made w n k [])
  have HB := Lib.hid (b_new w (.cells (ta n k []) 88))
  obtain ⟨K, hK⟩ : ∃ K : Nat, (K : Int) = k := ⟨k.toNat, by omega⟩
  subst hK
  obtain ⟨p, hpw⟩ : ∃ p, p = w.heap.size := ⟨_, rfl⟩
  rw [← hpw] at HT
  have HPW := Lib.hid hpw
  have hK32 : (K : Int) ≤ 32 := by omega
  have HK := Lib.hid hK32
  rw [Int.toNat_natCast]
  clear h hp hK32
  go_enter Tryz.func116, Tryz.ntmps116
  go_wp2_with fail
  rw [← hpw]
  clear hpw
  go_loopw [3] (fun _ wr => ∃ j : Nat, j ≤ K ∧ TAt wr p n K (List.replicate j 0) ∧ Below w.heap.size w wr) (fun _ wr => K - (match wr.cell? ⟨p, 2, none⟩ with | some v => (intOf v).toNat | none => 0))
  case atStart => exact ⟨0, by omega, HT.out, HB.out⟩
  case round =>
    obtain ⟨j, hj, ht, hb⟩ := hrel
    clear HT HB
    have HT := Lib.hid ht
    have HB := Lib.hid hb
    have hld := ht.ld
    have HG := Lib.hid (good_zeros (j := j) HM.out (by omega))
    have hk0 : (0 : Int) ≤ K := by omega
    have HC := Lib.hid ht.c2
    clear ht hb
    go_wp2_with fail
    refine (left_any n K _ _ hk0 HK.out (by have := HG.out.bd; omega)).mono ?_
    rintro e w1 ⟨rfl, hb⟩
    have HT1 := Lib.hid (HT.out.on hb)
    have HB1 := Lib.hid (b_on HB.out hb)
    have hld1 := HT1.out.ld
    clear hb hld hk0
    rw [List.length_replicate]
    by_cases hjk : j = K
    · subst hjk
      rw [show (j : Int) - j = 0 by omega]
      go_wp2_with fail
      refine (Tab.text_any n j _ _ HG.out).mono ?_
      rintro e w2 ⟨rfl, hb⟩
      go_wp2
      go_ret
      exact ⟨rfl, b_on HB1.out hb⟩
    · obtain ⟨u, hu⟩ : ∃ u : Int, u = (K : Int) - j := ⟨_, rfl⟩
      have hu0 : 0 < u := by omega
      rw [← hu]
      have hj2 : j < K := by omega
      have HJ := Lib.hid hj2
      have hME := mv_yes (n := n) (k := (K : Int)) (m := List.replicate j 0) (b := 0) (by omega) (by have := mayB_parts HM.out; omega) (by simp; omega)
      obtain ⟨m1, m2, m3⟩ := mv_ok hME
      have HV := Lib.hid (And.intro hME (And.intro m1 (And.intro m2 m3)))
      clear hME m1 m2 m3 hu hj2 hj hjk
      go_wp2_with fail
      refine (Tab.move_any n K 0 _ _ HG.out).mono ?_
      rintro e w2 ⟨rfl, hb⟩
      rw [HV.out.1, HV.out.2.1, HV.out.2.2.1, HV.out.2.2.2]
      have HT2 := Lib.hid (HT1.out.on hb)
      have HB2 := Lib.hid (b_on HB1.out hb)
      have hrep : List.replicate j (0 : Int) ++ [0] = List.replicate (j + 1) 0 := List.replicate_succ'.symm
      rw [hrep]
      have hst := HT2.out.st n K (List.replicate (j + 1) 0)
      have HT3 := Lib.hid (HT2.out.put n K (List.replicate (j + 1) 0))
      have HB3 := Lib.hid (b_row HB2.out (p := p) (by have := HPW.out; omega) (ta n K (List.replicate (j + 1) 0)))
      clear hb hld1 hrep
      go_wp2_with fail
      go_roundw
      case rel => exact ⟨j + 1, by have := HJ.out; omega, HT3.out, HB3.out⟩
      case measure =>
        have c1 := HT3.out.c2
        have c0 := HC.out
        simp only [c0, c1, intOf, List.length_replicate, Int.toNat_natCast]
        exact Nat.sub_lt_sub_left HJ.out (Nat.lt_succ_self j)
theorem bl_wrap {n k : Int} (hn : 8 ≤ n ∧ n ≤ 4096) (hk : 0 ≤ k ∧ k ≤ 32) : wrap64 (wrap64 (n - 4) - k) = n - 4 - k := by
  unfold wrap64; omega
/-- there may be a pair of such devices -/
def Fit (n z k : Int) : Prop := shapeR n z = true ∧ 0 ≤ k ∧ k ≤ 32 ∧ 2 ≤ n - 4 - k ∧ 8 + 2 * k ≤ z - 24
instance (n z k : Int) : Decidable (Fit n z k) := by unfold Fit; infer_instance
def blN (n z k : Int) : Int := if Fit n z k then n - 4 - k else 0
theorem shapeR_parts {n z : Int} (h : shapeR n z = true) : 8 ≤ n ∧ n ≤ 4096 ∧ 128 ≤ z ∧ z ≤ 1024 := by
  have := of_decide_eq_true (show decide (8 ≤ n ∧ n ≤ 4096 ∧ 128 ≤ z ∧ z ≤ 1024 ∧ z % 64 = 0) = true from h); omega
set_option maxHeartbeats 1000000 in
set_option maxRecDepth 100000 in
theorem blocks_any (n z k : Int) (w : World) : Calls Tryz.prog 88 #[.agg #[.int .i64 n, .int .i64 z], .int .i64 k] w fun e w' => e = .returned (.int .i64 (blN n z k)) ∧ Below w.heap.size w w' := by
  have hn0 := Has.new w [.int .i64 n, .int .i64 z] 79
  have HB := Lib.hid (b_new w (.cells #[.int .i64 n, .int .i64 z] 79))
  cases hr : shapeR n z with
  | false =>
    have HE := Lib.hid (show blN n z k = 0 from if_neg fun h => by rw [h.1] at hr; cases hr)
    have HR := Lib.hid hr
    clear hr hn0
    go_enter Tryz.func88, Tryz.ntmps88
    go_wp2_with fail
    refine (right_any n z _).mono ?_
    rintro e w1 ⟨rfl, hb⟩
    rw [HR.out]
    go_wp2
    go_ret
    exact ⟨by rw [HE.out]; rfl, b_on HB.out hb⟩
  | true =>
    have hp4 := shapeR_parts hr
    have HR := Lib.hid hr
    obtain ⟨p, hpw⟩ : ∃ p, p = w.heap.size := ⟨_, rfl⟩
    rw [← hpw] at hn0
    have HN := Lib.hid hn0
    obtain ⟨b, hb0⟩ : ∃ b, b = wrap64 (wrap64 (n - 4) - k) := ⟨_, rfl⟩
    have hbw := hb0.symm
    have HBB := Lib.hid hb0
    have HPN := Lib.hid hp4
    obtain ⟨E, hE⟩ : ∃ E, E = nwE b k := ⟨_, rfl⟩
    obtain ⟨x, hx⟩ : ∃ x, x = nwN b k := ⟨_, rfl⟩
    obtain ⟨y, hy⟩ : ∃ y, y = nwK b k := ⟨_, rfl⟩
    have HXY := Lib.hid (And.intro hE (And.intro hx hy))
    clear hr hb0 hp4 hn0
    go_enter Tryz.func88, Tryz.ntmps88
    go_wp2_with fail
    rw [← hpw]
    refine (right_any n z _).mono ?_
    rintro e w1 ⟨rfl, hb⟩
    rw [HR.out]
    have hn1 := HN.out.below hb HN.out.lt
    have c0 := hn1.cell 0
    simp only [List.getElem?_cons_zero] at c0
    have HN1 := Lib.hid hn1
    have HB1 := Lib.hid (b_on HB.out hb)
    clear hb hpw hn1 HN HB
    go_wp2_with fail
    rw [hbw]
    clear hbw c0
    refine (new_any b k _).mono ?_
    rintro e w2 ⟨rfl, hb⟩
    rw [← hE, ← hx, ← hy]
    have HN2 := Lib.hid (HN1.out.below hb HN1.out.lt)
    have HB2 := Lib.hid (b_on HB1.out hb)
    clear hb hE hx hy HN1 HB1
    obtain ⟨g, hg⟩ : ∃ g, g = w2.heap.size := ⟨_, rfl⟩
    have hO0 : Below w.heap.size w (w2.alloc (.cells (ta x y []) 88)) ∧ Has (w2.alloc (.cells (ta x y []) 88)) p 79 [.int .i64 n, .int .i64 z] ∧ TAt (w2.alloc (.cells (ta x y []) 88)) g x y [] := ⟨b_nw HB2.out _, HN2.out.alloc _, by rw [hg]; exact TAt.made _ _ _ _⟩
    clear HN2 HB2
    by_cases hbad : E ≠ 0
    · have HE := Lib.hid (show blN n z k = 0 from if_neg fun h => by
        obtain ⟨h1, h2, h3, h4, h5⟩ := h
        have hpn := HPN.out
        have e1 : b = n - 4 - k := by rw [HBB.out, bl_wrap (by omega) (by omega)]
        exact hbad (by rw [HXY.out.1]; exact (nw_yes (mayB_of (by omega) (by omega) (by omega) (by omega))).1))
      have hd : decide (E = 0) = false := decide_eq_false hbad
      have hbad' : ¬ E = 0 := hbad
      clear hbad
      go_wp2_with (first | with_reducible refine wl_alloc ?_)
      rw [← hg]
      clear hg
      refine Reg.region_valsG (by kernel_rfl) [(22, .int .i64 E), (23, .bool true), (24, .bool true), (25, undef), (26, undef), (27, .bool true), (28, .bool true), (29, undef), (30, undef), (31, undef), (32, undef), (33, undef), (34, undef), (35, undef), (36, .bool true)] (fun _ wy => Below w.heap.size w wy ∧ Has wy p 79 [.int .i64 n, .int .i64 z] ∧ TAt wy g x y []) (by kernel_rfl) (by kernel_rfl) [3, 4, 7, 8, 9, 10, 11, 12, 13] (by kernel_rfl) (⟨hO0.1.drew, hO0.2.1.drew, hO0.2.2.drew⟩) ⟨?_, ?_, ?_, ?_, ?_, ?_, ?_, ?_, ?_, ?_, ?_, ?_, ?_, ?_, ?_, trivial⟩ ?hend
      · skip
        intro aq wq lq hI hl hdone hlater hold hd ho
        have h7 : aq.tmps.getD 7 undef = .int .i64 E := ho 7 (by kernel_rfl)
        clear hd ho hdone hlater hold
        exact Reg.step2_move (.tmp 7) rfl h7 hI trivial
      · skip
        intro aq wq lq hI hl hdone hlater hold hd ho
        have h22 : aq.tmps.getD 22 undef = .int .i64 E := hd 22 (by kernel_rfl)
        clear hd ho hdone hlater hold
        rw [Array.getD_eq_getD_getElem?] at h22
        refine Reg.step2_val (.bool true) ?_ rfl hI trivial
        simp [execOp, Act.eval, h22]
        try go_simp
      · skip
        intro aq wq lq hI hl hdone hlater hold hd ho
        have h23 : aq.tmps.getD 23 undef = .bool true := hd 23 (by kernel_rfl)
        clear hd ho hdone hlater hold
        exact Reg.step2_move (.tmp 23) rfl h23 hI trivial
      · skip
        intro aq wq lq hI hl hdone hlater hold hd ho
        exact Reg.stepG_skip rfl hI trivial
      · skip
        intro aq wq lq hI hl hdone hlater hold hd ho
        exact Reg.stepG_skip rfl hI trivial
      · skip
        intro aq wq lq hI hl hdone hlater hold hd ho
        have h24 : aq.tmps.getD 24 undef = .bool true := hd 24 (by kernel_rfl)
        have h26 : aq.tmps.getD 26 undef = undef := hd 26 (by kernel_rfl)
        clear hd ho hdone hlater hold
        rw [Array.getD_eq_getD_getElem?] at h24 h26
        refine Reg.step2_val (.bool true) ?_ rfl hI trivial
        simp [execOp, Act.eval, h24, h26]
        try go_simp
      · skip
        intro aq wq lq hI hl hdone hlater hold hd ho
        have h27 : aq.tmps.getD 27 undef = .bool true := hd 27 (by kernel_rfl)
        clear hd ho hdone hlater hold
        exact Reg.step2_move (.tmp 27) rfl h27 hI trivial
      · skip
        intro aq wq lq hI hl hdone hlater hold hd ho
        exact Reg.stepG_skip rfl hI trivial
      · skip
        intro aq wq lq hI hl hdone hlater hold hd ho
        exact Reg.stepG_skip rfl hI trivial
      · skip
        intro aq wq lq hI hl hdone hlater hold hd ho
        exact Reg.stepG_skip rfl hI trivial
      · skip
        intro aq wq lq hI hl hdone hlater hold hd ho
        exact Reg.stepG_skip rfl hI trivial
      · skip
        intro aq wq lq hI hl hdone hlater hold hd ho
        exact Reg.stepG_skip rfl hI trivial
      · skip
        intro aq wq lq hI hl hdone hlater hold hd ho
        exact Reg.stepG_skip rfl hI trivial
      · skip
        intro aq wq lq hI hl hdone hlater hold hd ho
        exact Reg.stepG_skip rfl hI trivial
      · skip
        intro aq wq lq hI hl hdone hlater hold hd ho
        have h28 : aq.tmps.getD 28 undef = .bool true := hd 28 (by kernel_rfl)
        have h35 : aq.tmps.getD 35 undef = undef := hd 35 (by kernel_rfl)
        clear hd ho hdone hlater hold
        rw [Array.getD_eq_getD_getElem?] at h28 h35
        refine Reg.step2_val (.bool true) ?_ rfl hI trivial
        simp [execOp, Act.eval, h28, h35]
        try go_simp
      case hend =>
        intro wz hI
        simp only [Reg.fill, List.foldl_cons, List.foldl_nil, List.setIfInBounds_toArray, List.set_cons_zero, List.set_cons_succ]
        have HZ := Lib.hid hI.1
        clear hI hO0
        go_wp2
        go_ret
        exact ⟨by rw [HE.out]; rfl, HZ.out⟩
    · obtain rfl : E = 0 := by omega
      clear hbad
      have hmay : mayB b k = true := by
        cases hm : mayB b k with
        | true => rfl
        | false => have := HXY.out.1; rw [(nw_no hm).1] at this; cases this
      obtain ⟨m1, m2, m3, m4⟩ := mayB_parts hmay
      have e1 : b = n - 4 - k := by
        have hpn := HPN.out
        rw [HBB.out, bl_wrap (by omega) (by omega)]
      have HMAY := Lib.hid hmay
      obtain ⟨n1, n2, n3⟩ := nw_yes hmay
      rw [HXY.out.2.1, HXY.out.2.2, n2, n3] at hO0 ⊢
      by_cases hlow : b < 2
      · have HE := Lib.hid (show blN n z k = 0 from if_neg fun h => by
          obtain ⟨h1, h2, h3, h4, h5⟩ := h
          omega)
        clear HXY m1 m2 m3 m4 n1 n2 n3 HBB hmay e1
        go_wp2_with (first | with_reducible refine wl_alloc ?_)
        rw [← hg]
        clear hg
        refine Reg.region_valsG (by kernel_rfl) [(22, .int .i64 0), (23, .bool false), (24, .bool false), (25, .int .i64 b), (26, .bool true), (27, .bool true), (28, .bool true), (29, undef), (30, undef), (31, undef), (32, undef), (33, undef), (34, undef), (35, undef), (36, .bool true)] (fun _ wy => Below w.heap.size w wy ∧ Has wy p 79 [.int .i64 n, .int .i64 z] ∧ TAt wy g b k []) (by kernel_rfl) (by kernel_rfl) [7, 8, 9, 10, 11, 12, 13] (by kernel_rfl) (⟨hO0.1.drew, hO0.2.1.drew, hO0.2.2.drew⟩) ⟨?_, ?_, ?_, ?_, ?_, ?_, ?_, ?_, ?_, ?_, ?_, ?_, ?_, ?_, ?_, trivial⟩ ?hend
        · skip
          intro aq wq lq hI hl hdone hlater hold hd ho
          have h7 : aq.tmps.getD 7 undef = .int .i64 0 := ho 7 (by kernel_rfl)
          clear hd ho hdone hlater hold
          exact Reg.step2_move (.tmp 7) rfl h7 hI trivial
        · skip
          intro aq wq lq hI hl hdone hlater hold hd ho
          have h22 : aq.tmps.getD 22 undef = .int .i64 0 := hd 22 (by kernel_rfl)
          clear hd ho hdone hlater hold
          rw [Array.getD_eq_getD_getElem?] at h22
          refine Reg.step2_val (.bool false) ?_ rfl hI trivial
          simp [execOp, Act.eval, h22]
          try go_simp
        · skip
          intro aq wq lq hI hl hdone hlater hold hd ho
          have h23 : aq.tmps.getD 23 undef = .bool false := hd 23 (by kernel_rfl)
          clear hd ho hdone hlater hold
          exact Reg.step2_move (.tmp 23) rfl h23 hI trivial
        · skip
          intro aq wq lq hI hl hdone hlater hold hd ho
          have h5 : aq.tmps.getD 5 undef = .int .i64 b := ho 5 (by kernel_rfl)
          clear hd ho hdone hlater hold
          exact Reg.step2_move (.tmp 5) rfl h5 hI trivial
        · skip
          intro aq wq lq hI hl hdone hlater hold hd ho
          have h25 : aq.tmps.getD 25 undef = .int .i64 b := hd 25 (by kernel_rfl)
          clear hd ho hdone hlater hold
          rw [Array.getD_eq_getD_getElem?] at h25
          refine Reg.step2_val (.bool true) ?_ rfl hI trivial
          simp [execOp, Act.eval, h25]
          try go_simp
        · skip
          intro aq wq lq hI hl hdone hlater hold hd ho
          have h24 : aq.tmps.getD 24 undef = .bool false := hd 24 (by kernel_rfl)
          have h26 : aq.tmps.getD 26 undef = .bool true := hd 26 (by kernel_rfl)
          clear hd ho hdone hlater hold
          rw [Array.getD_eq_getD_getElem?] at h24 h26
          refine Reg.step2_val (.bool true) ?_ rfl hI trivial
          simp [execOp, Act.eval, h24, h26]
          try go_simp
        · skip
          intro aq wq lq hI hl hdone hlater hold hd ho
          have h27 : aq.tmps.getD 27 undef = .bool true := hd 27 (by kernel_rfl)
          clear hd ho hdone hlater hold
          exact Reg.step2_move (.tmp 27) rfl h27 hI trivial
        · skip
          intro aq wq lq hI hl hdone hlater hold hd ho
          exact Reg.stepG_skip rfl hI trivial
        · skip
          intro aq wq lq hI hl hdone hlater hold hd ho
          exact Reg.stepG_skip rfl hI trivial
        · skip
          intro aq wq lq hI hl hdone hlater hold hd ho
          exact Reg.stepG_skip rfl hI trivial
        · skip
          intro aq wq lq hI hl hdone hlater hold hd ho
          exact Reg.stepG_skip rfl hI trivial
        · skip
          intro aq wq lq hI hl hdone hlater hold hd ho
          exact Reg.stepG_skip rfl hI trivial
        · skip
          intro aq wq lq hI hl hdone hlater hold hd ho
          exact Reg.stepG_skip rfl hI trivial
        · skip
          intro aq wq lq hI hl hdone hlater hold hd ho
          exact Reg.stepG_skip rfl hI trivial
        · skip
          intro aq wq lq hI hl hdone hlater hold hd ho
          have h28 : aq.tmps.getD 28 undef = .bool true := hd 28 (by kernel_rfl)
          have h35 : aq.tmps.getD 35 undef = undef := hd 35 (by kernel_rfl)
          clear hd ho hdone hlater hold
          rw [Array.getD_eq_getD_getElem?] at h28 h35
          refine Reg.step2_val (.bool true) ?_ rfl hI trivial
          simp [execOp, Act.eval, h28, h35]
          try go_simp
        case hend =>
          intro wz hI
          simp only [Reg.fill, List.foldl_cons, List.foldl_nil, List.setIfInBounds_toArray, List.set_cons_zero, List.set_cons_succ]
          have HZ := Lib.hid hI.1
          clear hI hO0
          go_wp2
          go_ret
          exact ⟨by rw [HE.out]; rfl, HZ.out⟩
      · have hz := HPN.out
        have hlow' : ¬ b < 2 := hlow
        have HE := Lib.hid (show blN n z k = b by unfold blN; rw [if_pos ⟨HR.out, by omega, by omega, by omega, by omega⟩]; exact e1.symm)
        obtain ⟨LS, hLS⟩ : ∃ LS, LS = txS (List.replicate k.toNat 0) := ⟨_, rfl⟩
        have hsz : (LS.size : Int) = 8 + 2 * k := by
          have : LS.size = (txL (List.replicate k.toNat 0)).length := by rw [hLS]; rfl
          rw [this, txL_length, List.length_replicate]; omega
        obtain ⟨rz, hrz⟩ : ∃ rz, rz = Env.roomN z := ⟨_, rfl⟩
        have hle : ¬ rz < (LS.size : Int) := by
          have : Env.roomN z = z - 24 := (Env.roomN_yes (n := z) (by unfold Env.szB; simp; omega)).1
          omega
        have HLS := Lib.hid hLS
        have HRZ := Lib.hid hrz
        clear HXY m1 m2 m3 m4 n1 n2 n3 HBB hmay e1 hz hLS hsz hrz hlow
        go_wp2_with (first | with_reducible refine wl_alloc ?_)
        rw [← hg]
        clear hg
        refine Reg.region_valsG (by kernel_rfl) [(22, .int .i64 0), (23, .bool false), (24, .bool false), (25, .int .i64 b), (26, .bool false), (27, .bool false), (28, .bool false), (29, .agg (ta b k [])), (30, .string LS), (31, .int .i64 (LS.size : Nat)), (32, .pointer (some ⟨p, 1, none⟩)), (33, .int .i64 z), (34, .int .i64 rz), (35, .bool false), (36, .bool false)] (fun _ wy => Below w.heap.size w wy ∧ Has wy p 79 [.int .i64 n, .int .i64 z] ∧ TAt wy g b k []) (by kernel_rfl) (by kernel_rfl) [] (by kernel_rfl) (⟨hO0.1.drew, hO0.2.1.drew, hO0.2.2.drew⟩) ⟨?_, ?_, ?_, ?_, ?_, ?_, ?_, ?_, ?_, ?_, ?_, ?_, ?_, ?_, ?_, trivial⟩ ?hend
        · skip
          intro aq wq lq hI hl hdone hlater hold hd ho
          have h7 : aq.tmps.getD 7 undef = .int .i64 0 := ho 7 (by kernel_rfl)
          clear hd ho hdone hlater hold
          exact Reg.step2_move (.tmp 7) rfl h7 hI trivial
        · skip
          intro aq wq lq hI hl hdone hlater hold hd ho
          have h22 : aq.tmps.getD 22 undef = .int .i64 0 := hd 22 (by kernel_rfl)
          clear hd ho hdone hlater hold
          rw [Array.getD_eq_getD_getElem?] at h22
          refine Reg.step2_val (.bool false) ?_ rfl hI trivial
          simp [execOp, Act.eval, h22]
          try go_simp
        · skip
          intro aq wq lq hI hl hdone hlater hold hd ho
          have h23 : aq.tmps.getD 23 undef = .bool false := hd 23 (by kernel_rfl)
          clear hd ho hdone hlater hold
          exact Reg.step2_move (.tmp 23) rfl h23 hI trivial
        · skip
          intro aq wq lq hI hl hdone hlater hold hd ho
          have h5 : aq.tmps.getD 5 undef = .int .i64 b := ho 5 (by kernel_rfl)
          clear hd ho hdone hlater hold
          exact Reg.step2_move (.tmp 5) rfl h5 hI trivial
        · skip
          intro aq wq lq hI hl hdone hlater hold hd ho
          have h25 : aq.tmps.getD 25 undef = .int .i64 b := hd 25 (by kernel_rfl)
          clear hd ho hdone hlater hold
          rw [Array.getD_eq_getD_getElem?] at h25
          refine Reg.step2_val (.bool false) ?_ rfl hI trivial
          simp [execOp, Act.eval, h25]
          try go_simp
        · skip
          intro aq wq lq hI hl hdone hlater hold hd ho
          have h24 : aq.tmps.getD 24 undef = .bool false := hd 24 (by kernel_rfl)
          have h26 : aq.tmps.getD 26 undef = .bool false := hd 26 (by kernel_rfl)
          clear hd ho hdone hlater hold
          rw [Array.getD_eq_getD_getElem?] at h24 h26
          refine Reg.step2_val (.bool false) ?_ rfl hI trivial
          simp [execOp, Act.eval, h24, h26]
          try go_simp
        · skip
          intro aq wq lq hI hl hdone hlater hold hd ho
          have h27 : aq.tmps.getD 27 undef = .bool false := hd 27 (by kernel_rfl)
          clear hd ho hdone hlater hold
          exact Reg.step2_move (.tmp 27) rfl h27 hI trivial
        · skip
          intro aq wq lq hI hl hdone hlater hold hd ho
          have h6 : aq.tmps.getD 6 undef = .pointer (some ⟨g, 0, none⟩) := ho 6 (by kernel_rfl)
          clear hd ho hdone hlater hold
          rw [Array.getD_eq_getD_getElem?] at h6
          have hld := hI.2.2.ld
          refine Reg.step2_val (.agg (ta b k [])) ?_ rfl hI trivial
          go_simp
        · skip
          intro aq wq lq hI hl hdone hlater hold hd ho
          have h29 : aq.tmps.getD 29 undef = .agg (ta b k []) := hd 29 (by kernel_rfl)
          clear hd ho hdone hlater hold
          rw [Array.getD_eq_getD_getElem?] at h29
          refine Reg.step2_call 116 #[.agg (ta b k [])] ?_ ((longest_any b k wq HMAY.out).mono ?_)
          · clear hI
            simp [execOp]
            go_simp
          · rintro e w2 ⟨rfl, hb⟩
            exact ⟨_, rfl, by rw [HLS.out]; exact rfl, ⟨b_on hI.1 hb, hI.2.1.below hb hI.2.1.lt, hI.2.2.on hb⟩, trivial⟩
        · skip
          intro aq wq lq hI hl hdone hlater hold hd ho
          have h30 : aq.tmps.getD 30 undef = .string LS := hd 30 (by kernel_rfl)
          clear hd ho hdone hlater hold
          rw [Array.getD_eq_getD_getElem?] at h30
          refine Reg.step2_val (.int .i64 (LS.size : Nat)) ?_ rfl hI trivial
          simp [execOp]
          go_simp
        · skip
          intro aq wq lq hI hl hdone hlater hold hd ho
          have h2 : aq.tmps.getD 2 undef = .pointer (some ⟨p, 0, none⟩) := ho 2 (by kernel_rfl)
          clear hd ho hdone hlater hold
          rw [Array.getD_eq_getD_getElem?] at h2
          refine Reg.step2_val (.pointer (some ⟨p, 1, none⟩)) ?_ rfl hI trivial
          go_simp
        · skip
          intro aq wq lq hI hl hdone hlater hold hd ho
          have h32 : aq.tmps.getD 32 undef = .pointer (some ⟨p, 1, none⟩) := hd 32 (by kernel_rfl)
          clear hd ho hdone hlater hold
          rw [Array.getD_eq_getD_getElem?] at h32
          have c1 := hI.2.1.cell 1
          simp only [List.getElem?_cons_zero, List.getElem?_cons_succ] at c1
          refine Reg.step2_val (.int .i64 z) ?_ rfl hI trivial
          go_simp
        · skip
          intro aq wq lq hI hl hdone hlater hold hd ho
          have h33 : aq.tmps.getD 33 undef = .int .i64 z := hd 33 (by kernel_rfl)
          clear hd ho hdone hlater hold
          rw [Array.getD_eq_getD_getElem?] at h33
          refine Reg.step2_call 49 #[.int .i64 z] ?_ ((Env.room_any z wq).mono ?_)
          · clear hI
            simp [execOp]
            go_simp
          · rintro e w2 ⟨rfl, rfl⟩
            exact ⟨_, rfl, by rw [HRZ.out]; exact rfl, hI, trivial⟩
        · skip
          intro aq wq lq hI hl hdone hlater hold hd ho
          have h31 : aq.tmps.getD 31 undef = .int .i64 (LS.size : Nat) := hd 31 (by kernel_rfl)
          have h34 : aq.tmps.getD 34 undef = .int .i64 rz := hd 34 (by kernel_rfl)
          clear hd ho hdone hlater hold
          rw [Array.getD_eq_getD_getElem?] at h31 h34
          refine Reg.step2_val (.bool false) ?_ rfl hI trivial
          simp [execOp, Act.eval, h31, h34]
          try go_simp
        · skip
          intro aq wq lq hI hl hdone hlater hold hd ho
          have h28 : aq.tmps.getD 28 undef = .bool false := hd 28 (by kernel_rfl)
          have h35 : aq.tmps.getD 35 undef = .bool false := hd 35 (by kernel_rfl)
          clear hd ho hdone hlater hold
          rw [Array.getD_eq_getD_getElem?] at h28 h35
          refine Reg.step2_val (.bool false) ?_ rfl hI trivial
          simp [execOp, Act.eval, h28, h35]
          try go_simp
        case hend =>
          intro wz hI
          simp only [Reg.fill, List.foldl_cons, List.foldl_nil, List.setIfInBounds_toArray, List.set_cons_zero, List.set_cons_succ]
          have HZ := Lib.hid hI.1
          clear hI hO0
          go_wp2
          go_ret
          exact ⟨by rw [HE.out]; rfl, HZ.out⟩
end Go.Proofs.YtflanjcfkdjpjaaGreatDoor.Rem


/- Layer 7 (remap): join, Format, Open. -/
namespace Go.Proofs.YtflanjcfkdjpjaaGreatDoor.Rem
open Go Go.RowKit Go.Proofs.YtflanjcfkdjpjaaGreatDoor Dev Tab
set_option linter.unusedVariables false

theorem shape_l {p sb : Nat} {cv : Value} {D : Dv} (w : World) (h : DevAt w p sb cv D) (n z : Int) (hn : (D.n : Int) = n) (hz : (D.size : Int) = z) :
    Calls Tryz.prog 78 #[.pointer (some ⟨p, 0, none⟩)] w fun e w' => e = .returned (.agg #[.int .i64 n, .int .i64 z]) ∧ Below w.heap.size w w' := by
  subst hn; subst hz; exact shape_d w h
/-- a pair's cells -/
def pc (x y : Value) (l n : List Int) : Array Value := ([x, y] ++ tl 16 4 l ++ tl 16 4 n).toArray
theorem built78 : (Tryz.prog).built 138 [(0, .agg (ta 16 4 [])), (1, .agg (ta 16 4 []))] = some (tb [] []) := by kernel_rfl
theorem built80 (a b : Option Addr) : (Tryz.prog).built 140 [(0, .agg #[.pointer a, .pointer b]), (1, .agg (tb [] []))] = some (pc (.pointer a) (.pointer b) [] []) := by kernel_rfl
set_option maxRecDepth 100000 in
theorem wl_build78 {ops : Array Oper} {rest : List Oper} {dst : Option Tmp} {ty : TypeId} {pos : String} {after : Array Edge} {a : Act} {w : World} {Q : Exit → Act → World → Prop} {x y : Operand}
    (hx : a.eval x = .agg (ta 16 4 [])) (hy : a.eval y = .agg (ta 16 4 []))
    (h : wpList Tryz.prog ops Q rest (a.put dst (.agg (tb [] []))) w) : wpList Tryz.prog ops Q (⟨dst, .build 138 #[(0, x), (1, y)], ty, pos, after, none⟩ :: rest) a w := by
  refine wpList_plain rfl fun K' hK' => wp_build 138 #[(0, x), (1, y)] rfl ?_ ?_
  · simp only [List.map_toArray, List.map_cons, List.map_nil, hx, hy, built78]; rfl
  · simp only [List.map_toArray, List.map_cons, List.map_nil, hx, hy, built78]; exact hK' _ _ h
set_option maxRecDepth 100000 in
theorem wl_build80 {ops : Array Oper} {rest : List Oper} {dst : Option Tmp} {ty : TypeId} {pos : String} {after : Array Edge} {a : Act} {w : World} {Q : Exit → Act → World → Prop} {x y : Operand} (p q : Option Addr)
    (hx : a.eval x = .agg #[.pointer p, .pointer q]) (hy : a.eval y = .agg (tb [] []))
    (h : wpList Tryz.prog ops Q rest (a.put dst (.agg (pc (.pointer p) (.pointer q) [] []))) w) : wpList Tryz.prog ops Q (⟨dst, .build 140 #[(0, x), (1, y)], ty, pos, after, none⟩ :: rest) a w := by
  refine wpList_plain rfl fun K' hK' => wp_build 140 #[(0, x), (1, y)] rfl ?_ ?_
  · simp only [List.map_toArray, List.map_cons, List.map_nil, hx, hy, built80]; rfl
  · simp only [List.map_toArray, List.map_cons, List.map_nil, hx, hy, built80]; exact hK' _ _ h
theorem info_dev : ∃ j, (Tryz.prog).info? 126 = some j ∧ j.size ≠ 0 := by
  have : ((Tryz.prog).info? 126).any (fun j => decide (j.size ≠ 0)) = true := by kernel_rfl
  cases h : (Tryz.prog).info? 126 with
  | none => rw [h] at this; cases this
  | some j => rw [h] at this; exact ⟨j, rfl, by simpa using this⟩
theorem eq_dev {w : World} {pa pb sa sb : Nat} {ca cb : Value} {Da Db : Dv} (ha : DevAt w pa sa ca Da) (hb : DevAt w pb sb cb Db) (hab : pa ≠ pb) : (binOp .eql 25 (.pointer (some ⟨pa, 0, none⟩)) (.pointer (some ⟨pb, 0, none⟩))).run Tryz.prog w = .ok (.bool false) w := by
  obtain ⟨j, h1, h2⟩ := info_dev
  exact run_eql_ptr_other w Tryz.underlying25 h1 h2 (fun e => hab (by injection e)) ha.main hb.main
def pdOf (a b : Nat) : Nat → Nat := fun s => if s = 0 then a else b
set_option maxHeartbeats 1000000 in
set_option maxRecDepth 100000 in
theorem join_ok {pa pb sa sb : Nat} {ca cb : Value} {Da Db : Dv} {w : World} (ha : DevAt w pa sa ca Da) (hb : DevAt w pb sb cb Db) (hab : pa ≠ pb) (na : (Da.n : Int) = 24) (za : (Da.size : Int) = 192) (nb : (Db.n : Int) = 24) (zb : (Db.size : Int) = 192) :
    Calls Tryz.prog 56 #[.pointer (some ⟨pa, 0, none⟩), .pointer (some ⟨pb, 0, none⟩), .int .i64 4] w fun e w' => ∃ q, e = .returned (.tuple #[.pointer (some ⟨q, 0, none⟩), .int .i64 0]) ∧ w.heap.size ≤ q ∧ PB w' q (pdOf pa pb) (fun _ => []) ∧ Below w.heap.size w w' := by
  have HA := Lib.hid ha
  have HB := Lib.hid hb
  have HAB := Lib.hid hab
  have HS := Lib.hid (And.intro na (And.intro za (And.intro nb zb)))
  have HBL := Lib.hid (show blN 24 192 4 = 16 from by decide)
  clear ha hb na za nb zb hab
  go_enter Tryz.func56, Tryz.ntmps56
  go_wp2_with fail
  refine (shape_l _ HA.out 24 192 HS.out.1 HS.out.2.1).mono ?_
  rintro e w1 ⟨rfl, hb1⟩
  have HA1 := Lib.hid (HA.out.below hb1 (Nat.le_refl _))
  have HB1 := Lib.hid (HB.out.below hb1 (Nat.le_refl _))
  have HW1 := Lib.hid hb1
  clear hb1 HA HB
  go_wp2_with fail
  refine (blocks_any 24 192 4 _).mono ?_
  rintro e w2 ⟨rfl, hb⟩
  rw [HBL.out]
  have HA2 := Lib.hid (HA1.out.below hb (Nat.le_refl _))
  have HB2 := Lib.hid (HB1.out.below hb (Nat.le_refl _))
  have HW2 := Lib.hid (b_on HW1.out hb)
  clear hb HA1 HB1 HW1
  go_wp2_with fail
  refine (shape_l _ HA2.out 24 192 HS.out.1 HS.out.2.1).mono ?_
  rintro e w3 ⟨rfl, hb⟩
  have HA3 := Lib.hid (HA2.out.below hb (Nat.le_refl _))
  have HB3 := Lib.hid (HB2.out.below hb (Nat.le_refl _))
  have HW3 := Lib.hid (b_on HW2.out hb)
  clear hb HA2 HB2 HW2
  go_wp2_with fail
  refine (shape_l _ HB3.out 24 192 HS.out.2.2.1 HS.out.2.2.2).mono ?_
  rintro e w4 ⟨rfl, hb⟩
  have HW4 := Lib.hid (b_on HW3.out hb)
  have heq := eq_dev (HA3.out.below hb (Nat.le_refl _)) (HB3.out.below hb (Nat.le_refl _)) HAB.out
  clear hb HA3 HB3 HW3
  go_wp2_with fail
  clear heq
  refine (new_any 16 4 _).mono ?_
  rintro e w5 ⟨rfl, hb⟩
  rw [show nwN 16 4 = 16 from by decide, show nwK 16 4 = 4 from by decide, show nwE 16 4 = 0 from by decide]
  have HW5 := Lib.hid (b_on HW4.out hb)
  clear hb HW4
  have hT := TAt.made w5 16 4 []
  have HW6 := Lib.hid (b_nw HW5.out (.cells (ta 16 4 []) 88))
  have hld := hT.ld
  clear hT
  go_wp2_with (first | with_reducible refine wl_alloc ?_ | with_reducible refine wl_build78 rfl rfl ?_ | with_reducible refine wl_build80 _ _ rfl rfl ?_)
  have HP := Lib.hid (show PB (((w5.alloc (.cells (ta 16 4 []) 88)).alloc (.cells (pc (.pointer (some ⟨pa, 0, none⟩)) (.pointer (some ⟨pb, 0, none⟩)) [] []) 140))) (w5.heap.size + 1) (pdOf pa pb) (fun _ => []) from by
    have := Has.new (w5.alloc (.cells (ta 16 4 []) 88)) ([.pointer (some ⟨pa, 0, none⟩), .pointer (some ⟨pb, 0, none⟩)] ++ tl 16 4 [] ++ tl 16 4 []) 140
    rw [show (w5.alloc (.cells (ta 16 4 []) 88)).heap.size = w5.heap.size + 1 by simp] at this
    exact this)
  go_ret2
  exact ⟨w5.heap.size + 1, rfl, by have := HW5.out.size; omega, HP.out, b_nw HW6.out _⟩
/-! ### a table is stored into the pair -/
def prow (pd : Nat → Nat) (m : Nat → List Int) : Array Value := ([Value.pointer (some ⟨pd 0, 0, none⟩), Value.pointer (some ⟨pd 1, 0, none⟩)] ++ tl 16 4 (m 0) ++ tl 16 4 (m 1)).toArray
theorem PB.st {w : World} {q : Nat} {pd : Nat → Nat} {m : Nat → List Int} (h : PB w q pd m) {s : Nat} (hs : s < 2) (l : List Int) : (storeCells ⟨q, 2 + 35 * s, none⟩ (ta 16 4 l).toList 0).run Tryz.prog w = .ok () (w.setRow q (prow pd (upd m s l))) := by
  have hone : ∀ v ∈ tl 16 4 l, v.oneCell' = true := fun v hv => by
    have := ta_one 16 4 l
    rw [Array.all_eq_true] at this
    obtain ⟨i, hi, rfl⟩ := List.mem_iff_getElem.1 hv
    have := this i (by simpa [ta] using hi)
    simpa [ta] using this
  have := run_storeCells_at (P := Tryz.prog) q (2 + 35 * s) 140 (tl 16 4 l) 0 (prow pd m) w h (by
    have : (prow pd m).size = 72 := by unfold prow; simp [tl_length]
    rw [this, tl_length]; omega) hone
  rw [show (ta 16 4 l).toList = tl 16 4 l from rfl, this]
  congr 2
  rcases (show s = 0 ∨ s = 1 by omega) with rfl | rfl
  · unfold prow
    rw [upd_same, upd_ne _ _ (by omega)]
    congr 1
  · unfold prow
    rw [upd_same, upd_ne _ _ (by omega)]
    congr 1
theorem PB.put {w : World} {q : Nat} {pd : Nat → Nat} {m : Nat → List Int} (h : PB w q pd m) (m' : Nat → List Int) : PB (w.setRow q (prow pd m')) q pd m' := setRow_heap w q _ _ _ _ h
/-- .. and the rest of the world stays -/
theorem CPe.put {w0 w : World} {X : List Nat} {q : Nat} {pd : Nat → Nat} {m : Nat → List Int} {D : Nat → Dv} (h : CPe w0 X q pd m D w) (m' : Nat → List Int) : CPe w0 X q pd m' D (w.setRow q (prow pd m')) ∧ Same X w (w.setRow q (prow pd m')) := by
  have hc := chg_row (R := fun k => k = q) w q (prow pd m') rfl
  obtain ⟨⟨sb, cv, hd, hf, hff⟩, hp, hq, hx, hb⟩ := h
  refine ⟨⟨⟨sb, cv, fun s h2 => (hd s h2).chg hc fun k hk => (hf s h2 k hk).2.2, hf, hff⟩, hp.put m', hq, fun k hk => ⟨(hx k hk).1, Nat.lt_of_lt_of_le (hx k hk).2 hc.size⟩, hb.trans (hc.below hb.size fun k hk => by rw [hk]; exact hq.1)⟩, fun k hk => setRow_other _ _ _ _ fun e => hq.2 (e ▸ hk)⟩
end Go.Proofs.YtflanjcfkdjpjaaGreatDoor.Rem


/- Layer 7 (remap): Format, Open. -/
namespace Go.Proofs.YtflanjcfkdjpjaaGreatDoor.Rem
open Go Go.RowKit Go.Proofs.YtflanjcfkdjpjaaGreatDoor Dev Tab
set_option linter.unusedVariables false

section
variable {w0 w : World} {X : List Nat} {pd : Nat → Nat} {D : Nat → Dv}
/-- two devices apart, from w0's end on, and none of it in X; X lies there, too -/
structure Dvs (w0 : World) (X : List Nat) (pd : Nat → Nat) (D : Nat → Dv) (w : World) : Prop where
  some_ : ∃ (sb : Nat → Nat) (cv : Nat → Value), (∀ s, s < 2 → DevAt w (pd s) (sb s) (cv s) (D s)) ∧
    (∀ s, s < 2 → ∀ k, foot (pd s) (sb s) (cv s) k → w0.heap.size ≤ k ∧ k ∉ X) ∧ (∀ k, foot (pd 0) (sb 0) (cv 0) k → ¬ foot (pd 1) (sb 1) (cv 1) k)
  x : ∀ k ∈ X, w0.heap.size ≤ k ∧ k < w.heap.size
  below : Below w0.heap.size w0 w
theorem CPe.dvs {q : Nat} {m : Nat → List Int} (h : CPe w0 X q pd m D w) : Dvs w0 (q :: X) pd D w := by
  have hl := h.lt
  obtain ⟨⟨sb, cv, hd, hf, hff⟩, hp, hq, hx, hb⟩ := h
  refine ⟨⟨sb, cv, hd, fun s hs k hk => ⟨(hf s hs k hk).1, fun he => ?_⟩, hff⟩, fun k hk => ?_, hb⟩
  · rcases List.mem_cons.1 he with rfl | he
    · exact (hf s hs _ hk).2.2 rfl
    · exact (hf s hs k hk).2.1 he
  · rcases List.mem_cons.1 hk with rfl | hk
    · exact ⟨hq.1, hl⟩
    · exact hx k hk
theorem Dvs.pair (h : Dvs w0 X pd D w) {w' : World} (hb : Below w.heap.size w w') {q : Nat} (hq : w.heap.size ≤ q) {m : Nat → List Int} (hp : PB w' q pd m) : CPe w0 X q pd m D w' := by
  obtain ⟨⟨sb, cv, hd, hf, hff⟩, hx, hb0⟩ := h
  refine ⟨⟨sb, cv, fun s hs => (hd s hs).below hb (Nat.le_refl _), fun s hs k hk => ⟨(hf s hs k hk).1, (hf s hs k hk).2, fun e => ?_⟩, hff⟩, hp, ⟨Nat.le_trans hb0.size hq, fun e => ?_⟩, fun k hk => ⟨(hx k hk).1, Nat.lt_of_lt_of_le (hx k hk).2 hb.size⟩, hb0.trans (hb.mono hb0.size)⟩
  · have := (hd s hs).lt k hk; omega
  · have := (hx q e).2; omega
theorem Dvs.ne (h : Dvs w0 X pd D w) : pd 0 ≠ pd 1 := fun e => by
  obtain ⟨⟨sb, cv, hd, hf, hff⟩, hx, hb0⟩ := h
  exact hff (pd 0) (.inl rfl) (.inl e)
theorem Dvs.later (h : Dvs w0 X pd D w) {w' : World} (hb : Below w.heap.size w w') : Dvs w0 X pd D w' := by
  obtain ⟨⟨sb, cv, hd, hf, hff⟩, hx, hb0⟩ := h
  exact ⟨⟨sb, cv, fun s hs => (hd s hs).below hb (Nat.le_refl _), hf, hff⟩, fun k hk => ⟨(hx k hk).1, Nat.lt_of_lt_of_le (hx k hk).2 hb.size⟩, hb0.trans (hb.mono hb0.size)⟩
theorem Dvs.same (h : Dvs w0 X pd D w) {w' : World} (hb : Below w.heap.size w w') : Same X w w' := fun k hk => hb.block k (h.x k hk).2
/-- of 20 sectors of 128 bytes -/
def Sz (D : Nat → Dv) : Prop := ∀ s, s < 2 → ((D s).n : Int) = 24 ∧ ((D s).size : Int) = 192 ∧ (D s).cache.length ≤ 1000000
end
/-- a pair, where there is no error -/
def ptV (E : Int) (q : Nat) : Value := .pointer (if E = 0 then some ⟨q, 0, none⟩ else none)
set_option maxHeartbeats 1000000 in
set_option maxRecDepth 100000 in
theorem format_e {w0 w : World} {X : List Nat} {pa pb : Nat} {D : Nat → Dv} (h : Dvs w0 X (pdOf pa pb) D w) (hz : Sz D) :
    Calls Tryz.prog 27 #[.pointer (some ⟨pa, 0, none⟩), .pointer (some ⟨pb, 0, none⟩), .int .i64 4] w fun e w' => ∃ q, e = .returned (.tuple #[ptV (kbE D (fun _ => [])) q, .int .i64 (kbE D (fun _ => []))]) ∧ w.heap.size ≤ q ∧ CPe w0 X q (pdOf pa pb) (fun _ => []) (kbD D (fun _ => [])) w' ∧ Same X w w' := by
  have HD := Lib.hid h
  have HZ := Lib.hid hz
  obtain ⟨E, hE⟩ : ∃ E, E = kbE D (fun _ => []) := ⟨_, rfl⟩
  have HE := Lib.hid hE
  rw [← hE]
  clear h hz hE
  go_enter Tryz.func27, Tryz.ntmps27
  go_wp2_with fail
  obtain ⟨sb, cv, hd, -, -⟩ := HD.out.some_
  refine (join_ok (hd 0 (by omega)) (hd 1 (by omega)) HD.out.ne (HZ.out 0 (by omega)).1 (HZ.out 0 (by omega)).2.1 (HZ.out 1 (by omega)).1 (HZ.out 1 (by omega)).2.1).mono ?_
  rintro e w1 ⟨q, rfl, hq, hp, hb⟩
  have HC := Lib.hid (HD.out.pair hb hq hp)
  have HS := Lib.hid (HD.out.same hb)
  have HQ := Lib.hid hq
  clear hq hp hb hd
  go_wp2_with fail
  refine (keepBoth_e HC.out (fun s hs => Tab.Good.nil (by decide)) (fun s hs => by have := (HZ.out s hs).2.1; omega) (fun t ht => (HZ.out t ht).2.2)).mono ?_
  rintro e w2 ⟨rfl, hc, hsm⟩
  rw [← HE.out]
  have HC2 := Lib.hid hc
  have HS2 := Lib.hid (HS.out.trans (fun k hk => hsm k (List.mem_cons_of_mem _ hk) : Same X w1 w2))
  clear hc hsm HC
  by_cases h0 : E = 0
  · subst h0
    go_wp2_with fail
    go_ret2
    exact ⟨q, rfl, HQ.out, HC2.out, HS2.out⟩
  · go_wp2_with fail
    go_ret2
    exact ⟨q, by unfold ptV; rw [if_neg h0]; rfl, HQ.out, HC2.out, HS2.out⟩
/-! ### Open -/
theorem PB.st0 {w : World} {q : Nat} {pd : Nat → Nat} {m : Nat → List Int} (h : PB w q pd m) (l : List Int) : (storeCells ⟨q, 2, none⟩ (ta 16 4 l).toList 0).run Tryz.prog w = .ok () (w.setRow q (prow pd (upd m 0 l))) := h.st (s := 0) (by omega) l
theorem PB.st1 {w : World} {q : Nat} {pd : Nat → Nat} {m : Nat → List Int} (h : PB w q pd m) (l : List Int) : (storeCells ⟨q, 37, none⟩ (ta 16 4 l).toList 0).run Tryz.prog w = .ok () (w.setRow q (prow pd (upd m 1 l))) := h.st (s := 1) (by omega) l
/-- behind r sides -/
def opnM (D : Nat → Dv) (r : Nat) : Nat → List Int := fun s => if s < r then (bst D s 4).getD [] else []
theorem opnM_zero (D : Nat → Dv) : opnM D 0 = fun _ => [] := by funext s; unfold opnM; rw [if_neg (by omega)]
theorem opnM_succ (D : Nat → Dv) (r : Nat) {l : List Int} (h : bst D r 4 = some l) : upd (opnM D r) r l = opnM D (r + 1) := by
  funext s
  by_cases e : s = r
  · subst e; rw [upd_same]; show l = if s < s + 1 then (bst D s 4).getD [] else []; rw [if_pos (by omega), h]; rfl
  · rw [upd_ne _ _ e]
    show (if s < r then (bst D s 4).getD [] else []) = if s < r + 1 then (bst D s 4).getD [] else []
    by_cases e2 : s < r
    · rw [if_pos e2, if_pos (by omega)]
    · rw [if_neg e2, if_neg (by omega)]
theorem EqR.bst {D E : Nat → Dv} (h : EqR D E) (s : Nat) : ∀ r, bst E s r = bst D s r
  | 0 => rfl
  | r + 1 => by rw [bst_succ, bst_succ, h.bst s r, h.rdT]
/-- what Open answers -/
def opE2 (D : Nat → Dv) : Int := if (bst D 0 4).isSome = true ∧ (bst D 1 4).isSome = true then 0 else 10
set_option maxHeartbeats 2000000 in
set_option maxRecDepth 100000 in
theorem open_e {w0 w : World} {X : List Nat} {pa pb : Nat} {D : Nat → Dv} (h : Dvs w0 X (pdOf pa pb) D w) (hz : Sz D) (ho : ∀ s, s < 2 → (D s).off = false) :
    Calls Tryz.prog 36 #[.pointer (some ⟨pa, 0, none⟩), .pointer (some ⟨pb, 0, none⟩), .int .i64 4] w fun e w' => ∃ q E m, e = .returned (.tuple #[ptV (opE2 D) q, .int .i64 (opE2 D)]) ∧ (opE2 D = 0 → m = opnM D 2) ∧ w.heap.size ≤ q ∧ EqR D E ∧ CPe w0 X q (pdOf pa pb) m E w' ∧ Same X w w' := by
  have HD := Lib.hid h
  have HZ := Lib.hid hz
  have HO := Lib.hid ho
  obtain ⟨E0, hE⟩ : ∃ E0, E0 = opE2 D := ⟨_, rfl⟩
  have HE := Lib.hid hE
  rw [← hE]
  clear h hz ho hE
  go_enter Tryz.func36, Tryz.ntmps36
  go_wp2_with fail
  obtain ⟨sb, cv, hd, -, -⟩ := HD.out.some_
  refine (join_ok (hd 0 (by omega)) (hd 1 (by omega)) HD.out.ne (HZ.out 0 (by omega)).1 (HZ.out 0 (by omega)).2.1 (HZ.out 1 (by omega)).1 (HZ.out 1 (by omega)).2.1).mono ?_
  rintro e w1 ⟨q, rfl, hq, hp, hb⟩
  have HC := Lib.hid (HD.out.pair hb hq hp)
  have HS := Lib.hid (HD.out.same hb)
  have HQ := Lib.hid hq
  clear hq hp hb hd
  go_wp2_with fail
  obtain ⟨sb, cv, hd, -, -⟩ := HC.out.some_
  refine (off_any _ (hd 0 (by omega))).mono ?_
  rintro e w' ⟨rfl, rfl⟩
  rw [HO.out 0 (by omega)]
  go_wp2_with fail
  refine (off_any _ (hd 1 (by omega))).mono ?_
  rintro e w' ⟨rfl, rfl⟩
  rw [HO.out 1 (by omega)]
  have hld := HC.out.pb.ldd
  clear hd
  go_wp2_with fail
  clear hld
  go_loopw [34] (fun i wr => ∃ (r : Nat) (E : Nat → Dv), r ≤ 2 ∧ i = .int .i64 r ∧ (∀ s, s < r → (bst D s 4).isSome = true) ∧ EqR D E ∧ CPe w0 X q (pdOf pa pb) (opnM D r) E wr ∧ Same X w wr) (fun i _ => 2 - (intOf i).toNat)
  case atStart => exact ⟨0, D, by omega, rfl, fun s hs => by omega, EqR.refl D, by rw [opnM_zero]; exact HC.out, HS.out⟩
  case round =>
    obtain ⟨r, E, hr, rfl, hn, hq, hc, hsm⟩ := hrel
    clear HC HS
    have HC := Lib.hid hc
    have HN := Lib.hid hn
    have HQE := Lib.hid hq
    have HS := Lib.hid hsm
    clear hc hn hq hsm
    by_cases h2 : r = 2
    · subst h2
      have HE0 := Lib.hid (show E0 = 0 by rw [HE.out]; unfold opE2; rw [if_pos ⟨HN.out 0 (by omega), HN.out 1 (by omega)⟩])
      go_wp2_with fail
      go_ret2
      exact ⟨q, E, opnM D 2, by rw [HE0.out]; rfl, fun _ => rfl, HQ.out, HQE.out, HC.out, HS.out⟩
    · have hr2 : r < 2 := by omega
      have HR := Lib.hid hr2
      have hi0 := ix_0 [] []
      have hi1 := ix_1 [] []
      obtain ⟨rr, hrr⟩ : ∃ rr, rr = r := ⟨_, rfl⟩
      have HRR := Lib.hid hrr
      have hld := (TAt.made wr 16 4 []).ld
      obtain ⟨F, hF⟩ : ∃ F, F = (bst D rr 4).isSome := ⟨_, rfl⟩
      have HF := Lib.hid hF
      clear hr h2 hrr hF
      rcases (show r = 0 ∨ r = 1 by omega) with rfl | rfl
      all_goals
        clear hr2
        first
        | rw [show ((0 : Nat) : Int) = 0 from rfl]
        | rw [show ((1 : Nat) : Int) = 1 from rfl]
        go_wp2_with (first | with_reducible refine wl_alloc ?_)
        clear hi0 hi1 hld
        refine (newest_e (HC.out.later (b_new wr (.cells (ta 16 4 []) 88))) HR.out (fun t ht => by rw [HQE.out.cache]; have := (HZ.out t ht).2.2; omega)).mono ?_
        rintro e w2 ⟨x, y, M, E2, rfl, his, heq, hc, hsm⟩
        rw [HQE.out.bst] at his ⊢
        have HC2 := Lib.hid (hc.later (b_new w2 (.cells (ta x y M) 88)))
        have HQ2 := Lib.hid (HQE.out.trans heq)
        have HS2 := Lib.hid (show Same X w (w2.alloc (.cells (ta x y M) 88)) from fun k hk => (Below.heap_alloc _ _ _ (hc.x k hk).2).trans ((hsm k (List.mem_cons_of_mem _ hk)).trans ((Below.heap_alloc _ _ _ (HC.out.x k hk).2).trans (HS.out k hk))))
        have HI := Lib.hid his
        have hl2 := (TAt.made w2 x y M).ld
        clear his heq hc hsm HC HS HQE
        cases F with
        | false =>
          have HF2 := Lib.hid (show (bst D rr 4).isSome = false from HF.out.symm)
          rw [HRR.out] at HF2
          have HE0 := Lib.hid (show E0 = 10 by
            rw [HE.out]; unfold opE2
            refine if_neg fun h => ?_
            first
            | (have := HF2.out; rw [h.1] at this; cases this)
            | (have := HF2.out; rw [h.2] at this; cases this))
          rw [HF2.out]
          go_wp2_with (first | with_reducible refine wl_alloc ?_)
          go_ret2
          exact ⟨q, E2, _, by rw [HE0.out]; rfl, (fun h => by rw [HE0.out] at h; cases h), HQ.out, HQ2.out, HC2.out, HS2.out⟩
        | true =>
          have HF2 := Lib.hid (show (bst D rr 4).isSome = true from HF.out.symm)
          rw [HRR.out] at HF2
          obtain ⟨l, hl⟩ := Option.isSome_iff_exists.1 HF2.out
          obtain ⟨hx, hy, hM⟩ := HI.out l hl
          subst hx; subst hy; subst hM
          have HLL := Lib.hid hl
          rw [HF2.out]
          have HCd := Lib.hid (HC2.out.later (Below.refl _ _).drew)
          have hl3 := ((TAt.made w2 16 4 M).on (Below.refl _ _).drew).ld
          have hsucc := opnM_succ D _ hl
          first
          | (have hst := HCd.out.pb.st0 M; rw [hsucc] at hst)
          | (have hst := HCd.out.pb.st1 M; rw [hsucc] at hst)
          clear hsucc
          have HPUT := Lib.hid (fun m' => HCd.out.put m')
          clear HI hl
          go_wp2_with (first | with_reducible refine wl_alloc ?_)
          refine Reg.still_tail 6 (by kernel_rfl) (by kernel_rfl) ?_
          simp only [List.take_succ_cons, List.take_zero, List.drop_succ_cons, List.drop_zero]
          repeat still_step
          try refine wpStill_nil ?_
          go_wp2_with fail
          have hsd : Same X (w2.alloc (.cells (ta 16 4 M) 88)) (w2.alloc (.cells (ta 16 4 M) 88)).drew := fun _ _ => rfl
          have hsome : ∀ s, s < rr + 1 → (bst D s 4).isSome = true := fun s hs => by
            by_cases e : s = rr
            · rw [e]; exact HF.out.symm
            · exact HN.out s (by have := HRR.out; omega)
          rw [HRR.out] at hsome
          first
          | (have h01 : rr = 0 := HRR.out
             exact ⟨⟨0 + 1, E2, by omega, by go_num, hsome, HQ2.out, (HPUT.out _).1, HS2.out.trans (hsd.trans (HPUT.out _).2)⟩, by simp [intOf]⟩)
          | (have h01 : rr = 1 := HRR.out
             exact ⟨⟨1 + 1, E2, by omega, by go_num, hsome, HQ2.out, (HPUT.out _).1, HS2.out.trans (hsd.trans (HPUT.out _).2)⟩, by simp [intOf]⟩)
end Go.Proofs.YtflanjcfkdjpjaaGreatDoor.Rem


/- Layer 7 (remap): Device, Table, Alive, Read, Move, Flush, over devices as plain data. -/
namespace Go.Proofs.YtflanjcfkdjpjaaGreatDoor.Rem
open Go Go.RowKit Go.Proofs.YtflanjcfkdjpjaaGreatDoor Dev Tab
set_option linter.unusedVariables false

section
variable {w0 w : World} {X : List Nat} {q : Nat} {pd : Nat → Nat} {m : Nat → List Int} {D : Nat → Dv} {s : Nat}
theorem device_e (h : PB w q pd m) (hs : s < 2) : Calls Tryz.prog 77 #[.pointer (some ⟨q, 0, none⟩), .int .i64 (s : Nat)] w fun e w' => e = .returned (.pointer (some ⟨pd s, 0, none⟩)) ∧ w = w' := by
  have c0 := h.dev (s := 0) (by omega)
  have c1 := h.dev (s := 1) (by omega)
  clear h
  rcases (show s = 0 ∨ s = 1 by omega) with rfl | rfl
  all_goals
    clear hs
    go_enter Tryz.func77, Tryz.ntmps77
    go_wp2_with fail
    refine (refusal_any q _ _).mono ?_
    rintro e w' ⟨rfl, rfl⟩
    rw [show refR _ = 0 from rfl]
    go_wp2
    go_ret
    exact ⟨rfl, rfl⟩
set_option maxRecDepth 100000 in
theorem table_e (h : PB w q pd m) (hs : s < 2) : Calls Tryz.prog 31 #[.pointer (some ⟨q, 0, none⟩), .int .i64 (s : Nat)] w fun e w' => e = .returned (.agg (ta 16 4 (m s))) ∧ Below w.heap.size w w' := by
  have h2 := h.later (b_new w (.cells (ta 0 0 []) 88))
  have hl := h2.ld hs
  have HT := Lib.hid (TAt.made w 0 0 [])
  have s0 := HT.out.st 16 4 (m s)
  have z0 := (HT.out.put 16 4 (m s)).ld
  have HB := Lib.hid (b_row (b_new w (.cells (ta 0 0 []) 88)) (p := w.heap.size) (Nat.le_refl _) (ta 16 4 (m s)))
  obtain ⟨l, hm⟩ : ∃ l, l = m s := ⟨_, rfl⟩
  rw [World.setRow_alloc_new] at s0 z0 HB
  rw [← hm] at hl s0 z0 HB ⊢
  clear h h2 hm
  rcases (show s = 0 ∨ s = 1 by omega) with rfl | rfl
  all_goals
    clear hs
    go_enter Tryz.func31, Tryz.ntmps31
    go_wp2_with (first | with_reducible refine wl_alloc ?_)
    refine (refusal_any q _ _).mono ?_
    rintro e w' ⟨rfl, rfl⟩
    rw [show refR _ = 0 from rfl]
    go_wp2_with fail
    exact bodyPost_ret (v := .agg (ta 16 4 l)) (by simp [results, Tryz.results31, go_sem, z0]) rfl ⟨rfl, HB.out⟩
theorem alive_e (h : CPe w0 X q pd m D w) (hs : s < 2) : Calls Tryz.prog 97 #[.pointer (some ⟨q, 0, none⟩), .int .i64 (s : Nat)] w fun e w' => e = .returned (.bool (!(D s).dead)) ∧ w = w' := by
  have HC := Lib.hid h
  obtain ⟨u, hu⟩ : ∃ u, u = (D s).dead := ⟨_, rfl⟩
  have HU := Lib.hid hu
  rw [← hu]
  clear h hu
  go_enter Tryz.func97, Tryz.ntmps97
  go_wp2_with fail
  refine (device_e HC.out.pb hs).mono ?_
  rintro e w' ⟨rfl, rfl⟩
  go_wp2_with fail
  obtain ⟨sb, cv, hd, -, -⟩ := HC.out.some_
  refine (dead_any _ (hd s hs)).mono ?_
  rintro e w' ⟨rfl, rfl⟩
  rw [← HU.out]
  clear hd
  go_wp2
  go_ret
  exact ⟨rfl, rfl⟩
theorem dflush_e (h : CPe w0 X q pd m D w) (hs : s < 2) (hl : (D s).cache.length ≤ 1000000) (p : Nat) (hp : p = pd s) : Calls Tryz.prog 98 #[.pointer (some ⟨p, 0, none⟩)] w fun e w' => e = .returned (.int .i64 (D s).flushE) ∧ CPe w0 X q pd m (upd D s (D s).flushD) w' ∧ Same (q :: X) w w' := by
  subst hp
  refine (h.dev (R := fun e => e = .returned (.int .i64 (D s).flushE)) (G := fun E => E = (D s).flushD) hs fun sb cv hd => (flush_any _ hd (by omega)).mono ?_).mono ?_
  · rintro e w' ⟨rfl, hn⟩
    exact ⟨rfl, _, rfl, hn⟩
  · rintro e w' ⟨rfl, E, rfl, hc, hsm⟩
    exact ⟨rfl, hc, hsm⟩
theorem dread_e (h : CPe w0 X q pd m D w) (hs : s < 2) (hl : (D s).cache.length ≤ 1000000) (i : Int) (p : Nat) (hp : p = pd s) : Calls Tryz.prog 100 #[.pointer (some ⟨p, 0, none⟩), .int .i64 i] w fun e w' => e = .returned (.tuple #[.string ((D s).readT i), .int .i64 ((D s).readE i)]) ∧ CPe w0 X q pd m (upd D s ((D s).readD i)) w' ∧ Same (q :: X) w w' := by
  subst hp
  refine (h.dev (R := fun e => e = .returned (.tuple #[.string ((D s).readT i), .int .i64 ((D s).readE i)])) (G := fun E => E = (D s).readD i) hs fun sb cv hd => (read_any i _ hd (by omega)).mono ?_).mono ?_
  · rintro e w' ⟨rfl, hch, hd'⟩
    exact ⟨rfl, _, rfl, .same hch hd'⟩
  · rintro e w' ⟨rfl, E, rfl, hc, hsm⟩
    exact ⟨rfl, hc, hsm⟩
theorem dwrite_e (h : CPe w0 X q pd m D w) (hs : s < 2) (hl : (D s).cache.length ≤ 1000000) (i : Int) (t : ByteArray) (ht : t.size ≤ 1000000) (p : Nat) (hp : p = pd s) : Calls Tryz.prog 132 #[.pointer (some ⟨p, 0, none⟩), .int .i64 i, .string t] w fun e w' => e = .returned (.int .i64 ((D s).writeE i t)) ∧ CPe w0 X q pd m (upd D s ((D s).writeD i t)) w' ∧ Same (q :: X) w w' := by
  subst hp
  refine (h.dev (R := fun e => e = .returned (.int .i64 ((D s).writeE i t))) (G := fun E => E = (D s).writeD i t) hs fun sb cv hd => (write_any i t _ hd (by omega) (by omega)).mono ?_).mono ?_
  · rintro e w' ⟨rfl, hn⟩
    exact ⟨rfl, _, rfl, hn⟩
  · rintro e w' ⟨rfl, E, rfl, hc, hsm⟩
    exact ⟨rfl, hc, hsm⟩
theorem flush_e (h : CPe w0 X q pd m D w) (hs : s < 2) (hl : (D s).cache.length ≤ 1000000) : Calls Tryz.prog 64 #[.pointer (some ⟨q, 0, none⟩), .int .i64 (s : Nat)] w fun e w' => e = .returned (.int .i64 (D s).flushE) ∧ CPe w0 X q pd m (upd D s (D s).flushD) w' ∧ Same (q :: X) w w' := by
  have HC := Lib.hid h
  have c0 := h.pb.dev (s := 0) (by omega)
  have c1 := h.pb.dev (s := 1) (by omega)
  have HL := Lib.hid hl
  have HS := Lib.hid hs
  obtain ⟨u, hu⟩ : ∃ u, u = (D s).flushE := ⟨_, rfl⟩
  have HU := Lib.hid hu
  rw [← hu]
  clear h hl hu
  rcases (show s = 0 ∨ s = 1 by omega) with rfl | rfl
  all_goals
    clear hs
    go_enter Tryz.func64, Tryz.ntmps64
    go_wp2_with fail
    refine (refusal_any q _ _).mono ?_
    rintro e w' ⟨rfl, rfl⟩
    rw [show refR _ = 0 from rfl]
    go_wp2_with fail
    clear c0 c1
    refine (dflush_e HC.out HS.out HL.out _ rfl).mono ?_
    rintro e w' ⟨rfl, hc, hsm⟩
    rw [← HU.out]
    have HC2 := Lib.hid hc
    have HS2 := Lib.hid hsm
    clear hc hsm
    go_wp2
    go_ret
    exact ⟨rfl, HC2.out, HS2.out⟩
/-- what Read reads: the block's sector -/
def sec (m : Nat → List Int) (s b : Nat) : Int := 4 + plc 16 (m s) b
theorem read_e (h : CPe w0 X q pd m D w) (hs : s < 2) (hg : Tab.Good 16 4 (m s)) (hl : (D s).cache.length ≤ 1000000) {b : Nat} (hb : b < 16) : Calls Tryz.prog 120 #[.pointer (some ⟨q, 0, none⟩), .int .i64 (s : Nat), .int .i64 (b : Nat)] w fun e w' => e = .returned (.tuple #[.string ((D s).readT (sec m s b)), .int .i64 ((D s).readE (sec m s b))]) ∧ CPe w0 X q pd m (upd D s ((D s).readD (sec m s b))) w' ∧ Same (q :: X) w w' := by
  have HC := Lib.hid h
  have HG := Lib.hid hg
  have HL := Lib.hid hl
  have HS := Lib.hid hs
  obtain ⟨p, hp⟩ : ∃ p, p = pd s := ⟨_, rfl⟩
  have HP := Lib.hid hp
  have hat := at_yes (n := 16) (m := m s) (b := (b : Int)) (by omega) (by omega)
  have HA := Lib.hid hat
  obtain ⟨v, hv⟩ : ∃ v, v = sec m s b := ⟨_, rfl⟩
  have HV := Lib.hid hv
  rw [← hv]
  clear h hg hl hat hv hp
  go_enter Tryz.func120, Tryz.ntmps120
  go_wp2_with fail
  refine (sector_e HC.out.pb hs HG.out b).mono ?_
  rintro e w1 ⟨rfl, hb1⟩
  rw [HA.out.2.1, HA.out.2.2, show 4 + plc 16 (m s) (b : Int) = v from HV.out.symm]
  have HC1 := Lib.hid (HC.out.later hb1)
  have HS1 := Lib.hid (same_below HC.out hb1)
  have c1 := HC1.out.pb.dev hs
  rw [← HP.out] at c1
  have hs0 : 0 ≤ (s : Int) := by omega
  have hs2 : (s : Int) < 2 := by omega
  clear hb1 HC
  go_wp2_with fail
  clear c1
  refine (dread_e HC1.out hs HL.out v p HP.out).mono ?_
  rintro e w2 ⟨rfl, hc, hsm⟩
  have HC2 := Lib.hid hc
  have HS2 := Lib.hid (HS1.out.trans hsm)
  clear hc hsm
  obtain ⟨t, ht⟩ : ∃ t, t = (D s).readT v := ⟨_, rfl⟩
  obtain ⟨e, he⟩ : ∃ e, e = (D s).readE v := ⟨_, rfl⟩
  rw [← ht, ← he]
  go_wp2
  go_ret2
  exact ⟨rfl, HC2.out, HS2.out⟩
end
end Go.Proofs.YtflanjcfkdjpjaaGreatDoor.Rem


/- Layer 7 (remap): Move, Replace. -/
namespace Go.Proofs.YtflanjcfkdjpjaaGreatDoor.Rem
open Go Go.RowKit Go.Proofs.YtflanjcfkdjpjaaGreatDoor Dev Tab
set_option linter.unusedVariables false

section
variable {w0 w : World} {X : List Nat} {q : Nat} {pd : Nat → Nat} {m : Nat → List Int} {D : Nat → Dv} {s : Nat}
set_option maxHeartbeats 1000000 in
set_option maxRecDepth 100000 in
theorem move_full (h : PB w q pd m) (hs : s < 2) (hg : Tab.Good 16 4 (m s)) {b : Nat} (hb : b < 16) (hm : ¬ (m s).length < 4) : Calls Tryz.prog 133 #[.pointer (some ⟨q, 0, none⟩), .int .i64 (s : Nat), .int .i64 (b : Nat)] w fun e w' => e = .returned (.int .i64 9) ∧ Below w.heap.size w w' := by
  have hld := h.ld hs
  have HG := Lib.hid hg
  have hE := mv_full (n := 16) (k := 4) (m := m s) (b := (b : Int)) (by omega) (by omega) (by omega)
  obtain ⟨b1, b2, b3⟩ := mv_bad (n := 16) (k := 4) (m := m s) (b := (b : Int)) (by rw [hE]; decide)
  have HV := Lib.hid (And.intro hE (And.intro b1 (And.intro b2 b3)))
  clear h hg hE b1 b2 b3 hm hb
  rcases (show s = 0 ∨ s = 1 by omega) with rfl | rfl
  all_goals
    clear hs
    go_enter Tryz.func133, Tryz.ntmps133
    go_wp2_with fail
    refine (refusal_any q _ _).mono ?_
    rintro e w' ⟨rfl, rfl⟩
    rw [show refR _ = 0 from rfl]
    go_wp2_with fail
    clear hld
    refine (Tab.move_any 16 4 b _ _ HG.out).mono ?_
    rintro e w1 ⟨rfl, hb⟩
    rw [HV.out.1, HV.out.2.1, HV.out.2.2.1, HV.out.2.2.2]
    have HB := Lib.hid (b_nw hb (.cells (ta 0 0 []) 88))
    clear hb
    go_wp2_with (first | with_reducible refine wl_alloc ?_)
    go_ret
    exact ⟨rfl, HB.out⟩
set_option maxHeartbeats 1000000 in
set_option maxRecDepth 100000 in
theorem move_e (h : CPe w0 X q pd m D w) (hs : s < 2) (hg : Tab.Good 16 4 (m s)) (hz : Sz D) {b : Nat} (hb : b < 16) (hm : (m s).length < 4) {l : List Int} (hl : l = m s ++ [(b : Int)]) : Calls Tryz.prog 133 #[.pointer (some ⟨q, 0, none⟩), .int .i64 (s : Nat), .int .i64 (b : Nat)] w fun e w' => e = .returned (.int .i64 (kpE D s l)) ∧ (∃ m', (kpE D s l = 0 → m' = upd m s l) ∧ (kpE D s l ≠ 0 → m' = m) ∧ CPe w0 X q pd m' (kpD D s l) w') ∧ Same X w w' := by
  have HC := Lib.hid h
  have hld := h.pb.ld hs
  have HG := Lib.hid hg
  have HZ := Lib.hid hz
  have HS := Lib.hid hs
  have hE := mv_yes (n := 16) (k := 4) (m := m s) (b := (b : Int)) (by omega) (by omega) (by omega)
  have HG2 := Lib.hid (show Tab.Good 16 4 l by rw [hl]; exact (hg.push hE).1)
  obtain ⟨b1, b2, b3⟩ := mv_ok hE
  have HV := Lib.hid (show mvE 16 4 (m s) b = 0 ∧ mvN 16 4 (m s) b = 16 ∧ mvK 16 4 (m s) b = 4 ∧ mvM 16 4 (m s) b = l from ⟨hE, b1, b2, b3.trans hl.symm⟩)
  obtain ⟨E, hEE⟩ : ∃ E, E = kpE D s l := ⟨_, rfl⟩
  have HE := Lib.hid hEE
  rw [← hEE]
  clear h hg hz hE b1 b2 b3 hl hEE hm hb
  rcases (show s = 0 ∨ s = 1 by omega) with rfl | rfl
  all_goals
    clear hs
    go_enter Tryz.func133, Tryz.ntmps133
    go_wp2_with fail
    refine (refusal_any q _ _).mono ?_
    rintro e w' ⟨rfl, rfl⟩
    rw [show refR _ = 0 from rfl]
    go_wp2_with fail
    clear hld
    refine (Tab.move_any 16 4 b _ _ HG.out).mono ?_
    rintro e w1 ⟨rfl, hb⟩
    rw [HV.out.1, HV.out.2.1, HV.out.2.2.1, HV.out.2.2.2]
    obtain ⟨g, hg⟩ : ∃ g, g = w1.heap.size := ⟨_, rfl⟩
    have HC1 := Lib.hid (HC.out.later hb)
    have HC2 := Lib.hid (show CPe w0 (g :: X) q pd m D (w1.alloc (.cells (ta 16 4 l) 88)) from by rw [hg]; exact HC1.out.new _)
    have HT2 := Lib.hid (show TAt (w1.alloc (.cells (ta 16 4 l) 88)) g 16 4 l from by rw [hg]; exact TAt.made _ _ _ _)
    have HS2 := Lib.hid (show Same X w (w1.alloc (.cells (ta 16 4 l) 88)) from fun k hk => (Below.heap_alloc _ _ _ (HC1.out.x k hk).2).trans (hb.block k (HC.out.x k hk).2))
    have hl2 := (TAt.made w1 16 4 l).ld
    clear hb HC HC1
    go_wp2_with (first | with_reducible refine wl_alloc ?_)
    rw [← hg]
    clear hg hl2
    refine (keep_e HC2.out HS.out HG2.out (by have := (HZ.out _ HS.out).2.1; omega) (fun t ht => by have := (HZ.out t ht).2.2; omega)).mono ?_
    rintro e w3 ⟨rfl, hc, hsm⟩
    rw [← HE.out]
    have HC3 := Lib.hid (hc.sub (Y := X) fun k hk => List.mem_cons_of_mem _ hk)
    have HT3 := Lib.hid (show TAt w3 g 16 4 l from HT2.out.same (hsm g (by simp)))
    have HS3 := Lib.hid (HS2.out.trans (fun k hk => hsm k (by simp [hk]) : Same X _ w3))
    clear hc hsm HC2 HT2 HS2
    by_cases h0 : E = 0
    · subst h0
      have HCd := Lib.hid (HC3.out.later (Below.refl _ _).drew)
      have hl3 := (HT3.out.on (Below.refl _ _).drew).ld
      first
      | (have hst := HCd.out.pb.st0 l
         have hput := HCd.out.put (upd m 0 l)
         have HP := Lib.hid hput
         clear hput
         go_wp2_with fail
         refine Reg.still_tail 6 (by kernel_rfl) (by kernel_rfl) ?_
         simp only [List.take_succ_cons, List.take_zero, List.drop_succ_cons, List.drop_zero]
         repeat still_step
         try refine wpStill_nil ?_
         go_wp2_with fail
         go_ret
         exact ⟨rfl, HP.out.1, HS3.out.trans ((show Same X w3 w3.drew from fun _ _ => rfl).trans HP.out.2)⟩)
      | (have hst := HCd.out.pb.st1 l
         have hput := HCd.out.put (upd m 1 l)
         have HP := Lib.hid hput
         clear hput
         go_wp2_with fail
         refine Reg.still_tail 6 (by kernel_rfl) (by kernel_rfl) ?_
         simp only [List.take_succ_cons, List.take_zero, List.drop_succ_cons, List.drop_zero]
         repeat still_step
         try refine wpStill_nil ?_
         go_wp2_with fail
         go_ret
         exact ⟨rfl, HP.out.1, HS3.out.trans ((show Same X w3 w3.drew from fun _ _ => rfl).trans HP.out.2)⟩)
    · go_wp2_with fail
      go_ret
      exact ⟨rfl, ⟨m, fun h => absurd h h0, fun _ => rfl, HC3.out⟩, HS3.out⟩
end
end Go.Proofs.YtflanjcfkdjpjaaGreatDoor.Rem


/- Layer 7 (remap): Replace. -/
namespace Go.Proofs.YtflanjcfkdjpjaaGreatDoor.Rem
open Go Go.RowKit Go.Proofs.YtflanjcfkdjpjaaGreatDoor Dev Tab
set_option linter.unusedVariables false

section
variable {w0 w wa : World} {X : List Nat} {q : Nat} {pd : Nat → Nat} {m : Nat → List Int} {D : Nat → Dv} {s : Nat}
end
end Go.Proofs.YtflanjcfkdjpjaaGreatDoor.Rem


/- Layer 7 (remap): Replace, where it is done. -/
namespace Go.Proofs.YtflanjcfkdjpjaaGreatDoor.Rem
open Go Go.RowKit Go.Proofs.YtflanjcfkdjpjaaGreatDoor Dev Tab
set_option linter.unusedVariables false

def ldP (a : Addr) : Sem (Array Value) := loadCells a 72
@[simp ↓ high, go_sem ↓ high] theorem load_from72 (a : Addr) : loadCellsFrom a 0 72 #[] = ldP a := rfl
@[simp] theorem prow_size (pd : Nat → Nat) (m : Nat → List Int) : (prow pd m).size = 72 := by simp [prow, tl_length]
@[simp] theorem prow_ne (pd : Nat → Nat) (m : Nat → List Int) : prow pd m ≠ #[] := by intro h; have := congrArg Array.size h; simp at this
/-- the zero pair's cells -/
def p0 : Array Value := ([Value.pointer none, Value.pointer none] ++ tl 0 0 [] ++ tl 0 0 []).toArray
@[simp] theorem p0_size : p0.size = 72 := by simp [p0, tl_length]
section
variable {w0 w wa : World} {X : List Nat} {q : Nat} {pd : Nat → Nat} {m : Nat → List Int} {D : Nat → Dv} {s : Nat}
theorem Dvs.chg (h : Dvs w0 X pd D w) {w' : World} (hc : Chg (fun k => k ∈ X) w w') : Dvs w0 X pd D w' := by
  obtain ⟨⟨sb, cv, hd, hf, hff⟩, hx, hb⟩ := h
  exact ⟨⟨sb, cv, fun s h2 => (hd s h2).chg hc fun k hk => (hf s h2 k hk).2, hf, hff⟩, fun k hk => ⟨(hx k hk).1, Nat.lt_of_lt_of_le (hx k hk).2 hc.size⟩, hb.trans (hc.below hb.size fun k hk => (hx k hk).1)⟩
theorem Dvs.own {X' : List Nat} (h : Dvs w0 X' pd D w) (hq : q ∈ X') (hqX : q ∉ X) (hs : ∀ k ∈ X, k ∈ X') (hp : PB w q pd m) : CPe w0 X q pd m D w := by
  obtain ⟨⟨sb, cv, hd, hf, hff⟩, hx, hb⟩ := h
  exact ⟨⟨sb, cv, hd, fun s hs2 k hk => ⟨(hf s hs2 k hk).1, fun e => (hf s hs2 k hk).2 (hs k e), fun e => (hf s hs2 k hk).2 (e ▸ hq)⟩, hff⟩, hp, ⟨(hx q hq).1, hqX⟩, fun k hk => hx k (hs k hk), hb⟩
/-- another device stands there -/
theorem CPe.other (h : CPe w0 X q pd m D wa) (hs : s < 2) (hb : Below wa.heap.size wa w) {d sd : Nat} {cd : Value} {Dd : Dv} (hd : DevAt w d sd cd Dd) (hf : ∀ k, foot d sd cd k → wa.heap.size ≤ k) : Dvs w0 (q :: X) (upd pd s d) (upd D s Dd) w := by
  have hl := h.lt
  obtain ⟨⟨sb, cv, hdv, hfv, hff⟩, hp, hq, hx, hb0⟩ := h
  have hxs : ∀ k ∈ q :: X, w0.heap.size ≤ k ∧ k < wa.heap.size := fun k hk => by
    rcases List.mem_cons.1 hk with rfl | hk
    · exact ⟨hq.1, hl⟩
    · exact hx k hk
  refine ⟨⟨upd sb s sd, upd cv s cd, fun t ht => ?_, fun t ht k hk => ?_, fun k hk hk2 => ?_⟩, fun k hk => ⟨(hxs k hk).1, Nat.lt_of_lt_of_le (hxs k hk).2 hb.size⟩, hb0.trans (hb.mono hb0.size)⟩
  · by_cases e : t = s
    · subst e; simp only [upd_same]; exact hd
    · simp only [upd_ne _ _ e]; exact (hdv t ht).below hb (Nat.le_refl _)
  · by_cases e : t = s
    · subst e; simp only [upd_same] at hk
      exact ⟨Nat.le_trans hb0.size (hf k hk), fun hm => by have := hf k hk; have := (hxs k hm).2; omega⟩
    · simp only [upd_ne _ _ e] at hk
      refine ⟨(hfv t ht k hk).1, fun hm => ?_⟩
      rcases List.mem_cons.1 hm with rfl | hm
      · exact (hfv t ht _ hk).2.2 rfl
      · exact (hfv t ht k hk).2.1 hm
  · rcases (show s = 0 ∨ s = 1 by omega) with rfl | rfl
    · rw [upd_same, upd_same, upd_same] at hk
      rw [upd_ne _ _ (by omega), upd_ne _ _ (by omega), upd_ne _ _ (by omega)] at hk2
      have := hf k hk; have := (hdv 1 (by omega)).lt k hk2; omega
    · rw [upd_same, upd_same, upd_same] at hk2
      rw [upd_ne _ _ (by omega), upd_ne _ _ (by omega), upd_ne _ _ (by omega)] at hk
      have := hf k hk2; have := (hdv 0 (by omega)).lt k hk; omega
end
end Go.Proofs.YtflanjcfkdjpjaaGreatDoor.Rem


/- Layer 7 (remap): a pair of devices without faults but bad sectors, in memory; contracts of its exported functions there. -/
set_option linter.unusedVariables false
namespace Go.Proofs.YtflanjcfkdjpjaaGreatDoor.Dev
open Go Go.RowKit Go.Proofs.YtflanjcfkdjpjaaGreatDoor Rem
/-! ### keep, of devices without faults -/
theorem Dv.puts_ok : ∀ (l : List ((Nat × ByteArray) × Nat)) (D : Dv), D.Ok → (∀ y ∈ l, y.1.1 < D.n ∧ y.1.2.size = D.size ∧ y.2 ≤ D.size) → (D.puts l).Ok
  | [], D, ok, _ => ok
  | x :: l, D, ok, h => by
    have hx := h x (by simp)
    refine puts_ok l (D.put x.1.1 x.1.2 x.2) (D.put_ok ok _ _ _ hx.1 hx.2.1 hx.2.2) fun y hy => ?_
    have := h y (by simp [hy])
    rw [D.put_n, D.put_size]; exact this
section
variable {D : Dv} {V : Nat → ByteArray} {B : Nat → Bool} {c : Nat}
theorem Cd.push_eq (h : Cd D 24 192 V B c) {i : Nat} (hi : i < 24) {s : ByteArray} (hs : s.size = 192) (hb : B i = false) : D.writeD (i : Nat) s = D.counted.push (i : Nat) s := by
  unfold Dv.writeD; rw [h.refuse, h.stk, h.bad i hi, h.has hi, h.blow, h.counted.goes hi hb, h.counted.dest, h.counted.struck, hb]; simp [hs, h.size]
theorem Cd.write_ok (h : Cd D 24 192 V B c) (ok : D.Ok) {i : Nat} (hi : i < 24) {s : ByteArray} (hs : s.size = 192) (hb : B i = false) : (D.writeD (i : Nat) s).Ok := by
  rw [h.push_eq hi hs hb]
  refine ⟨ok.n8, ok.n4096, ok.s128, ok.s1024, ok.media, fun x hx => ?_, fun x hx => ?_, ok.fuse, ok.lose, ok.stray⟩
  · rcases List.mem_append.1 hx with hx | hx
    · exact ok.text x hx
    · rw [List.mem_singleton.1 hx]; exact hs.trans h.size.symm
  · rcases List.mem_append.1 hx with hx | hx
    · exact ok.sector x hx
    · rw [List.mem_singleton.1 hx]; show (i : Int).toNat < D.n; rw [Int.toNat_natCast, h.n]; exact hi
theorem Cd.flush_ok (h : Cd D 24 192 V B c) (ok : D.Ok) : D.flushD.Ok := by
  have h2 : D.flushD = (D.flushed.puts (whole D)).emptied := by unfold Dv.flushD; rw [h.refuse, h.stk, h.blow]; rfl
  have hp := Dv.puts_ok (whole D) D.flushed ⟨ok.n8, ok.n4096, ok.s128, ok.s1024, ok.media, ok.text, ok.sector, ok.fuse, ok.lose, ok.stray⟩ fun y hy => by
    obtain ⟨x, hx, rfl⟩ := List.mem_map.1 hy
    exact ⟨ok.sector x hx, ok.text x hx, Nat.le_refl _⟩
  rw [h2]
  exact ⟨hp.n8, hp.n4096, hp.s128, hp.s1024, hp.media, fun x hx => (by cases hx), fun x hx => (by cases hx), hp.fuse, hp.lose, hp.stray⟩
theorem Cd.put (h : Cd D 24 192 V B c) (ok : D.Ok) {i : Nat} (hi : i < 24) {s : ByteArray} (hs : s.size = 192) (hb : B i = false) : putE D (i : Nat) s = 0 ∧ Cd (putD D (i : Nat) s) 24 192 (upd V i s) B 0 ∧ (putD D (i : Nat) s).Ok := by
  obtain ⟨w1, w2⟩ := h.write hi hs hb
  have w3 := h.write_ok ok hi hs hb
  obtain ⟨f1, f2⟩ := w2.flush w3
  have f3 := w2.flush_ok w3
  unfold putE putD
  rw [if_neg (by rw [h.dead]; decide), if_neg (by omega), if_neg (by rw [h.dead]; decide), if_neg (by omega)]
  exact ⟨f1, f2, f3⟩
end
end Go.Proofs.YtflanjcfkdjpjaaGreatDoor.Dev
namespace Go.Proofs.YtflanjcfkdjpjaaGreatDoor.Rem
open Go Go.RowKit Go.Proofs.YtflanjcfkdjpjaaGreatDoor Dev Tab
/-- both devices are without faults but bad sectors, which are none of the slots -/
structure Both (D : Nat → Dv) (S : Nat → Sd) (c : Nat) : Prop where
  cd : ∀ t, t < 2 → Cd (D t) 24 192 (S t).V (S t).B c
  ok : ∀ t, t < 2 → (D t).Ok
  slot : ∀ t, t < 2 → ∀ i, i < 4 → (S t).B i = false
theorem kpP_cases {s t : Nat} (hs : s < 2) (ht : t < 2) : t = s ∨ (t = 1 - s ∧ t ≠ s) := by omega
theorem Both.keep {D : Nat → Dv} {S : Nat → Sd} {c : Nat} (h : Both D S c) {s : Nat} (hs : s < 2) {l : List Int} (hg : Tab.Good 16 4 l) : kpE D s l = 0 ∧ Both (kpD D s l) (kept S s l) c := by
  have hz := imgT_size s l hg
  have h0 := (h.cd s hs).put (h.ok s hs) (i := l.length % 2) (by omega) hz (h.slot s hs _ (by omega))
  have h1 := (h.cd (1 - s) (by omega)).put (h.ok (1 - s) (by omega)) (i := 2 + l.length % 2) (by omega) hz (h.slot (1 - s) (by omega) _ (by omega))
  have e0 : kpE0 D s l = 0 := h0.1
  have e1 : kpE1 D s l = 0 := h1.1
  have hne : 1 - s ≠ s := by omega
  have hD : ∀ t, t < 2 → kpD D s l t = (if t = s then kpD0 D s l else kpD1 D s l) := fun t ht => by
    unfold kpD
    rw [if_neg (by rw [e0]; decide)]
    rcases kpP_cases hs ht with rfl | ⟨rfl, h2⟩
    · rw [upd_ne _ _ (Ne.symm hne), upd_same, if_pos rfl]
    · rw [upd_same, if_neg h2]
  refine ⟨by unfold kpE; rw [if_neg (by rw [e0]; decide), if_neg (by rw [e1]; decide), if_pos (.inl e0)], fun t ht => ?_, fun t ht => ?_, fun t ht i hi => ?_⟩
  · rw [hD t ht]
    rcases kpP_cases hs ht with rfl | ⟨rfl, h2⟩
    · rw [if_pos rfl, kept_own]; exact h0.2.1.mono (Nat.zero_le _)
    · rw [if_neg h2, kept_oth S hs]; exact h1.2.1.mono (Nat.zero_le _)
  · rw [hD t ht]
    rcases kpP_cases hs ht with rfl | ⟨rfl, h2⟩
    · rw [if_pos rfl]; exact h0.2.2
    · rw [if_neg h2]; exact h1.2.2
  · rw [(kept_far hs ht).2.1]; exact h.slot t ht i hi
theorem Both.keepBoth {D : Nat → Dv} {S : Nat → Sd} {c : Nat} (h : Both D S c) {m : Nat → List Int} (hg : ∀ t, t < 2 → Tab.Good 16 4 (m t)) : kbE D m = 0 ∧ Both (kbD D m) (kept (kept S 0 (m 0)) 1 (m 1)) c := by
  obtain ⟨a1, a2⟩ := h.keep (s := 0) (by omega) (hg 0 (by omega))
  obtain ⟨b1, b2⟩ := a2.keep (s := 1) (by omega) (hg 1 (by omega))
  have x0 : kbX D m 0 = 0 := a1
  have x1 : kbX D m 1 = 0 := b1
  unfold kbE kbD
  rw [if_neg (by omega), if_neg (by omega)]
  exact ⟨x1, b2⟩
theorem Both.rd {D : Nat → Dv} {S : Nat → Sd} {c : Nat} (h : Both D S c) {s : Nat} (hs : s < 2) {k i : Nat} (hk : k < 2) (hi : i < 2) : rdT D s (2 * k + i) = rdS S s k i := by
  have hp : kpP s ((2 * k + i) / 2) = if k = 0 then s else 1 - s := by
    unfold kpP
    rw [show (2 * k + i) / 2 = k by omega]
  have hlt : (if k = 0 then s else 1 - s) < 2 := by split <;> omega
  unfold rdT rdS
  rw [hp]
  generalize (if k = 0 then s else 1 - s) = t at hlt
  obtain ⟨r1, r2, -, -⟩ := (h.cd t hlt).read (i := 2 * k + i) (by omega)
  exact r2 (h.slot t hlt _ (by omega))
/-- newest finds the side's table -/
theorem Both.best {D : Nat → Dv} {S : Nat → Sd} {c : Nat} (h : Both D S c) {s : Nat} (hs : s < 2) (ho : SideOk S s) : bst D s 4 = some (S s).m := by
  obtain ⟨h1, h2⟩ := ho
  have r : ∀ k, k < 2 → ∀ i, i < 2 → opn s (rdT D s (2 * k + i)) = opT s (rdS S s k i).data.toList := fun k hk i hi => by rw [h.rd hs hk hi]; rfl
  have b : ∀ k, k < 2 → ∀ i, i < 2 → ∀ x, opn s (rdT D s (2 * k + i)) = some x → x = (S s).m ∨ x.length < (S s).m.length := fun k hk i hi x hx => h2 k hk i hi x (by rw [← r k hk i hi]; exact hx)
  have b0 := b 0 (by omega) 0 (by omega)
  have b1 := b 0 (by omega) 1 (by omega)
  have b2 := b 1 (by omega) 0 (by omega)
  have b3 := b 1 (by omega) 1 (by omega)
  have hm : opn s (rdT D s 0) = some (S s).m ∨ opn s (rdT D s 1) = some (S s).m := by
    have := h1 0 (by omega)
    rcases (show (S s).m.length % 2 = 0 ∨ (S s).m.length % 2 = 1 by omega) with e | e
    · rw [e] at this; exact .inl ((r 0 (by omega) 0 (by omega)).trans this)
    · rw [e] at this; exact .inr ((r 0 (by omega) 1 (by omega)).trans this)
  obtain ⟨c1, -⟩ := best_ok (m := (S s).m) (a := none) (b := opn s (rdT D s 0)) (fun x hx => by cases hx) b0
  obtain ⟨d1, d2⟩ := best_ok c1 b1
  have e2 : Rem.best (Rem.best none (opn s (rdT D s 0))) (opn s (rdT D s 1)) = some (S s).m := d2 (by
    rcases hm with h | h
    · exact .inl h
    · exact .inr h)
  obtain ⟨f1, f2⟩ := best_ok d1 b2
  have e3 := f2 (.inl e2)
  obtain ⟨g1, g2⟩ := best_ok f1 b3
  exact g2 (.inl e3)

/-! ### a pair of such devices in memory -/
/-- the sector of a block -/
def pl (s : Sd) (b : Nat) : Nat := 4 + (plc 16 s.m b).toNat
theorem pl_bd {s : Sd} (hg : Tab.Good 16 4 s.m) {b : Nat} (hb : b < 16) : 4 ≤ pl s b ∧ pl s b < 20 + s.m.length ∧ (pl s b : Int) = 4 + plc 16 s.m b := by
  have := plc_bd (n := 16) (m := s.m) (b := (b : Int)) (by omega) (by omega)
  unfold pl; omega
def mOf (S : Nat → Sd) : Nat → List Int := fun s => (S s).m
/-- the pair's own blocks -/
def PBs (w : World) (q : Nat) (pd : Nat → Nat) (S : Nat → Sd) (P : List Nat) : Prop := P = [q] ∧ PB w q pd (mOf S)
theorem PBs.same {w w' : World} {q : Nat} {pd : Nat → Nat} {S : Nat → Sd} {P : List Nat} (h : PBs w q pd S P) (hk : ∀ k ∈ P, w'.heap[k]? = w.heap[k]?) : PBs w' q pd S P := ⟨h.1, h.2.same (hk q (by rw [h.1]; simp))⟩
theorem PBs.lt {w : World} {q : Nat} {pd : Nat → Nat} {S : Nat → Sd} {P : List Nat} (h : PBs w q pd S P) : ∀ k ∈ P, k < w.heap.size := by
  intro k hk; rw [h.1, List.mem_singleton] at hk; rw [hk]; exact h.2.lt
theorem PBs.later {w w' : World} {q : Nat} {pd : Nat → Nat} {S : Nat → Sd} {P : List Nat} (h : PBs w q pd S P) (hb : Below w.heap.size w w') : PBs w' q pd S P := h.same fun k hk => hb.block k (h.lt k hk)
/-- what lies in the tables' slots -/
def Slots (S : Nat → Sd) : Prop := (∀ s, s < 2 → Tab.Good 16 4 (S s).m) ∧ (∀ s, s < 2 → ∀ i, i < 4 → (S s).B i = false) ∧ ∀ s, s < 2 → SideOk S s
/-- the pair at q, its devices at pd 0 and pd 1; all that they have lies from w0's end on, and none of it in X; X lies there, too. Nothing is said of what lies in the tables' slots -/
def CPr (w0 : World) (X : List Nat) (q : Nat) (pd : Nat → Nat) (S : Nat → Sd) (c : Nat) (w : World) : Prop := ∃ D, CPe w0 X q pd (mOf S) D w ∧ ∀ s, s < 2 → Cd (D s) 24 192 (S s).V (S s).B c
/-- .. and the tables' slots are right -/
structure CP (w0 : World) (X : List Nat) (q : Nat) (pd : Nat → Nat) (S : Nat → Sd) (c : Nat) (w : World) : Prop where
  raw : CPr w0 X q pd S c w
  slots : Slots S
section
variable {w0 w w' : World} {X Y : List Nat} {q c : Nat} {pd : Nat → Nat} {S S' : Nat → Sd} {s : Nat}
theorem CPr.chg (h : CPr w0 X q pd S c w) (hc : Chg (fun k => k ∈ X) w w') : CPr w0 X q pd S c w' := by
  obtain ⟨D, h1, h2⟩ := h; exact ⟨D, h1.chg hc, h2⟩
theorem CPr.later (h : CPr w0 X q pd S c w) (hb : Below w.heap.size w w') : CPr w0 X q pd S c w' := h.chg (Chg.of_below hb (Nat.le_refl _))
theorem CP.x (h : CP w0 X q pd S c w) : ∀ k ∈ X, w0.heap.size ≤ k ∧ k < w.heap.size := by obtain ⟨D, h1, h2⟩ := h.raw; exact h1.x
theorem CP.below (h : CP w0 X q pd S c w) : Below w0.heap.size w0 w := by obtain ⟨D, h1, h2⟩ := h.raw; exact h1.below
theorem CP.pb (h : CP w0 X q pd S c w) : PB w q pd (mOf S) := by obtain ⟨D, h1, h2⟩ := h.raw; exact h1.pb
theorem CP.good (h : CP w0 X q pd S c w) {s : Nat} (hs : s < 2) : Tab.Good 16 4 (S s).m := h.slots.1 s hs
theorem CP.chg (h : CP w0 X q pd S c w) (hc : Chg (fun k => k ∈ X) w w') : CP w0 X q pd S c w' := ⟨h.raw.chg hc, h.slots⟩
theorem CP.later (h : CP w0 X q pd S c w) (hb : Below w.heap.size w w') : CP w0 X q pd S c w' := h.chg (Chg.of_below hb (Nat.le_refl _))
theorem CP.mono (h : CP w0 X q pd S c w) {d : Nat} (hd : c ≤ d) : CP w0 X q pd S d w := by
  obtain ⟨⟨D, h1, h2⟩, h3⟩ := h; exact ⟨⟨D, h1, fun s hs => (h2 s hs).mono hd⟩, h3⟩
theorem CP.new (h : CP w0 X q pd S c w) (o : Obj) : CP w0 (w.heap.size :: X) q pd S c (w.alloc o) := by
  obtain ⟨⟨D, h1, h2⟩, h3⟩ := h; exact ⟨⟨D, h1.new o, h2⟩, h3⟩
theorem CP.sub (h : CP w0 X q pd S c w) (hY : ∀ k ∈ Y, k ∈ X) : CP w0 Y q pd S c w := by
  obtain ⟨⟨D, h1, h2⟩, h3⟩ := h; exact ⟨⟨D, h1.sub hY, h2⟩, h3⟩
theorem Same.of_below (h : CP w0 X q pd S c w) (hb : Below w.heap.size w w') : Same X w w' := fun k hk => hb.block k (h.x k hk).2
theorem CP.both (h : CP w0 X q pd S c w) : ∃ D, CPe w0 X q pd (mOf S) D w ∧ Both D S c := by
  obtain ⟨⟨D, h1, h2⟩, h3⟩ := h; exact ⟨D, h1, h2, fun t ht => h1.ok ht, h3.2.1⟩
theorem Both.cp {D : Nat → Dv} (h : Both D S c) (h1 : CPe w0 X q pd (mOf S) D w) (h2 : Slots S) : CP w0 X q pd S c w := ⟨⟨D, h1, h.cd⟩, h2⟩
theorem Both.sz {D : Nat → Dv} (h : Both D S c) (hc : c ≤ 1000000) : Sz D := fun s hs => ⟨by rw [(h.cd s hs).n]; rfl, by rw [(h.cd s hs).size]; rfl, Nat.le_trans (h.cd s hs).cache hc⟩
/-- one device is another one; its table stays -/
def setS (S : Nat → Sd) (s : Nat) (V : Nat → ByteArray) (B : Nat → Bool) : Nat → Sd := upd S s ⟨V, B, (S s).m⟩
theorem setS_m (S : Nat → Sd) (s : Nat) (V : Nat → ByteArray) (B : Nat → Bool) (t : Nat) : (setS S s V B t).m = (S t).m := by
  unfold setS upd; by_cases h : t = s
  · subst h; rw [if_pos rfl]
  · rw [if_neg h]
theorem mOf_setS (S : Nat → Sd) (s : Nat) (V : Nat → ByteArray) (B : Nat → Bool) : mOf (setS S s V B) = mOf S := funext fun t => setS_m S s V B t
theorem setS_same (S : Nat → Sd) (s : Nat) (V : Nat → ByteArray) (B : Nat → Bool) : setS S s V B s = ⟨V, B, (S s).m⟩ := upd_same _ _ _
theorem setS_ne (S : Nat → Sd) {s t : Nat} (V : Nat → ByteArray) (B : Nat → Bool) (h : t ≠ s) : setS S s V B t = S t := upd_ne _ _ h
theorem setS_self (S : Nat → Sd) (s : Nat) : setS S s (S s).V (S s).B = S := by
  funext t; by_cases e : t = s
  · subst e; rw [setS_same]
  · rw [setS_ne _ _ _ e]
theorem CPe.set {D : Nat → Dv} {E : Dv} {V : Nat → ByteArray} {B : Nat → Bool} {d : Nat} (h1 : CPe w0 X q pd (mOf S) (upd D s E) w) (h2 : ∀ t, t < 2 → Cd (D t) 24 192 (S t).V (S t).B c) (hE : Cd E 24 192 V B d) (hd : c ≤ d) : CPr w0 X q pd (setS S s V B) d w := by
  refine ⟨upd D s E, by rw [mOf_setS]; exact h1, fun t ht => ?_⟩
  by_cases e : t = s
  · subst e; rw [upd_same, setS_same]; exact hE
  · rw [upd_ne _ _ e, setS_ne _ _ _ e]; exact (h2 t ht).mono hd
end
/-! ### the exported functions -/
theorem mOf_kept (S : Nat → Sd) (s : Nat) (l : List Int) : mOf (kept S s l) = upd (mOf S) s l := by
  funext t
  unfold mOf kept upd
  by_cases e : t = s
  · rw [if_pos e, if_pos e]
  · rw [if_neg e, if_neg e]
    split <;> rfl
/-- two new devices -/
def Two (w0 : World) (pa pb : Nat) (w : World) : Prop := ∃ sa sb, DevAt w pa sa (.slice none 0 0) (Dv.fresh 24 192) ∧ DevAt w pb sb (.slice none 0 0) (Dv.fresh 24 192) ∧
  (∀ k, foot pa sa (.slice none 0 0) k → w0.heap.size ≤ k ∧ ¬ foot pb sb (.slice none 0 0) k) ∧ (∀ k, foot pb sb (.slice none 0 0) k → w0.heap.size ≤ k) ∧ Below w0.heap.size w0 w
theorem Two.later {w0 w w' : World} {pa pb : Nat} (h : Two w0 pa pb w) (hb : Below w.heap.size w w') : Two w0 pa pb w' := by
  obtain ⟨sa, sb, h1, h2, h3, h4, h5⟩ := h
  exact ⟨sa, sb, h1.below hb (Nat.le_refl _), h2.below hb (Nat.le_refl _), h3, h4, h5.trans (hb.mono h5.size)⟩
theorem Two.dvs {w0 w : World} {pa pb : Nat} (h : Two w0 pa pb w) : Dvs w0 [] (pdOf pa pb) (fun _ => Dv.fresh 24 192) w := by
  obtain ⟨sa, sb, h1, h2, h3, h4, h5⟩ := h
  refine ⟨⟨pdOf sa sb, fun _ => .slice none 0 0, fun s hs => ?_, fun s hs k hk => ?_, fun k hk => (h3 k hk).2⟩, fun k hk => (by cases hk), h5⟩
  · rcases (show s = 0 ∨ s = 1 by omega) with rfl | rfl
    · exact h1
    · exact h2
  · rcases (show s = 0 ∨ s = 1 by omega) with rfl | rfl
    · exact ⟨(h3 k hk).1, by simp⟩
    · exact ⟨h4 k hk, by simp⟩
theorem fresh_cd : Cd (Dv.fresh 24 192) 24 192 (fun _ => noughts 192) (fun _ => false) 0 := by
  have hn : (Dv.fresh 24 192).n = 24 := List.length_replicate
  refine ⟨rfl, rfl, rfl, rfl, rfl, hn, rfl, fun i hi => ?_, fun i hi => ?_, Nat.le_refl _⟩
  · show (((List.replicate 24 (noughts 192, false))[i]?).map (·.1)).getD ⟨#[]⟩ = _
    rw [List.getElem?_replicate, if_pos hi]; rfl
  · unfold badB
    rw [Int.toNat_natCast]
    show (((List.replicate 24 (noughts 192, false))[i]?).map (·.2)).getD false = _
    rw [List.getElem?_replicate, if_pos hi]; rfl
/-- a side that nothing was done to -/
def New (s : Sd) : Prop := s.m = [] ∧ ∀ i, 4 ≤ i → i < 24 → s.V i = noughts 192 ∧ s.B i = false
/-- spares that nothing was moved to are good -/
def Spare (s : Sd) : Prop := ∀ j, s.m.length ≤ j → j < 4 → s.B (20 + j) = false
theorem New.spare {s : Sd} (h : New s) : Spare s := fun j _ hj => (h.2 (20 + j) (by omega) (by omega)).2
/-- side s is another one; but for the tables' slots nothing else is -/
def Oth (S S' : Nat → Sd) (s : Nat) : Prop := ∀ t, t < 2 → t ≠ s → (S' t).m = (S t).m ∧ (S' t).B = (S t).B ∧ ∀ i, 4 ≤ i → (S' t).V i = (S t).V i
/-- what Move does -/
def Moved (S S' : Nat → Sd) (s : Nat) (b : Nat) : Prop := Oth S S' s ∧ (S' s).B = (S s).B ∧ (∀ i, 4 ≤ i → (S' s).V i = (S s).V i) ∧ (S' s).m = (S s).m ++ [(b : Int)]
def wrE (s : Sd) (b : Nat) : Int := if s.B (pl s b) = true ∧ 4 ≤ s.m.length then 9 else 0
/-- what Write does -/
structure Wr (S S' : Nat → Sd) (s b : Nat) (d : ByteArray) : Prop where
  oth : Oth S S' s
  bad : (S' s).B = (S s).B
  m : (S' s).m = if (S s).B (pl (S s) b) = true ∧ (S s).m.length < 4 then (S s).m ++ [(b : Int)] else (S s).m
  at_ : wrE (S s) b = 0 → (S' s).V (pl (S' s) b) = d
  rest : ∀ i, 4 ≤ i → i ≠ pl (S' s) b ∨ wrE (S s) b ≠ 0 → (S' s).V i = (S s).V i
theorem good0 : Tab.Good 16 4 [] := Tab.Good.nil (by decide)
/-- both tables are kept -/
theorem slots2 {S : Nat → Sd} {m : Nat → List Int} (hg : ∀ t, t < 2 → Tab.Good 16 4 (m t)) (hB : ∀ t, t < 2 → ∀ i, i < 4 → (S t).B i = false) (hb : ∀ t, t < 2 → Below_ S t (m t)) : Slots (kept (kept S 0 (m 0)) 1 (m 1)) ∧ ∀ t, t < 2 → (kept (kept S 0 (m 0)) 1 (m 1) t).m = m t := by
  have hm : ∀ t, t < 2 → (kept (kept S 0 (m 0)) 1 (m 1) t).m = m t := fun t ht => by
    have h1 := (kept_far (S := kept S 0 (m 0)) (s := 1) (m := m 1) (by omega) ht).2.2
    have h0 := (kept_far (S := S) (s := 0) (m := m 0) (by omega) ht).2.2
    rw [h1]
    rcases (show t = 0 ∨ t = 1 by omega) with rfl | rfl
    · rw [if_neg (by omega), h0, if_pos rfl]
    · rw [if_pos rfl]
  refine ⟨⟨fun t ht => by rw [hm t ht]; exact hg t ht, fun t ht i hi => ?_, fun t ht => ?_⟩, hm⟩
  · rw [(kept_far (by omega) ht).2.1, (kept_far (by omega) ht).2.1]; exact hB t ht i hi
  · rcases (show t = 0 ∨ t = 1 by omega) with rfl | rfl
    · exact SideOk.other (s := 1) (by omega) (SideOk.keep (by omega) (hg 0 (by omega)) (hb 0 (by omega)))
    · exact SideOk.keep (by omega) (hg 1 (by omega)) (Below_.other (s := 0) (by omega) (hb 1 (by omega)))
section
variable {w0 w w' : World} {X : List Nat} {q c : Nat} {pd : Nat → Nat} {S : Nat → Sd} {s : Nat}
def S00 : Nat → Sd := fun _ => ⟨fun _ => noughts 192, fun _ => false, []⟩
theorem both00 : Both (fun _ => Dv.fresh 24 192) S00 0 := ⟨fun _ _ => fresh_cd, fun _ _ => Dv.fresh_ok 24 192 (by omega) (by omega) (by omega) (by omega), fun _ _ _ _ => rfl⟩
theorem pdOf_lt (pd : Nat → Nat) {s : Nat} (hs : s < 2) : pdOf (pd 0) (pd 1) s = pd s := by
  rcases (show s = 0 ∨ s = 1 by omega) with rfl | rfl <;> rfl
theorem CPe.pcong {m : Nat → List Int} {D : Nat → Dv} {pd' : Nat → Nat} (h : CPe w0 X q pd m D w) (hp : ∀ s, s < 2 → pd' s = pd s) : CPe w0 X q pd' m D w := by
  obtain ⟨⟨sb, cv, hd, hf, hff⟩, h1, h2, h3, h4⟩ := h
  refine ⟨⟨sb, cv, fun s hs => by rw [hp s hs]; exact hd s hs, fun s hs k hk => hf s hs k (by rw [← hp s hs]; exact hk), fun k hk => by rw [hp 1 (by omega)]; exact hff k (by rw [← hp 0 (by omega)]; exact hk)⟩, ?_, h2, h3, h4⟩
  unfold PB at h1 ⊢; rw [hp 0 (by omega), hp 1 (by omega)]; exact h1
theorem Dvs.pcong {D : Nat → Dv} {pd' : Nat → Nat} (h : Dvs w0 X pd D w) (hp : ∀ s, s < 2 → pd' s = pd s) : Dvs w0 X pd' D w := by
  obtain ⟨⟨sb, cv, hd, hf, hff⟩, h3, h4⟩ := h
  exact ⟨⟨sb, cv, fun s hs => by rw [hp s hs]; exact hd s hs, fun s hs k hk => hf s hs k (by rw [← hp s hs]; exact hk), fun k hk => by rw [hp 1 (by omega)]; exact hff k (by rw [← hp 0 (by omega)]; exact hk)⟩, h3, h4⟩
theorem EqR.cd {D E : Nat → Dv} (h : EqR D E) {t : Nat} {V : Nat → ByteArray} {B : Nat → Bool} (hc : Cd (D t) 24 192 V B c) : Cd (E t) 24 192 V B c := by
  obtain ⟨n, hn⟩ := h t
  rw [hn]
  exact ⟨hc.dead, hc.off, hc.fuse, hc.lose, hc.stray, hc.n, hc.size, hc.vis, hc.bad, hc.cache⟩
theorem open_c (h : CP w0 X q pd S c w) (hc : c ≤ 1000000) : Calls Tryz.prog 36 #[.pointer (some ⟨pd 0, 0, none⟩), .pointer (some ⟨pd 1, 0, none⟩), .int .i64 4] w fun e w' => ∃ q' P, e = .returned (.tuple #[.pointer (some ⟨q', 0, none⟩), .int .i64 0]) ∧ CP w0 (P ++ X) q' pd S c w' ∧ PBs w' q pd S P ∧ Same X w w' := by
  obtain ⟨D, h1, h2⟩ := h.both
  have hb : ∀ s, s < 2 → bst D s 4 = some (S s).m := fun s hs => h2.best hs (h.slots.2.2 s hs)
  have hE : opE2 D = 0 := by unfold opE2; rw [if_pos ⟨by rw [hb 0 (by omega)]; rfl, by rw [hb 1 (by omega)]; rfl⟩]
  refine (open_e (h1.dvs.pcong fun s hs => pdOf_lt pd hs) (h2.sz hc) (fun s hs => (h2.cd s hs).off)).mono ?_
  rintro e w' ⟨q', E, m, rfl, hm, hq', hq, hc', hsm⟩
  have hm2 : m = opnM D 2 := hm hE
  rw [hE]
  refine ⟨q', [q], rfl, ⟨⟨E, ?_, fun s hs => hq.cd (h2.cd s hs)⟩, h.slots⟩, ⟨rfl, h1.pb.same (hsm q (by simp))⟩, fun k hk => hsm k (by simp [hk])⟩
  refine (hc'.pcong fun s hs => (pdOf_lt pd hs).symm).cong (fun s hs => ?_) (fun _ _ => rfl)
  rw [hm2]
  unfold opnM mOf
  rw [if_pos hs, hb s hs]; rfl
theorem sec_pl {S : Nat → Sd} {s b : Nat} (hg : Tab.Good 16 4 (S s).m) (hb : b < 16) : sec (mOf S) s b = (pl (S s) b : Nat) := (pl_bd hg hb).2.2.symm
theorem kept_slots (h : Slots S) (hs : s < 2) {b : Nat} (hb : b < 16) (hm : (S s).m.length < 4) : Slots (kept S s ((S s).m ++ [(b : Int)])) ∧ Moved S (kept S s ((S s).m ++ [(b : Int)])) s b := by
  have hE := mv_yes (n := 16) (k := 4) (m := (S s).m) (b := (b : Int)) (by omega) (by omega) (by omega)
  have hg := ((h.1 s hs).push hE).1
  refine ⟨⟨fun t ht => ?_, fun t ht i hi => ?_, fun t ht => ?_⟩, fun t ht hne => ?_, (kept_far hs hs).2.1, (kept_far hs hs).1, ?_⟩
  · rw [(kept_far hs ht).2.2]
    split
    · exact hg
    · exact h.1 t ht
  · rw [(kept_far hs ht).2.1]; exact h.2.1 t ht i hi
  · rcases kpP_cases hs ht with rfl | ⟨rfl, h2⟩
    · exact SideOk.keep hs hg (h.2.2 _ hs).more
    · exact SideOk.other hs (h.2.2 _ ht)
  · obtain ⟨a, b, c⟩ := kept_far (S := S) (m := (S s).m ++ [(b : Int)]) hs ht
    rw [if_neg hne] at c
    exact ⟨c, b, a⟩
  · rw [(kept_far hs hs).2.2, if_pos rfl]
theorem move_c0 (h : CP w0 X q pd S c w) (hs : s < 2) {b : Nat} (hb : b < 16) (hc : c ≤ 1000000) : Calls Tryz.prog 133 #[.pointer (some ⟨q, 0, none⟩), .int .i64 (s : Nat), .int .i64 (b : Nat)] w fun e w' => ∃ S', e = .returned (.int .i64 (if (S s).m.length < 4 then 0 else 9)) ∧ ((S s).m.length < 4 → Moved S S' s b) ∧ (¬ (S s).m.length < 4 → S' = S) ∧ CP w0 X q pd S' c w' ∧ Same X w w' := by
  obtain ⟨D, h1, h2⟩ := h.both
  have hg := h.good hs
  by_cases hm : (S s).m.length < 4
  · refine (move_e h1 hs hg (h2.sz hc) hb hm rfl).mono ?_
    have hE := mv_yes (n := 16) (k := 4) (m := (S s).m) (b := (b : Int)) (by omega) (by omega) (by omega)
    obtain ⟨k1, k2⟩ := h2.keep hs (hg.push hE).1
    obtain ⟨s1, s2⟩ := kept_slots h.slots hs hb hm
    rintro e w' ⟨rfl, ⟨m', m1, m2, hc'⟩, hsm⟩
    have hk : kpE D s (mOf S s ++ [(b : Int)]) = 0 := k1
    rw [hk, if_pos hm]
    refine ⟨kept S s ((S s).m ++ [(b : Int)]), rfl, fun _ => s2, fun h => absurd hm h, k2.cp ?_ s1, hsm⟩
    rw [mOf_kept, ← show m' = upd (mOf S) s ((S s).m ++ [(b : Int)]) from m1 hk]; exact hc'
  · refine (move_full h1.pb hs hg hb hm).mono ?_
    rintro e w' ⟨rfl, hb'⟩
    exact ⟨S, by rw [if_neg hm], fun h => absurd h hm, fun _ => rfl, h.later hb', Same.of_below h hb'⟩
end
end Go.Proofs.YtflanjcfkdjpjaaGreatDoor.Rem


