/- Layer 12 (rec), prepared: the document's own answers: Text. -/
import Derived.Test.YtfclecbhfamomaaRefRec
import Derived.Test.YtfclecbhfamomaaBytes
import Derived.Test.YtfclecbhfamomaaRefLendB
namespace Go.Proofs.Ytfclecbhfamomaa.Rec
open Go Go.RowKit Go.Proofs.Ytfclecbhfamomaa Go.Proofs.Ytfclecbhfamomaa.Lend
set_option linter.unusedVariables false

theorem txL_step {l : List Up} {k : Nat} (hk : k < l.length) : txL (l.take (k + 1)) = txL (l.take k) ++ txU l[k] := by
  rw [List.take_succ_eq_append_getElem hk, txL_append]
  congr 1
  unfold txL; simp
theorem errL_step {l : List Up} {k : Nat} (hk : k < l.length) (h : errL (l.take k) = 0) : errL (l.take (k + 1)) = chkU l[k] := by
  have : ∀ (a : List Up) (u : Up), errL a = 0 → errL (a ++ [u]) = chkU u := fun a u => by
    induction a with
    | nil => intro _; show (if chkU u = 0 then errL [] else chkU u) = chkU u; split <;> simp_all [errL]
    | cons x a ih =>
      intro h
      by_cases e : chkU x = 0
      · have h2 : errL a = 0 := by have : errL (x :: a) = errL a := by show (if chkU x = 0 then _ else _) = _; rw [if_pos e]
                                   rw [← this]; exact h
        show (if chkU x = 0 then errL (a ++ [u]) else chkU x) = _
        rw [if_pos e]; exact ih h2
      · have : errL (x :: a) = chkU x := by show (if chkU x = 0 then _ else _) = _; rw [if_neg e]
        rw [this] at h; exact absurd h e
  rw [List.take_succ_eq_append_getElem hk]; exact this _ _ h
theorem errL_at {l : List Up} {k : Nat} (hk : k < l.length) (h : errL (l.take k) = 0) (hc : chkU l[k] ≠ 0) : errL l = chkU l[k] := by
  have : ∀ (l : List Up) (k : Nat) (hk : k < l.length), errL (l.take k) = 0 → chkU l[k] ≠ 0 → errL l = chkU l[k] := fun l => by
    induction l with
    | nil => intro k hk; cases hk
    | cons x l ih =>
      intro k hk h hc
      cases k with
      | zero =>
        show (if chkU x = 0 then errL l else chkU x) = chkU x
        have hc' : ¬ chkU x = 0 := hc
        rw [if_neg hc']
      | succ k =>
        rw [List.take_succ_cons] at h
        by_cases e : chkU x = 0
        · have h2 : errL (l.take k) = 0 := by
            have h3 : errL (x :: l.take k) = errL (l.take k) := by show (if chkU x = 0 then _ else _) = _; rw [if_pos e]
            rw [← h3]; exact h
          show (if chkU x = 0 then errL l else chkU x) = _
          rw [if_pos e]
          exact ih k (by simpa using hk) h2 hc
        · have h3 : errL (x :: l.take k) = chkU x := by show (if chkU x = 0 then _ else _) = _; rw [if_neg e]
          rw [h3] at h; exact absurd h e
  exact this l k hk h hc
theorem getD_toNat {b : Int} (h0 : 0 ≤ b) (h1 : b ≤ 255) : ((UInt8.ofNat b.toNat).toNat : Int) = b := by rw [ofNat_small (by omega)]; omega
theorem conv2 (w : World) (b1 b2 : Int) (h1 : 0 ≤ b1) (h2 : b1 ≤ 255) (h3 : 0 ≤ b2) (h4 : b2 ≤ 255) : (convert 54 9 (.slice (some ⟨w.heap.size, 0, none⟩) 2 2)).run Try.prog (w.alloc (.cells #[.int .u8 b1, .int .u8 b2] 5)) = .ok (.string (Lend.strOf [UInt8.ofNat b1.toNat, UInt8.ofNat b2.toNat])) (w.alloc (.cells #[.int .u8 b1, .int .u8 b2] 5)) := by
  refine run_string_brow _ w.heap.size 2 2 [UInt8.ofNat b1.toNat, UInt8.ofNat b2.toNat] ⟨fun j hj => ?_, fun j hj => ?_⟩ rfl
  · have h := (Has.new w [.int .u8 b1, .int .u8 b2] 5).cell j
    match j, hj with
    | 0, _ => rw [show (([UInt8.ofNat b1.toNat, UInt8.ofNat b2.toNat].getD 0 0).toNat : Int) = b1 from getD_toNat h1 h2]; exact h
    | 1, _ => rw [show (([UInt8.ofNat b1.toNat, UInt8.ofNat b2.toNat].getD 1 0).toNat : Int) = b2 from getD_toNat h3 h4]; exact h
  · exact (Has.new w [.int .u8 b1, .int .u8 b2] 5).frozen j
theorem conv1 (w : World) (b1 : Int) (h1 : 0 ≤ b1) (h2 : b1 ≤ 255) : (convert 54 9 (.slice (some ⟨w.heap.size, 0, none⟩) 1 1)).run Try.prog (w.alloc (.cells #[.int .u8 b1] 5)) = .ok (.string (Lend.strOf [UInt8.ofNat b1.toNat])) (w.alloc (.cells #[.int .u8 b1] 5)) := by
  refine run_string_brow _ w.heap.size 1 1 [UInt8.ofNat b1.toNat] ⟨fun j hj => ?_, fun j hj => ?_⟩ rfl
  · have h := (Has.new w [.int .u8 b1] 5).cell j
    match j, hj with
    | 0, _ => rw [show (([UInt8.ofNat b1.toNat].getD 0 0).toNat : Int) = b1 from getD_toNat h1 h2]; exact h
  · exact (Has.new w [.int .u8 b1] 5).frozen j
theorem sapp (a b : List UInt8) : Lend.strOf a ++ Lend.strOf b = Lend.strOf (a ++ b) := by
  apply ByteArray.ext
  simp [Lend.strOf]
theorem b_on2 {w w' : World} {o : Obj} (h : Below w.heap.size w w') : Below w.heap.size w (w'.alloc o) := h.alloc h.size o
/-- what Text answers -/
def txT (l : List Up) : List UInt8 := if errL l = 0 then txL l else []
set_option maxRecDepth 100000 in
set_option maxHeartbeats 4000000 in
theorem reftext_any {v : Value} {l : List Up} {w : World} (h : UR w v l) (hl : l.length ≤ 1000) (hwf : ∀ u ∈ l, 0 ≤ u.kind ∧ u.kind ≤ 255 ∧ 0 ≤ u.delta ∧ u.delta < 18446744073709551616) : Calls Try.prog 29 #[v] w fun e w' => e = .returned (.tuple #[.string (Lend.strOf (txT l)), .int .i64 (errL l)]) ∧ Below w.heap.size w w' := by
  obtain ⟨a, cap, rfl, hcell⟩ := h.form
  obtain ⟨n, hn⟩ : ∃ n, n = l.length := ⟨_, rfl⟩
  have HN := Lib.hid hn
  have HW := Lib.hid hwf
  have HC := Lib.hid hcell
  rw [← hn] at hl ⊢
  clear hn h hwf hcell
  go_enter Try.func29, Try.ntmps29
  go_wp2_with fail
  go_loopw [4, 5] (fun s i wr => ∃ k : Nat, k ≤ n ∧ i = .int .i64 k ∧ s = .string (Lend.strOf (txL (l.take k))) ∧ errL (l.take k) = 0 ∧ (txL (l.take k)).length ≤ 51 * k ∧ Below w.heap.size w wr) (fun _ i _ => n - (intOf i).toNat)
  case atStart => exact ⟨0, Nat.zero_le _, rfl, rfl, rfl, Nat.zero_le _, Below.refl _ _⟩
  case round =>
    obtain ⟨k, hk, rfl, rfl, her, hln, hb⟩ := hrel
    by_cases hlt : k < n
    · have hke : k < l.length := by rw [← HN.out]; exact hlt
      have hki : (k : Int) < (n : Int) := by omega
      obtain ⟨g, off, rfl, hc⟩ := HC.out (by omega)
      have hc := fun j hj => hc k hke j hj
      have hmem := List.getElem_mem hke
      have hts := txL_step hke
      have hes := errL_step hke her
      have hat := errL_at hke her
      obtain ⟨u, hu⟩ : ∃ u, u = l[k] := ⟨_, rfl⟩
      rw [← hu] at hc hmem hts hes hat
      have hbc : ∀ j x, j < 4 → (encU u)[j]? = some x → wr.cell? ⟨g, off + k * 4 + j, none⟩ = some x := fun j x hj hx => by
        have h1 := (hc j hj).trans hx
        rw [hb.cell (World.block_lt_of_cell? _ _ h1)]; exact h1
      have c0 : wr.cell? ⟨g, off + k * 4, none⟩ = some (.int .u8 u.kind) := hbc 0 _ (by omega) rfl
      have c1 : wr.cell? ⟨g, off + k * 4 + 1, none⟩ = some (.string (Lend.strOf u.key)) := hbc 1 _ (by omega) rfl
      have c2 : wr.cell? ⟨g, off + k * 4 + 2, none⟩ = some (.string (Lend.strOf u.val)) := hbc 2 _ (by omega) rfl
      have c3 : wr.cell? ⟨g, off + k * 4 + 3, none⟩ = some (.int .u64 u.delta) := hbc 3 _ (by omega) rfl
      obtain ⟨w1, hw1⟩ : ∃ w1, w1 = wr.alloc (.cells #[.int .u8 u.kind, .string (Lend.strOf u.key), .string (Lend.strOf u.val), .int .u64 u.delta] 78) := ⟨_, rfl⟩
      have HX := Lib.hid (show Has w1 wr.heap.size 78 (encU u) by rw [hw1]; exact Has.new wr _ _)
      have HB1 := Lib.hid (show Below w.heap.size w w1 by rw [hw1]; exact hb.alloc hb.size _)
      have HTS := Lib.hid hts
      have HES := Lib.hid hes
      have HAT := Lib.hid hat
      have HU := Lib.hid (HW.out u hmem)
      have y0 := HX.out.cell 0
      have y1 := HX.out.cell 1
      have y2 := HX.out.cell 2
      have y3 := HX.out.cell 3
      simp only [encU, List.getElem?_cons_zero, List.getElem?_cons_succ] at y0 y1 y2 y3
      rw [hw1] at y0 y1 y2 y3
      clear hu hke hc hbc hmem hts hes hat hb
      go_wp2_with fail
      rw [← hw1]
      clear c0 c1 c2 c3
      refine (refcheck_any u w1 HU.out.1 HU.out.2.1).mono ?_
      rintro e w2 ⟨rfl, hb2⟩
      by_cases hck : chkU u = 0
      · rw [hck]
        have hx2 := HX.out.below hb2 HX.out.lt
        obtain ⟨p1, p2, p3, p4, p5, p6, p7⟩ := chkU_ok hck
        have HX2 := Lib.hid hx2
        have HB2 := Lib.hid (HB1.out.trans (hb2.mono HB1.out.size))
        clear y0 y1 y2 y3
        have y0 := hx2.cell 0
        have y1 := hx2.cell 1
        have y2 := hx2.cell 2
        have y3 := hx2.cell 3
        simp only [encU, List.getElem?_cons_zero, List.getElem?_cons_succ] at y0 y1 y2 y3
        have s1 := ssize u.key
        have s2 := ssize u.val
        have s3 := ssize (txL (l.take k))
        have hks : (Lend.strOf u.key).size ≤ 16 := by omega
        have hvs : (Lend.strOf u.val).size ≤ 32 := by omega
        have hts : (Lend.strOf (txL (l.take k))).size ≤ 51000 := by omega
        obtain ⟨K, hK⟩ : ∃ K, K = Lend.strOf u.key := ⟨_, rfl⟩
        obtain ⟨V, hV⟩ : ∃ K, K = Lend.strOf u.val := ⟨_, rfl⟩
        obtain ⟨T, hT⟩ : ∃ K, K = Lend.strOf (txL (l.take k)) := ⟨_, rfl⟩
        rw [← hK] at hks y1 s1
        rw [← hV] at hvs y2 s2
        rw [← hT] at hts
        rw [← hK, ← hV, ← hT]
        have hcv := conv2 w2 u.kind (K.size : Int) (by omega) (by omega) (by omega) (by omega)
        obtain ⟨P, hP⟩ : ∃ P, P = Lend.strOf [UInt8.ofNat u.kind.toNat, UInt8.ofNat (K.size : Int).toNat] := ⟨_, rfl⟩
        rw [← hP] at hcv
        have hps : P.size ≤ 2 := by rw [hP]; exact Nat.le_refl _
        have HLN := Lib.hid hln
        have HER := Lib.hid her
        have HK := Lib.hid hK
        have HV := Lib.hid hV
        have HT := Lib.hid hT
        have HP := Lib.hid (show P = Lend.strOf [UInt8.ofNat u.kind.toNat, UInt8.ofNat u.key.length] by rw [hP, s1, Int.toNat_natCast])
        have HSV := Lib.hid s2
        have HCK := Lib.hid hck
        have H6 := Lib.hid p6
        have H7 := Lib.hid p7
        have HTL := Lib.hid (txU_length hck)
        have HKL := Lib.hid p2
        have HVL := Lib.hid p3
        clear hx2 hb2 HX HB1 HAT hln her hK hV hT hP s1 s2 s3 hck p1 p2 p3 p6 p7
        obtain ⟨kd, hkd⟩ : ∃ x, x = u.kind := ⟨_, rfl⟩
        obtain ⟨dl, hdl⟩ : ∃ x, x = u.delta := ⟨_, rfl⟩
        rw [← hkd] at y0 hcv p4 p5
        rw [← hdl] at y3
        rw [← hkd, ← hdl]
        have HKD := Lib.hid hkd
        have HDL := Lib.hid hdl
        clear hkd hdl
        have hxl := HX2.out.lt
        rcases (show kd = 1 ∨ kd = 2 ∨ kd = 3 by omega) with rfl | rfl | rfl
        · clear p4 p5
          have hcv1 := conv1 (w2.alloc (.cells #[.int .u8 1, .int .u8 (K.size : Int)] 5)) (V.size : Int) (by omega) (by omega)
          rw [World.size_alloc] at hcv1
          obtain ⟨Q, hQ⟩ : ∃ Q, Q = Lend.strOf [UInt8.ofNat (V.size : Int).toNat] := ⟨_, rfl⟩
          rw [← hQ] at hcv1
          have hqs : Q.size ≤ 1 := by rw [hQ]; exact Nat.le_refl _
          have HQ := Lib.hid (show Q = Lend.strOf [UInt8.ofNat u.val.length] by rw [hQ, HSV.out, Int.toNat_natCast])
          clear hQ
          have hxl2 : wr.heap.size < w2.heap.size + 1 := by omega
          have HF := Lib.hid (show T ++ P ++ K ++ Q ++ V = Lend.strOf (txL (l.take (k + 1))) from by
            rw [HT.out, HP.out, HK.out, HQ.out, HV.out, sapp, sapp, sapp, sapp, HTS.out]
            unfold txU len8
            rw [← HKD.out, if_pos rfl, if_neg (by decide)]
            simp)
          have HLN2 := Lib.hid (show (txL (l.take (k + 1))).length ≤ 51 * (k + 1) from by
            rw [HTS.out, List.length_append, HTL.out, ← HKD.out, if_pos rfl, if_neg (by decide)]
            have := HLN.out; have := HKL.out; have := HVL.out; omega)
          go_wp2_with fail
          go_roundw
          case rel => exact ⟨k + 1, by omega, by go_num, by rw [HF.out], by rw [HES.out]; exact HCK.out, HLN2.out, b_on2 (b_on2 HB2.out)⟩
          case measure => simp [intOf]; omega
        · clear p4 p5
          have HF := Lib.hid (show T ++ P ++ K = Lend.strOf (txL (l.take (k + 1))) from by
            rw [HT.out, HP.out, HK.out, sapp, sapp, HTS.out]
            unfold txU len8
            rw [← HKD.out, if_neg (by decide), if_neg (by decide)]
            simp)
          have HLN2 := Lib.hid (show (txL (l.take (k + 1))).length ≤ 51 * (k + 1) from by
            rw [HTS.out, List.length_append, HTL.out, ← HKD.out, if_neg (by decide), if_neg (by decide)]
            have := HLN.out; have := HKL.out; omega)
          go_wp2_with fail
          go_roundw
          case rel => exact ⟨k + 1, by omega, by go_num, by rw [HF.out], by rw [HES.out]; exact HCK.out, HLN2.out, b_on2 HB2.out⟩
          case measure => simp [intOf]; omega
        · clear p4 p5
          have HPU := Lib.hid (fun W => refput_any dl 8 W (by rw [HDL.out]; exact HU.out.2.2.1) (by rw [HDL.out]; exact HU.out.2.2.2))
          obtain ⟨D, hD⟩ : ∃ D, D = putS dl 8 := ⟨_, rfl⟩
          have HD := Lib.hid (show D = Lend.strOf (encN dl 8) by rw [hD]; exact (put_ok (by decide) (by decide)).2)
          have hds : D.size ≤ 8 := by rw [HD.out, ssize, encN_length]; omega
          rw [← hD] at HPU
          clear hD
          have HF := Lib.hid (show T ++ P ++ K ++ D = Lend.strOf (txL (l.take (k + 1))) from by
            rw [HT.out, HP.out, HK.out, HD.out, sapp, sapp, sapp, HTS.out]
            unfold txU len8
            rw [← HKD.out, if_neg (by decide), if_pos rfl, ← HDL.out]
            simp)
          have HLN2 := Lib.hid (show (txL (l.take (k + 1))).length ≤ 51 * (k + 1) from by
            rw [HTS.out, List.length_append, HTL.out, ← HKD.out, if_neg (by decide), if_pos rfl]
            have := HLN.out; have := HKL.out; omega)
          go_wp2_with fail
          refine (HPU.out _).mono ?_
          rintro e w3 ⟨rfl, hb3⟩
          have HB3 := Lib.hid ((b_on2 HB2.out).trans (hb3.mono (b_on2 (o := .cells #[.int .u8 3, .int .u8 (K.size : Int)] 5) HB2.out).size))
          clear hb3 y0 y1 y2 y3 hcv
          go_wp2_with fail
          go_roundw
          case rel => exact ⟨k + 1, by omega, by go_num, by rw [HF.out], by rw [HES.out]; exact HCK.out, HLN2.out, HB3.out⟩
          case measure => simp [intOf]; omega
      · have hne : (chkU u == 0) = false := by simpa using hck
        have HF := Lib.hid (show txT l = [] ∧ errL l = chkU u from ⟨by unfold txT; rw [if_neg (by rw [HAT.out hck]; exact hck)], HAT.out hck⟩)
        have HB2 := Lib.hid (HB1.out.trans (hb2.mono HB1.out.size))
        clear hb2 y0 y1 y2 y3
        go_wp2_with fail
        go_ret2
        exact ⟨by rw [HF.out.1, HF.out.2]; rfl, HB2.out⟩
    · have hkn : k = n := by omega
      subst hkn
      have hki : ¬ (k : Int) < (k : Int) := by omega
      have htk : l.take k = l := List.take_of_length_le (by rw [← HN.out]; exact Nat.le_refl _)
      rw [htk] at her hln ⊢
      have HF := Lib.hid (show txT l = txL l from by unfold txT; rw [if_pos her])
      have HE := Lib.hid her
      have HB := Lib.hid hb
      clear hb her hln htk
      go_wp2
      go_ret2
      exact ⟨by rw [HF.out, HE.out]; rfl, HB.out⟩
end Go.Proofs.Ytfclecbhfamomaa.Rec
