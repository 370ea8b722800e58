/- The document's Open of layer 4. -/
import Derived.Test.YtimdemdopnmijaaDoorSupMath
import Derived.Test.YtimdemdopnmijaaDoorEnvH
import Derived.Test.YtimdemdopnmijaaDoorRegionV
import Derived.Deep.DeepCutAuto
import Derived.Deep.RegionWith
namespace Go.Proofs.YtimdemdopnmijaaDoor.Env
open Go.RowKit Go.Proofs.YtimdemdopnmijaaDoor Go.Proofs.YtimdemdopnmijaaDoor.Lend Go.Proofs.YtimdemdopnmijaaDoor.Sup
set_option linter.unusedVariables false

/-- what the document's Open answers -/
def ropV (l : List UInt8) : Value := .tuple #[.agg #[.int .u8 (oK l), .int .i64 (oA l), .int .u64 (oG l)], .string (oP l), .int .u64 (oC l), .int .i64 (opE l)]
def noRop (e : Int) : Value := .tuple #[.agg #[.int .u8 0, .int .i64 0, .int .u64 0], .string ⟨#[]⟩, .int .u64 0, .int .i64 e]
theorem ropV_no {l : List UInt8} {e : Int} (h : opE l = e) (he : e ≠ 0) : ropV l = noRop e := by
  simp only [ropV, oK, oA, oG, oC, oP, h, if_neg he, noRop]
theorem ropV_yes {l : List UInt8} (h : opE l = 0) : ropV l = .tuple #[.agg #[.int .u8 (F l 0), .int .i64 (F l 3), .int .u64 (F l 4)], .string (strOf (opP l)), .int .u64 (F l 5), .int .i64 0] := by
  simp only [ropV, oK, oA, oG, oC, oP, h, if_true]
theorem opE_form {l : List UInt8} (h : opB l = false) : opE l = 4 := by rw [opE, if_neg (by rw [h]; decide)]
theorem get_at (s : ByteArray) (a b : Nat) : getL (s.extract a b).data.toList = getL ((s.data.toList.drop a).take (b - a)) := by rw [Lib.extract_data]

/-- the world while the head is laid -/
def ROW (W0 : World) (x y z : Value) : Bool → Bool → World
  | false, _ => W0.drew
  | true, false => W0.drew.alloc (.cells #[.int .u8 0, .int .i64 0, .int .u64 0] 49)
  | true, true => (((W0.drew.alloc (.cells #[.int .u8 0, .int .i64 0, .int .u64 0] 49)).setCell ⟨W0.heap.size, 0, none⟩ x).setCell ⟨W0.heap.size, 1, none⟩ y).setCell ⟨W0.heap.size, 2, none⟩ z
def RO (W0 : World) (x y z : Value) (b c : Bool) (w : World) : Prop := w = ROW W0 x y z b c
theorem RO.start (W0 : World) (x y z : Value) : RO W0 x y z false false W0.drew := rfl
theorem RO.size {W0 w : World} {x y z : Value} {c : Bool} (h : RO W0 x y z false c w) : w.heap.size = W0.heap.size := by rw [h]; rfl
theorem RO.al {W0 w : World} {x y z : Value} {c : Bool} (h : RO W0 x y z false c w) : RO W0 x y z true false (w.alloc (.cells #[.int .u8 0, .int .i64 0, .int .u64 0] 49)) := by rw [h]; rfl
theorem RO.n3 {W0 w : World} {x y z : Value} (h : RO W0 x y z true false w) : New3 w W0.heap.size (.int .u8 0) (.int .i64 0) (.int .u64 0) := by
  rw [h]; exact New3.new W0.drew _ _ _ _
theorem RO.st {W0 w : World} {x y z : Value} (h : RO W0 x y z true false w) : RO W0 x y z true true (((w.setCell ⟨W0.heap.size, 0, none⟩ x).setCell ⟨W0.heap.size, 1, none⟩ y).setCell ⟨W0.heap.size, 2, none⟩ z) := by rw [h]; rfl
theorem RO.done {W0 w : World} {x y z : Value} (h : RO W0 x y z true true w) : New3 w W0.heap.size x y z ∧ Below W0.heap.size W0 w := by
  rw [h]
  refine ⟨(New3.new W0.drew _ _ _ _).set x y z, ?_⟩
  have b0 : Below W0.heap.size W0 W0.drew := below_dr (Below.refl _ _)
  exact below_st (below_st (below_st (below_nw b0 _) (Nat.le_refl _) _) (Nat.le_refl _) _) (Nat.le_refl _) _
theorem cells_on {W W' : World} {p : Addr} {v : Value} (h : W.cell? p = some v) (hb : Below W.heap.size W W') : W'.cell? p = some v := by
  rw [hb.cell (World.block_lt_of_cell? _ _ h)]; exact h
theorem text_ne {s u : ByteArray} (h : ¬ s = u) : (s.toList == u.toList) = false := by
  rw [beq_eq_false_iff_ne]
  intro he
  rw [ByteArray.toList_eq, ByteArray.toList_eq] at he
  apply h
  cases s; cases u
  simp at he
  simpa using he
theorem byte4 (s : ByteArray) (h : 4 < s.size) : ((s[4]'h).toNat : Int) = F s.data.toList 0 := by
  have h' : 4 < s.data.toList.length := by simpa using h
  have e : s.data.toList.drop 4 = s[4]'h :: s.data.toList.drop 5 := by
    rw [List.drop_eq_getElem_cons h']; rfl
  rw [F, nums_list, e]; simp [getL]
set_option maxHeartbeats 4000000 in
set_option maxRecDepth 100000 in
theorem refopen_any (s : ByteArray) (w : World) (hs : s.size ≤ 1000000) :
    Calls Tryd.prog 30 #[.string s] w fun e w' => e = .returned (ropV s.data.toList) ∧ Below w.heap.size w w' := by
  obtain ⟨l, hl⟩ : ∃ l, s.data.toList = l := ⟨_, rfl⟩
  have hsz := sz_of hl
  rw [hl]
  have HL := Lib.hid hl
  have HSZ := Lib.hid hsz
  cases h1 : szB (s.size : Int) with
  | false =>
    have HV := Lib.hid (ropV_no (opE_form (opB_size (l := l) (by rw [← hsz]; exact h1))) (by decide))
    have H1 := Lib.hid h1
    clear h1 hsz hl
    go_enter Tryd.func30, Tryd.ntmps30
    go_wp2_with (go_at_call 25; refine (refsized_any _ _).mono ?_; rintro e w' ⟨rfl, rfl⟩; rw [H1.out])
    refine bodyPost_ret (v := noRop 4) (by simp [results, Tryd.results30, go_sem, noRop]) rfl ⟨by rw [HV.out], ?_⟩
    exact below_nw (below_new _ _) _
  | true =>
    have hb : 128 ≤ s.size ∧ s.size ≤ 1024 := by simp only [szB, Bool.and_eq_true, decide_eq_true_eq] at h1; omega
    obtain ⟨b1, b2⟩ := hb
    have H1 := Lib.hid h1
    obtain ⟨hf, _⟩ := F_bd l
    have g0 := byte4 s (Nat.lt_of_lt_of_le (by decide) b1)
    rw [hl] at g0
    obtain ⟨x0, hx0⟩ : ∃ x, x = F l 0 := ⟨_, rfl⟩
    obtain ⟨x2, hx2⟩ : ∃ x, x = F l 2 := ⟨_, rfl⟩
    obtain ⟨x3, hx3⟩ : ∃ x, x = F l 3 := ⟨_, rfl⟩
    obtain ⟨x4, hx4⟩ : ∃ x, x = F l 4 := ⟨_, rfl⟩
    obtain ⟨x5, hx5⟩ : ∃ x, x = F l 5 := ⟨_, rfl⟩
    rw [← hx0, ← hx2, ← hx3, ← hx4, ← hx5] at hf
    have G2 := Lib.hid (show ((getL (s.extract 6 8).data.toList : Nat) : Int) = x2 by rw [hx2, get_at, hl, F, nums_list]; simp)
    have G3 := Lib.hid (show ((getL (s.extract 8 12).data.toList : Nat) : Int) = x3 by rw [hx3, get_at, hl, F, nums_list]; simp)
    have G4 := Lib.hid (show ((getL (s.extract 12 20).data.toList : Nat) : Int) = x4 by rw [hx4, get_at, hl, F, nums_list]; simp)
    have G5 := Lib.hid (show ((getL (s.extract 20 24).data.toList : Nat) : Int) = x5 by rw [hx5, get_at, hl, F, nums_list]; simp)
    have g0' := g0
    rw [← hx0] at g0'
    have HX0 := Lib.hid hx0
    have HX2 := Lib.hid hx2
    have HX3 := Lib.hid hx3
    have HX4 := Lib.hid hx4
    have HX5 := Lib.hid hx5
    have HF := Lib.hid hf
    obtain ⟨n2, rfl⟩ := Int.eq_ofNat_of_zero_le hf.n0
    clear h1 hsz hl g0 hx0 hx2 hx3 hx4 hx5
    have hn1 := hf.n1
    have w2 : IntKind.i64.wrap (n2 : Int) = (n2 : Int) := IntWalk.i64_in _ (by omega)
    have w3 : IntKind.i64.wrap x3 = x3 := IntWalk.i64_in _ (by have := hf.a0; have := hf.a1; omega)
    clear hf
    go_enter Tryd.func30, Tryd.ntmps30
    go_wp2_with fail
    refine (refsized_any _ _).mono ?_
    rintro e w' ⟨rfl, rfl⟩
    rw [H1.out]
    go_wp2_with fail
    refine (refget_any _ _ (by simp; omega)).mono ?_
    rintro e w' ⟨rfl, rfl⟩
    rw [G2.out]
    obtain ⟨W0, hW0⟩ : ∃ W0, W0 = (w.alloc (.cells #[.int .u8 0, .int .i64 0, .int .u64 0] 49)).alloc (.cells #[.int .u8 0, .int .i64 0, .int .u64 0] 49) := ⟨_, rfl⟩
    rw [← hW0]
    have HB0 := Lib.hid (show Below w.heap.size w W0 by rw [hW0]; exact below_nw (below_new _ _) _)
    have HR := Lib.hid (show New3 W0 w.heap.size (.int .u8 0) (.int .i64 0) (.int .u64 0) by rw [hW0]; exact (New3.new w _ _ _ _).on (below_new _ _))
    have HN := Lib.hid (show New3 W0 (w.heap.size + 1) (.int .u8 0) (.int .i64 0) (.int .u64 0) by rw [hW0]; have := New3.new (w.alloc (.cells #[.int .u8 0, .int .i64 0, .int .u64 0] 49)) (.int .u8 0) (.int .i64 0) (.int .u64 0) 49; rwa [World.size_alloc] at this)
    clear hW0
    go_wp2_with fail
    have H0 := Lib.hid (RO.start W0 (.int .u8 x0) (.int .i64 x3) (.int .u64 x4))
    refine Reg.region_vals (by kernel_rfl) [(28, .string s), (29, .int .u8 x0), (30, .string s), (31, .string (s.extract 8 12)), (32, .int .u64 x3), (33, .int .i64 x3), (34, .string s), (35, .string (s.extract 12 20)), (36, .int .u64 x4), (37, .agg #[.int .u8 x0, .int .i64 x3, .int .u64 x4]), (9, .pointer (some ⟨W0.heap.size, 0, none⟩))] (fun l wx => RO W0 (.int .u8 x0) (.int .i64 x3) (.int .u64 x4) (l 10) (l 11) wx) (by kernel_rfl) (by kernel_rfl) (by kernel_rfl) (H0.out) ⟨?_, ?_, ?_, ?_, ?_, ?_, ?_, ?_, ?_, ?_, ?_, ?_, trivial⟩ ?hend
    · -- 0: 28 := Op.move t0
      intro aq wq lq hI hl hdone hlater hold hd ho
      have h0 : aq.tmps.getD 0 undef = .string s := ho 0 (by kernel_rfl)
      clear hd ho hdone hlater hold
      exact Reg.step2_move (.tmp 0) rfl h0 hI trivial
    · -- 1: 29 := Op.index 9 t28 (const (4:i64))
      intro aq wq lq hI hl hdone hlater hold hd ho
      have h28 : aq.tmps.getD 28 undef = .string s := hd 28 (by kernel_rfl)
      clear hd ho hdone hlater hold
      rw [Array.getD_eq_getD_getElem?] at h28
      refine Reg.step2_val (.int .u8 x0) ?_ rfl hI trivial
      simp [execOp, Act.eval, h28]
      go_simp
      intro hx
      exfalso
      omega
    · -- 2: 30 := Op.move t0
      intro aq wq lq hI hl hdone hlater hold hd ho
      have h0 : aq.tmps.getD 0 undef = .string s := ho 0 (by kernel_rfl)
      clear hd ho hdone hlater hold
      exact Reg.step2_move (.tmp 0) rfl h0 hI trivial
    · -- 3: 31 := Op.slice 9 t30 (some (const (8:i64))) (some (const (12:i64))
      intro aq wq lq hI hl hdone hlater hold hd ho
      have h30 : aq.tmps.getD 30 undef = .string s := hd 30 (by kernel_rfl)
      clear hd ho hdone hlater hold
      rw [Array.getD_eq_getD_getElem?] at h30
      refine Reg.step2_val (.string (s.extract 8 12)) ?_ rfl hI trivial
      simp [execOp, Act.eval, h30]
      go_simp
      intro hx
      exfalso
      omega
    · -- 4: 32 := Op.call ( value (Operand.func 48), args := #(t31), argTypes 
      intro aq wq lq hI hl hdone hlater hold hd ho
      have h31 : aq.tmps.getD 31 undef = .string (s.extract 8 12) := hd 31 (by kernel_rfl)
      clear hd ho hdone hlater hold
      rw [Array.getD_eq_getD_getElem?] at h31
      refine Reg.step2_call 48 #[.string (s.extract 8 12)] ?_ ((refget_any _ wq (by simp; omega)).mono ?_)
      · simp [execOp]
        go_simp
      · rintro e w' ⟨rfl, rfl⟩
        exact ⟨_, rfl, by rw [G3.out]; rfl, hI, trivial⟩
    · -- 5: 33 := Op.convert 22 3 t32
      intro aq wq lq hI hl hdone hlater hold hd ho
      have h32 : aq.tmps.getD 32 undef = .int .u64 x3 := hd 32 (by kernel_rfl)
      clear hd ho hdone hlater hold
      rw [Array.getD_eq_getD_getElem?] at h32
      refine Reg.step2_val (.int .i64 x3) ?_ rfl hI trivial
      simp [execOp, Act.eval, h32]
      try go_simp
    · -- 6: 34 := Op.move t0
      intro aq wq lq hI hl hdone hlater hold hd ho
      have h0 : aq.tmps.getD 0 undef = .string s := ho 0 (by kernel_rfl)
      clear hd ho hdone hlater hold
      exact Reg.step2_move (.tmp 0) rfl h0 hI trivial
    · -- 7: 35 := Op.slice 9 t34 (some (const (12:i64))) (some (const (20:i64)
      intro aq wq lq hI hl hdone hlater hold hd ho
      have h34 : aq.tmps.getD 34 undef = .string s := hd 34 (by kernel_rfl)
      clear hd ho hdone hlater hold
      rw [Array.getD_eq_getD_getElem?] at h34
      refine Reg.step2_val (.string (s.extract 12 20)) ?_ rfl hI trivial
      simp [execOp, Act.eval, h34]
      go_simp
      intro hx
      exfalso
      omega
    · -- 8: 36 := Op.call ( value (Operand.func 48), args := #(t35), argTypes 
      intro aq wq lq hI hl hdone hlater hold hd ho
      have h35 : aq.tmps.getD 35 undef = .string (s.extract 12 20) := hd 35 (by kernel_rfl)
      clear hd ho hdone hlater hold
      rw [Array.getD_eq_getD_getElem?] at h35
      refine Reg.step2_call 48 #[.string (s.extract 12 20)] ?_ ((refget_any _ wq (by simp; omega)).mono ?_)
      · simp [execOp]
        go_simp
      · rintro e w' ⟨rfl, rfl⟩
        exact ⟨_, rfl, by rw [G4.out]; rfl, hI, trivial⟩
    · -- 9: 37 := Op.build 49 #((0, t29), (1, t33), (2, t36))
      intro aq wq lq hI hl hdone hlater hold hd ho
      have h29 : aq.tmps.getD 29 undef = .int .u8 x0 := hd 29 (by kernel_rfl)
      have h33 : aq.tmps.getD 33 undef = .int .i64 x3 := hd 33 (by kernel_rfl)
      have h36 : aq.tmps.getD 36 undef = .int .u64 x4 := hd 36 (by kernel_rfl)
      clear hd ho hdone hlater hold
      rw [Array.getD_eq_getD_getElem?] at h29 h33 h36
      refine Reg.step2_val (.agg #[.int .u8 x0, .int .i64 x3, .int .u64 x4]) ?_ rfl hI trivial
      simp [execOp, Act.eval, h29, h33, h36]
      try go_simp
    · -- 10: 9 := Op.alloc 49
      intro aq wq lq hI hl hdone hlater hold hd ho
      have gl11 : lq 11 = false := hlater 11 (by kernel_rfl)
      clear hd ho hdone hlater hold
      have hJ := hI
      clear hI
      rw [show lq 10 = false from hl] at hJ
      have hsz := hJ.size
      have hN := hJ.al
      clear hJ
      refine Reg.step2_do (.pointer (some ⟨W0.heap.size, 0, none⟩)) (wq.alloc (.cells #[.int .u8 0, .int .i64 0, .int .u64 0] 49)) ?_ rfl (by show RO _ _ _ _ true (lq 11) _; rw [show lq 11 = false from gl11]; exact hN) trivial
      rw [← hsz]
      clear hN hsz
      simp [execOp]
      go_simp
    · -- 11: None := Op.store 49 t9 t37
      intro aq wq lq hI hl hdone hlater hold hd ho
      have h9 : aq.tmps.getD 9 undef = .pointer (some ⟨W0.heap.size, 0, none⟩) := hd 9 (by kernel_rfl)
      have h37 : aq.tmps.getD 37 undef = .agg #[.int .u8 x0, .int .i64 x3, .int .u64 x4] := hd 37 (by kernel_rfl)
      have gd10 : lq 10 = true := hdone 10 (by kernel_rfl)
      clear hd ho hdone hlater hold
      rw [Array.getD_eq_getD_getElem?] at h9 h37
      have hJ := hI
      clear hI
      rw [show lq 11 = false from hl, show lq 10 = true from gd10] at hJ
      obtain ⟨e0, e1, e2, f0, f1, f2⟩ := hJ.n3
      have hN := hJ.st
      clear hJ
      refine Reg.step2_skip _ rfl ?_ (show RO _ _ _ _ (lq 10) true _ by rw [show lq 10 = true from gd10]; exact hN) trivial
      clear hN
      simp [execOp]
      go_simp
    case hend =>
      intro wx hI
      simp only [Reg.fill, List.foldl_cons, List.foldl_nil, List.setIfInBounds_toArray, List.set_cons_zero, List.set_cons_succ]
      obtain ⟨hn, hb⟩ := RO.done (show RO W0 (.int .u8 x0) (.int .i64 x3) (.int .u64 x4) true true wx from hI)
      have HB1 := Lib.hid (below_on HB0.out hb)
      have HR1 := Lib.hid (HR.out.on hb)
      have HN1 := Lib.hid (HN.out.on hb)
      have HH1 := Lib.hid hn
      obtain ⟨e0, e1, e2, _, _, _⟩ := hn
      clear hI hb HR HN HB0
      go_wp2_with fail
      refine (refright_any _ _ _ _).mono ?_
      rintro e wa ⟨rfl, hb⟩
      have HB2 := Lib.hid (below_on HB1.out hb)
      have HR2 := Lib.hid (HR1.out.on hb)
      have HN2 := Lib.hid (HN1.out.on hb)
      have HH2 := Lib.hid (HH1.out.on hb)
      clear e0 e1 e2 hb HB1 HR1 HN1 HH1
      have hbad : hdB x0 x3 = false ∨ ¬ (n2 : Int) ≤ (s.size : Int) - 24 → ropV l = noRop 4 := by
        intro h
        refine ropV_no (opE_form ?_) (by decide)
        rcases h with h | h
        · rw [opB, ← HX0.out, ← HX3.out, h]; simp
        · rw [opB, ← HX2.out, ← HSZ.out, decide_eq_false h]; simp
      cases hd : hdB x0 x3 with
      | false =>
        have HV := Lib.hid (hbad (.inl hd))
        clear hbad hd
        obtain ⟨r0, r1, r2, q0, q1, q2⟩ := HR2.out
        obtain ⟨z0, z1, z2, _, _, _⟩ := HN2.out
        go_wp2_with fail
        refine bodyPost_ret (v := noRop 4) (by simp [results, Tryd.results30, go_sem, r0, r1, r2, noRop]) rfl ⟨by rw [HV.out], ?_⟩
        exact below_st (below_st (below_st HB2.out (Nat.le_refl _) _) (Nat.le_refl _) _) (Nat.le_refl _) _
      | true =>
        have HD := Lib.hid hd
        by_cases hle : (n2 : Int) ≤ (s.size : Int) - 24
        · clear hbad hd
          obtain ⟨r0, r1, r2, q0, q1, q2⟩ := HR2.out
          obtain ⟨z0, z1, z2, _, _, _⟩ := HN2.out
          obtain ⟨e0, e1, e2, _, _, _⟩ := HH2.out
          have hn24 : 24 + n2 ≤ s.size := by omega
          obtain ⟨pl, hpl⟩ : ∃ x, x = s.extract 24 (24 + n2) := ⟨_, rfl⟩
          have hps : pl.size = n2 := by rw [hpl]; simp; omega
          have hpd : pl.data.toList = opP l := by rw [hpl, Lib.extract_data, HL.out, opP, ← HX2.out, Nat.add_sub_cancel_left]; simp
          obtain ⟨hre, hpn⟩ := relaid (l := l) (by rw [← HSZ.out]; exact H1.out) (by rw [← HX0.out, ← HX3.out]; exact HD.out) (by rw [← HX2.out, ← HSZ.out]; exact hle)
          rw [← HX0.out, ← HX2.out, ← HX3.out, ← HX4.out, ← HX5.out] at hre
          obtain ⟨T, hT⟩ : ∃ x, x = strOf (hdr x0 n2 x3 x4 x5 ++ bodyL (s.size - 24) (opP l)) := ⟨_, rfl⟩
          have HT := Lib.hid (show strOf (hdr x0 pl.size x3 x4 x5 ++ bodyL (s.size - 24) pl.data.toList) = T by rw [hT, hps, hpd])
          have HTE := Lib.hid (show opB l = true → T = s from fun h => by
            rw [hT, HSZ.out, hre.2 h]; exact (strOf_ext HL.out).symm)
          have HTN := Lib.hid (show T = s → opB l = true from fun h => by
            refine hre.1 ?_
            have : T.data.toList = s.data.toList := by rw [h]
            rw [HL.out, hT, HSZ.out] at this
            exact this)
          have HCK := Lib.hid (show opB l = true → bodyL (s.size - 24) (opP l) = l.drop 24 from fun h => by
            have := congrArg (List.drop 24) (hre.2 h)
            rw [List.drop_left' (hdr_length _ _ _ _ _)] at this
            rw [HSZ.out]; exact this)
          have HPL := Lib.hid hpl
          have HPD := Lib.hid hpd
          clear hre hpn hT hpl hpd hn1
          go_wp2_with fail
          refine (refget_any _ _ (by simp; omega)).mono ?_
          rintro e w' ⟨rfl, rfl⟩
          rw [G5.out]
          go_wp2_with fail
          rw [← HPL.out]
          refine (laid_any s.size x0 x3 x4 x5 pl _ HD.out HF.out.g0 HF.out.g1 HF.out.c0 HF.out.c1 b2 (by omega)).mono ?_
          rintro e wb ⟨rfl, hb⟩
          rw [HT.out]
          have HB3 := Lib.hid (below_on HB2.out hb)
          have HR3 := Lib.hid (HR2.out.on hb)
          have HN3 := Lib.hid (HN2.out.on hb)
          have HH3 := Lib.hid (HH2.out.on hb)
          clear r0 r1 r2 q0 q1 q2 z0 z1 z2 e0 e1 e2 hb HB2 HR2 HN2 HH2
          obtain ⟨r0, r1, r2, q0, q1, q2⟩ := HR3.out
          obtain ⟨z0, z1, z2, _, _, _⟩ := HN3.out
          obtain ⟨e0, e1, e2, _, _, _⟩ := HH3.out
          cases ho : opB l with
          | false =>
            have HV := Lib.hid (ropV_no (opE_form ho) (by decide))
            have hne : (T.toList == s.toList) = false := text_ne fun h => by
              have := HTN.out h
              rw [ho] at this; cases this
            clear ho
            go_wp2_with fail
            refine bodyPost_ret (v := noRop 4) (by simp [results, Tryd.results30, go_sem, r0, r1, r2, noRop]) rfl ⟨by rw [HV.out], ?_⟩
            exact below_st (below_st (below_st HB3.out (Nat.le_refl _) _) (Nat.le_refl _) _) (Nat.le_refl _) _
          | true =>
            have HTS := Lib.hid (HTE.out ho)
            obtain ⟨ck, hck⟩ : ∃ c : Nat, c = opC l := ⟨_, rfl⟩
            have HCK2 := Lib.hid (show ckL x0 pl.data.toList.length x3 x4 (bodyL ((s.size : Int) - 24).toNat pl.data.toList) = ck by
              rw [hck, opC, ← HX0.out, ← HX2.out, ← HX3.out, ← HX4.out, ← HCK.out ho, HPD.out, show ((s.size : Int) - 24).toNat = s.size - 24 by omega]
              congr 1
              rw [← HPD.out]; show ((pl.data.toList.length : Nat) : Int) = (n2 : Int); rw [show pl.data.toList.length = pl.size by simp, hps])
            have HSE := Lib.hid (refV_yes (g := x4) (sealE_ok (size := (s.size : Int)) (pl := pl.data.toList) H1.out HD.out (by simpa [hps] using hle)))
            rw [HTS.out]
            have HOE := Lib.hid (show opE l = if x5 = (ck : Int) then 0 else 5 by rw [opE, if_pos ho, ← HX5.out, hck])
            clear ho hck
            go_wp2_with fail
            refine (refseal_any _ _ _ _ pl _ HF.out.g0 HF.out.g1 (by omega)).mono ?_
            rintro e wd ⟨rfl, hb⟩
            rw [HSE.out, HCK2.out]
            have HB4 := Lib.hid (below_on HB3.out hb)
            have HR4 := Lib.hid (HR3.out.on hb)
            have HN4 := Lib.hid (HN3.out.on hb)
            have HH4 := Lib.hid (HH3.out.on hb)
            clear r0 r1 r2 q0 q1 q2 z0 z1 z2 e0 e1 e2 hb HB3 HR3 HN3 HH3
            obtain ⟨r0, r1, r2, q0, q1, q2⟩ := HR4.out
            obtain ⟨z0, z1, z2, _, _, _⟩ := HN4.out
            obtain ⟨e0, e1, e2, _, _, _⟩ := HH4.out
            obtain ⟨Z, hZ⟩ : ∃ Z, Z = strOf (imgL x0 x3 x4 ((s.size : Int) - 24).toNat pl.data.toList) := ⟨_, rfl⟩
            rw [← hZ]
            clear hZ
            by_cases hc : x5 = (ck : Int)
            · have HV := Lib.hid (ropV_yes (l := l) (by rw [HOE.out, if_pos hc]))
              have HPS := Lib.hid (show strOf (opP l) = pl by rw [← HPD.out]; exact (strOf_ext rfl).symm)
              go_wp2_with fail
              refine bodyPost_ret (v := .tuple #[.agg #[.int .u8 x0, .int .i64 x3, .int .u64 x4], .string pl, .int .u64 (ck : Int), .int .i64 0]) (by simp [results, Tryd.results30, go_sem, r0, r1, r2]) rfl ⟨by rw [HV.out, HPS.out, ← HX0.out, ← HX3.out, ← HX4.out, ← HX5.out, hc], ?_⟩
              exact below_st (below_st (below_st HB4.out (Nat.le_refl _) _) (Nat.le_refl _) _) (Nat.le_refl _) _
            · have HV := Lib.hid (ropV_no (l := l) (e := 5) (by rw [HOE.out, if_neg hc]) (by decide))
              go_wp2_with fail
              refine bodyPost_ret (v := noRop 5) (by simp [results, Tryd.results30, go_sem, r0, r1, r2, noRop]) rfl ⟨by rw [HV.out], ?_⟩
              exact below_st (below_st (below_st HB4.out (Nat.le_refl _) _) (Nat.le_refl _) _) (Nat.le_refl _) _
        · have HV := Lib.hid (hbad (.inr hle))
          clear hbad hd
          have hgt : (s.size : Int) - 24 < (n2 : Int) := by omega
          clear hle
          obtain ⟨r0, r1, r2, q0, q1, q2⟩ := HR2.out
          obtain ⟨z0, z1, z2, _, _, _⟩ := HN2.out
          go_wp2_with fail
          refine bodyPost_ret (v := noRop 4) (by simp [results, Tryd.results30, go_sem, r0, r1, r2, noRop]) rfl ⟨by rw [HV.out], ?_⟩
          exact below_st (below_st (below_st HB2.out (Nat.le_refl _) _) (Nat.le_refl _) _) (Nat.le_refl _) _
end Go.Proofs.YtimdemdopnmijaaDoor.Env
