/- Contracts of the document's own answers for layer 4: sized, right, laid, Seal. -/
import Derived.Laws.MakeOwn
import Derived.Test.YtimdemdopnmijaaDoorEnvG
namespace Go.Proofs.YtimdemdopnmijaaDoor.Env
open Go.RowKit Go.Proofs.YtimdemdopnmijaaDoor Go.Proofs.YtimdemdopnmijaaDoor.Lend
set_option linter.unusedVariables false

theorem refsized_any (n : Int) (w : World) : Calls Tryd.prog 25 #[.int .i64 n] w fun e w' => e = .returned (.bool (szB n)) ∧ w = w' := by
  by_cases h1 : 128 ≤ n
  · by_cases h2 : n ≤ 1024
    · have HS := Lib.hid (szB_yes h1 h2)
      go_enter Tryd.func25, Tryd.ntmps25
      go_wp2
      go_ret
      exact ⟨ret_bool HS.out.symm, rfl⟩
    · have HS := Lib.hid (szB_no (n := n) (.inr (by omega)))
      have h2' : 1024 < n := by omega
      clear h2
      go_enter Tryd.func25, Tryd.ntmps25
      go_wp2
      go_ret
      exact ⟨ret_bool (by rw [HS.out]; simp; omega), rfl⟩
  · have HS := Lib.hid (szB_no (n := n) (.inl (by omega)))
    have h1' : n < 128 := by omega
    clear h1
    go_enter Tryd.func25, Tryd.ntmps25
    go_wp2
    go_ret
    exact ⟨ret_bool HS.out.symm, rfl⟩
theorem hdB_full {k a : Int} (h1 : 1 ≤ k) (h2 : k ≤ 5) (h3 : 0 ≤ a) : hdB k a = decide (a ≤ 2147483647) := by simp [hdB, adB, h1, h2, h3]
theorem hdB_neg {k a : Int} (h3 : a < 0) : hdB k a = false := by
  simp only [hdB, adB, Bool.and_eq_false_iff, decide_eq_false_iff_not]; omega
theorem refright_any (k a g : Int) (w : World) : Calls Tryd.prog 26 #[.agg #[.int .u8 k, .int .i64 a, .int .u64 g]] w fun e w' => e = .returned (.bool (hdB k a)) ∧ Below w.heap.size w w' := by
  by_cases h1 : 1 ≤ k
  · by_cases h2 : k ≤ 5
    · by_cases h3 : 0 ≤ a
      · have HS := Lib.hid (hdB_full (a := a) h1 h2 h3)
        go_enter Tryd.func26, Tryd.ntmps26
        go_wp2
        go_ret
        exact ⟨ret_bool HS.out.symm, (Below.refl _ _).alloc (Nat.le_refl _) _⟩
      · have HS := Lib.hid (hdB_neg (k := k) (a := a) (by omega))
        have h3' : a < 0 := by omega
        clear h3
        go_enter Tryd.func26, Tryd.ntmps26
        go_wp2
        go_ret
        exact ⟨ret_bool HS.out.symm, (Below.refl _ _).alloc (Nat.le_refl _) _⟩
    · have HS := Lib.hid (hdB_0 (k := k) (a := a) (.inr (by omega)))
      have h2' : 5 < k := by omega
      clear h2
      go_enter Tryd.func26, Tryd.ntmps26
      go_wp2
      go_ret
      exact ⟨ret_bool HS.out.symm, (Below.refl _ _).alloc (Nat.le_refl _) _⟩
  · have HS := Lib.hid (hdB_0 (k := k) (a := a) (.inl (by omega)))
    have h1' : k < 1 := by omega
    clear h1
    go_enter Tryd.func26, Tryd.ntmps26
    go_wp2
    go_ret
    exact ⟨ret_bool HS.out.symm, (Below.refl _ _).alloc (Nat.le_refl _) _⟩

theorem run_string_two (w : World) (c d : Int) :
    (convert 93 9 (.slice (some ⟨w.heap.size, 0, none⟩) 2 2)).run Tryd.prog (w.alloc (.cells #[.int .u8 c, .int .u8 d] 5)) = .ok (.string (strOf [UInt8.ofNat c.toNat, UInt8.ofNat d.toNat])) (w.alloc (.cells #[.int .u8 c, .int .u8 d] 5)) := by
  rw [run_convert_bytes_string _ _ _ _ _ _ _ Tryd.underlying93 Tryd.underlying5 Tryd.underlying9]
  have hc := run_loadCells_list (P := Tryd.prog) (w := w.alloc (.cells #[.int .u8 c, .int .u8 d] 5)) ⟨w.heap.size, 0, none⟩ [.int .u8 c, .int .u8 d] (by
    intro j u hj
    match j, hj with
    | 0, hj => simp at hj; subst hj; simp [Addr.add]
    | 1, hj => simp at hj; subst hj; simp [Addr.add])
  rw [run_bytesToString _ _ _ _ [c, d] (by simpa using hc), foldl_push]
  rfl
/-- 'make([]byte, c)', and its text -/
theorem run_make_zeros (c : Nat) (hc : c ≤ 1000000) (w : World) :
    (Instr.makeSlice 93 (.int .i64 (c : Int)) (.int .i64 (c : Int))).run Tryd.prog w = .ok (.slice (some ⟨w.heap.size, 0, none⟩) c c) (w.alloc (.cells (List.replicate c (Value.int .u8 0)).toArray 5)) := by
  obtain ⟨i0, hi, hz0, hz1, hz2⟩ := info_parts info_u8
  have h := run_make (P := Tryd.prog) w 93 5 i0 _ Tryd.underlying93 hi hz0 .i64 .i64 c c (by omega) (Int.le_refl _) (by rw [hz2]; omega) (by omega)
  rw [hz1] at h
  simp only [Int.toNat_natCast, Nat.mul_one] at h
  have e2 : madeCells #[Value.int .u8 0] c = (List.replicate c (Value.int .u8 0)).toArray := by rw [← toList_madeCells_one]
  rw [show (Value.int .u8 0).cells = #[Value.int .u8 0] from rfl, e2] at h
  exact h
theorem run_string_zeros (c : Nat) (w : World) :
    (convert 93 9 (.slice (some ⟨w.heap.size, 0, none⟩) c c)).run Tryd.prog (w.alloc (.cells (List.replicate c (Value.int .u8 0)).toArray 5)) = .ok (.string (strOf (zeros c))) (w.alloc (.cells (List.replicate c (Value.int .u8 0)).toArray 5)) := by
  rw [run_convert_bytes_string _ _ _ _ _ _ _ Tryd.underlying93 Tryd.underlying5 Tryd.underlying9]
  have hc := run_loadCells_list (P := Tryd.prog) (w := w.alloc (.cells (List.replicate c (Value.int .u8 0)).toArray 5)) ⟨w.heap.size, 0, none⟩ (List.replicate c (Value.int .u8 0)) (by
    intro j u hj
    have hj1 : j < c := by have := (List.getElem?_eq_some_iff.1 hj).1; simpa using this
    rw [List.getElem?_replicate, if_pos hj1] at hj
    cases hj
    simp [Addr.add_lit, hj1])
  rw [List.length_replicate] at hc
  have e : List.replicate c (Value.int .u8 0) = (List.replicate c (0 : Int)).map (Value.int .u8) := by simp
  rw [e] at hc ⊢
  rw [run_bytesToString _ _ _ _ _ hc, foldl_push]
  simp [strOf, zeros, ByteArray.empty, ByteArray.emptyWithCapacity]
  rfl

theorem put_2 {n : Int} (h : n < 65536) : putS n 2 = strOf (encN n 2) := (put_ok (n := n) (x := 2) (by decide) (by decide)).2
theorem ref_hdr (k n a g c : Int) (pl z : ByteArray) (hk0 : 0 ≤ k) (hk1 : k ≤ 255) :
    (⟨#[84, 82, 78, 76]⟩ : ByteArray) ++ strOf [UInt8.ofNat k.toNat, UInt8.ofNat (0 : Int).toNat] ++ strOf (encN n 2) ++ strOf (encN a 4) ++ strOf (encN g 8) ++ strOf (encN c 4) ++ pl = strOf (hdr k n a g c ++ pl.data.toList) := by
  apply strOf_ext
  have e1 : encN k 1 = [UInt8.ofNat k.toNat] := by
    rw [encN_front]; simp [encN]; congr 1; omega
  have e0 : encN 0 1 = [UInt8.ofNat 0] := by rw [encN_front]; simp [encN]
  rw [hdr_eq, e1, e0]
  simp [strOf, markL]
set_option maxHeartbeats 1000000 in
set_option maxRecDepth 100000 in
theorem laid_any (N : Nat) (k a g c : Int) (pl : ByteArray) (w : World) (hh : hdB k a = true) (hg0 : 0 ≤ g) (hg1 : g < 18446744073709551616) (hc0 : 0 ≤ c) (hc1 : c < 4294967296) (hN : N ≤ 1024) (hp : pl.size + 24 ≤ N) :
    Calls Tryd.prog 27 #[.int .i64 (N : Nat), .agg #[.int .u8 k, .int .i64 a, .int .u64 g], .string pl, .int .u64 c] w fun e w' => e = .returned (.string (strOf (hdr k pl.size a g c ++ bodyL (N - 24) pl.data.toList))) ∧ Below w.heap.size w w' := by
  obtain ⟨h1, h2, h3, h4⟩ := hdB_bd hh
  have hpl : pl.data.toList.length = pl.size := by simp
  have hps : pl.size ≤ 1000 := by omega
  obtain ⟨s, hs⟩ : ∃ s, s = strOf (hdr k pl.size a g c ++ pl.data.toList) := ⟨_, rfl⟩
  have hss : s.size = 24 + pl.size := by rw [hs]; show (hdr k pl.size a g c ++ pl.data.toList).length = _; rw [List.length_append, hdr_length, hpl]
  obtain ⟨m, hm⟩ : ∃ m : Nat, m = N - (24 + pl.size) := ⟨_, rfl⟩
  have hsub : (N : Int) - (s.size : Int) = (m : Int) := by omega
  have hend : s ++ strOf (zeros m) = strOf (hdr k pl.size a g c ++ bodyL (N - 24) pl.data.toList) := by
    apply strOf_ext
    rw [hs, bodyL, hpl, hm, show N - 24 - pl.size = N - (24 + pl.size) by omega]; simp [strOf]
  obtain ⟨s0, hs0⟩ : ∃ x, x = strOf [UInt8.ofNat k.toNat, UInt8.ofNat (0 : Int).toNat] := ⟨_, rfl⟩
  obtain ⟨s2, hs2⟩ : ∃ x, x = strOf (encN pl.size 2) := ⟨_, rfl⟩
  obtain ⟨s4, hs4⟩ : ∃ x, x = strOf (encN a 4) := ⟨_, rfl⟩
  obtain ⟨s8, hs8⟩ : ∃ x, x = strOf (encN g 8) := ⟨_, rfl⟩
  obtain ⟨sc, hsc⟩ : ∃ x, x = strOf (encN c 4) := ⟨_, rfl⟩
  have HH := Lib.hid (show (⟨#[84, 82, 78, 76]⟩ : ByteArray) ++ s0 ++ s2 ++ s4 ++ s8 ++ sc ++ pl = s by rw [hs, hs0, hs2, hs4, hs8, hsc]; exact ref_hdr k pl.size a g c pl pl (by omega) (by omega))
  have HP2 := Lib.hid (show putS (pl.size : Int) 2 = s2 by rw [hs2]; exact (put_ok (n := (pl.size : Int)) (x := 2) (by decide) (by decide)).2)
  have HP4 := Lib.hid (show putS a 4 = s4 by rw [hs4]; exact (put_ok (n := a) (x := 4) (by decide) (by decide)).2)
  have HP8 := Lib.hid (show putS g 8 = s8 by rw [hs8]; exact (put_ok (n := g) (x := 8) (by decide) (by decide)).2)
  have HPC := Lib.hid (show putS c 4 = sc by rw [hsc]; exact (put_ok (n := c) (x := 4) (by decide) (by decide)).2)
  have HE := Lib.hid hend
  have HSUB := Lib.hid hsub
  have HG1 := Lib.hid hg1
  have z2 : s2.size ≤ 2 := by rw [hs2]; show (encN pl.size 2).length ≤ 2; rw [encN_length]; exact Nat.le_refl _
  have z4 : s4.size ≤ 4 := by rw [hs4]; show (encN a 4).length ≤ 4; rw [encN_length]; exact Nat.le_refl _
  have z8 : s8.size ≤ 8 := by rw [hs8]; show (encN g 8).length ≤ 8; rw [encN_length]; exact Nat.le_refl _
  have zc : sc.size ≤ 4 := by rw [hsc]; show (encN c 4).length ≤ 4; rw [encN_length]; exact Nat.le_refl _
  have zk : s0.size ≤ 2 := by rw [hs0]; exact Nat.le_refl _
  have HS0 := Lib.hid hs0
  have zz : (strOf (zeros m)).size ≤ 1000 := by show (zeros m).length ≤ 1000; simp [zeros]; omega
  have hsb : s.size ≤ 1100 := by omega
  have hmb : m ≤ 1000000 := by omega
  have hc2 : c ≤ 4294967295 := by omega
  clear hh hpl hs hss hm hsub hend hg1 hc1 hs0 hs2 hs4 hs8 hsc
  go_enter Tryd.func27, Tryd.ntmps27
  go_wp2_with fail
  refine (refput_any (pl.size : Int) 2 _ (by omega) (by omega)).mono ?_
  rintro e w1 ⟨rfl, hb1⟩
  rw [HP2.out]
  have hn := New3.on (New3.new w (.int .u8 k) (.int .i64 a) (.int .u64 g) _) hb1
  have HB1 := Lib.hid (below_on (below_new w _) hb1)
  have HN1 := Lib.hid hn
  obtain ⟨q0, q1, q2, _, _, _⟩ := hn
  clear hb1
  go_wp2_with fail
  refine (refput_any a 4 _ (by omega) (by omega)).mono ?_
  rintro e w2 ⟨rfl, hb2⟩
  rw [HP4.out]
  have hn := New3.on HN1.out hb2
  have HB2 := Lib.hid (below_on HB1.out hb2)
  have HN2 := Lib.hid hn
  clear q0 q1 q2 hb2
  obtain ⟨q0, q1, q2, _, _, _⟩ := hn
  go_wp2_with fail
  refine (refput_any g 8 _ hg0 HG1.out).mono ?_
  rintro e w3 ⟨rfl, hb3⟩
  rw [HP8.out]
  have hn := New3.on HN2.out hb3
  have HB3 := Lib.hid (below_on HB2.out hb3)
  have HN3 := Lib.hid hn
  clear q0 q1 q2 hb3
  obtain ⟨q0, q1, q2, _, _, _⟩ := hn
  go_wp2_with fail
  refine (refput_any c 4 _ hc0 (by omega)).mono ?_
  rintro e w4 ⟨rfl, hb4⟩
  rw [HPC.out]
  have hn := New3.on HN3.out hb4
  have HB4 := Lib.hid (below_on HB3.out hb4)
  clear q0 q1 q2 hb4
  obtain ⟨q0, q1, q2, _, _, _⟩ := hn
  have hcv := run_string_two w4 k 0
  rw [← HS0.out] at hcv
  go_upto_region 6 with fail
  rw [HH.out]
  clear hcv
  have hmk := run_make_zeros m hmb (w4.alloc (.cells #[.int .u8 k, .int .u8 0] 5))
  rw [World.size_alloc] at hmk
  have hcz := run_string_zeros m (w4.alloc (.cells #[.int .u8 k, .int .u8 0] 5))
  rw [World.size_alloc] at hcz
  have hsub := HSUB.out
  obtain ⟨Z, hZ⟩ : ∃ Z, Z = (List.replicate m (Value.int .u8 0)).toArray := ⟨_, rfl⟩
  rw [← hZ] at hmk hcz
  clear hZ
  go_wp2_with fail
  go_ret
  refine ⟨ret_str HE.out, ?_⟩
  repeat (first | with_reducible exact HB4.out | with_reducible apply below_nw)
/-- the document's image -/
def refV (size k a g : Int) (pl : List UInt8) : Value := .tuple #[.string (sealS size k a g pl), .int .u64 (sealC size k a g pl), .int .i64 (sealE size k a pl)]
theorem refV_no {size k a g : Int} {pl : List UInt8} {e : Int} (h : sealE size k a pl = e) (he : e ≠ 0) : refV size k a g pl = .tuple #[.string ⟨#[]⟩, .int .u64 0, .int .i64 e] := by
  simp only [refV, sealS, sealC, h, if_neg he]
theorem refV_yes {size k a g : Int} {pl : List UInt8} (h : sealE size k a pl = 0) :
    refV size k a g pl = .tuple #[.string (strOf (imgL k a g (size - 24).toNat pl)), .int .u64 (ckL k pl.length a g (bodyL (size - 24).toNat pl) : Int), .int .i64 0] := by
  simp only [refV, sealS, sealC, h, if_true]
set_option maxHeartbeats 1000000 in
set_option maxRecDepth 100000 in
theorem refseal_any (size k a g : Int) (pl : ByteArray) (w : World) (hg0 : 0 ≤ g) (hg1 : g < 18446744073709551616) (hp : pl.size ≤ 1000000) :
    Calls Tryd.prog 14 #[.int .i64 size, .agg #[.int .u8 k, .int .i64 a, .int .u64 g], .string pl] w fun e w' => e = .returned (refV size k a g pl.data.toList) ∧ Below w.heap.size w w' := by
  have hpl : pl.data.toList.length = pl.size := by simp
  have hn := New3.new w (.int .u8 k) (.int .i64 a) (.int .u64 g) 49
  cases h1 : szB size with
  | false =>
    have HV := Lib.hid (refV_no (g := g) (sealE_arg (k := k) (a := a) (pl := pl.data.toList) (.inl h1)) (by decide))
    have H1 := Lib.hid h1
    clear h1 hpl hg1 hn
    go_enter Tryd.func14, Tryd.ntmps14
    go_wp2_with (first | (go_at_call 25; refine (refsized_any _ _).mono ?_; rintro e w' ⟨rfl, rfl⟩; rw [H1.out]) | (go_at_call 26; refine (refright_any _ _ _ _).mono ?_; rintro e w1 ⟨rfl, hb1⟩))
    go_ret3
    exact ⟨by rw [HV.out]; rfl, below_on (below_new _ _) hb1⟩
  | true =>
    cases h2 : hdB k a with
    | false =>
      have HV := Lib.hid (refV_no (g := g) (sealE_arg (size := size) (pl := pl.data.toList) (.inr h2)) (by decide))
      have H1 := Lib.hid h1
      have H2 := Lib.hid h2
      clear h1 h2 hpl hg1 hn
      go_enter Tryd.func14, Tryd.ntmps14
      go_wp2_with (first | (go_at_call 25; refine (refsized_any _ _).mono ?_; rintro e w' ⟨rfl, rfl⟩; rw [H1.out]) | (go_at_call 26; refine (refright_any _ _ _ _).mono ?_; rintro e w1 ⟨rfl, hb1⟩; rw [H2.out]))
      go_ret3
      exact ⟨by rw [HV.out]; rfl, below_on (below_new _ _) hb1⟩
    | true =>
      have hsz : 128 ≤ size ∧ size ≤ 1024 := by simpa [szB] using h1
      obtain ⟨N, rfl⟩ := Int.eq_ofNat_of_zero_le (show 0 ≤ size by omega)
      obtain ⟨s1, s2⟩ := hsz
      have H1 := Lib.hid h1
      have H2 := Lib.hid h2
      by_cases hle : pl.size + 24 ≤ N
      · have HV := Lib.hid (refV_yes (g := g) (sealE_ok (pl := pl.data.toList) h1 h2 (by omega)))
        obtain ⟨ck, hck⟩ : ∃ c, c = ckL k pl.size a g (bodyL (N - 24) pl.data.toList) := ⟨_, rfl⟩
        have hckb : ck < 4294967296 := by rw [hck]; exact ckL_lt _ _ _ _ _
        have hckc : Sum.chk 0 (strOf (hdr k pl.size a g 0 ++ bodyL (N - 24) pl.data.toList)).data.toList = ck := by rw [hck]; rfl
        have himg : strOf (hdr k pl.size a g ck ++ bodyL (N - 24) pl.data.toList) = strOf (imgL k a g ((N : Int) - 24).toNat pl.data.toList) := by
          rw [imgL, hpl, show ((N : Int) - 24).toNat = N - 24 by omega, ← hck]
        have hcv : ckL k pl.data.toList.length a g (bodyL ((N : Int) - 24).toNat pl.data.toList) = ck := by
          rw [hpl, show ((N : Int) - 24).toNat = N - 24 by omega, hck]
        have hil : (strOf (hdr k pl.size a g 0 ++ bodyL (N - 24) pl.data.toList)).size ≤ 1000000 := by
          show (hdr k pl.size a g 0 ++ bodyL (N - 24) pl.data.toList).length ≤ _
          rw [List.length_append, hdr_length, bodyL_length _ _ (by omega)]; omega
        have HC := Lib.hid hckc
        have HI := Lib.hid himg
        have HCV := Lib.hid hcv
        have HG1 := Lib.hid hg1
        have hle2 : (pl.size : Int) ≤ (N : Int) - 24 := by omega
        clear h1 h2 hpl hg1 hck hckc himg hcv
        go_enter Tryd.func14, Tryd.ntmps14
        go_wp2_with fail
        refine (refsized_any _ _).mono ?_
        rintro e w' ⟨rfl, rfl⟩
        rw [H1.out]
        go_wp2_with fail
        refine (refright_any _ _ _ _).mono ?_
        rintro e w1 ⟨rfl, hb1⟩
        rw [H2.out]
        have HB1 := Lib.hid (below_on (below_new w _) hb1)
        have hn1 := New3.on hn hb1
        have HN1 := Lib.hid hn1
        obtain ⟨q0, q1, q2, _, _, _⟩ := hn1
        clear hb1 hn
        go_wp2_with fail
        refine (laid_any N k a g 0 pl _ H2.out hg0 HG1.out (by decide) (by decide) (by omega) hle).mono ?_
        rintro e w2 ⟨rfl, hb2⟩
        have HB2 := Lib.hid (below_on HB1.out hb2)
        have hn2 := New3.on HN1.out hb2
        clear q0 q1 q2 hb2
        obtain ⟨q0, q1, q2, _, _, _⟩ := hn2
        go_wp2_with fail
        refine (Sum.refOf_any _ _ hil).mono ?_
        rintro e w3 ⟨rfl, rfl⟩
        rw [HC.out]
        go_wp2_with fail
        refine (laid_any N k a g ck pl _ H2.out hg0 HG1.out (by omega) (by omega) (by omega) hle).mono ?_
        rintro e w4 ⟨rfl, hb4⟩
        rw [HI.out]
        go_wp2_with fail
        go_ret3
        exact ⟨by rw [HV.out, HCV.out]; rfl, below_on HB2.out hb4⟩
      · have HV := Lib.hid (refV_no (g := g) (sealE_long (pl := pl.data.toList) h1 h2 (by omega)) (by decide))
        have hgt : (N : Int) - 24 < (pl.size : Int) := by omega
        clear h1 h2 hpl hg1 hn hle
        go_enter Tryd.func14, Tryd.ntmps14
        go_wp2_with (first | (go_at_call 25; refine (refsized_any _ _).mono ?_; rintro e w' ⟨rfl, rfl⟩; rw [H1.out]) | (go_at_call 26; refine (refright_any _ _ _ _).mono ?_; rintro e w1 ⟨rfl, hb1⟩; rw [H2.out]))
        go_ret3
        exact ⟨by rw [HV.out]; rfl, below_on (below_new _ _) hb1⟩
end Go.Proofs.YtimdemdopnmijaaDoor.Env
