/- Contracts of layer 4 (env): noughts, parse. -/
import Derived.Test.YtimdemdopnmijaaDoorShelf
import Derived.Test.YtimdemdopnmijaaDoorEnvB
import Derived.IntWalk
namespace Go.Proofs.YtimdemdopnmijaaDoor.Env
open Go.RowKit Go.Proofs.YtimdemdopnmijaaDoor Go.Proofs.YtimdemdopnmijaaDoor.Lend
set_option linter.unusedVariables false

theorem trim_nil (l : List UInt8) : (Lib.trimLeftB l 0).isEmpty = zrB l := by
  induction l with
  | nil => rfl
  | cons b l ih =>
    simp only [Lib.trimLeftB, zrB, List.dropWhile_cons, List.all_cons] at ih ⊢
    by_cases h : b = 0
    · subst h; simp only [beq_self_eq_true, if_true, Bool.true_and]; exact ih
    · have : (b == 0) = false := by simpa using h
      rw [this]; rfl
theorem noughts_any (s : ByteArray) (w : World) : Calls Tryd.prog 65 #[.string s] w fun e w' => e = .returned (.bool (zrB s.data.toList)) ∧ w = w' := by
  have HZ := Lib.hid (trim_nil s.data.toList)
  go_enter Tryd.func65, Tryd.ntmps65
  go_wp2_with (go_at_call 72; refine (Tryd.strings_TrimLeft_one s 0 (by decide) _).mono ?_; rintro e w' ⟨rfl, rfl⟩)
  go_ret
  exact ⟨ret_bool HZ.out, rfl⟩

theorem mkB_prefix (l : List UInt8) : Lib.hasPrefix l [84, 82, 78, 76] = mkB l := by
  unfold Lib.hasPrefix mkB markL
  rw [Bool.eq_iff_iff, List.isPrefixOf_iff_prefix, List.prefix_iff_eq_take, beq_iff_eq]
  exact eq_comm
/-- what 'parse' answers of no image -/
def noParse : Value := .tuple #[.agg #[.int .u8 0, .int .i64 0, .int .u64 0], .int .i64 0, .int .u32 0, .bool false]
def yesParse (l : List UInt8) : Value := .tuple #[.agg #[.int .u8 (F l 0), .int .i64 (F l 3), .int .u64 (F l 4)], .int .i64 (F l 2), .int .u32 (F l 5), .bool true]
theorem rd_env {u : ByteArray} {l : List UInt8} (hu : u.data.toList = l.drop 4) (hl : 128 ≤ l.length) : rdB envW u.data.toList = true ∧ rdN envW u.data.toList = [F l 0, F l 1, F l 2, F l 3, F l 4, F l 5] ∧ rdS envW u.data.toList = l.drop 24 := by
  have h : rdB envW u.data.toList = true := by
    rw [rdB, envW_ok, hu, List.length_drop]
    have : sumW envW = 20 := rfl
    simp [this]; omega
  refine ⟨h, ?_, ?_⟩
  · rw [rdN, if_pos h, hu, ← nums_eq]; rfl
  · rw [rdS, if_pos h, hu, List.drop_drop]; rfl
theorem st3 (w : World) (b : Nat) (p : Addr) (u v x : Value) (h : p.block ≠ b) : (((w.setCell ⟨b, 0, none⟩ u).setCell ⟨b, 1, none⟩ v).setCell ⟨b, 2, none⟩ x).drew.cell? p = w.cell? p := by
  show (((w.setCell ⟨b, 0, none⟩ u).setCell ⟨b, 1, none⟩ v).setCell ⟨b, 2, none⟩ x).cell? p = w.cell? p
  rw [World.cell?_setCell_other _ _ _ _ (fun e => h (by rw [← e])), World.cell?_setCell_other _ _ _ _ (fun e => h (by rw [← e])), World.cell?_setCell_other _ _ _ _ (fun e => h (by rw [← e]))]
theorem keepS4 {w : World} {b : Nat} {p q r t : Addr} {x y z v : Value} (u0 u1 u2 : Value) (h : w.cell? p = some x ∧ w.cell? q = some y ∧ w.cell? r = some z ∧ w.cell? t = some v) (hp : p.block ≠ b) (hq : q.block ≠ b) (hr : r.block ≠ b) (ht : t.block ≠ b) :
    (((w.setCell ⟨b, 0, none⟩ u0).setCell ⟨b, 1, none⟩ u1).setCell ⟨b, 2, none⟩ u2).drew.cell? p = some x ∧ (((w.setCell ⟨b, 0, none⟩ u0).setCell ⟨b, 1, none⟩ u1).setCell ⟨b, 2, none⟩ u2).drew.cell? q = some y ∧ (((w.setCell ⟨b, 0, none⟩ u0).setCell ⟨b, 1, none⟩ u1).setCell ⟨b, 2, none⟩ u2).drew.cell? r = some z ∧ (((w.setCell ⟨b, 0, none⟩ u0).setCell ⟨b, 1, none⟩ u1).setCell ⟨b, 2, none⟩ u2).drew.cell? t = some v := by
  rw [st3 _ _ _ _ _ _ hp, st3 _ _ _ _ _ _ hq, st3 _ _ _ _ _ _ hr, st3 _ _ _ _ _ _ ht]; exact h
theorem sz_of {l : List UInt8} {s : ByteArray} (hl : s.data.toList = l) : s.size = l.length := by rw [← hl]; simp
/-- what 'parse' answers -/
def parseV (l : List UInt8) : Value := if opB l = true then yesParse l else noParse
theorem parseV_yes {l : List UInt8} (h : opB l = true) : parseV l = yesParse l := by rw [parseV, if_pos h]
theorem parseV_no {l : List UInt8} (h : opB l = false) : parseV l = noParse := by rw [parseV, if_neg (by rw [h]; decide)]
theorem opB_late {l : List UInt8} (h1 : szB l.length = true) (h2 : mkB l = true) : opB l = (decide (F l 1 = 0) && (hdB (F l 0) (F l 3) && (decide (F l 2 ≤ (l.length : Int) - 24) && zrB (l.drop (24 + (F l 2).toNat))))) := by
  rw [opB, h1, h2]; rfl
set_option maxHeartbeats 4000000 in
set_option maxRecDepth 100000 in
theorem parse_late (s : ByteArray) (w : World) (h1 : 128 ≤ s.size) (h2 : s.size ≤ 1024) (hm : mkB s.data.toList = true) :
    Calls Tryd.prog 49 #[.string s] w fun e w' => e = .returned (parseV s.data.toList) ∧ Below w.heap.size w w' := by
  obtain ⟨l, hl⟩ : ∃ l, s.data.toList = l := ⟨_, rfl⟩
  have hsz := sz_of hl
  rw [hl] at hm ⊢
  obtain ⟨hf, hf1⟩ := F_bd l
  have hof := opB_late (l := l) (szB_yes (by omega) (by omega)) hm
  have HSZ := Lib.hid (szB_yes (n := (s.size : Int)) (by omega) (by omega))
  have hs4 : (4 : Int) ≤ (s.size : Int) := by omega
  have hs1 : s.size ≤ 1024 := by omega
  have HPX := Lib.hid (show Lib.hasPrefix s.data.toList [84, 82, 78, 76] = true by rw [hl, mkB_prefix, hm])
  have hu : (s.extract 4 s.size).data.toList = l.drop 4 := by rw [Lib.extract_to_end, hl]
  have HRD := Lib.hid (rd_env hu (by omega))
  have hus : (s.extract 4 s.size).size ≤ 1000000 := by simp; omega
  have HL := Lib.hid hl
  have HU := Lib.hid hu
  have HF := Lib.hid hf
  have HOF := Lib.hid hof
  have H28 := Lib.hid hsz
  clear hm hu hl hf hof hsz
  go_enter Tryd.func49, Tryd.ntmps49
  go_wp2_with (first | (go_at_call 33; refine (rightSize_any _ _).mono ?_; rintro e w' ⟨rfl, rfl⟩; rw [HSZ.out]) | (go_at_call 52; refine (Tryd.strings_HasPrefix _ _ _).mono ?_; rintro e w' ⟨rfl, rfl⟩; rw [HPX.out]))
  go_region_held3 (fun W => True) (trivial)
    (first
      | (go_at_call 58; refine (envW_any _).mono ?_; rintro e wm ⟨bm, rfl, hrow, hbel⟩)
      | (go_at_call 47
         refine (read_any _ 6 6 envW _ _ ?_ (by decide) hus).mono ?_
         · repeat (first | assumption | apply Row.drw | apply Row.new | refine Row.later ?_ (by assumption))
         rintro e wo ⟨bo, n, cap, rfl, hown, hbel2⟩
         rw [HRD.out.1, HRD.out.2.2]))
  rename_i hend
  clear hend
  have hr := Row.own hown
  rw [HRD.out.2.1] at hr
  have hmm : w.heap.size < wm.heap.size := by have := hbel.size; simp at this; omega
  obtain rfl : 6 = n := hr.len_eq
  obtain ⟨rb, ro, rfl, hc⟩ := hr.at_ (by decide)
  have hne2 : rb ≠ w.heap.size := by
    obtain ⟨g, cp, hv, _, hg⟩ := own_some hown (by decide)
    simp only [Value.slice.injEq, Option.some.injEq, Addr.mk.injEq] at hv
    omega
  have hbo : Below w.heap.size w wo := by
    repeat (first | exact Below.refl _ _ | apply below_nw | apply below_dr | refine below_on ?_ (by assumption))
  have HB := Lib.hid hbo
  obtain ⟨x0, hx0⟩ : ∃ x, x = F l 0 := ⟨_, rfl⟩
  obtain ⟨x1, hx1⟩ : ∃ x, x = F l 1 := ⟨_, rfl⟩
  obtain ⟨x2, hx2⟩ : ∃ x, x = F l 2 := ⟨_, rfl⟩
  obtain ⟨x3, hx3⟩ : ∃ x, x = F l 3 := ⟨_, rfl⟩
  obtain ⟨x4, hx4⟩ : ∃ x, x = F l 4 := ⟨_, rfl⟩
  obtain ⟨x5, hx5⟩ : ∃ x, x = F l 5 := ⟨_, rfl⟩
  have hy : yesParse l = .tuple #[.agg #[.int .u8 x0, .int .i64 x3, .int .u64 x4], .int .i64 x2, .int .u32 x5, .bool true] := by rw [yesParse, hx0, hx2, hx3, hx4, hx5]
  have HY := Lib.hid hy
  have hf := HF.out
  have hof := HOF.out
  have c0 : wo.cell? ⟨rb, ro, none⟩ = some (.int .u64 x0) := by rw [hx0]; exact hc 0 (by decide)
  have c1 : wo.cell? ⟨rb, ro + 1, none⟩ = some (.int .u64 x1) := by rw [hx1]; exact hc 1 (by decide)
  have c2 : wo.cell? ⟨rb, ro + 2, none⟩ = some (.int .u64 x2) := by rw [hx2]; exact hc 2 (by decide)
  have c3 : wo.cell? ⟨rb, ro + 3, none⟩ = some (.int .u64 x3) := by rw [hx3]; exact hc 3 (by decide)
  have c4 : wo.cell? ⟨rb, ro + 4, none⟩ = some (.int .u64 x4) := by rw [hx4]; exact hc 4 (by decide)
  have c5 : wo.cell? ⟨rb, ro + 5, none⟩ = some (.int .u64 x5) := by rw [hx5]; exact hc 5 (by decide)
  rw [← hx0, ← hx2, ← hx3, ← hx4, ← hx5] at hf
  rw [← hx0, ← hx1, ← hx2, ← hx3] at hof
  rw [← hx1] at hf1
  have k0 := hf.k0; have k1 : x0 ≤ 255 := by have := hf.k1; omega
  have a0 := hf.a0; have a1 : x3 ≤ 4294967295 := by have := hf.a1; omega
  have q0 := hf.c0; have q1 : x5 ≤ 4294967295 := by have := hf.c1; omega
  have n1 : x2 ≤ 65535 := by have := hf.n1; omega
  obtain ⟨n2, hn2⟩ := Int.eq_ofNat_of_zero_le hf.n0
  have hbs : (strOf (l.drop 24)).size = l.length - 24 := by show (l.drop 24).length = _; simp
  have hbl : (strOf (l.drop 24)).data.toList = l.drop 24 := rfl
  obtain ⟨bd, hbd⟩ : ∃ b, b = strOf (l.drop 24) := ⟨_, rfl⟩
  rw [← hbd] at hbs hbl ⊢
  have HBL := Lib.hid hbl
  subst hn2
  have hbs' : (l.length : Int) - 24 = (bd.size : Int) := by have := H28.out; omega
  have hbd1 : bd.size ≤ 1000 := by have := H28.out; omega
  rw [hbs'] at hof
  have HOF2 := Lib.hid hof
  have w0 : IntKind.u8.wrap x0 = x0 := by rw [IntKind.wrap_u8]; omega
  have w3 : IntKind.i64.wrap x3 = x3 := IntWalk.i64_in _ (by omega)
  have hlt : rb < wo.heap.size := World.block_lt_of_cell? _ _ c0
  have hK := below_on hbel hbel2
  have hlw : w.heap.size < wo.heap.size := by have := hK.size; simp at this; omega
  have hne1 : wo.heap.size ≠ w.heap.size := by omega
  have cr0 : wo.cell? ⟨w.heap.size, 0, none⟩ = some (.int .u8 0) := by rw [hK.cell (by simp)]; simp
  have cr1 : wo.cell? ⟨w.heap.size, 1, none⟩ = some (.int .i64 0) := by rw [hK.cell (by simp)]; simp
  have cr2 : wo.cell? ⟨w.heap.size, 2, none⟩ = some (.int .u64 0) := by rw [hK.cell (by simp)]; simp
  have cz0 : wo.frozen? ⟨w.heap.size, 0, none⟩ = false := by rw [hK.frozen (by simp)]; simp
  have cz1 : wo.frozen? ⟨w.heap.size, 1, none⟩ = false := by rw [hK.frozen (by simp)]; simp
  have cz2 : wo.frozen? ⟨w.heap.size, 2, none⟩ = false := by rw [hK.frozen (by simp)]; simp
  clear hbo hc hr hown hrow hx0 hx1 hx2 hx3 hx4 hx5 hy hf hof hbl hbs hbs' hbd hbel hbel2 HF HRD HU HPX HSZ hus hK HOF
  go_wp2_with fail
  go_region_held3 (fun W => W.cell? ⟨rb, ro, none⟩ = some (.int .u64 x0) ∧ W.cell? ⟨rb, ro + 3, none⟩ = some (.int .u64 x3) ∧ W.cell? ⟨rb, ro + 4, none⟩ = some (.int .u64 x4))
    (first | exact keep3 (by assumption) (below_new _ _) | go_keep) (fail)
  rename_i hend
  clear hend w0 w3
  by_cases hz1 : x1 = 0
  · subst hz1
    go_wp2_with fail
    refine (headRight_any x0 x3 x4 _).mono ?_
    rintro e w5 ⟨rfl, hb5⟩
    have old : ∀ p : Addr, p.block < wo.heap.size → w5.cell? p = wo.cell? p := fun p hp => by
      rw [hb5.cell (by simp; omega)]; exact World.cell?_alloc_lt _ _ _ (by simpa using hp)
    have oldz : ∀ p : Addr, p.block < wo.heap.size → w5.frozen? p = wo.frozen? p := fun p hp => by
      rw [hb5.frozen (by simp; omega)]; exact (below_new wo.drew _).frozen (by simpa using hp)
    have e5 : w5.cell? ⟨rb, ro + 5, none⟩ = some (.int .u64 x5) := by rw [old _ hlt]; exact c5
    have d0 : w5.cell? ⟨w.heap.size, 0, none⟩ = some (.int .u8 0) := by rw [old _ hlw]; exact cr0
    have d1 : w5.cell? ⟨w.heap.size, 1, none⟩ = some (.int .i64 0) := by rw [old _ hlw]; exact cr1
    have d2 : w5.cell? ⟨w.heap.size, 2, none⟩ = some (.int .u64 0) := by rw [old _ hlw]; exact cr2
    have z0 : w5.frozen? ⟨w.heap.size, 0, none⟩ = false := by rw [oldz _ hlw]; exact cz0
    have z1 : w5.frozen? ⟨w.heap.size, 1, none⟩ = false := by rw [oldz _ hlw]; exact cz1
    have z2 : w5.frozen? ⟨w.heap.size, 2, none⟩ = false := by rw [oldz _ hlw]; exact cz2
    have g0 : w5.cell? ⟨wo.heap.size, 0, none⟩ = some (.int .u8 x0) := by rw [hb5.cell (by simp)]; simp
    have g1 : w5.cell? ⟨wo.heap.size, 1, none⟩ = some (.int .i64 x3) := by rw [hb5.cell (by simp)]; simp
    have g2 : w5.cell? ⟨wo.heap.size, 2, none⟩ = some (.int .u64 x4) := by rw [hb5.cell (by simp)]; simp
    have HB5 := Lib.hid (below_on (below_nw (below_dr HB.out) _) hb5)
    clear old oldz hb5 c0 c1 c2 c3 c4 c5 cr0 cr1 cr2 cz0 cz1 cz2
    cases h5 : hdB x0 x3 with
    | false =>
      have hno := HOF2.out
      rw [h5] at hno
      have HNO := Lib.hid (parseV_no (l := l) (by rw [hno]; simp))
      clear hno h5
      go_wp2_with fail
      refine bodyPost_ret (v := noParse) (by simp [results, Tryd.results49, go_sem, d0, d1, d2, noParse]) rfl ⟨by rw [HNO.out], ?_⟩
      exact below_st (below_st (below_st HB5.out (Nat.le_refl _) _) (Nat.le_refl _) _) (Nat.le_refl _) _
    | true =>
      have hof := HOF2.out
      rw [h5] at hof
      clear h5
      by_cases hle : n2 ≤ bd.size
      · have hzz : zrB (l.drop (24 + n2)) = zrB (bd.extract n2 bd.size).data.toList := by rw [Lib.extract_to_end, HBL.out, List.drop_drop]
        have hle2 : decide ((n2 : Int) ≤ (bd.size : Int)) = true := by simpa using hle
        rw [hle2, Int.toNat_natCast, hzz] at hof
        cases h7 : zrB (bd.extract n2 bd.size).data.toList with
        | true =>
          have HZ := Lib.hid h7
          rw [h7] at hof
          have HV := Lib.hid (parseV_yes (l := l) (by rw [hof]; rfl))
          clear hof hzz h7 hle2
          have w5' : IntKind.u32.wrap x5 = x5 := by rw [IntKind.wrap_u32]; omega
          go_wp2_with (go_at_call 65; refine (noughts_any _ _).mono ?_; rintro e w6 ⟨rfl, rfl⟩; rw [HZ.out])
          have HK := keepS4 (w := w5) (b := w.heap.size) (.int .u8 x0) (.int .i64 x3) (.int .u64 x4) ⟨g0, g1, g2, e5⟩ hne1 hne1 hne1 hne2
          go_region_held3 (fun W => W.cell? ⟨wo.heap.size, 0, none⟩ = some (.int .u8 x0) ∧ W.cell? ⟨wo.heap.size, 1, none⟩ = some (.int .i64 x3) ∧ W.cell? ⟨wo.heap.size, 2, none⟩ = some (.int .u64 x4) ∧ W.cell? ⟨rb, ro + 5, none⟩ = some (.int .u64 x5))
            (first | go_keep | exact HK) (fail)
          rename_i hend
          clear hend HK e5 g0 g1 g2
          go_wp2_with fail
          refine bodyPost_ret (v := .tuple #[.agg #[.int .u8 x0, .int .i64 x3, .int .u64 x4], .int .i64 n2, .int .u32 x5, .bool true]) (by simp [results, Tryd.results49, go_sem, d0, d1, d2]) rfl ⟨by rw [HV.out, HY.out], ?_⟩
          exact below_dr (below_st (below_st (below_st HB5.out (Nat.le_refl _) _) (Nat.le_refl _) _) (Nat.le_refl _) _)
        | false =>
          have HZ := Lib.hid h7
          rw [h7] at hof
          have HNO := Lib.hid (parseV_no (l := l) (by rw [hof]; rfl))
          clear hof hzz h7 hle2
          go_wp2_with (go_at_call 65; refine (noughts_any _ _).mono ?_; rintro e w6 ⟨rfl, rfl⟩; rw [HZ.out])
          refine bodyPost_ret (v := noParse) (by simp [results, Tryd.results49, go_sem, d0, d1, d2, noParse]) rfl ⟨by rw [HNO.out], ?_⟩
          exact below_st (below_st (below_st HB5.out (Nat.le_refl _) _) (Nat.le_refl _) _) (Nat.le_refl _) _
      · have hle2 : decide ((n2 : Int) ≤ (bd.size : Int)) = false := by simp; omega
        rw [hle2] at hof
        have HNO := Lib.hid (parseV_no (l := l) (by rw [hof]; rfl))
        have hgt : bd.size < n2 := by omega
        clear hof hle2 hle
        go_wp2_with fail
        refine bodyPost_ret (v := noParse) (by simp [results, Tryd.results49, go_sem, d0, d1, d2, noParse]) rfl ⟨by rw [HNO.out], ?_⟩
        exact below_st (below_st (below_st HB5.out (Nat.le_refl _) _) (Nat.le_refl _) _) (Nat.le_refl _) _
  · have hno := HOF2.out
    have HNO := Lib.hid (parseV_no (l := l) (by rw [hno]; simp [hz1]))
    have hz2 : ((x1 : Int) != 0) = true := by simpa using hz1
    have hz3 : ((x1 : Int) == 0) = false := by simpa using hz1
    clear hno hz1
    go_wp2_with fail
    refine bodyPost_ret (v := noParse) (by simp [results, Tryd.results49, go_sem, cr0, cr1, cr2, hlw, noParse]) rfl ⟨by rw [HNO.out], ?_⟩
    exact below_dr (below_nw (below_st (below_st (below_st HB.out (Nat.le_refl _) _) (Nat.le_refl _) _) (Nat.le_refl _) _) _)
theorem opB_size {l : List UInt8} (h : szB l.length = false) : opB l = false := by rw [opB, h]; rfl
theorem opB_mark {l : List UInt8} (h : mkB l = false) : opB l = false := by rw [opB, h]; simp
theorem parse_any (s : ByteArray) (w : World) (hs : s.size ≤ 1000000) :
    Calls Tryd.prog 49 #[.string s] w fun e w' => e = .returned (parseV s.data.toList) ∧ Below w.heap.size w w' := by
  have hsz := sz_of (s := s) rfl
  cases h1 : szB (s.size : Int) with
  | false =>
    have HNO := Lib.hid (parseV_no (opB_size (l := s.data.toList) (by rw [← hsz]; exact h1)))
    have H1 := Lib.hid h1
    clear h1 hsz
    go_enter Tryd.func49, Tryd.ntmps49
    go_wp2_with (go_at_call 33; refine (rightSize_any _ _).mono ?_; rintro e w' ⟨rfl, rfl⟩; rw [H1.out])
    refine bodyPost_ret (v := noParse) (by simp [results, Tryd.results49, go_sem, noParse]) rfl ⟨by rw [HNO.out], ?_⟩
    exact below_new _ _
  | true =>
    cases h2 : mkB s.data.toList with
    | false =>
      have HNO := Lib.hid (parseV_no (opB_mark h2))
      have H1 := Lib.hid h1
      have HPX := Lib.hid (show Lib.hasPrefix s.data.toList [84, 82, 78, 76] = false by rw [mkB_prefix, h2])
      clear h1 hsz h2
      go_enter Tryd.func49, Tryd.ntmps49
      go_wp2_with (first | (go_at_call 33; refine (rightSize_any _ _).mono ?_; rintro e w' ⟨rfl, rfl⟩; rw [H1.out]) | (go_at_call 52; refine (Tryd.strings_HasPrefix _ _ _).mono ?_; rintro e w' ⟨rfl, rfl⟩; rw [HPX.out]))
      refine bodyPost_ret (v := noParse) (by simp [results, Tryd.results49, go_sem, noParse]) rfl ⟨by rw [HNO.out], ?_⟩
      exact below_new _ _
    | true =>
      have h : 128 ≤ s.size ∧ s.size ≤ 1024 := by simp only [szB, Bool.and_eq_true, decide_eq_true_eq] at h1; omega
      exact parse_late s w h.1 h.2 h2
end Go.Proofs.YtimdemdopnmijaaDoor.Env
