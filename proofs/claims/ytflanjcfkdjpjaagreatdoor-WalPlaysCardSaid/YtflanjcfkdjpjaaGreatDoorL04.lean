/- Layers' contracts, bundled: EnvC, EnvD, EnvE, EnvF, EnvG, Repeat, DevN. -/
import Derived.Test.YtflanjcfkdjpjaaGreatDoorL02
import Derived.Test.YtflanjcfkdjpjaaGreatDoorL03
import Derived.IntWalk
import Derived.Lib.Repeat
import Derived.Deep.DeepCutAuto
import Derived.Test.YtflanjcfkdjpjaaGreatDoorL01
import Derived.Test.YtflanjcfkdjpjaaGreatDoorRows
import Derived.Laws.CopyOwn
import Derived.WalkLawsBesides
import Derived.WalkSpells
import Derived.Outline
/- Contracts of layer 4 (env): noughts, parse. -/
namespace Go.Proofs.YtflanjcfkdjpjaaGreatDoor.Env
open Go.RowKit Go.Proofs.YtflanjcfkdjpjaaGreatDoor Go.Proofs.YtflanjcfkdjpjaaGreatDoor.Lend
set_option linter.unusedVariables false

theorem trim_nil (l : List UInt8) : (Lib.trimLeftB l 0).isEmpty = zrB l := by
  induction l with
  | nil => rfl
  | cons b l ih =>
    simp only [Lib.trimLeftB, zrB, List.dropWhile_cons, List.all_cons] at ih ⊢
    by_cases h : b = 0
    · subst h; simp only [beq_self_eq_true, if_true, Bool.true_and]; exact ih
    · have : (b == 0) = false := by simpa using h
      rw [this]; rfl
theorem noughts_any (s : ByteArray) (w : World) : Calls Tryz.prog 148 #[.string s] w fun e w' => e = .returned (.bool (zrB s.data.toList)) ∧ w = w' := by
  have HZ := Lib.hid (trim_nil s.data.toList)
  go_enter Tryz.func148, Tryz.ntmps148
  go_wp2_with (go_at_call 153; refine (Tryz.strings_TrimLeft_one s 0 (by decide) _).mono ?_; rintro e w' ⟨rfl, rfl⟩)
  go_ret
  exact ⟨ret_bool HZ.out, rfl⟩

theorem mkB_prefix (l : List UInt8) : Lib.hasPrefix l [84, 82, 78, 76] = mkB l := by
  unfold Lib.hasPrefix mkB markL
  rw [Bool.eq_iff_iff, List.isPrefixOf_iff_prefix, List.prefix_iff_eq_take, beq_iff_eq]
  exact eq_comm
/-- what 'parse' answers of no image -/
def noParse : Value := .tuple #[.agg #[.int .u8 0, .int .i64 0, .int .u64 0], .int .i64 0, .int .u32 0, .bool false]
def yesParse (l : List UInt8) : Value := .tuple #[.agg #[.int .u8 (F l 0), .int .i64 (F l 3), .int .u64 (F l 4)], .int .i64 (F l 2), .int .u32 (F l 5), .bool true]
theorem rd_env {u : ByteArray} {l : List UInt8} (hu : u.data.toList = l.drop 4) (hl : 128 ≤ l.length) : rdB envW u.data.toList = true ∧ rdN envW u.data.toList = [F l 0, F l 1, F l 2, F l 3, F l 4, F l 5] ∧ rdS envW u.data.toList = l.drop 24 := by
  have h : rdB envW u.data.toList = true := by
    rw [rdB, envW_ok, hu, List.length_drop]
    have : sumW envW = 20 := rfl
    simp [this]; omega
  refine ⟨h, ?_, ?_⟩
  · rw [rdN, if_pos h, hu, ← nums_eq]; rfl
  · rw [rdS, if_pos h, hu, List.drop_drop]; rfl
theorem st3 (w : World) (b : Nat) (p : Addr) (u v x : Value) (h : p.block ≠ b) : (((w.setCell ⟨b, 0, none⟩ u).setCell ⟨b, 1, none⟩ v).setCell ⟨b, 2, none⟩ x).drew.cell? p = w.cell? p := by
  show (((w.setCell ⟨b, 0, none⟩ u).setCell ⟨b, 1, none⟩ v).setCell ⟨b, 2, none⟩ x).cell? p = w.cell? p
  rw [World.cell?_setCell_other _ _ _ _ (fun e => h (by rw [← e])), World.cell?_setCell_other _ _ _ _ (fun e => h (by rw [← e])), World.cell?_setCell_other _ _ _ _ (fun e => h (by rw [← e]))]
theorem keepS4 {w : World} {b : Nat} {p q r t : Addr} {x y z v : Value} (u0 u1 u2 : Value) (h : w.cell? p = some x ∧ w.cell? q = some y ∧ w.cell? r = some z ∧ w.cell? t = some v) (hp : p.block ≠ b) (hq : q.block ≠ b) (hr : r.block ≠ b) (ht : t.block ≠ b) :
    (((w.setCell ⟨b, 0, none⟩ u0).setCell ⟨b, 1, none⟩ u1).setCell ⟨b, 2, none⟩ u2).drew.cell? p = some x ∧ (((w.setCell ⟨b, 0, none⟩ u0).setCell ⟨b, 1, none⟩ u1).setCell ⟨b, 2, none⟩ u2).drew.cell? q = some y ∧ (((w.setCell ⟨b, 0, none⟩ u0).setCell ⟨b, 1, none⟩ u1).setCell ⟨b, 2, none⟩ u2).drew.cell? r = some z ∧ (((w.setCell ⟨b, 0, none⟩ u0).setCell ⟨b, 1, none⟩ u1).setCell ⟨b, 2, none⟩ u2).drew.cell? t = some v := by
  rw [st3 _ _ _ _ _ _ hp, st3 _ _ _ _ _ _ hq, st3 _ _ _ _ _ _ hr, st3 _ _ _ _ _ _ ht]; exact h
theorem sz_of {l : List UInt8} {s : ByteArray} (hl : s.data.toList = l) : s.size = l.length := by rw [← hl]; simp
/-- what 'parse' answers -/
def parseV (l : List UInt8) : Value := if opB l = true then yesParse l else noParse
theorem parseV_yes {l : List UInt8} (h : opB l = true) : parseV l = yesParse l := by rw [parseV, if_pos h]
theorem parseV_no {l : List UInt8} (h : opB l = false) : parseV l = noParse := by rw [parseV, if_neg (by rw [h]; decide)]
theorem opB_late {l : List UInt8} (h1 : szB l.length = true) (h2 : mkB l = true) : opB l = (decide (F l 1 = 0) && (hdB (F l 0) (F l 3) && (decide (F l 2 ≤ (l.length : Int) - 24) && zrB (l.drop (24 + (F l 2).toNat))))) := by
  rw [opB, h1, h2]; rfl
set_option maxHeartbeats 4000000 in
set_option maxRecDepth 100000 in
theorem parse_late (s : ByteArray) (w : World) (h1 : 128 ≤ s.size) (h2 : s.size ≤ 1024) (hm : mkB s.data.toList = true) :
    Calls Tryz.prog 138 #[.string s] w fun e w' => e = .returned (parseV s.data.toList) ∧ Below w.heap.size w w' := by
  obtain ⟨l, hl⟩ : ∃ l, s.data.toList = l := ⟨_, rfl⟩
  have hsz := sz_of hl
  rw [hl] at hm ⊢
  obtain ⟨hf, hf1⟩ := F_bd l
  have hof := opB_late (l := l) (szB_yes (by omega) (by omega)) hm
  have HSZ := Lib.hid (szB_yes (n := (s.size : Int)) (by omega) (by omega))
  have hs4 : (4 : Int) ≤ (s.size : Int) := by omega
  have hs1 : s.size ≤ 1024 := by omega
  have HPX := Lib.hid (show Lib.hasPrefix s.data.toList [84, 82, 78, 76] = true by rw [hl, mkB_prefix, hm])
  have hu : (s.extract 4 s.size).data.toList = l.drop 4 := by rw [Lib.extract_to_end, hl]
  have HRD := Lib.hid (rd_env hu (by omega))
  have hus : (s.extract 4 s.size).size ≤ 1000000 := by simp; omega
  have HL := Lib.hid hl
  have HU := Lib.hid hu
  have HF := Lib.hid hf
  have HOF := Lib.hid hof
  have H28 := Lib.hid hsz
  clear hm hu hl hf hof hsz
  go_enter Tryz.func138, Tryz.ntmps138
  go_wp2_with (first | (go_at_call 73; refine (rightSize_any _ _).mono ?_; rintro e w' ⟨rfl, rfl⟩; rw [HSZ.out]) | (go_at_call 83; refine (Tryz.strings_HasPrefix _ _ _).mono ?_; rintro e w' ⟨rfl, rfl⟩; rw [HPX.out]))
  go_region_held3 (fun W => True) (trivial)
    (first
      | (go_at_call 109; refine (envW_any _).mono ?_; rintro e wm ⟨bm, rfl, hrow, hbel⟩)
      | (go_at_call 122
         refine (read_any _ 6 6 envW _ _ ?_ (by decide) hus).mono ?_
         · repeat (first | assumption | apply Row.drw | apply Row.new | refine Row.later ?_ (by assumption))
         rintro e wo ⟨bo, n, cap, rfl, hown, hbel2⟩
         rw [HRD.out.1, HRD.out.2.2]))
  rename_i hend
  clear hend
  have hr := Row.own hown
  rw [HRD.out.2.1] at hr
  have hmm : w.heap.size < wm.heap.size := by have := hbel.size; simp at this; omega
  obtain rfl : 6 = n := hr.len_eq
  obtain ⟨rb, ro, rfl, hc⟩ := hr.at_ (by decide)
  have hne2 : rb ≠ w.heap.size := by
    obtain ⟨g, cp, hv, _, hg⟩ := own_some hown (by decide)
    simp only [Value.slice.injEq, Option.some.injEq, Addr.mk.injEq] at hv
    omega
  have hbo : Below w.heap.size w wo := by
    repeat (first | exact Below.refl _ _ | apply below_nw | apply below_dr | refine below_on ?_ (by assumption))
  have HB := Lib.hid hbo
  obtain ⟨x0, hx0⟩ : ∃ x, x = F l 0 := ⟨_, rfl⟩
  obtain ⟨x1, hx1⟩ : ∃ x, x = F l 1 := ⟨_, rfl⟩
  obtain ⟨x2, hx2⟩ : ∃ x, x = F l 2 := ⟨_, rfl⟩
  obtain ⟨x3, hx3⟩ : ∃ x, x = F l 3 := ⟨_, rfl⟩
  obtain ⟨x4, hx4⟩ : ∃ x, x = F l 4 := ⟨_, rfl⟩
  obtain ⟨x5, hx5⟩ : ∃ x, x = F l 5 := ⟨_, rfl⟩
  have hy : yesParse l = .tuple #[.agg #[.int .u8 x0, .int .i64 x3, .int .u64 x4], .int .i64 x2, .int .u32 x5, .bool true] := by rw [yesParse, hx0, hx2, hx3, hx4, hx5]
  have HY := Lib.hid hy
  have hf := HF.out
  have hof := HOF.out
  have c0 : wo.cell? ⟨rb, ro, none⟩ = some (.int .u64 x0) := by rw [hx0]; exact hc 0 (by decide)
  have c1 : wo.cell? ⟨rb, ro + 1, none⟩ = some (.int .u64 x1) := by rw [hx1]; exact hc 1 (by decide)
  have c2 : wo.cell? ⟨rb, ro + 2, none⟩ = some (.int .u64 x2) := by rw [hx2]; exact hc 2 (by decide)
  have c3 : wo.cell? ⟨rb, ro + 3, none⟩ = some (.int .u64 x3) := by rw [hx3]; exact hc 3 (by decide)
  have c4 : wo.cell? ⟨rb, ro + 4, none⟩ = some (.int .u64 x4) := by rw [hx4]; exact hc 4 (by decide)
  have c5 : wo.cell? ⟨rb, ro + 5, none⟩ = some (.int .u64 x5) := by rw [hx5]; exact hc 5 (by decide)
  rw [← hx0, ← hx2, ← hx3, ← hx4, ← hx5] at hf
  rw [← hx0, ← hx1, ← hx2, ← hx3] at hof
  rw [← hx1] at hf1
  have k0 := hf.k0; have k1 : x0 ≤ 255 := by have := hf.k1; omega
  have a0 := hf.a0; have a1 : x3 ≤ 4294967295 := by have := hf.a1; omega
  have q0 := hf.c0; have q1 : x5 ≤ 4294967295 := by have := hf.c1; omega
  have n1 : x2 ≤ 65535 := by have := hf.n1; omega
  obtain ⟨n2, hn2⟩ := Int.eq_ofNat_of_zero_le hf.n0
  have hbs : (strOf (l.drop 24)).size = l.length - 24 := by show (l.drop 24).length = _; simp
  have hbl : (strOf (l.drop 24)).data.toList = l.drop 24 := rfl
  obtain ⟨bd, hbd⟩ : ∃ b, b = strOf (l.drop 24) := ⟨_, rfl⟩
  rw [← hbd] at hbs hbl ⊢
  have HBL := Lib.hid hbl
  subst hn2
  have hbs' : (l.length : Int) - 24 = (bd.size : Int) := by have := H28.out; omega
  have hbd1 : bd.size ≤ 1000 := by have := H28.out; omega
  rw [hbs'] at hof
  have HOF2 := Lib.hid hof
  have w0 : IntKind.u8.wrap x0 = x0 := by rw [IntKind.wrap_u8]; omega
  have w3 : IntKind.i64.wrap x3 = x3 := IntWalk.i64_in _ (by omega)
  have hlt : rb < wo.heap.size := World.block_lt_of_cell? _ _ c0
  have hK := below_on hbel hbel2
  have hlw : w.heap.size < wo.heap.size := by have := hK.size; simp at this; omega
  have hne1 : wo.heap.size ≠ w.heap.size := by omega
  have cr0 : wo.cell? ⟨w.heap.size, 0, none⟩ = some (.int .u8 0) := by rw [hK.cell (by simp)]; simp
  have cr1 : wo.cell? ⟨w.heap.size, 1, none⟩ = some (.int .i64 0) := by rw [hK.cell (by simp)]; simp
  have cr2 : wo.cell? ⟨w.heap.size, 2, none⟩ = some (.int .u64 0) := by rw [hK.cell (by simp)]; simp
  have cz0 : wo.frozen? ⟨w.heap.size, 0, none⟩ = false := by rw [hK.frozen (by simp)]; simp
  have cz1 : wo.frozen? ⟨w.heap.size, 1, none⟩ = false := by rw [hK.frozen (by simp)]; simp
  have cz2 : wo.frozen? ⟨w.heap.size, 2, none⟩ = false := by rw [hK.frozen (by simp)]; simp
  clear hbo hc hr hown hrow hx0 hx1 hx2 hx3 hx4 hx5 hy hf hof hbl hbs hbs' hbd hbel hbel2 HF HRD HU HPX HSZ hus hK HOF
  go_wp2_with fail
  go_region_held3 (fun W => W.cell? ⟨rb, ro, none⟩ = some (.int .u64 x0) ∧ W.cell? ⟨rb, ro + 3, none⟩ = some (.int .u64 x3) ∧ W.cell? ⟨rb, ro + 4, none⟩ = some (.int .u64 x4))
    (first | exact keep3 (by assumption) (below_new _ _) | go_keep) (fail)
  rename_i hend
  clear hend w0 w3
  by_cases hz1 : x1 = 0
  · subst hz1
    go_wp2_with fail
    refine (headRight_any x0 x3 x4 _).mono ?_
    rintro e w5 ⟨rfl, hb5⟩
    have old : ∀ p : Addr, p.block < wo.heap.size → w5.cell? p = wo.cell? p := fun p hp => by
      rw [hb5.cell (by simp; omega)]; exact World.cell?_alloc_lt _ _ _ (by simpa using hp)
    have oldz : ∀ p : Addr, p.block < wo.heap.size → w5.frozen? p = wo.frozen? p := fun p hp => by
      rw [hb5.frozen (by simp; omega)]; exact (below_new wo.drew _).frozen (by simpa using hp)
    have e5 : w5.cell? ⟨rb, ro + 5, none⟩ = some (.int .u64 x5) := by rw [old _ hlt]; exact c5
    have d0 : w5.cell? ⟨w.heap.size, 0, none⟩ = some (.int .u8 0) := by rw [old _ hlw]; exact cr0
    have d1 : w5.cell? ⟨w.heap.size, 1, none⟩ = some (.int .i64 0) := by rw [old _ hlw]; exact cr1
    have d2 : w5.cell? ⟨w.heap.size, 2, none⟩ = some (.int .u64 0) := by rw [old _ hlw]; exact cr2
    have z0 : w5.frozen? ⟨w.heap.size, 0, none⟩ = false := by rw [oldz _ hlw]; exact cz0
    have z1 : w5.frozen? ⟨w.heap.size, 1, none⟩ = false := by rw [oldz _ hlw]; exact cz1
    have z2 : w5.frozen? ⟨w.heap.size, 2, none⟩ = false := by rw [oldz _ hlw]; exact cz2
    have g0 : w5.cell? ⟨wo.heap.size, 0, none⟩ = some (.int .u8 x0) := by rw [hb5.cell (by simp)]; simp
    have g1 : w5.cell? ⟨wo.heap.size, 1, none⟩ = some (.int .i64 x3) := by rw [hb5.cell (by simp)]; simp
    have g2 : w5.cell? ⟨wo.heap.size, 2, none⟩ = some (.int .u64 x4) := by rw [hb5.cell (by simp)]; simp
    have HB5 := Lib.hid (below_on (below_nw (below_dr HB.out) _) hb5)
    clear old oldz hb5 c0 c1 c2 c3 c4 c5 cr0 cr1 cr2 cz0 cz1 cz2
    cases h5 : hdB x0 x3 with
    | false =>
      have hno := HOF2.out
      rw [h5] at hno
      have HNO := Lib.hid (parseV_no (l := l) (by rw [hno]; simp))
      clear hno h5
      go_wp2_with fail
      refine bodyPost_ret (v := noParse) (by simp [results, Tryz.results138, go_sem, d0, d1, d2, noParse]) rfl ⟨by rw [HNO.out], ?_⟩
      exact below_st (below_st (below_st HB5.out (Nat.le_refl _) _) (Nat.le_refl _) _) (Nat.le_refl _) _
    | true =>
      have hof := HOF2.out
      rw [h5] at hof
      clear h5
      by_cases hle : n2 ≤ bd.size
      · have hzz : zrB (l.drop (24 + n2)) = zrB (bd.extract n2 bd.size).data.toList := by rw [Lib.extract_to_end, HBL.out, List.drop_drop]
        have hle2 : decide ((n2 : Int) ≤ (bd.size : Int)) = true := by simpa using hle
        rw [hle2, Int.toNat_natCast, hzz] at hof
        cases h7 : zrB (bd.extract n2 bd.size).data.toList with
        | true =>
          have HZ := Lib.hid h7
          rw [h7] at hof
          have HV := Lib.hid (parseV_yes (l := l) (by rw [hof]; rfl))
          clear hof hzz h7 hle2
          have w5' : IntKind.u32.wrap x5 = x5 := by rw [IntKind.wrap_u32]; omega
          go_wp2_with (go_at_call 148; refine (noughts_any _ _).mono ?_; rintro e w6 ⟨rfl, rfl⟩; rw [HZ.out])
          have HK := keepS4 (w := w5) (b := w.heap.size) (.int .u8 x0) (.int .i64 x3) (.int .u64 x4) ⟨g0, g1, g2, e5⟩ hne1 hne1 hne1 hne2
          go_region_held3 (fun W => W.cell? ⟨wo.heap.size, 0, none⟩ = some (.int .u8 x0) ∧ W.cell? ⟨wo.heap.size, 1, none⟩ = some (.int .i64 x3) ∧ W.cell? ⟨wo.heap.size, 2, none⟩ = some (.int .u64 x4) ∧ W.cell? ⟨rb, ro + 5, none⟩ = some (.int .u64 x5))
            (first | go_keep | exact HK) (fail)
          rename_i hend
          clear hend HK e5 g0 g1 g2
          go_wp2_with fail
          refine bodyPost_ret (v := .tuple #[.agg #[.int .u8 x0, .int .i64 x3, .int .u64 x4], .int .i64 n2, .int .u32 x5, .bool true]) (by simp [results, Tryz.results138, go_sem, d0, d1, d2]) rfl ⟨by rw [HV.out, HY.out], ?_⟩
          exact below_dr (below_st (below_st (below_st HB5.out (Nat.le_refl _) _) (Nat.le_refl _) _) (Nat.le_refl _) _)
        | false =>
          have HZ := Lib.hid h7
          rw [h7] at hof
          have HNO := Lib.hid (parseV_no (l := l) (by rw [hof]; rfl))
          clear hof hzz h7 hle2
          go_wp2_with (go_at_call 148; refine (noughts_any _ _).mono ?_; rintro e w6 ⟨rfl, rfl⟩; rw [HZ.out])
          refine bodyPost_ret (v := noParse) (by simp [results, Tryz.results138, go_sem, d0, d1, d2, noParse]) rfl ⟨by rw [HNO.out], ?_⟩
          exact below_st (below_st (below_st HB5.out (Nat.le_refl _) _) (Nat.le_refl _) _) (Nat.le_refl _) _
      · have hle2 : decide ((n2 : Int) ≤ (bd.size : Int)) = false := by simp; omega
        rw [hle2] at hof
        have HNO := Lib.hid (parseV_no (l := l) (by rw [hof]; rfl))
        have hgt : bd.size < n2 := by omega
        clear hof hle2 hle
        go_wp2_with fail
        refine bodyPost_ret (v := noParse) (by simp [results, Tryz.results138, go_sem, d0, d1, d2, noParse]) rfl ⟨by rw [HNO.out], ?_⟩
        exact below_st (below_st (below_st HB5.out (Nat.le_refl _) _) (Nat.le_refl _) _) (Nat.le_refl _) _
  · have hno := HOF2.out
    have HNO := Lib.hid (parseV_no (l := l) (by rw [hno]; simp [hz1]))
    have hz2 : ((x1 : Int) != 0) = true := by simpa using hz1
    have hz3 : ((x1 : Int) == 0) = false := by simpa using hz1
    clear hno hz1
    go_wp2_with fail
    refine bodyPost_ret (v := noParse) (by simp [results, Tryz.results138, go_sem, cr0, cr1, cr2, hlw, noParse]) rfl ⟨by rw [HNO.out], ?_⟩
    exact below_dr (below_nw (below_st (below_st (below_st HB.out (Nat.le_refl _) _) (Nat.le_refl _) _) (Nat.le_refl _) _) _)
theorem opB_size {l : List UInt8} (h : szB l.length = false) : opB l = false := by rw [opB, h]; rfl
theorem opB_mark {l : List UInt8} (h : mkB l = false) : opB l = false := by rw [opB, h]; simp
theorem parse_any (s : ByteArray) (w : World) (hs : s.size ≤ 1000000) :
    Calls Tryz.prog 138 #[.string s] w fun e w' => e = .returned (parseV s.data.toList) ∧ Below w.heap.size w w' := by
  have hsz := sz_of (s := s) rfl
  cases h1 : szB (s.size : Int) with
  | false =>
    have HNO := Lib.hid (parseV_no (opB_size (l := s.data.toList) (by rw [← hsz]; exact h1)))
    have H1 := Lib.hid h1
    clear h1 hsz
    go_enter Tryz.func138, Tryz.ntmps138
    go_wp2_with (go_at_call 73; refine (rightSize_any _ _).mono ?_; rintro e w' ⟨rfl, rfl⟩; rw [H1.out])
    refine bodyPost_ret (v := noParse) (by simp [results, Tryz.results138, go_sem, noParse]) rfl ⟨by rw [HNO.out], ?_⟩
    exact below_new _ _
  | true =>
    cases h2 : mkB s.data.toList with
    | false =>
      have HNO := Lib.hid (parseV_no (opB_mark h2))
      have H1 := Lib.hid h1
      have HPX := Lib.hid (show Lib.hasPrefix s.data.toList [84, 82, 78, 76] = false by rw [mkB_prefix, h2])
      clear h1 hsz h2
      go_enter Tryz.func138, Tryz.ntmps138
      go_wp2_with (first | (go_at_call 73; refine (rightSize_any _ _).mono ?_; rintro e w' ⟨rfl, rfl⟩; rw [H1.out]) | (go_at_call 83; refine (Tryz.strings_HasPrefix _ _ _).mono ?_; rintro e w' ⟨rfl, rfl⟩; rw [HPX.out]))
      refine bodyPost_ret (v := noParse) (by simp [results, Tryz.results138, go_sem, noParse]) rfl ⟨by rw [HNO.out], ?_⟩
      exact below_new _ _
    | true =>
      have h : 128 ≤ s.size ∧ s.size ≤ 1024 := by simp only [szB, Bool.and_eq_true, decide_eq_true_eq] at h1; omega
      exact parse_late s w h.1 h.2 h2
end Go.Proofs.YtflanjcfkdjpjaaGreatDoor.Env


/- Contracts of layer 4 (env): unseal, Open, Meets. -/
namespace Go.Proofs.YtflanjcfkdjpjaaGreatDoor.Env
open Go.RowKit Go.Proofs.YtflanjcfkdjpjaaGreatDoor Go.Proofs.YtflanjcfkdjpjaaGreatDoor.Lend
set_option linter.unusedVariables false

theorem set3_S {W : World} {c b : Nat} {x y z u v t : Value} (h : W.cell? ⟨c, 0, none⟩ = some x ∧ W.cell? ⟨c, 1, none⟩ = some y ∧ W.cell? ⟨c, 2, none⟩ = some z) (hn : c ≠ b) :
    (((W.setCell ⟨b, 0, none⟩ u).setCell ⟨b, 1, none⟩ v).setCell ⟨b, 2, none⟩ t).cell? ⟨c, 0, none⟩ = some x ∧ (((W.setCell ⟨b, 0, none⟩ u).setCell ⟨b, 1, none⟩ v).setCell ⟨b, 2, none⟩ t).cell? ⟨c, 1, none⟩ = some y ∧ (((W.setCell ⟨b, 0, none⟩ u).setCell ⟨b, 1, none⟩ v).setCell ⟨b, 2, none⟩ t).cell? ⟨c, 2, none⟩ = some z := by
  have e := fun o => st3 W b ⟨c, o, none⟩ u v t hn
  have e0 := e 0; have e1 := e 1; have e2 := e 2
  exact ⟨Eq.trans e0 h.1, Eq.trans e1 h.2.1, Eq.trans e2 h.2.2⟩
/-- what 'unseal' answers -/
def yesOpen (l : List UInt8) : Value := .tuple #[.agg #[.int .u8 (F l 0), .int .i64 (F l 3), .int .u64 (F l 4)], .string (strOf (opP l)), .agg #[.int .i64 (F l 3), .int .u64 (F l 4), .int .u32 (F l 5)], .int .i64 0]
def noOpen (e : Int) : Value := .tuple #[.agg #[.int .u8 0, .int .i64 0, .int .u64 0], .string ⟨#[]⟩, .agg #[.int .i64 0, .int .u64 0, .int .u32 0], .int .i64 e]
def openV (l : List UInt8) : Value := if opE l = 0 then yesOpen l else noOpen (opE l)
theorem openV_form {l : List UInt8} (h : opB l = false) : openV l = noOpen 4 := by
  have e : opE l = 4 := by rw [opE, if_neg (by rw [h]; decide)]
  rw [openV, e]; rfl
theorem openV_sum {l : List UInt8} (h : opB l = true) (hc : F l 5 ≠ opC l) : openV l = noOpen 5 := by
  have e : opE l = 5 := by rw [opE, if_pos h, if_neg hc]
  rw [openV, e]; rfl
theorem openV_ok {l : List UInt8} (h : opB l = true) (hc : F l 5 = opC l) : openV l = yesOpen l := by
  have e : opE l = 0 := by rw [opE, if_pos h, if_pos hc]
  rw [openV, if_pos e]
set_option maxHeartbeats 4000000 in
set_option maxRecDepth 100000 in
theorem unseal_any (b : Nat) (s : ByteArray) (w : World) (ht : Sum.IsTab w b) (hs : s.size ≤ 1000000) :
    Calls Tryz.prog 121 #[.pointer (some ⟨b, 0, none⟩), .string s] w fun e w' => e = .returned (openV s.data.toList) ∧ Below w.heap.size w w' := by
  obtain ⟨l, hl⟩ : ∃ l, s.data.toList = l := ⟨_, rfl⟩
  have hsz := sz_of hl
  rw [hl]
  have HL := Lib.hid hl
  have HSZ := Lib.hid hsz
  have HT := Lib.hid ht
  clear hl hsz ht
  go_enter Tryz.func121, Tryz.ntmps121
  go_wp2_with fail
  refine (parse_any s _ hs).mono ?_
  rintro e w1 ⟨rfl, hb1⟩
  rw [HL.out]
  have hw1 : w.heap.size + 1 < w1.heap.size := by have := hb1.size; simp at this; omega
  have r0 : w1.cell? ⟨w.heap.size, 0, none⟩ = some (.int .u8 0) := by rw [hb1.cell (by simp; omega)]; simp
  have r1 : w1.cell? ⟨w.heap.size, 1, none⟩ = some (.int .i64 0) := by rw [hb1.cell (by simp; omega)]; simp
  have r2 : w1.cell? ⟨w.heap.size, 2, none⟩ = some (.int .u64 0) := by rw [hb1.cell (by simp; omega)]; simp
  have r3 : w1.cell? ⟨w.heap.size + 1, 0, none⟩ = some (.int .i64 0) := by rw [hb1.cell (by simp)]; simp
  have r4 : w1.cell? ⟨w.heap.size + 1, 1, none⟩ = some (.int .u64 0) := by rw [hb1.cell (by simp)]; simp
  have r5 : w1.cell? ⟨w.heap.size + 1, 2, none⟩ = some (.int .u32 0) := by rw [hb1.cell (by simp)]; simp
  have hlw : w.heap.size < w1.heap.size := by omega
  have f0 : w1.frozen? ⟨w.heap.size, 0, none⟩ = false := by rw [hb1.frozen (by simp; omega)]; simp
  have f1 : w1.frozen? ⟨w.heap.size, 1, none⟩ = false := by rw [hb1.frozen (by simp; omega)]; simp
  have f2 : w1.frozen? ⟨w.heap.size, 2, none⟩ = false := by rw [hb1.frozen (by simp; omega)]; simp
  have f3 : w1.frozen? ⟨w.heap.size + 1, 0, none⟩ = false := by rw [hb1.frozen (by simp)]; simp
  have f4 : w1.frozen? ⟨w.heap.size + 1, 1, none⟩ = false := by rw [hb1.frozen (by simp)]; simp
  have f5 : w1.frozen? ⟨w.heap.size + 1, 2, none⟩ = false := by rw [hb1.frozen (by simp)]; simp
  have HB1 := Lib.hid (below_on (below_nw (below_new w _) _) hb1)
  cases h : opB l with
  | false =>
    have HV := Lib.hid (openV_form h)
    have HP := Lib.hid (parseV_no h)
    rw [HP.out]
    unfold noParse
    clear hb1 h
    go_wp2_with fail
    refine bodyPost_ret (v := noOpen 4) (by simp [results, Tryz.results121, go_sem, r0, r1, r2, r3, r4, r5, hlw, hw1, noOpen]) rfl ⟨by rw [HV.out], ?_⟩
    exact below_nw (below_st (below_st (below_st (below_st (below_st (below_st HB1.out (Nat.le_refl _) _) (Nat.le_refl _) _) (Nat.le_refl _) _) (Nat.le_succ _) _) (Nat.le_succ _) _) (Nat.le_succ _) _) _
  | true =>
    have HP := Lib.hid (parseV_yes h)
    have HH := Lib.hid h
    obtain ⟨p1, p2, p3, p4, p5, p6, p7⟩ := opB_parts h
    rw [HP.out]
    unfold yesParse
    obtain ⟨hf, _⟩ := F_bd l
    obtain ⟨x0, hx0⟩ : ∃ x, x = F l 0 := ⟨_, rfl⟩
    obtain ⟨x2, hx2⟩ : ∃ x, x = F l 2 := ⟨_, rfl⟩
    obtain ⟨x3, hx3⟩ : ∃ x, x = F l 3 := ⟨_, rfl⟩
    obtain ⟨x4, hx4⟩ : ∃ x, x = F l 4 := ⟨_, rfl⟩
    obtain ⟨x5, hx5⟩ : ∃ x, x = F l 5 := ⟨_, rfl⟩
    have hy : yesOpen l = .tuple #[.agg #[.int .u8 x0, .int .i64 x3, .int .u64 x4], .string (strOf (opP l)), .agg #[.int .i64 x3, .int .u64 x4, .int .u32 x5], .int .i64 0] := by rw [yesOpen, hx0, hx3, hx4, hx5]
    have HY := Lib.hid hy
    have hoc : opC l = ckL x0 x2 x3 x4 (l.drop 24) := by rw [opC, hx0, hx2, hx3, hx4]
    have hop : opP l = (l.drop 24).take x2.toNat := by rw [opP, hx2]
    rw [← hx2] at p6
    rw [← hx0, ← hx2, ← hx3, ← hx4, ← hx5] at hf ⊢
    have HF0 := Lib.hid (show Fit x0 x2 x3 x4 0 from ⟨hf.k0, hf.k1, hf.n0, hf.n1, hf.a0, hf.a1, hf.g0, hf.g1, by decide, by decide⟩)
    obtain ⟨n2, hn2⟩ := Int.eq_ofNat_of_zero_le hf.n0
    subst hn2
    have h24 : (24 : Int) ≤ (s.size : Int) := by have := HSZ.out; omega
    obtain ⟨bd, hbd0⟩ : ∃ x, x = s.extract 24 s.size := ⟨_, rfl⟩
    have hbd : bd.data.toList = l.drop 24 := by rw [hbd0, Lib.extract_to_end, HL.out]
    have hbs : bd.size = l.length - 24 := by rw [sz_of hbd]; simp
    have hck : ckL x0 n2 x3 x4 bd.data.toList = opC l := by rw [hbd, hoc]
    have hpl : bd.extract 0 n2 = strOf (opP l) := by
      apply strOf_ext
      rw [Lib.extract_data, hbd, hop]; simp
    have hnb : n2 ≤ bd.size := by omega
    have hbl : bd.size ≤ 100000 := by omega
    have HCK := Lib.hid hck
    have HPL := Lib.hid hpl
    have HX5 := Lib.hid hx5
    have HBD := Lib.hid hbd0
    have hnb2 : (n2 : Int) ≤ (bd.size : Int) := by omega
    have HT2 := Lib.hid (tab_on HT.out (below_nw HB1.out (.cells #[.int .u8 x0, .int .i64 x3, .int .u64 x4] 113)))
    clear hb1 h p1 p2 p3 p4 p5 p6 p7 hx0 hx2 hx3 hx4 hx5 hy hoc hop hbd hbd0 hbs hck hpl hf
    go_wp2_with fail
    rw [← HBD.out]
    refine (checkOf_any b x0 n2 x3 x4 bd _ HT2.out HF0.out hbl).mono ?_
    rintro e w2 ⟨rfl, hb2⟩
    rw [HCK.out]
    have old : ∀ p : Addr, p.block < w1.heap.size → w2.cell? p = w1.cell? p := fun p hp => by
      rw [hb2.cell (by simp; omega)]; exact World.cell?_alloc_lt _ _ _ hp
    have oldz : ∀ p : Addr, p.block < w1.heap.size → w2.frozen? p = w1.frozen? p := fun p hp => by
      rw [hb2.frozen (by simp; omega)]; exact (below_new w1 _).frozen hp
    have q0 : w2.cell? ⟨w.heap.size, 0, none⟩ = some (.int .u8 0) := by rw [old _ hlw]; exact r0
    have q1 : w2.cell? ⟨w.heap.size, 1, none⟩ = some (.int .i64 0) := by rw [old _ hlw]; exact r1
    have q2 : w2.cell? ⟨w.heap.size, 2, none⟩ = some (.int .u64 0) := by rw [old _ hlw]; exact r2
    have q3 : w2.cell? ⟨w.heap.size + 1, 0, none⟩ = some (.int .i64 0) := by rw [old _ hw1]; exact r3
    have q4 : w2.cell? ⟨w.heap.size + 1, 1, none⟩ = some (.int .u64 0) := by rw [old _ hw1]; exact r4
    have q5 : w2.cell? ⟨w.heap.size + 1, 2, none⟩ = some (.int .u32 0) := by rw [old _ hw1]; exact r5
    have y0 : w2.frozen? ⟨w.heap.size, 0, none⟩ = false := by rw [oldz _ hlw]; exact f0
    have y1 : w2.frozen? ⟨w.heap.size, 1, none⟩ = false := by rw [oldz _ hlw]; exact f1
    have y2 : w2.frozen? ⟨w.heap.size, 2, none⟩ = false := by rw [oldz _ hlw]; exact f2
    have y3 : w2.frozen? ⟨w.heap.size + 1, 0, none⟩ = false := by rw [oldz _ hw1]; exact f3
    have y4 : w2.frozen? ⟨w.heap.size + 1, 1, none⟩ = false := by rw [oldz _ hw1]; exact f4
    have y5 : w2.frozen? ⟨w.heap.size + 1, 2, none⟩ = false := by rw [oldz _ hw1]; exact f5
    have g0 : w2.cell? ⟨w1.heap.size, 0, none⟩ = some (.int .u8 x0) := by rw [hb2.cell (by simp)]; simp
    have g1 : w2.cell? ⟨w1.heap.size, 1, none⟩ = some (.int .i64 x3) := by rw [hb2.cell (by simp)]; simp
    have g2 : w2.cell? ⟨w1.heap.size, 2, none⟩ = some (.int .u64 x4) := by rw [hb2.cell (by simp)]; simp
    have HB2 := Lib.hid (below_on (below_nw HB1.out _) hb2)
    have hn1 : w1.heap.size ≠ w.heap.size := by omega
    have hn2' : w1.heap.size ≠ w.heap.size + 1 := by omega
    clear old oldz hb2 r0 r1 r2 r3 r4 r5 f0 f1 f2 f3 f4 f5
    by_cases hc : x5 = (opC l : Int)
    · have HV := Lib.hid (openV_ok HH.out (by rw [← HX5.out]; exact hc))
      have hc2 : ((x5 : Int) != (opC l : Int)) = false := by rw [hc]; simp
      have HC := Lib.hid hc
      clear hc
      go_wp2_with fail
      have HBW := HB2
      have HA1 := set3_S (b := w.heap.size) (u := .int .u8 x0) (v := .int .i64 x3) (t := .int .u64 x4) ⟨g0, g1, g2⟩ hn1
      have HA2 := set3_S (b := w.heap.size + 1) (u := .int .i64 x3) (v := .int .u64 x4) (t := .int .u32 x5) HA1 hn2'
      have HB1 := set3_S (b := w.heap.size + 1) (u := .int .i64 x3) (v := .int .u64 x4) (t := .int .u32 x5) ⟨g0, g1, g2⟩ hn2'
      have HB2 := set3_S (b := w.heap.size) (u := .int .u8 x0) (v := .int .i64 x3) (t := .int .u64 x4) HB1 hn1
      go_region_held3 (fun W => W.cell? ⟨w1.heap.size, 0, none⟩ = some (.int .u8 x0) ∧ W.cell? ⟨w1.heap.size, 1, none⟩ = some (.int .i64 x3) ∧ W.cell? ⟨w1.heap.size, 2, none⟩ = some (.int .u64 x4))
        (first | go_keep | exact HA1 | exact HA2 | exact HB1 | exact HB2) (fail)
      all_goals
        rename_i hend
        clear hend HA1 HA2 HB1 HB2 g0 g1 g2
        go_wp2_with fail
        refine bodyPost_ret (v := .tuple #[.agg #[.int .u8 x0, .int .i64 x3, .int .u64 x4], .string (bd.extract 0 n2), .agg #[.int .i64 x3, .int .u64 x4, .int .u32 x5], .int .i64 0]) (by simp [results, Tryz.results121, go_sem, q0, q1, q2, q3, q4, q5]) rfl ⟨by rw [HV.out, HY.out, HPL.out], ?_⟩
        exact below_dr (by repeat (first | exact HBW.out | refine below_st ?_ (Nat.le_refl _) _ | refine below_st ?_ (Nat.le_succ _) _))
    · have HV := Lib.hid (openV_sum HH.out (by rw [← HX5.out]; exact hc))
      have hc2 : ((x5 : Int) != (opC l : Int)) = true := by simpa using hc
      clear hc
      go_wp2_with fail
      refine bodyPost_ret (v := noOpen 5) (by simp [results, Tryz.results121, go_sem, q0, q1, q2, q3, q4, q5, noOpen]) rfl ⟨by rw [HV.out], ?_⟩
      exact below_st (below_st (below_st (below_st (below_st (below_st HB2.out (Nat.le_refl _) _) (Nat.le_refl _) _) (Nat.le_refl _) _) (Nat.le_succ _) _) (Nat.le_succ _) _) (Nat.le_succ _) _

def oK (l : List UInt8) : Int := if opE l = 0 then F l 0 else 0
def oA (l : List UInt8) : Int := if opE l = 0 then F l 3 else 0
def oG (l : List UInt8) : Int := if opE l = 0 then F l 4 else 0
def oC (l : List UInt8) : Int := if opE l = 0 then F l 5 else 0
def oP (l : List UInt8) : ByteArray := if opE l = 0 then strOf (opP l) else ⟨#[]⟩
theorem openV_o (l : List UInt8) : openV l = .tuple #[.agg #[.int .u8 (oK l), .int .i64 (oA l), .int .u64 (oG l)], .string (oP l), .agg #[.int .i64 (oA l), .int .u64 (oG l), .int .u32 (oC l)], .int .i64 (opE l)] := by
  by_cases h : opE l = 0
  · rw [openV, if_pos h]; simp only [oK, oA, oG, oC, oP, yesOpen, h, if_true]
  · rw [openV, if_neg h]; simp only [oK, oA, oG, oC, oP, if_neg h, noOpen]
/-- what 'Open' answers -/
def open3V (l : List UInt8) : Value := .tuple #[.agg #[.int .u8 (oK l), .int .i64 (oA l), .int .u64 (oG l)], .string (oP l), .int .i64 (opE l)]
theorem open_any (b : Nat) (s : ByteArray) (w : World) (ht : Sum.IsTab w b) (hs : s.size ≤ 1000000) :
    Calls Tryz.prog 94 #[.pointer (some ⟨b, 0, none⟩), .string s] w fun e w' => e = .returned (open3V s.data.toList) ∧ Below w.heap.size w w' := by
  have HV := Lib.hid (openV_o s.data.toList)
  have HT := Lib.hid (tab_on ht (below_new w (.cells #[.int .u8 0, .int .i64 0, .int .u64 0] 113)))
  clear ht
  go_enter Tryz.func94, Tryz.ntmps94
  go_wp2_with fail
  refine (unseal_any b s _ HT.out hs).mono ?_
  rintro e w1 ⟨rfl, hb1⟩
  rw [HV.out]
  have hlw : w.heap.size < w1.heap.size := by have := hb1.size; simp at this; omega
  have r0 : w1.cell? ⟨w.heap.size, 0, none⟩ = some (.int .u8 0) := by rw [hb1.cell (by simp)]; simp
  have r1 : w1.cell? ⟨w.heap.size, 1, none⟩ = some (.int .i64 0) := by rw [hb1.cell (by simp)]; simp
  have r2 : w1.cell? ⟨w.heap.size, 2, none⟩ = some (.int .u64 0) := by rw [hb1.cell (by simp)]; simp
  have f0 : w1.frozen? ⟨w.heap.size, 0, none⟩ = false := by rw [hb1.frozen (by simp)]; simp
  have f1 : w1.frozen? ⟨w.heap.size, 1, none⟩ = false := by rw [hb1.frozen (by simp)]; simp
  have f2 : w1.frozen? ⟨w.heap.size, 2, none⟩ = false := by rw [hb1.frozen (by simp)]; simp
  have HB1 := Lib.hid (below_on (below_new w _) hb1)
  clear hb1
  go_wp2_with fail
  refine bodyPost_ret (v := open3V s.data.toList) (by simp [results, Tryz.results94, go_sem, r0, r1, r2, hlw, open3V]) rfl ⟨rfl, ?_⟩
  repeat (first | exact HB1.out | apply below_nw | refine below_st ?_ (Nat.le_refl _) _)

end Go.Proofs.YtflanjcfkdjpjaaGreatDoor.Env


/- Contracts of layer 4 (env): Seal. -/
namespace Go.Proofs.YtflanjcfkdjpjaaGreatDoor.Env
open Go.RowKit Go.Proofs.YtflanjcfkdjpjaaGreatDoor Go.Proofs.YtflanjcfkdjpjaaGreatDoor.Lend
set_option linter.unusedVariables false

theorem repeat_zeros (c : Nat) : (⟨(Lib.repeatL (⟨#[0]⟩ : ByteArray).data.toList c).toArray⟩ : ByteArray) = strOf (zeros c) := by
  apply strOf_ext
  show Lib.repeatL [0] c = zeros c
  induction c with
  | zero => rfl
  | succ c ih => simp only [Lib.repeatL, ih, zeros, List.replicate_succ]; rfl
/-- what 'Seal' answers -/
def sealE (size k a : Int) (pl : List UInt8) : Int := if szB size = true ∧ hdB k a = true then (if (pl.length : Int) ≤ size - 24 then 0 else 20) else 2
def sealS (size k a g : Int) (pl : List UInt8) : ByteArray := if sealE size k a pl = 0 then strOf (imgL k a g (size - 24).toNat pl) else ⟨#[]⟩
def sealA (size k a : Int) (pl : List UInt8) : Int := if sealE size k a pl = 0 then a else 0
def sealG (size k a g : Int) (pl : List UInt8) : Int := if sealE size k a pl = 0 then g else 0
def sealC (size k a g : Int) (pl : List UInt8) : Int := if sealE size k a pl = 0 then (ckL k pl.length a g (bodyL (size - 24).toNat pl) : Int) else 0
def sealV (size k a g : Int) (pl : List UInt8) : Value := .tuple #[.string (sealS size k a g pl), .agg #[.int .i64 (sealA size k a pl), .int .u64 (sealG size k a g pl), .int .u32 (sealC size k a g pl)], .int .i64 (sealE size k a pl)]
def noSeal (e : Int) : Value := .tuple #[.string ⟨#[]⟩, .agg #[.int .i64 0, .int .u64 0, .int .u32 0], .int .i64 e]
theorem sealV_no {size k a g : Int} {pl : List UInt8} {e : Int} (h : sealE size k a pl = e) (he : e ≠ 0) : sealV size k a g pl = noSeal e := by
  simp only [sealV, sealS, sealA, sealG, sealC, h, if_neg he, noSeal]
theorem sealV_yes {size k a g : Int} {pl : List UInt8} (h : sealE size k a pl = 0) :
    sealV size k a g pl = .tuple #[.string (strOf (imgL k a g (size - 24).toNat pl)), .agg #[.int .i64 a, .int .u64 g, .int .u32 (ckL k pl.length a g (bodyL (size - 24).toNat pl) : Int)], .int .i64 0] := by
  simp only [sealV, sealS, sealA, sealG, sealC, h, if_true]
theorem sealE_arg {size k a : Int} {pl : List UInt8} (h : szB size = false ∨ hdB k a = false) : sealE size k a pl = 2 := by
  rw [sealE, if_neg]; rintro ⟨h1, h2⟩; rcases h with h | h
  · rw [h] at h1; cases h1
  · rw [h] at h2; cases h2
theorem sealE_long {size k a : Int} {pl : List UInt8} (h1 : szB size = true) (h2 : hdB k a = true) (h : size - 24 < (pl.length : Int)) : sealE size k a pl = 20 := by
  rw [sealE, if_pos ⟨h1, h2⟩, if_neg (by omega)]
theorem sealE_ok {size k a : Int} {pl : List UInt8} (h1 : szB size = true) (h2 : hdB k a = true) (h : (pl.length : Int) ≤ size - 24) : sealE size k a pl = 0 := by
  rw [sealE, if_pos ⟨h1, h2⟩, if_pos h]
theorem hdB_bd {k a : Int} (h : hdB k a = true) : 1 ≤ k ∧ k ≤ 5 ∧ 0 ≤ a ∧ a ≤ 2147483647 := by
  simp only [hdB, adB, Bool.and_eq_true, decide_eq_true_eq] at h
  exact ⟨h.1, h.2.1, h.2.2.1, h.2.2.2⟩
theorem set3_Sd {W : World} {c b : Nat} {x y z u v t : Value} (h : W.cell? ⟨c, 0, none⟩ = some x ∧ W.cell? ⟨c, 1, none⟩ = some y ∧ W.cell? ⟨c, 2, none⟩ = some z) (hn : c ≠ b) :
    (((W.setCell ⟨b, 0, none⟩ u).setCell ⟨b, 1, none⟩ v).setCell ⟨b, 2, none⟩ t).drew.cell? ⟨c, 0, none⟩ = some x ∧ (((W.setCell ⟨b, 0, none⟩ u).setCell ⟨b, 1, none⟩ v).setCell ⟨b, 2, none⟩ t).drew.cell? ⟨c, 1, none⟩ = some y ∧ (((W.setCell ⟨b, 0, none⟩ u).setCell ⟨b, 1, none⟩ v).setCell ⟨b, 2, none⟩ t).drew.cell? ⟨c, 2, none⟩ = some z := set3_S h hn
set_option maxHeartbeats 4000000 in
set_option maxRecDepth 100000 in
theorem seal_any (b : Nat) (size k a g : Int) (pl : ByteArray) (w : World) (ht : Sum.IsTab w b) (hg0 : 0 ≤ g) (hg1 : g < 18446744073709551616) (hp : pl.size ≤ 1000000) :
    Calls Tryz.prog 40 #[.pointer (some ⟨b, 0, none⟩), .int .i64 size, .agg #[.int .u8 k, .int .i64 a, .int .u64 g], .string pl] w fun e w' => e = .returned (sealV size k a g pl.data.toList) ∧ Below w.heap.size w w' := by
  have hpl : pl.data.toList.length = pl.size := by simp
  cases h1 : szB size with
  | false =>
    have HV := Lib.hid (sealV_no (g := g) (sealE_arg (k := k) (a := a) (pl := pl.data.toList) (.inl h1)) (by decide))
    have H1 := Lib.hid h1
    clear h1 hpl ht hg1
    go_enter Tryz.func40, Tryz.ntmps40
    go_wp2_with (go_at_call 73; refine (rightSize_any _ _).mono ?_; rintro e w' ⟨rfl, rfl⟩; rw [H1.out])
    refine bodyPost_ret (v := noSeal 2) (by simp [results, Tryz.results40, go_sem, noSeal]) rfl ⟨by rw [HV.out], ?_⟩
    repeat (first | exact Below.refl _ _ | apply below_nw | refine below_st ?_ (Nat.le_succ _) _)
  | true =>
    cases h2 : hdB k a with
    | false =>
      have HV := Lib.hid (sealV_no (g := g) (sealE_arg (size := size) (pl := pl.data.toList) (.inr h2)) (by decide))
      have H1 := Lib.hid h1
      have H2 := Lib.hid h2
      clear h1 h2 hpl ht hg1
      go_enter Tryz.func40, Tryz.ntmps40
      go_wp2_with fail
      refine (rightSize_any _ _).mono ?_
      rintro e w' ⟨rfl, rfl⟩
      rw [H1.out]
      go_wp2_with fail
      refine (headRight_any k a g _).mono ?_
      rintro e w1 ⟨rfl, hb1⟩
      rw [H2.out]
      have hw1 : w.heap.size + 1 < w1.heap.size := by have := hb1.size; simp at this; omega
      have r3 : w1.cell? ⟨w.heap.size + 1, 0, none⟩ = some (.int .i64 0) := by rw [hb1.cell (by simp)]; simp
      have r4 : w1.cell? ⟨w.heap.size + 1, 1, none⟩ = some (.int .u64 0) := by rw [hb1.cell (by simp)]; simp
      have r5 : w1.cell? ⟨w.heap.size + 1, 2, none⟩ = some (.int .u32 0) := by rw [hb1.cell (by simp)]; simp
      have f3 : w1.frozen? ⟨w.heap.size + 1, 0, none⟩ = false := by rw [hb1.frozen (by simp)]; simp
      have f4 : w1.frozen? ⟨w.heap.size + 1, 1, none⟩ = false := by rw [hb1.frozen (by simp)]; simp
      have f5 : w1.frozen? ⟨w.heap.size + 1, 2, none⟩ = false := by rw [hb1.frozen (by simp)]; simp
      have HB1 := Lib.hid (below_on (below_nw (below_new w _) _) hb1)
      clear hb1
      go_wp2_with fail
      refine bodyPost_ret (v := noSeal 2) (by simp [results, Tryz.results40, go_sem, r3, r4, r5, noSeal]) rfl ⟨by rw [HV.out], ?_⟩
      repeat (first | exact HB1.out | apply below_nw | refine below_st ?_ (Nat.le_succ _) _)
    | true =>
      have H1 := Lib.hid h1
      have H2 := Lib.hid h2
      obtain ⟨hr1, hr2, hr3⟩ := roomN_yes h1
      have hsz : 128 ≤ size ∧ size ≤ 1024 := by simpa [szB] using h1
      obtain ⟨hk1, hk2, ha1, ha2⟩ := hdB_bd h2
      obtain ⟨m, hm⟩ : ∃ m : Nat, size - 24 = m := ⟨(size - 24).toNat, by omega⟩
      have HR := Lib.hid (show roomN size = (m : Int) by rw [hr1, hm])
      have hm1 : m ≤ 1000 := by omega
      by_cases hle : pl.size ≤ m
      · have HV := Lib.hid (sealV_yes (g := g) (sealE_ok (pl := pl.data.toList) h1 h2 (by omega)))
        have hf : Fit k pl.size a g 0 := ⟨by omega, by omega, by omega, by omega, by omega, by omega, hg0, hg1, by decide, by decide⟩
        obtain ⟨c, hc⟩ : ∃ c : Nat, c = m - pl.size := ⟨_, rfl⟩
        have hcb : c ≤ 1000 := by omega
        have hsub : (m : Int) - (pl.size : Int) = (c : Int) := by omega
        have HREP := Lib.hid (repeat_zeros c)
        obtain ⟨zs, hzs⟩ : ∃ z, z = strOf (zeros c) := ⟨_, rfl⟩
        have hz1 : zs.size ≤ 1000 := by rw [hzs]; show (zeros c).length ≤ 1000; simp [zeros]; omega
        have hbd : (pl ++ zs).data.toList = bodyL m pl.data.toList := by rw [hzs, bodyL, hpl, ← hc]; simp [strOf]
        obtain ⟨bd, hbd0⟩ : ∃ x, x = pl ++ zs := ⟨_, rfl⟩
        rw [← hbd0] at hbd
        have hbs : bd.size ≤ 3000 := by rw [hbd0]; simp; omega
        have hbs1 : pl.size ≤ 1000 := by omega
        obtain ⟨ck, hck⟩ : ∃ x, x = ckL k pl.size a g bd.data.toList := ⟨_, rfl⟩
        have hckb : (ck : Int) ≤ 4294967295 := by have := ckL_lt k pl.size a g bd.data.toList; omega
        have himg : strOf (hdr k pl.size a g ck) ++ bd = strOf (imgL k a g m pl.data.toList) := by
          apply strOf_ext
          rw [imgL, ← hbd, hpl, ← hck]; simp [strOf]
        have hmm : (size - 24).toNat = m := by omega
        have hy : sealV size k a g pl.data.toList = .tuple #[.string (strOf (imgL k a g m pl.data.toList)), .agg #[.int .i64 a, .int .u64 g, .int .u32 (ck : Int)], .int .i64 0] := by
          rw [HV.out, hmm, ← hbd, hpl, ← hck]
        obtain ⟨V, hV⟩ : ∃ V, V = sealV size k a g pl.data.toList := ⟨_, rfl⟩
        rw [← hV] at hy ⊢
        have HY := Lib.hid hy
        have HF := Lib.hid hf
        have HF2 := Lib.hid (show Fit k pl.size a g ck from ⟨hf.k0, hf.k1, hf.n0, hf.n1, hf.a0, hf.a1, hf.g0, hf.g1, by omega, by omega⟩)
        have HIMG := Lib.hid himg
        have HPL := Lib.hid hpl
        have HZ := Lib.hid hzs
        have HBD := Lib.hid hbd0
        have HCK := Lib.hid hck
        have HSUB := Lib.hid hsub
        have HT := Lib.hid ht
        have hhs : (strOf (hdr k pl.size a g ck)).size ≤ 24 := by show List.length _ ≤ 24; rw [hdr_length]; exact Nat.le_refl _
        clear h1 h2 hpl ht hg1 hr1 hr2 hr3 hsz hm HV hV hf hc hsub hzs hbd hbd0 hck himg hmm hy
        go_enter Tryz.func40, Tryz.ntmps40
        go_wp2_with fail
        refine (rightSize_any _ _).mono ?_
        rintro e w' ⟨rfl, rfl⟩
        rw [H1.out]
        go_wp2_with fail
        refine (headRight_any k a g _).mono ?_
        rintro e w1 ⟨rfl, hb1⟩
        rw [H2.out]
        have hw1 : w.heap.size + 1 < w1.heap.size := by have := hb1.size; simp at this; omega
        have r0 : w1.cell? ⟨w.heap.size, 0, none⟩ = some (.int .u8 k) := by rw [hb1.cell (by simp; omega)]; simp
        have r1 : w1.cell? ⟨w.heap.size, 1, none⟩ = some (.int .i64 a) := by rw [hb1.cell (by simp; omega)]; simp
        have r2 : w1.cell? ⟨w.heap.size, 2, none⟩ = some (.int .u64 g) := by rw [hb1.cell (by simp; omega)]; simp
        have r3 : w1.cell? ⟨w.heap.size + 1, 0, none⟩ = some (.int .i64 0) := by rw [hb1.cell (by simp)]; simp
        have r4 : w1.cell? ⟨w.heap.size + 1, 1, none⟩ = some (.int .u64 0) := by rw [hb1.cell (by simp)]; simp
        have r5 : w1.cell? ⟨w.heap.size + 1, 2, none⟩ = some (.int .u32 0) := by rw [hb1.cell (by simp)]; simp
        have f3 : w1.frozen? ⟨w.heap.size + 1, 0, none⟩ = false := by rw [hb1.frozen (by simp)]; simp
        have f4 : w1.frozen? ⟨w.heap.size + 1, 1, none⟩ = false := by rw [hb1.frozen (by simp)]; simp
        have f5 : w1.frozen? ⟨w.heap.size + 1, 2, none⟩ = false := by rw [hb1.frozen (by simp)]; simp
        have HB1 := Lib.hid (below_on (below_nw (below_new w _) _) hb1)
        clear hb1
        go_wp2_with (go_at_call 49; refine (room_any _ _).mono ?_; rintro e w' ⟨rfl, rfl⟩; rw [HR.out])
        rw [HSUB.out]
        refine (Tryz.strings_Repeat _ c _ (by omega) (by show 1 * c ≤ _; omega)).mono ?_
        rintro e w2 ⟨rfl, hb2⟩
        rw [HREP.out, ← HZ.out]
        have hw2 : w.heap.size + 1 < w2.heap.size := Nat.lt_of_lt_of_le hw1 hb2.size
        have hw0 : w.heap.size < w1.heap.size := by omega
        have q0 : w2.cell? ⟨w.heap.size, 0, none⟩ = some (.int .u8 k) := by rw [hb2.cell hw0]; exact r0
        have q1 : w2.cell? ⟨w.heap.size, 1, none⟩ = some (.int .i64 a) := by rw [hb2.cell hw0]; exact r1
        have q2 : w2.cell? ⟨w.heap.size, 2, none⟩ = some (.int .u64 g) := by rw [hb2.cell hw0]; exact r2
        have q3 : w2.cell? ⟨w.heap.size + 1, 0, none⟩ = some (.int .i64 0) := by rw [hb2.cell hw1]; exact r3
        have q4 : w2.cell? ⟨w.heap.size + 1, 1, none⟩ = some (.int .u64 0) := by rw [hb2.cell hw1]; exact r4
        have q5 : w2.cell? ⟨w.heap.size + 1, 2, none⟩ = some (.int .u32 0) := by rw [hb2.cell hw1]; exact r5
        have y3 : w2.frozen? ⟨w.heap.size + 1, 0, none⟩ = false := by rw [hb2.frozen hw1]; exact f3
        have y4 : w2.frozen? ⟨w.heap.size + 1, 1, none⟩ = false := by rw [hb2.frozen hw1]; exact f4
        have y5 : w2.frozen? ⟨w.heap.size + 1, 2, none⟩ = false := by rw [hb2.frozen hw1]; exact f5
        have HB2 := Lib.hid (below_on HB1.out hb2)
        have HT2 := Lib.hid (tab_on HT.out HB2.out)
        clear hb2 r0 r1 r2 r3 r4 r5 f3 f4 f5
        go_wp2_with fail
        rw [← HBD.out]
        refine (checkOf_any b k pl.size a g bd _ HT2.out HF.out (by omega)).mono ?_
        rintro e w3 ⟨rfl, hb3⟩
        rw [← HCK.out]
        have hw3 : w.heap.size + 1 < w3.heap.size := Nat.lt_of_lt_of_le hw2 hb3.size
        have hw0 : w.heap.size < w2.heap.size := by omega
        have p0 : w3.cell? ⟨w.heap.size, 0, none⟩ = some (.int .u8 k) := by rw [hb3.cell hw0]; exact q0
        have p1 : w3.cell? ⟨w.heap.size, 1, none⟩ = some (.int .i64 a) := by rw [hb3.cell hw0]; exact q1
        have p2 : w3.cell? ⟨w.heap.size, 2, none⟩ = some (.int .u64 g) := by rw [hb3.cell hw0]; exact q2
        have p3 : w3.cell? ⟨w.heap.size + 1, 0, none⟩ = some (.int .i64 0) := by rw [hb3.cell hw2]; exact q3
        have p4 : w3.cell? ⟨w.heap.size + 1, 1, none⟩ = some (.int .u64 0) := by rw [hb3.cell hw2]; exact q4
        have p5 : w3.cell? ⟨w.heap.size + 1, 2, none⟩ = some (.int .u32 0) := by rw [hb3.cell hw2]; exact q5
        have z3 : w3.frozen? ⟨w.heap.size + 1, 0, none⟩ = false := by rw [hb3.frozen hw2]; exact y3
        have z4 : w3.frozen? ⟨w.heap.size + 1, 1, none⟩ = false := by rw [hb3.frozen hw2]; exact y4
        have z5 : w3.frozen? ⟨w.heap.size + 1, 2, none⟩ = false := by rw [hb3.frozen hw2]; exact y5
        have hcat : ¬ 9223372036854775807 < (strOf (hdr k pl.size a g ck)).size + bd.size := by omega
        have HB3 := Lib.hid (below_on HB2.out hb3)
        have hne : w.heap.size ≠ w.heap.size + 1 := by omega
        clear hb3 q0 q1 q2 q3 q4 q5 y3 y4 y5
        go_wp2_with fail
        go_region_held3 (fun W => W.cell? ⟨w.heap.size, 0, none⟩ = some (.int .u8 k) ∧ W.cell? ⟨w.heap.size, 1, none⟩ = some (.int .i64 a) ∧ W.cell? ⟨w.heap.size, 2, none⟩ = some (.int .u64 g))
          (first | with_reducible exact keep3 (by assumption) (by assumption) | with_reducible exact set3_S (by assumption) (by exact hne) | with_reducible exact set3_Sd (by assumption) (by exact hne) | go_keep)
          (first
            | (go_at_call 76
               refine (ahead_any k pl.size a g ck _ HF2.out).mono ?_
               rintro e w4 ⟨rfl, hb4⟩
               have t3 : w4.cell? ⟨w.heap.size + 1, 0, none⟩ = some (.int .i64 0) := by rw [hb4.cell (by exact hw3)]; exact p3
               have t4 : w4.cell? ⟨w.heap.size + 1, 1, none⟩ = some (.int .u64 0) := by rw [hb4.cell (by exact hw3)]; exact p4
               have t5 : w4.cell? ⟨w.heap.size + 1, 2, none⟩ = some (.int .u32 0) := by rw [hb4.cell (by exact hw3)]; exact p5
               have v3 : w4.frozen? ⟨w.heap.size + 1, 0, none⟩ = false := by rw [hb4.frozen (by exact hw3)]; exact z3
               have v4 : w4.frozen? ⟨w.heap.size + 1, 1, none⟩ = false := by rw [hb4.frozen (by exact hw3)]; exact z4
               have v5 : w4.frozen? ⟨w.heap.size + 1, 2, none⟩ = false := by rw [hb4.frozen (by exact hw3)]; exact z5))
        rename_i hend
        have HB5 := Lib.hid (below_on (below_dr HB3.out) hb4)
        clear hend hb4 p0 p1 p2 p3 p4 p5 z3 z4 z5
        go_wp2_with fail
        refine bodyPost_ret (v := .tuple #[.string (strOf (hdr k pl.size a g ck) ++ bd), .agg #[.int .i64 a, .int .u64 g, .int .u32 (ck : Int)], .int .i64 0]) (by simp [results, Tryz.results40, go_sem, t3, t4, t5]) rfl ⟨by rw [HIMG.out, HY.out], ?_⟩
        repeat (first | exact HB5.out | apply below_nw | refine below_st ?_ (Nat.le_succ _) _)
      · have HV := Lib.hid (sealV_no (g := g) (sealE_long (pl := pl.data.toList) h1 h2 (by omega)) (by decide))
        have hgt : m < pl.size := by omega
        clear h1 h2 hpl ht hg1 hle hr1 hr2 hr3 hsz hm
        go_enter Tryz.func40, Tryz.ntmps40
        go_wp2_with fail
        refine (rightSize_any _ _).mono ?_
        rintro e w' ⟨rfl, rfl⟩
        rw [H1.out]
        go_wp2_with fail
        refine (headRight_any k a g _).mono ?_
        rintro e w1 ⟨rfl, hb1⟩
        rw [H2.out]
        have hw1 : w.heap.size + 1 < w1.heap.size := by have := hb1.size; simp at this; omega
        have r3 : w1.cell? ⟨w.heap.size + 1, 0, none⟩ = some (.int .i64 0) := by rw [hb1.cell (by simp)]; simp
        have r4 : w1.cell? ⟨w.heap.size + 1, 1, none⟩ = some (.int .u64 0) := by rw [hb1.cell (by simp)]; simp
        have r5 : w1.cell? ⟨w.heap.size + 1, 2, none⟩ = some (.int .u32 0) := by rw [hb1.cell (by simp)]; simp
        have f3 : w1.frozen? ⟨w.heap.size + 1, 0, none⟩ = false := by rw [hb1.frozen (by simp)]; simp
        have f4 : w1.frozen? ⟨w.heap.size + 1, 1, none⟩ = false := by rw [hb1.frozen (by simp)]; simp
        have f5 : w1.frozen? ⟨w.heap.size + 1, 2, none⟩ = false := by rw [hb1.frozen (by simp)]; simp
        have HB1 := Lib.hid (below_on (below_nw (below_new w _) _) hb1)
        clear hb1
        go_wp2_with (go_at_call 49; refine (room_any _ _).mono ?_; rintro e w' ⟨rfl, rfl⟩; rw [HR.out])
        refine bodyPost_ret (v := noSeal 20) (by simp [results, Tryz.results40, go_sem, r3, r4, r5, noSeal]) rfl ⟨by rw [HV.out], ?_⟩
        repeat (first | exact HB1.out | apply below_nw | refine below_st ?_ (Nat.le_succ _) _)
end Go.Proofs.YtflanjcfkdjpjaaGreatDoor.Env


/- Contracts of layer 4 (env): Text, ParsePtr. -/
namespace Go.Proofs.YtflanjcfkdjpjaaGreatDoor.Env
open Go.RowKit Go.Proofs.YtflanjcfkdjpjaaGreatDoor Go.Proofs.YtflanjcfkdjpjaaGreatDoor.Lend
set_option linter.unusedVariables false

end Go.Proofs.YtflanjcfkdjpjaaGreatDoor.Env


/- Contracts for layer 4's laws: tame, of, wakes. -/
namespace Go.Proofs.YtflanjcfkdjpjaaGreatDoor.Env
open Go.RowKit Go.Proofs.YtflanjcfkdjpjaaGreatDoor Go.Proofs.YtflanjcfkdjpjaaGreatDoor.Lend
set_option linter.unusedVariables false

/-- three cells that were just made, and may be written -/
structure New3 (W : World) (g : Nat) (x y z : Value) : Prop where
  c0 : W.cell? ⟨g, 0, none⟩ = some x
  c1 : W.cell? ⟨g, 1, none⟩ = some y
  c2 : W.cell? ⟨g, 2, none⟩ = some z
  f0 : W.frozen? ⟨g, 0, none⟩ = false
  f1 : W.frozen? ⟨g, 1, none⟩ = false
  f2 : W.frozen? ⟨g, 2, none⟩ = false
theorem New3.new (W : World) (x y z : Value) (t : TypeId) : New3 (W.alloc (.cells #[x, y, z] t)) W.heap.size x y z := by constructor <;> simp
theorem New3.on {W W' : World} {g : Nat} {x y z : Value} (h : New3 W g x y z) (hb : Below W.heap.size W W') : New3 W' g x y z := by
  have hl : g < W.heap.size := World.block_lt_of_cell? _ _ h.c0
  exact ⟨by rw [hb.cell hl]; exact h.c0, by rw [hb.cell hl]; exact h.c1, by rw [hb.cell hl]; exact h.c2, by rw [hb.frozen hl]; exact h.f0, by rw [hb.frozen hl]; exact h.f1, by rw [hb.frozen hl]; exact h.f2⟩
theorem New3.set {W : World} {g : Nat} {x y z : Value} (h : New3 W g x y z) (u v t : Value) : New3 (((W.setCell ⟨g, 0, none⟩ u).setCell ⟨g, 1, none⟩ v).setCell ⟨g, 2, none⟩ t) g u v t := by
  have e : ∀ {i j : Nat}, i ≠ j → (⟨g, i, none⟩ : Addr) ≠ ⟨g, j, none⟩ := fun h h' => h (Addr.mk.inj h').2.1
  have o : ∀ (W' : World) {i j : Nat} (q : Value), i ≠ j → (W'.setCell ⟨g, i, none⟩ q).cell? ⟨g, j, none⟩ = W'.cell? ⟨g, j, none⟩ := fun W' i j q hij => World.cell?_setCell_other _ _ _ _ (by first | exact e hij | exact (e hij).symm)
  refine ⟨?_, ?_, ?_, ?_, ?_, ?_⟩
  · rw [o _ _ (by decide), o _ _ (by decide), World.cell?_setCell_same _ _ _ h.c0]
  · rw [o _ _ (by decide), World.cell?_setCell_same _ _ _ (by rw [o _ _ (by decide)]; exact h.c1)]
  · rw [World.cell?_setCell_same _ _ _ (by rw [o _ _ (by decide), o _ _ (by decide)]; exact h.c2)]
  · rw [World.frozen?_setCell, World.frozen?_setCell, World.frozen?_setCell]; exact h.f0
  · rw [World.frozen?_setCell, World.frozen?_setCell, World.frozen?_setCell]; exact h.f1
  · rw [World.frozen?_setCell, World.frozen?_setCell, World.frozen?_setCell]; exact h.f2
theorem fit_of {k a g : Int} {pl : List UInt8} (h : hdB k a = true) (hg0 : 0 ≤ g) (hg1 : g < 18446744073709551616) (hp : pl.length ≤ 1000) : Fit k pl.length a g 0 := by
  obtain ⟨h1, h2, h3, h4⟩ := hdB_bd h
  exact ⟨by omega, by omega, by omega, by omega, by omega, by omega, hg0, hg1, by decide, by decide⟩
/-- an image that was sealed: what is read of it -/
theorem img_o {k a g : Int} {m : Nat} {pl : List UInt8} (h : hdB k a = true) (hg0 : 0 ≤ g) (hg1 : g < 18446744073709551616) (hp : pl.length ≤ m) (hm : 104 ≤ m) (hm' : m ≤ 1000) :
    opE (imgL k a g m pl) = 0 ∧ oK (imgL k a g m pl) = k ∧ oA (imgL k a g m pl) = a ∧ oG (imgL k a g m pl) = g ∧ oC (imgL k a g m pl) = (ckL k pl.length a g (bodyL m pl) : Int) ∧ oP (imgL k a g m pl) = strOf pl := by
  have hf := fit_of (pl := pl) h hg0 hg1 (by omega)
  obtain ⟨_, h2, h3⟩ := img_open hf h hp hm hm'
  obtain ⟨f0, f1, f2, f3, f4, f5⟩ := img_F (m := m) hf
  refine ⟨h2, ?_, ?_, ?_, ?_, ?_⟩
  · rw [oK, if_pos h2, f0]
  · rw [oA, if_pos h2, f3]
  · rw [oG, if_pos h2, f4]
  · rw [oC, if_pos h2, f5]
  · rw [oP, if_pos h2, h3]
end Go.Proofs.YtflanjcfkdjpjaaGreatDoor.Env


/- Contracts: slices.Repeat of one sector; rows of elements of more cells than one are copied. -/
namespace Go.Proofs.YtflanjcfkdjpjaaGreatDoor.Dev
open Go.RowKit Go.Proofs.YtflanjcfkdjpjaaGreatDoor
set_option linter.unusedVariables false

theorem run_copy_rowK {P : Program} (w : World) (dT sT ty elem : TypeId) (sz : Nat) (g o dLen dCap : Nat) (a : Addr) (sLen sCap : Nat) (cur : Array Value) (t : TypeId) (cs : List Value)
    (hu : P.underlying dT = some (.slice elem)) (hs : (P.info? elem).map (·.size) = some sz)
    (hg : w.heap[g]? = some (.cells cur t (0, 0))) (hn : cs.length = Nat.min sLen dLen * sz)
    (hsrc : ∀ j v, cs[j]? = some v → w.cell? (a.add j) = some v) (hfit : o + cs.length ≤ cur.size) (h1 : ∀ v ∈ cs, v.oneCell' = true) :
    (Builtin.copy_ #[dT, sT] ty #[.slice (some ⟨g, o, none⟩) dLen dCap, .slice (some a) sLen sCap]).run P w =
      .ok (goInt (Nat.min sLen dLen)) (w.setRow g (cur.toList.take o ++ cs ++ cur.toList.drop (o + cs.length)).toArray) := by
  have hst := run_storeCells_at P g o t cs 0 cur w hg (by simpa using hfit) h1
  have hf := run_firstCells_some (P := P) w sz (Nat.min sLen dLen) a sLen sCap cs hn hsrc
  cases hq : P.info? elem with
  | none => simp [hq] at hs
  | some i =>
    have hi : i.size = sz := by simpa [hq] using hs
    simp only [Nat.add_zero] at hst
    simp [Builtin.copy_, run_underlying hu, Builtin.lenOf, sizeOf, typeInfo, hq, hi, hf, hst]
theorem wpList_copy_hasK {P : Program} {w : World} {ops : Array Oper} {rest : List Oper} {o : Oper} {a : Act} {Q : Exit → Act → World → Prop} (hgd : o.guard = none) (d s : Operand) (dT sT : TypeId)
    (ho : o.op = .call { callee := .builtin .copy, args := #[d, s], argTypes := #[dT, sT] }) (elem : TypeId) (sz : Nat) (hu : P.underlying dT = some (.slice elem)) (hsz : (P.info? elem).map (·.size) = some sz)
    (g off dLen dCap : Nat) (ad : Addr) (sLen sCap : Nat) (hd : a.eval d = .slice (some ⟨g, off, none⟩) dLen dCap) (hs : a.eval s = .slice (some ad) sLen sCap)
    (cur : List Value) (t : TypeId) (hg : Has w g t cur) (cs : List Value) (hn : cs.length = Nat.min sLen dLen * sz)
    (hsrc : ∀ j v, cs[j]? = some v → w.cell? (ad.add j) = some v) (hfit : off + cs.length ≤ cur.length) (h1 : ∀ v ∈ cs, v.oneCell' = true)
    (h : ∀ w', Hid (Has w' g t (cur.take off ++ cs ++ cur.drop (off + cs.length))) → Chg (fun k => k = g) w w' → w'.heap.size = w.heap.size → wpList P ops Q rest (a.put o.dst (goInt (Nat.min sLen dLen))) w') : wpList P ops Q (o :: rest) a w := by
  refine wpList_plain hgd fun K hK => ?_
  have hrun := run_copy_rowK (P := P) w dT sT o.type elem sz g off dLen dCap ad sLen sCap cur.toArray t cs hu hsz hg hn hsrc (by simpa using hfit) h1
  unfold Oper.wp
  simp [execOp, ho, resolve, invoke, builtin, hd, hs, hrun, Result.andThen]
  refine hK _ _ (h _ ?_ ?_ (by simp [World.setRow]))
  · show w.setRow g _ |>.heap[g]? = _
    rw [setRow_heap w g cur.toArray _ t _ hg]
    simp
  · exact ⟨rfl, rfl, rfl, by simp [World.setRow], fun k _ hk => setRow_other w g k _ (fun e => hk e)⟩

/-- The run of the same, as an equation. -/
theorem run_copy_hasK {P : Program} {w : World} (dT sT ty elem : TypeId) (sz : Nat) (hu : P.underlying dT = some (.slice elem)) (hsz : (P.info? elem).map (·.size) = some sz)
    (g off dLen dCap : Nat) (ad : Addr) (sLen sCap : Nat) (cur : List Value) (t : TypeId) (hg : Has w g t cur) (cs : List Value) (hn : cs.length = Nat.min sLen dLen * sz)
    (hsrc : ∀ j v, cs[j]? = some v → w.cell? (ad.add j) = some v) (hfit : off + cs.length ≤ cur.length) (h1 : ∀ v ∈ cs, v.oneCell' = true) :
    ∃ w', (Builtin.copy_ #[dT, sT] ty #[.slice (some ⟨g, off, none⟩) dLen dCap, .slice (some ad) sLen sCap]).run P w = .ok (goInt (Nat.min sLen dLen)) w' ∧ Has w' g t (cur.take off ++ cs ++ cur.drop (off + cs.length)) ∧ Chg (fun k => k = g) w w' ∧ w'.heap.size = w.heap.size := by
  refine ⟨_, run_copy_rowK (P := P) w dT sT ty elem sz g off dLen dCap ad sLen sCap cur.toArray t cs hu hsz hg hn hsrc (by simpa using hfit) h1, ?_, ?_, by simp [World.setRow]⟩
  · show w.setRow g _ |>.heap[g]? = _
    rw [setRow_heap w g cur.toArray _ t _ hg]
  · exact ⟨rfl, rfl, rfl, by simp [World.setRow], fun k _ hk => setRow_other w g k _ (fun e => hk e)⟩

/-- k copies of two cells -/
def twos (c d : Value) (k : Nat) : List Value := (List.replicate k [c, d]).flatten
theorem twos_len (c d : Value) (k : Nat) : (twos c d k).length = k * 2 := by simp [twos]
theorem twos_add (c d : Value) (k m : Nat) : twos c d (k + m) = twos c d k ++ twos c d m := by
  unfold twos; rw [← List.replicate_append_replicate, List.flatten_append]
theorem twos_flatS (s : ByteArray) (b : Bool) (k : Nat) : flatS (List.replicate k (s, b)) = twos (.string s) (.bool b) k := by
  unfold flatS twos
  induction k with
  | zero => rfl
  | succ k ih => rw [List.replicate_succ, List.flatMap_cons, ih, List.replicate_succ, List.flatten_cons]
theorem twos_mem {c d : Value} {k : Nat} {v : Value} (h : v ∈ twos c d k) : v = c ∨ v = d := by
  unfold twos at h
  obtain ⟨l, hl, hv⟩ := List.mem_flatten.1 h
  rw [(List.mem_replicate.1 hl).2] at hv
  simpa using hv
theorem info_sector : (Tryz.prog.info? 129).map (fun i => (i.zero, i.size, i.bytes)) = some (some (.agg #[.string ⟨#[]⟩, .bool false]), 2, 24) := by kernel_rfl

theorem mul_one_any (n : Nat) (w : World) (hn : n ≤ 1000000) : Calls Tryz.prog 82 #[.int .u64 1, .int .u64 (n : Nat)] w fun e w' => e = .returned (.tuple #[.int .u64 0, .int .u64 (n : Nat)]) ∧ w = w' := by
  refine (Tryz.bits_Mul 1 n (by omega) (by omega) w).mono ?_
  rintro e w' ⟨rfl, rfl⟩
  refine ⟨?_, rfl⟩
  have e1 : 1 * n / 18446744073709551616 = 0 := by omega
  have e2 : 1 * n % 18446744073709551616 = n := by omega
  rw [e1, e2]; rfl
theorem twos_cells {w : World} {g : Nat} {t : TypeId} {c d : Value} {k m : Nat} {rest : List Value} (h : Has w g t (twos c d k ++ rest)) (hm : m ≤ k) : ∀ j v, (twos c d m)[j]? = some v → w.cell? ((⟨g, 0, none⟩ : Addr).add j) = some v := by
  intro j v hv
  have hj : j < m * 2 := by have := (List.getElem?_eq_some_iff.1 hv).1; rwa [twos_len] at this
  rw [Addr.add_lit, Nat.zero_add, h.cell]
  have e : twos c d k = twos c d m ++ twos c d (k - m) := by rw [← twos_add]; congr 1; omega
  rw [List.getElem?_append_left (by rw [twos_len]; omega), e, List.getElem?_append_left (by rw [twos_len]; omega)]
  exact hv

/-- filled up to k, or, behind the copy, up to k + m -/
def Filled (w : World) (c d : Value) (zs : List Value) (k : Nat) (wx : World) : Prop := Has wx w.heap.size 129 (twos c d k ++ zs.drop (k * 2)) ∧ Below w.heap.size w wx ∧ wx.heap.size = w.heap.size + 1
theorem Filled.more {w wx : World} {c d : Value} {zs : List Value} {k m n : Nat} (h : Filled w c d zs k wx) (hm : m = min k (n - k)) (hk : k < n) (hz : zs.length = n * 2)
    (hi : (Tryz.prog.info? 129).map (·.size) = some 2) (h1 : ∀ k, ∀ v ∈ twos c d k, v.oneCell' = true) (ty : TypeId) :
    ∃ w', (Builtin.copy_ #[121, 121] ty #[.slice (some ⟨w.heap.size, k * 2, none⟩) (n - k) (n - k), .slice (some ⟨w.heap.size, 0, none⟩) k n]).run Tryz.prog wx = .ok (goInt m) w' ∧ Filled w c d zs (k + m) w' := by
  obtain ⟨hg, hb, hz1⟩ := h
  obtain ⟨w', hr, hg', hc, hz2⟩ := run_copy_hasK (P := Tryz.prog) 121 121 ty 129 2 Tryz.underlying121 hi w.heap.size (k * 2) (n - k) (n - k) ⟨w.heap.size, 0, none⟩ k n _ 129 hg (twos c d m)
    (by rw [twos_len, hm]) (twos_cells hg (by omega)) (by rw [twos_len, List.length_append, twos_len, List.length_drop, hz]; omega) (h1 m)
  refine ⟨w', by rw [hr, hm], ?_, hb.trans (hc.below hb.size (fun i h => by omega)), by omega⟩
  rw [twos_len, List.take_left' (twos_len _ _ _), List.drop_append, List.drop_of_length_le (by rw [twos_len]; omega), List.nil_append, List.drop_drop, twos_len, ← twos_add] at hg'
  rw [show (k + m) * 2 = k * 2 + (k * 2 + m * 2 - k * 2) by omega]
  exact hg'
theorem Filled.drew {w wx : World} {c d : Value} {zs : List Value} {k : Nat} (h : Filled w c d zs k wx) : Filled w c d zs k wx.drew := ⟨h.1, h.2.1.drew, h.2.2⟩

set_option maxRecDepth 100000 in
set_option maxHeartbeats 2000000 in
theorem repeat_any (b n : Nat) (s : ByteArray) (bd : Bool) (w : World) (hb : Has w b 129 [.string s, .bool bd]) (hn1 : 1 ≤ n) (hn2 : n ≤ 1000000) :
    Calls Tryz.prog 55 #[.slice (some ⟨b, 0, none⟩) 1 1, .int .i64 (n : Nat)] w fun e w' => e = .returned (.slice (some ⟨w.heap.size, 0, none⟩) n n) ∧ Has w' w.heap.size 129 (flatS (List.replicate n (s, bd))) ∧ Below w.heap.size w w' ∧ w'.heap.size = w.heap.size + 1 := by
  rw [twos_flatS]
  obtain ⟨i0, hi, hz0, hz1, hz2⟩ := info_parts info_sector
  have hmk := run_make (P := Tryz.prog) w 121 129 i0 _ Tryz.underlying121 hi hz0 .i64 .i64 n n (by omega) (Int.le_refl _) (by rw [hz2]; omega) (by omega)
  rw [hz1] at hmk
  simp only [Int.toNat_natCast] at hmk
  obtain ⟨zs, hzs, hzl⟩ : ∃ zs : List Value, madeCells (Value.agg #[.string ⟨#[]⟩, .bool false]).cells (n * 2) = zs.toArray ∧ zs.length = n * 2 := ⟨(madeCells (Value.agg #[.string ⟨#[]⟩, .bool false]).cells (n * 2)).toList, by simp, by rw [Array.length_toList, size_madeCells]⟩
  rw [hzs] at hmk
  have HMK := Lib.hid hmk
  have HZL := Lib.hid hzl
  have HB := Lib.hid hb
  have hbl := hb.lt
  have hone : ∀ k, ∀ v ∈ twos (.string s) (.bool bd) k, v.oneCell' = true := by
    intro k v hv; rcases twos_mem hv with rfl | rfl <;> rfl
  have HONE := Lib.hid hone
  clear hmk hzs hzl hb hone
  go_enter Tryz.func55, Tryz.ntmps55
  go_wp2_with fail
  refine (mul_one_any n _ hn2).mono ?_
  rintro e w' ⟨rfl, rfl⟩
  have hmk := HMK.out
  have h63 : ¬ 9223372036854775807 < n := by omega
  have hz := Has.new w zs 129
  have hbn := HB.out.alloc (.cells zs.toArray 129)
  have HC1 := Lib.hid (twos_cells (rest := []) (by rw [List.append_nil]; exact hbn) (Nat.le_refl 1))
  have HL1 := Lib.hid (show (twos (.string s) (.bool bd) 1).length = Nat.min 1 n * 2 by rw [twos_len]; congr 1; exact (Nat.min_eq_left hn1).symm)
  have HL2 := Lib.hid (show 0 + (twos (.string s) (.bool bd) 1).length ≤ zs.length by rw [twos_len, HZL.out]; omega)
  have HI := Lib.hid (show (Tryz.prog.info? 129).map (·.size) = some 2 by rw [hi]; simp [hz1])
  clear hbn
  go_wp2_with (with_reducible refine wpList_copy_hasK (o := ⟨some 33, _, _, _, _, _⟩) rfl (.tmp 31) (.tmp 32) 121 121 rfl 129 2 Tryz.underlying121 HI.out w.heap.size 0 n n ⟨b, 0, none⟩ 1 1 rfl rfl zs 129 hz (twos (.string s) (.bool bd) 1) HL1.out HC1.out HL2.out (HONE.out 1) ?_)
  clear hmk
  intro w2 HG hC hsz2
  try rw [show Nat.min 1 n = 1 from Nat.min_eq_left hn1]
  have HG1 := Lib.hid (show Has w2 w.heap.size 129 (twos (.string s) (.bool bd) 1 ++ zs.drop (1 * 2)) by
    have := HG.out
    rw [twos_len] at this
    simpa using this)
  have HB2 := Lib.hid (show Below w.heap.size w w2 from (((Chg.refl (fun k => k = w.heap.size) w).alloc (.cells zs.toArray 129)).trans hC (fun _ _ h => h)).below (Nat.le_refl _) (fun i h => by omega))
  have HSZ2 := Lib.hid (show w2.heap.size = w.heap.size + 1 by rw [hsz2])
  clear HG hC hz HC1 HL1 HL2 hsz2
  go_wp2_with fail
  go_loopw [8] (fun i wr => ∃ k : Nat, 1 ≤ k ∧ k ≤ n ∧ i = .int .i64 k ∧ Filled w (.string s) (.bool bd) zs k wr) (fun i _ => n - (intOf i).toNat)
  case atStart => exact ⟨1, Nat.le_refl _, hn1, rfl, HG1.out, HB2.out, HSZ2.out⟩
  case round =>
    obtain ⟨k, hk1, hk, rfl, hg⟩ := hrel
    clear HG1 HB2 HSZ2
    by_cases hlt : k < n
    · obtain ⟨m, hm⟩ : ∃ m, m = min k (n - k) := ⟨_, rfl⟩
      have hm1 : 1 ≤ m := by omega
      have hm3 : k + m ≤ n := by omega
      have HM := Lib.hid hm
      have hne : ¬ n = k := by omega
      have hkn : (k : Int) < (n : Int) := by omega
      have HG := Lib.hid hg
      clear hm hg
      go_wp2
      go_upto_region 9 with fail
      refine Reg.region_vals (by kernel_rfl) [(38, .int .i64 (k : Nat)), (39, .slice (some ⟨w.heap.size, 0, none⟩) n n), (40, .int .i64 (k : Nat)), (41, .slice (some ⟨w.heap.size, k * 2, none⟩) (n - k) (n - k)), (42, .slice (some ⟨w.heap.size, 0, none⟩) n n), (43, .int .i64 (k : Nat)), (44, .slice (some ⟨w.heap.size, 0, none⟩) k n), (45, .int .i64 (m : Nat)), (46, .int .i64 ((k + m : Nat) : Int)), (8, .int .i64 ((k + m : Nat) : Int))] (fun l wx => Filled w (.string s) (.bool bd) zs (if l 7 then k + m else k) wx) (by kernel_rfl) (by kernel_rfl) (by kernel_rfl) (HG.out.drew) ⟨?_, ?_, ?_, ?_, ?_, ?_, ?_, ?_, ?_, ?_, trivial⟩ ?hend
      · skip
        intro aq wq lq hI hl hdone hlater hold hd ho
        have h8 : aq.tmps.getD 8 undef = .int .i64 (k : Nat) := hold 9 8 (by kernel_rfl) (hlater 9 (by kernel_rfl))
        clear hd ho hdone hlater hold
        exact Reg.step2_move (.tmp 8) rfl h8 hI trivial
      · skip
        intro aq wq lq hI hl hdone hlater hold hd ho
        have h7 : aq.tmps.getD 7 undef = .slice (some ⟨w.heap.size, 0, none⟩) n n := ho 7 (by kernel_rfl)
        clear hd ho hdone hlater hold
        exact Reg.step2_move (.tmp 7) rfl h7 hI trivial
      · skip
        intro aq wq lq hI hl hdone hlater hold hd ho
        have h8 : aq.tmps.getD 8 undef = .int .i64 (k : Nat) := hold 9 8 (by kernel_rfl) (hlater 9 (by kernel_rfl))
        clear hd ho hdone hlater hold
        exact Reg.step2_move (.tmp 8) rfl h8 hI trivial
      · skip
        intro aq wq lq hI hl hdone hlater hold hd ho
        have h39 : aq.tmps.getD 39 undef = .slice (some ⟨w.heap.size, 0, none⟩) n n := hd 39 (by kernel_rfl)
        have h40 : aq.tmps.getD 40 undef = .int .i64 (k : Nat) := hd 40 (by kernel_rfl)
        clear hd ho hdone hlater hold
        rw [Array.getD_eq_getD_getElem?] at h39 h40
        refine Reg.step2_val (.slice (some ⟨w.heap.size, k * 2, none⟩) (n - k) (n - k)) ?_ rfl hI trivial
        simp [execOp, Act.eval, h39, h40]
        try go_simp
      · skip
        intro aq wq lq hI hl hdone hlater hold hd ho
        have h7 : aq.tmps.getD 7 undef = .slice (some ⟨w.heap.size, 0, none⟩) n n := ho 7 (by kernel_rfl)
        clear hd ho hdone hlater hold
        exact Reg.step2_move (.tmp 7) rfl h7 hI trivial
      · skip
        intro aq wq lq hI hl hdone hlater hold hd ho
        have h8 : aq.tmps.getD 8 undef = .int .i64 (k : Nat) := hold 9 8 (by kernel_rfl) (hlater 9 (by kernel_rfl))
        clear hd ho hdone hlater hold
        exact Reg.step2_move (.tmp 8) rfl h8 hI trivial
      · skip
        intro aq wq lq hI hl hdone hlater hold hd ho
        have h42 : aq.tmps.getD 42 undef = .slice (some ⟨w.heap.size, 0, none⟩) n n := hd 42 (by kernel_rfl)
        have h43 : aq.tmps.getD 43 undef = .int .i64 (k : Nat) := hd 43 (by kernel_rfl)
        clear hd ho hdone hlater hold
        rw [Array.getD_eq_getD_getElem?] at h42 h43
        refine Reg.step2_val (.slice (some ⟨w.heap.size, 0, none⟩) k n) ?_ rfl hI trivial
        simp [execOp, Act.eval, h42, h43]
        try go_simp
      · skip
        intro aq wq lq hI hl hdone hlater hold hd ho
        have h41 : aq.tmps.getD 41 undef = .slice (some ⟨w.heap.size, k * 2, none⟩) (n - k) (n - k) := hd 41 (by kernel_rfl)
        have h44 : aq.tmps.getD 44 undef = .slice (some ⟨w.heap.size, 0, none⟩) k n := hd 44 (by kernel_rfl)
        clear hd ho hdone hlater hold
        rw [Array.getD_eq_getD_getElem?] at h41 h44
        rw [show lq 7 = false from hl] at hI
        obtain ⟨w2, hr, hF⟩ := Filled.more (k := k) hI HM.out hlt HZL.out HI.out HONE.out 3
        refine Reg.step2_do (.int .i64 (m : Nat)) w2 ?_ rfl hF trivial
        simp [execOp]
        go_simp
      · skip
        intro aq wq lq hI hl hdone hlater hold hd ho
        have h38 : aq.tmps.getD 38 undef = .int .i64 (k : Nat) := hd 38 (by kernel_rfl)
        have h45 : aq.tmps.getD 45 undef = .int .i64 (m : Nat) := hd 45 (by kernel_rfl)
        clear hd ho hdone hlater hold
        rw [Array.getD_eq_getD_getElem?] at h38 h45
        refine Reg.step2_val (.int .i64 ((k + m : Nat) : Int)) ?_ rfl hI trivial
        simp [execOp, Act.eval, h38, h45]
        go_simp
        rw [IntKind.wrap_i64]; omega
      · skip
        intro aq wq lq hI hl hdone hlater hold hd ho
        have h46 : aq.tmps.getD 46 undef = .int .i64 ((k + m : Nat) : Int) := hd 46 (by kernel_rfl)
        clear hd ho hdone hlater hold
        exact Reg.step2_assign (.tmp 46) rfl h46 hI trivial
      case hend =>
      intro wx hI
      simp only [Reg.fill, List.foldl_cons, List.foldl_nil, List.setIfInBounds_toArray, List.set_cons_zero, List.set_cons_succ]
      have HI2 := Lib.hid (show Filled w (.string s) (.bool bd) zs (k + m) wx from hI)
      clear hI
      go_wp2
      go_roundw
      case rel => exact ⟨k + m, by omega, by omega, rfl, HI2.out⟩
      case measure => simp [intOf]; omega
    · obtain rfl : k = n := by omega
      have hd : zs.drop (k * 2) = [] := List.drop_of_length_le (by rw [HZL.out]; exact Nat.le_refl _)
      obtain ⟨hg, hbw, hsw⟩ := hg
      rw [hd, List.append_nil] at hg
      have HG := Lib.hid hg
      have HBW := Lib.hid hbw
      have HSW := Lib.hid hsw
      clear hd hg hbw hsw
      go_wp2
      go_ret
      exact ⟨rfl, HG.out, HBW.out, HSW.out⟩
end Go.Proofs.YtflanjcfkdjpjaaGreatDoor.Dev


/- Contracts of layer 3 (dev): New. -/
namespace Go.Proofs.YtflanjcfkdjpjaaGreatDoor.Dev
open Go.RowKit Go.Proofs.YtflanjcfkdjpjaaGreatDoor
set_option linter.unusedVariables false

/-- the text of noughts -/
def noughts (s : Nat) : ByteArray := ⟨(Lib.repeatL [0] s).toArray⟩
def Dv.fresh (n s : Nat) : Dv := { size := s, secs := List.replicate n (noughts s, false), cache := [], dead := false, off := false, fuse := 0, lose := 0, stray := 0, tgt := 0, nr := 0, nw := 0, nf := 0 }

theorem noughts_size (s : Nat) : (noughts s).size = s := by
  unfold noughts
  show (Lib.repeatL [0] s).toArray.size = s
  rw [List.size_toArray, Lib.repeatL_length]; simp
theorem Dv.fresh_ok (n s : Nat) (hn1 : 8 ≤ n) (hn2 : n ≤ 4096) (hs1 : 128 ≤ s) (hs2 : s ≤ 1024) : (Dv.fresh n s).Ok := by
  have hn : (Dv.fresh n s).n = n := List.length_replicate
  refine ⟨by rw [hn]; exact hn1, by rw [hn]; exact hn2, hs1, hs2, ?_, fun x hx => (by cases hx), fun x hx => (by cases hx), ?_, ?_, ?_⟩
  · intro x hx
    rw [(List.mem_replicate.1 hx).2]
    exact noughts_size s
  all_goals (show (0 : Nat) ≤ _; omega)
/-- while the device is being made: a: the row of one sector is there; b: the sectors are; c: the device is -/
def NewAt (w : World) (b1 M n s : Nat) (z : ByteArray) (a b c : Bool) (wx : World) : Prop :=
  wx.heap.size = M + 1 + (if c then 3 else if b then 2 else if a then 1 else 0) ∧ Below w.heap.size w wx ∧ Has wx b1 79 [.int .i64 (n : Nat), .int .i64 (s : Nat)] ∧ Has wx M 129 [.string z, .bool false] ∧
  (a = true → Has wx (M + 1) 129 [.string z, .bool false]) ∧ (b = true → Has wx (M + 2) 129 (flatS (List.replicate n (z, false)))) ∧ (c = true → Has wx (M + 3) 126 ((Dv.fresh n s).cells (M + 2) (.slice none 0 0)))
def NewL (w : World) (b1 M n s : Nat) (z : ByteArray) (l : Nat → Bool) (wx : World) : Prop :=
  NewAt w b1 M n s z (l 2) (l 5) (l 7) wx ∧ (l 5 = true → l 2 = true) ∧ (l 6 = true → l 5 = true) ∧ (l 7 = true → l 6 = true)
section
variable {w wx : World} {b1 M n s : Nat} {z : ByteArray}
theorem NewAt.row (h : NewAt w b1 M n s z false false false wx) (hM : w.heap.size ≤ M) : wx.heap.size = M + 1 ∧ NewAt w b1 M n s z true false false (wx.alloc (.cells #[.string z, .bool false] 129)) := by
  obtain ⟨h1, h2, h3, h4, _, _, _⟩ := h
  have hz : wx.heap.size = M + 1 := by simpa using h1
  refine ⟨hz, by simp [hz], h2.alloc (by omega) _, h3.alloc _, h4.alloc _, fun _ => ?_, fun h => (by cases h), fun h => (by cases h)⟩
  have := Has.new wx [.string z, .bool false] 129
  rw [hz] at this; exact this
theorem NewAt.boxed (h : NewAt w b1 M n s z true true false wx) (hM : w.heap.size ≤ M) : wx.heap.size = M + 3 ∧ NewAt w b1 M n s z true true true (wx.alloc (.cells ((Dv.fresh n s).cells (M + 2) (.slice none 0 0)).toArray 126)) := by
  obtain ⟨h1, h2, h3, h4, h5, h6, _⟩ := h
  have hz : wx.heap.size = M + 3 := by simpa using h1
  refine ⟨hz, by simp [hz], h2.alloc (by omega) _, h3.alloc _, h4.alloc _, fun h => (h5 h).alloc _, fun h => (h6 h).alloc _, fun _ => ?_⟩
  have := Has.new wx ((Dv.fresh n s).cells (M + 2) (.slice none 0 0)) 126
  rw [hz] at this; exact this
theorem NewAt.secs {w' : World} (h : NewAt w b1 M n s z true false false wx) (hM : w.heap.size ≤ M) (hg : Has w' wx.heap.size 129 (flatS (List.replicate n (z, false)))) (hb : Below wx.heap.size wx w') (hz' : w'.heap.size = wx.heap.size + 1) :
    wx.heap.size = M + 2 ∧ NewAt w b1 M n s z true true false w' := by
  obtain ⟨h1, h2, h3, h4, h5, _, _⟩ := h
  have hz : wx.heap.size = M + 2 := by simpa using h1
  refine ⟨hz, by simp [hz', hz], h2.trans (hb.mono (by omega)), h3.below hb h3.lt, h4.below hb h4.lt, fun h => (h5 h).below hb (h5 h).lt, fun _ => by rw [← hz]; exact hg, fun h => (by cases h)⟩
end

set_option maxRecDepth 100000 in
set_option maxHeartbeats 2000000 in
theorem new_yes (n s : Nat) (w : World) (h : shapeR n s = true) :
    Calls Tryz.prog 26 #[.agg #[.int .i64 (n : Nat), .int .i64 (s : Nat)]] w fun e w' => ∃ p sb, w.heap.size ≤ p ∧ w.heap.size ≤ sb ∧ e = .returned (.tuple #[.pointer (some ⟨p, 0, none⟩), .int .i64 0]) ∧ DevAt w' p sb (.slice none 0 0) (Dv.fresh n s) ∧ Below w.heap.size w w' := by
  have hr : (8 ≤ n ∧ n ≤ 4096) ∧ 128 ≤ s ∧ s ≤ 1024 := by unfold shapeR at h; simp at h; omega
  obtain ⟨⟨hn1, hn2⟩, hs1, hs2⟩ := hr
  have H := Lib.hid h
  clear h
  go_enter Tryz.func26, Tryz.ntmps26
  go_wp2_with fail
  refine (right_any n s _).mono ?_
  rintro e w1 ⟨rfl, hb⟩
  rw [H.out]
  have hbox := (Has.new w [.int .i64 (n : Nat), .int .i64 (s : Nat)] 79).below hb (by simp)
  have hz1 := hb.size
  have hb1 := ((Below.refl w.heap.size w).alloc (Nat.le_refl _) (.cells #[.int .i64 (n : Nat), .int .i64 (s : Nat)] 79)).trans (hb.mono (by simp))
  have hsh1 := hbox.cell 1
  have hsh0 := hbox.cell 0
  simp only [List.getElem?_cons_succ, List.getElem?_cons_zero] at hsh0 hsh1
  have HBOX := Lib.hid hbox
  have HB1 := Lib.hid hb1
  simp only [World.size_alloc] at hz1
  clear hb hbox hb1
  go_wp2_with fail
  refine (Tryz.strings_Repeat _ s _ (by omega) (show 1 * s ≤ _ by omega)).mono ?_
  rintro e w2 ⟨rfl, hb2⟩
  have HBOX2 := Lib.hid (HBOX.out.below hb2 (by have := HBOX.out.lt; omega))
  have HB2 := Lib.hid (HB1.out.trans (hb2.mono (by omega)))
  have hz2 := hb2.size
  have hsh0 := HBOX2.out.cell 0
  have hsh1 := HBOX2.out.cell 1
  simp only [List.getElem?_cons_succ, List.getElem?_cons_zero] at hsh0 hsh1
  obtain ⟨z, hz⟩ : ∃ z, z = noughts s := ⟨_, rfl⟩
  rw [show (⟨(Lib.repeatL (⟨#[0]⟩ : ByteArray).data.toList s).toArray⟩ : ByteArray) = z from hz.symm]
  have HZ := Lib.hid hz
  clear hb2 hz HB1 HBOX
  have hbox3 := HBOX2.out.alloc (.cells #[.string z, .bool false] 129)
  have hM : w.heap.size ≤ w2.heap.size := HB2.out.size
  have H0 := Lib.hid (show NewL w w.heap.size w2.heap.size n s z (fun _ => false) (w2.alloc (.cells #[.string z, .bool false] 129)).drew from
    ⟨⟨by simp, (HB2.out.alloc hM _).drew, hbox3, Has.new _ [.string z, .bool false] _, fun h => (by cases h), fun h => (by cases h), fun h => (by cases h)⟩, fun h => h, fun h => h, fun h => h⟩)
  obtain ⟨M, hMe⟩ : ∃ M, M = w2.heap.size := ⟨_, rfl⟩
  have HMe := Lib.hid hMe
  rw [← hMe] at H0 hM
  clear hbox3 hMe
  go_wp2_with fail
  rw [← HMe.out]
  refine Reg.region_vals (by kernel_rfl) [(12, .agg #[.int .i64 (n : Nat), .int .i64 (s : Nat)]), (13, .agg #[.string z, .bool false]), (14, .slice (some ⟨M + 1, 0, none⟩) 1 1), (15, .pointer (some ⟨w.heap.size, 0, none⟩)), (16, .int .i64 (n : Nat)), (17, .slice (some ⟨M + 2, 0, none⟩) n n), (18, .agg #[.int .i64 (n : Nat), .int .i64 (s : Nat), .slice (some ⟨M + 2, 0, none⟩) n n, .slice none 0 0, .bool false, .bool false, .int .i64 0, .int .i64 0, .int .i64 0, .int .i64 0, .int .i64 0, .int .i64 0, .int .i64 0]), (19, .pointer (some ⟨M + 3, 0, none⟩)), (2, .pointer (some ⟨M + 3, 0, none⟩)), (3, .int .i64 0)] (NewL w w.heap.size M n s z) (by kernel_rfl) (by kernel_rfl) (by kernel_rfl) (H0.out) ⟨?_, ?_, ?_, ?_, ?_, ?_, ?_, ?_, ?_, ?_, trivial⟩ ?hend
  · skip
    intro aq wq lq hI hl hdone hlater hold hd ho
    have h1 : aq.tmps.getD 1 undef = .pointer (some ⟨w.heap.size, 0, none⟩) := ho 1 (by kernel_rfl)
    clear hd ho hdone hlater hold
    rw [Array.getD_eq_getD_getElem?] at h1
    have e0 := hI.1.2.2.1.cell 0
    have e1 := hI.1.2.2.1.cell 1
    simp only [List.getElem?_cons_succ, List.getElem?_cons_zero] at e0 e1
    refine Reg.step2_val (.agg #[.int .i64 (n : Nat), .int .i64 (s : Nat)]) ?_ rfl hI trivial
    go_simp
  · skip
    intro aq wq lq hI hl hdone hlater hold hd ho
    have h4 : aq.tmps.getD 4 undef = .pointer (some ⟨M, 0, none⟩) := ho 4 (by kernel_rfl)
    clear hd ho hdone hlater hold
    rw [Array.getD_eq_getD_getElem?] at h4
    have e0 := hI.1.2.2.2.1.cell 0
    have e1 := hI.1.2.2.2.1.cell 1
    simp only [List.getElem?_cons_succ, List.getElem?_cons_zero] at e0 e1
    refine Reg.step2_val (.agg #[.string z, .bool false]) ?_ rfl hI trivial
    go_simp
  · skip
    intro aq wq lq hI hl hdone hlater hold hd ho
    have h13 : aq.tmps.getD 13 undef = .agg #[.string z, .bool false] := hd 13 (by kernel_rfl)
    clear hd ho hdone hlater hold
    rw [Array.getD_eq_getD_getElem?] at h13
    have g5 : lq 5 = false := by cases h : lq 5 with | false => rfl | true => have := hI.2.1 h; rw [hl] at this; cases this
    have g6 : lq 6 = false := by cases h : lq 6 with | false => rfl | true => have := hI.2.2.1 h; rw [g5] at this; cases this
    have g7 : lq 7 = false := by cases h : lq 7 with | false => rfl | true => have := hI.2.2.2 h; rw [g6] at this; cases this
    have hA := hI.1
    rw [hl, g5, g7] at hA
    obtain ⟨hz, hN⟩ := hA.row hM
    refine Reg.step2_do (.slice (some ⟨M + 1, 0, none⟩) 1 1) (wq.alloc (.cells #[.string z, .bool false] 129)) ?_ rfl ⟨by show NewAt _ _ _ _ _ _ true (lq 5) (lq 7) _; rw [g5, g7]; exact hN, fun _ => rfl, hI.2.2.1, hI.2.2.2⟩ trivial
    simp [execOp]
    go_simp
  · skip
    intro aq wq lq hI hl hdone hlater hold hd ho
    have h1 : aq.tmps.getD 1 undef = .pointer (some ⟨w.heap.size, 0, none⟩) := ho 1 (by kernel_rfl)
    clear hd ho hdone hlater hold
    rw [Array.getD_eq_getD_getElem?] at h1
    refine Reg.step2_val (.pointer (some ⟨w.heap.size, 0, none⟩)) ?_ rfl hI trivial
    go_simp
  · skip
    intro aq wq lq hI hl hdone hlater hold hd ho
    have h15 : aq.tmps.getD 15 undef = .pointer (some ⟨w.heap.size, 0, none⟩) := hd 15 (by kernel_rfl)
    clear hd ho hdone hlater hold
    rw [Array.getD_eq_getD_getElem?] at h15
    have e0 := hI.1.2.2.1.cell 0
    simp only [List.getElem?_cons_zero] at e0
    refine Reg.step2_val (.int .i64 (n : Nat)) ?_ rfl hI trivial
    go_simp
  · skip
    intro aq wq lq hI hl hdone hlater hold hd ho
    have h14 : aq.tmps.getD 14 undef = .slice (some ⟨M + 1, 0, none⟩) 1 1 := hd 14 (by kernel_rfl)
    have h16 : aq.tmps.getD 16 undef = .int .i64 (n : Nat) := hd 16 (by kernel_rfl)
    have gd2 : lq 2 = true := hdone 2 (by kernel_rfl)
    clear hd ho hdone hlater hold
    rw [Array.getD_eq_getD_getElem?] at h14 h16
    have g2 : lq 2 = true := gd2
    have g6 : lq 6 = false := by cases h : lq 6 with | false => rfl | true => have := hI.2.2.1 h; rw [hl] at this; cases this
    have g7 : lq 7 = false := by cases h : lq 7 with | false => rfl | true => have := hI.2.2.2 h; rw [g6] at this; cases this
    have hA := hI.1
    rw [hl, g2, g7] at hA
    refine Reg.step2_call 55 #[.slice (some ⟨M + 1, 0, none⟩) 1 1, .int .i64 (n : Nat)] ?_ ((repeat_any (M + 1) n z false wq (hA.2.2.2.2.1 rfl) (by omega) (by omega)).mono ?_)
    · simp [execOp]
      go_simp
    · rintro e w' ⟨rfl, hg, hb, hz'⟩
      obtain ⟨hz, hN⟩ := hA.secs hM hg hb hz'
      exact ⟨_, rfl, by rw [hz]; rfl, ⟨by show NewAt _ _ _ _ _ _ (lq 2) true (lq 7) _; rw [g2, g7]; exact hN, fun _ => g2, fun _ => rfl, hI.2.2.2⟩, trivial⟩
  · skip
    intro aq wq lq hI hl hdone hlater hold hd ho
    have h12 : aq.tmps.getD 12 undef = .agg #[.int .i64 (n : Nat), .int .i64 (s : Nat)] := hd 12 (by kernel_rfl)
    have h17 : aq.tmps.getD 17 undef = .slice (some ⟨M + 2, 0, none⟩) n n := hd 17 (by kernel_rfl)
    have gd5 : lq 5 = true := hdone 5 (by kernel_rfl)
    clear hd ho hdone hlater hold
    rw [Array.getD_eq_getD_getElem?] at h12 h17
    have g5 : lq 5 = true := gd5
    refine Reg.step2_val (.agg #[.int .i64 (n : Nat), .int .i64 (s : Nat), .slice (some ⟨M + 2, 0, none⟩) n n, .slice none 0 0, .bool false, .bool false, .int .i64 0, .int .i64 0, .int .i64 0, .int .i64 0, .int .i64 0, .int .i64 0, .int .i64 0]) ?_ rfl ⟨hI.1, hI.2.1, fun _ => g5, fun _ => rfl⟩ trivial
    simp [execOp]
    go_simp
  · skip
    intro aq wq lq hI hl hdone hlater hold hd ho
    have h18 : aq.tmps.getD 18 undef = .agg #[.int .i64 (n : Nat), .int .i64 (s : Nat), .slice (some ⟨M + 2, 0, none⟩) n n, .slice none 0 0, .bool false, .bool false, .int .i64 0, .int .i64 0, .int .i64 0, .int .i64 0, .int .i64 0, .int .i64 0, .int .i64 0] := hd 18 (by kernel_rfl)
    have gd6 : lq 6 = true := hdone 6 (by kernel_rfl)
    clear hd ho hdone hlater hold
    rw [Array.getD_eq_getD_getElem?] at h18
    have g6 : lq 6 = true := gd6
    have g5 := hI.2.2.1 g6
    have g2 := hI.2.1 g5
    have hA := hI.1
    rw [hl, g2, g5] at hA
    obtain ⟨hz, hN⟩ := hA.boxed hM
    refine Reg.step2_do (.pointer (some ⟨M + 3, 0, none⟩)) (wq.alloc (.cells ((Dv.fresh n s).cells (M + 2) (.slice none 0 0)).toArray 126)) ?_ rfl ⟨by show NewAt _ _ _ _ _ _ (lq 2) (lq 5) true _; rw [g2, g5]; exact hN, hI.2.1, hI.2.2.1, fun _ => g6⟩ trivial
    simp [execOp]
    go_simp
    simp [Dv.cells, Dv.fresh, Dv.n]
  · skip
    intro aq wq lq hI hl hdone hlater hold hd ho
    have h19 : aq.tmps.getD 19 undef = .pointer (some ⟨M + 3, 0, none⟩) := hd 19 (by kernel_rfl)
    clear hd ho hdone hlater hold
    exact Reg.step2_assign (.tmp 19) rfl h19 hI trivial
  · skip
    intro aq wq lq hI hl hdone hlater hold hd ho
    clear hd ho hdone hlater hold
    refine Reg.step2_val (.int .i64 0) ?_ rfl hI trivial
    simp [execOp, Act.eval]
    try go_simp
  case hend =>
  intro wx hI
  simp only [Reg.fill, List.foldl_cons, List.foldl_nil, List.setIfInBounds_toArray, List.set_cons_zero, List.set_cons_succ]
  have HI := Lib.hid hI
  clear hI
  go_wp2
  go_ret2
  obtain ⟨⟨h1, h2, h3, h4, h5, h6, h7⟩, _⟩ := HI.out
  have hz := HZ.out
  subst hz
  refine ⟨M + 3, M + 2, by omega, by omega, rfl, ⟨h7 rfl, h6 rfl, World.ownsRow_nil _ _ _ _, by omega, by simp [Value.ownBlock], by simp [Value.ownBlock], ?_⟩, h2⟩
  exact Dv.fresh_ok n s hn1 hn2 hs1 hs2
end Go.Proofs.YtflanjcfkdjpjaaGreatDoor.Dev


