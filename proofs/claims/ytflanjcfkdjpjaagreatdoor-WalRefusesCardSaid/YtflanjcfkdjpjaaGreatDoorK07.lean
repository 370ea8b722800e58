/- Layers' contracts, bundled: RepeatI, TabT, TabPa, RegionV, Uno. -/
import Derived.Deep.DeepCutAuto
import Derived.Test.YtflanjcfkdjpjaaGreatDoorK01
import Derived.Test.YtflanjcfkdjpjaaGreatDoorK06
import Derived.Test.YtflanjcfkdjpjaaGreatDoorK03
import Derived.Laws.CopyOwn
import Derived.WalkLawsBesides
import Derived.WalkSpells
import Derived.Outline
/- Contracts: slices.Repeat of one int. -/
namespace Go.Proofs.YtflanjcfkdjpjaaGreatDoor.Rep
open Go.RowKit Go.Proofs.YtflanjcfkdjpjaaGreatDoor
set_option linter.unusedVariables false

theorem run_copy_rowK {P : Program} (w : World) (dT sT ty elem : TypeId) (sz : Nat) (g o dLen dCap : Nat) (a : Addr) (sLen sCap : Nat) (cur : Array Value) (t : TypeId) (cs : List Value)
    (hu : P.underlying dT = some (.slice elem)) (hs : (P.info? elem).map (·.size) = some sz)
    (hg : w.heap[g]? = some (.cells cur t (0, 0))) (hn : cs.length = Nat.min sLen dLen * sz)
    (hsrc : ∀ j v, cs[j]? = some v → w.cell? (a.add j) = some v) (hfit : o + cs.length ≤ cur.size) (h1 : ∀ v ∈ cs, v.oneCell' = true) :
    (Builtin.copy_ #[dT, sT] ty #[.slice (some ⟨g, o, none⟩) dLen dCap, .slice (some a) sLen sCap]).run P w =
      .ok (goInt (Nat.min sLen dLen)) (w.setRow g (cur.toList.take o ++ cs ++ cur.toList.drop (o + cs.length)).toArray) := by
  have hst := run_storeCells_at P g o t cs 0 cur w hg (by simpa using hfit) h1
  have hf := run_firstCells_some (P := P) w sz (Nat.min sLen dLen) a sLen sCap cs hn hsrc
  cases hq : P.info? elem with
  | none => simp [hq] at hs
  | some i =>
    have hi : i.size = sz := by simpa [hq] using hs
    simp only [Nat.add_zero] at hst
    simp [Builtin.copy_, run_underlying hu, Builtin.lenOf, sizeOf, typeInfo, hq, hi, hf, hst]
theorem wpList_copy_hasK {P : Program} {w : World} {ops : Array Oper} {rest : List Oper} {o : Oper} {a : Act} {Q : Exit → Act → World → Prop} (hgd : o.guard = none) (d s : Operand) (dT sT : TypeId)
    (ho : o.op = .call { callee := .builtin .copy, args := #[d, s], argTypes := #[dT, sT] }) (elem : TypeId) (sz : Nat) (hu : P.underlying dT = some (.slice elem)) (hsz : (P.info? elem).map (·.size) = some sz)
    (g off dLen dCap : Nat) (ad : Addr) (sLen sCap : Nat) (hd : a.eval d = .slice (some ⟨g, off, none⟩) dLen dCap) (hs : a.eval s = .slice (some ad) sLen sCap)
    (cur : List Value) (t : TypeId) (hg : Has w g t cur) (cs : List Value) (hn : cs.length = Nat.min sLen dLen * sz)
    (hsrc : ∀ j v, cs[j]? = some v → w.cell? (ad.add j) = some v) (hfit : off + cs.length ≤ cur.length) (h1 : ∀ v ∈ cs, v.oneCell' = true)
    (h : ∀ w', Hid (Has w' g t (cur.take off ++ cs ++ cur.drop (off + cs.length))) → Chg (fun k => k = g) w w' → w'.heap.size = w.heap.size → wpList P ops Q rest (a.put o.dst (goInt (Nat.min sLen dLen))) w') : wpList P ops Q (o :: rest) a w := by
  refine wpList_plain hgd fun K hK => ?_
  have hrun := run_copy_rowK (P := P) w dT sT o.type elem sz g off dLen dCap ad sLen sCap cur.toArray t cs hu hsz hg hn hsrc (by simpa using hfit) h1
  unfold Oper.wp
  simp [execOp, ho, resolve, invoke, builtin, hd, hs, hrun, Result.andThen]
  refine hK _ _ (h _ ?_ ?_ (by simp [World.setRow]))
  · show w.setRow g _ |>.heap[g]? = _
    rw [setRow_heap w g cur.toArray _ t _ hg]
    simp
  · exact ⟨rfl, rfl, rfl, by simp [World.setRow], fun k _ hk => setRow_other w g k _ (fun e => hk e)⟩

/-- The run of the same, as an equation. -/
theorem run_copy_hasK {P : Program} {w : World} (dT sT ty elem : TypeId) (sz : Nat) (hu : P.underlying dT = some (.slice elem)) (hsz : (P.info? elem).map (·.size) = some sz)
    (g off dLen dCap : Nat) (ad : Addr) (sLen sCap : Nat) (cur : List Value) (t : TypeId) (hg : Has w g t cur) (cs : List Value) (hn : cs.length = Nat.min sLen dLen * sz)
    (hsrc : ∀ j v, cs[j]? = some v → w.cell? (ad.add j) = some v) (hfit : off + cs.length ≤ cur.length) (h1 : ∀ v ∈ cs, v.oneCell' = true) :
    ∃ w', (Builtin.copy_ #[dT, sT] ty #[.slice (some ⟨g, off, none⟩) dLen dCap, .slice (some ad) sLen sCap]).run P w = .ok (goInt (Nat.min sLen dLen)) w' ∧ Has w' g t (cur.take off ++ cs ++ cur.drop (off + cs.length)) ∧ Chg (fun k => k = g) w w' ∧ w'.heap.size = w.heap.size := by
  refine ⟨_, run_copy_rowK (P := P) w dT sT ty elem sz g off dLen dCap ad sLen sCap cur.toArray t cs hu hsz hg hn hsrc (by simpa using hfit) h1, ?_, ?_, by simp [World.setRow]⟩
  · show w.setRow g _ |>.heap[g]? = _
    rw [setRow_heap w g cur.toArray _ t _ hg]
  · exact ⟨rfl, rfl, rfl, by simp [World.setRow], fun k _ hk => setRow_other w g k _ (fun e => hk e)⟩

/-- k copies of one cell -/
def reps (c : Value) (k : Nat) : List Value := List.replicate k c
theorem reps_len (c : Value) (k : Nat) : (reps c k).length = k := by simp [reps]
theorem reps_add (c : Value) (k m : Nat) : reps c (k + m) = reps c k ++ reps c m := by
  unfold reps; rw [← List.replicate_append_replicate]
theorem reps_mem {c : Value} {k : Nat} {v : Value} (h : v ∈ reps c k) : v = c := List.eq_of_mem_replicate h
theorem mul_one_any (n : Nat) (w : World) (hn : n ≤ 1000000) : Calls Tryz.prog 82 #[.int .u64 1, .int .u64 (n : Nat)] w fun e w' => e = .returned (.tuple #[.int .u64 0, .int .u64 (n : Nat)]) ∧ w = w' := by
  refine (Tryz.bits_Mul 1 n (by omega) (by omega) w).mono ?_
  rintro e w' ⟨rfl, rfl⟩
  refine ⟨?_, rfl⟩
  have e1 : 1 * n / 18446744073709551616 = 0 := by omega
  have e2 : 1 * n % 18446744073709551616 = n := by omega
  rw [e1, e2]; rfl
theorem reps_cells {w : World} {g : Nat} {t : TypeId} {c : Value} {k m : Nat} {rest : List Value} (h : Has w g t (reps c k ++ rest)) (hm : m ≤ k) : ∀ j v, (reps c m)[j]? = some v → w.cell? ((⟨g, 0, none⟩ : Addr).add j) = some v := by
  intro j v hv
  have hj : j < m := by have := (List.getElem?_eq_some_iff.1 hv).1; rwa [reps_len] at this
  rw [Addr.add_lit, Nat.zero_add, h.cell]
  have e : reps c k = reps c m ++ reps c (k - m) := by rw [← reps_add]; congr 1; omega
  rw [List.getElem?_append_left (by rw [reps_len]; omega), e, List.getElem?_append_left (by rw [reps_len]; omega)]
  exact hv

/-- filled up to k, or, behind the copy, up to k + m -/
def Filled (w : World) (c : Value) (zs : List Value) (k : Nat) (wx : World) : Prop := Has wx w.heap.size 3 (reps c k ++ zs.drop (k)) ∧ Below w.heap.size w wx ∧ wx.heap.size = w.heap.size + 1
theorem Filled.more {w wx : World} {c : Value} {zs : List Value} {k m n : Nat} (h : Filled w c zs k wx) (hm : m = min k (n - k)) (hk : k < n) (hz : zs.length = n)
    (hi : (Tryz.prog.info? 3).map (·.size) = some 1) (h1 : ∀ k, ∀ v ∈ reps c k, v.oneCell' = true) (ty : TypeId) :
    ∃ w', (Builtin.copy_ #[148, 148] ty #[.slice (some ⟨w.heap.size, k, none⟩) (n - k) (n - k), .slice (some ⟨w.heap.size, 0, none⟩) k n]).run Tryz.prog wx = .ok (goInt m) w' ∧ Filled w c zs (k + m) w' := by
  obtain ⟨hg, hb, hz1⟩ := h
  obtain ⟨w', hr, hg', hc, hz2⟩ := run_copy_hasK (P := Tryz.prog) 148 148 ty 3 1 Tryz.underlying148 hi w.heap.size (k) (n - k) (n - k) ⟨w.heap.size, 0, none⟩ k n _ 3 hg (reps c m)
    (by rw [reps_len, hm, Nat.mul_one]) (reps_cells hg (by omega)) (by rw [reps_len, List.length_append, reps_len, List.length_drop, hz]; omega) (h1 m)
  refine ⟨w', by rw [hr, hm], ?_, hb.trans (hc.below hb.size (fun i h => by omega)), by omega⟩
  rw [reps_len, List.take_left' (reps_len _ _), List.drop_append, List.drop_of_length_le (by rw [reps_len]; omega), List.nil_append, List.drop_drop, reps_len, ← reps_add] at hg'
  rw [show k + (k + m - k) = k + m by omega] at hg'
  exact hg'
theorem Filled.drew {w wx : World} {c : Value} {zs : List Value} {k : Nat} (h : Filled w c zs k wx) : Filled w c zs k wx.drew := ⟨h.1, h.2.1.drew, h.2.2⟩

set_option maxRecDepth 100000 in
set_option maxHeartbeats 2000000 in
theorem repeat_any (b n : Nat) (x : Int) (w : World) (hb : Has w b 3 [.int .i64 x]) (hn1 : 1 ≤ n) (hn2 : n ≤ 1000000) :
    Calls Tryz.prog 147 #[.slice (some ⟨b, 0, none⟩) 1 1, .int .i64 (n : Nat)] w fun e w' => e = .returned (.slice (some ⟨w.heap.size, 0, none⟩) n n) ∧ Has w' w.heap.size 3 (reps (.int .i64 x) n) ∧ Below w.heap.size w w' ∧ w'.heap.size = w.heap.size + 1 := by
  obtain ⟨i0, hi, hz0, hz1, hz2⟩ := info_parts Tab.info_int6
  have hmk := run_make (P := Tryz.prog) w 148 3 i0 _ Tryz.underlying148 hi hz0 .i64 .i64 n n (by omega) (Int.le_refl _) (by rw [hz2]; omega) (by omega)
  rw [hz1] at hmk
  simp only [Int.toNat_natCast] at hmk
  obtain ⟨zs, hzs, hzl⟩ : ∃ zs : List Value, madeCells (Value.int .i64 0).cells (n * 1) = zs.toArray ∧ zs.length = n := ⟨(madeCells (Value.int .i64 0).cells (n * 1)).toList, by simp, by rw [Array.length_toList, size_madeCells, Nat.mul_one]⟩
  rw [hzs] at hmk
  have HMK := Lib.hid hmk
  have HZL := Lib.hid hzl
  have HB := Lib.hid hb
  have hbl := hb.lt
  have hone : ∀ k, ∀ v ∈ reps (.int .i64 x) k, v.oneCell' = true := by
    intro k v hv; rw [reps_mem hv]; rfl
  have HONE := Lib.hid hone
  clear hmk hzs hzl hb hone
  go_enter Tryz.func147, Tryz.ntmps147
  go_wp2_with fail
  refine (mul_one_any n _ hn2).mono ?_
  rintro e w' ⟨rfl, rfl⟩
  have hmk := HMK.out
  have h63 : ¬ 9223372036854775807 < n := by omega
  have hz := Has.new w zs 3
  have hbn := HB.out.alloc (.cells zs.toArray 3)
  have HC1 := Lib.hid (reps_cells (rest := []) (by rw [List.append_nil]; exact hbn) (Nat.le_refl 1))
  have HL1 := Lib.hid (show (reps (.int .i64 x) 1).length = Nat.min 1 n * 1 by rw [reps_len, Nat.mul_one]; exact (Nat.min_eq_left hn1).symm)
  have HL2 := Lib.hid (show 0 + (reps (.int .i64 x) 1).length ≤ zs.length by rw [reps_len, HZL.out]; omega)
  have HI := Lib.hid (show (Tryz.prog.info? 3).map (·.size) = some 1 by rw [hi]; simp [hz1])
  clear hbn
  go_wp2_with (with_reducible refine wpList_copy_hasK (o := ⟨some 33, _, _, _, _, _⟩) rfl (.tmp 31) (.tmp 32) 148 148 rfl 3 1 Tryz.underlying148 HI.out w.heap.size 0 n n ⟨b, 0, none⟩ 1 1 rfl rfl zs 3 hz (reps (.int .i64 x) 1) HL1.out HC1.out HL2.out (HONE.out 1) ?_)
  clear hmk
  intro w2 HG hC hsz2
  try rw [show Nat.min 1 n = 1 from Nat.min_eq_left hn1]
  have HG1 := Lib.hid (show Has w2 w.heap.size 3 (reps (.int .i64 x) 1 ++ zs.drop (1)) by
    have := HG.out
    rw [reps_len] at this
    simpa using this)
  have HB2 := Lib.hid (show Below w.heap.size w w2 from (((Chg.refl (fun k => k = w.heap.size) w).alloc (.cells zs.toArray 3)).trans hC (fun _ _ h => h)).below (Nat.le_refl _) (fun i h => by omega))
  have HSZ2 := Lib.hid (show w2.heap.size = w.heap.size + 1 by rw [hsz2])
  clear HG hC hz HC1 HL1 HL2 hsz2
  go_wp2_with fail
  go_loopw [8] (fun i wr => ∃ k : Nat, 1 ≤ k ∧ k ≤ n ∧ i = .int .i64 k ∧ Filled w (.int .i64 x) zs k wr) (fun i _ => n - (intOf i).toNat)
  case atStart => exact ⟨1, Nat.le_refl _, hn1, rfl, HG1.out, HB2.out, HSZ2.out⟩
  case round =>
    obtain ⟨k, hk1, hk, rfl, hg⟩ := hrel
    clear HG1 HB2 HSZ2
    by_cases hlt : k < n
    · obtain ⟨m, hm⟩ : ∃ m, m = min k (n - k) := ⟨_, rfl⟩
      have hm1 : 1 ≤ m := by omega
      have hm3 : k + m ≤ n := by omega
      have HM := Lib.hid hm
      have hne : ¬ n = k := by omega
      have hkn : (k : Int) < (n : Int) := by omega
      have HG := Lib.hid hg
      clear hm hg
      go_wp2
      go_upto_region 9 with fail
      refine Reg.region_vals (by kernel_rfl) [(38, .int .i64 (k : Nat)), (39, .slice (some ⟨w.heap.size, 0, none⟩) n n), (40, .int .i64 (k : Nat)), (41, .slice (some ⟨w.heap.size, k, none⟩) (n - k) (n - k)), (42, .slice (some ⟨w.heap.size, 0, none⟩) n n), (43, .int .i64 (k : Nat)), (44, .slice (some ⟨w.heap.size, 0, none⟩) k n), (45, .int .i64 (m : Nat)), (46, .int .i64 ((k + m : Nat) : Int)), (8, .int .i64 ((k + m : Nat) : Int))] (fun l wx => Filled w (.int .i64 x) zs (if l 7 then k + m else k) wx) (by kernel_rfl) (by kernel_rfl) (by kernel_rfl) (HG.out.drew) ⟨?_, ?_, ?_, ?_, ?_, ?_, ?_, ?_, ?_, ?_, trivial⟩ ?hend
      · skip
        intro aq wq lq hI hl hdone hlater hold hd ho
        have h8 : aq.tmps.getD 8 undef = .int .i64 (k : Nat) := hold 9 8 (by kernel_rfl) (hlater 9 (by kernel_rfl))
        clear hd ho hdone hlater hold
        exact Reg.step2_move (.tmp 8) rfl h8 hI trivial
      · skip
        intro aq wq lq hI hl hdone hlater hold hd ho
        have h7 : aq.tmps.getD 7 undef = .slice (some ⟨w.heap.size, 0, none⟩) n n := ho 7 (by kernel_rfl)
        clear hd ho hdone hlater hold
        exact Reg.step2_move (.tmp 7) rfl h7 hI trivial
      · skip
        intro aq wq lq hI hl hdone hlater hold hd ho
        have h8 : aq.tmps.getD 8 undef = .int .i64 (k : Nat) := hold 9 8 (by kernel_rfl) (hlater 9 (by kernel_rfl))
        clear hd ho hdone hlater hold
        exact Reg.step2_move (.tmp 8) rfl h8 hI trivial
      · skip
        intro aq wq lq hI hl hdone hlater hold hd ho
        have h39 : aq.tmps.getD 39 undef = .slice (some ⟨w.heap.size, 0, none⟩) n n := hd 39 (by kernel_rfl)
        have h40 : aq.tmps.getD 40 undef = .int .i64 (k : Nat) := hd 40 (by kernel_rfl)
        clear hd ho hdone hlater hold
        rw [Array.getD_eq_getD_getElem?] at h39 h40
        refine Reg.step2_val (.slice (some ⟨w.heap.size, k, none⟩) (n - k) (n - k)) ?_ rfl hI trivial
        simp [execOp, Act.eval, h39, h40]
        try go_simp
      · skip
        intro aq wq lq hI hl hdone hlater hold hd ho
        have h7 : aq.tmps.getD 7 undef = .slice (some ⟨w.heap.size, 0, none⟩) n n := ho 7 (by kernel_rfl)
        clear hd ho hdone hlater hold
        exact Reg.step2_move (.tmp 7) rfl h7 hI trivial
      · skip
        intro aq wq lq hI hl hdone hlater hold hd ho
        have h8 : aq.tmps.getD 8 undef = .int .i64 (k : Nat) := hold 9 8 (by kernel_rfl) (hlater 9 (by kernel_rfl))
        clear hd ho hdone hlater hold
        exact Reg.step2_move (.tmp 8) rfl h8 hI trivial
      · skip
        intro aq wq lq hI hl hdone hlater hold hd ho
        have h42 : aq.tmps.getD 42 undef = .slice (some ⟨w.heap.size, 0, none⟩) n n := hd 42 (by kernel_rfl)
        have h43 : aq.tmps.getD 43 undef = .int .i64 (k : Nat) := hd 43 (by kernel_rfl)
        clear hd ho hdone hlater hold
        rw [Array.getD_eq_getD_getElem?] at h42 h43
        refine Reg.step2_val (.slice (some ⟨w.heap.size, 0, none⟩) k n) ?_ rfl hI trivial
        simp [execOp, Act.eval, h42, h43]
        try go_simp
      · skip
        intro aq wq lq hI hl hdone hlater hold hd ho
        have h41 : aq.tmps.getD 41 undef = .slice (some ⟨w.heap.size, k, none⟩) (n - k) (n - k) := hd 41 (by kernel_rfl)
        have h44 : aq.tmps.getD 44 undef = .slice (some ⟨w.heap.size, 0, none⟩) k n := hd 44 (by kernel_rfl)
        clear hd ho hdone hlater hold
        rw [Array.getD_eq_getD_getElem?] at h41 h44
        rw [show lq 7 = false from hl] at hI
        obtain ⟨w2, hr, hF⟩ := Filled.more (k := k) hI HM.out hlt HZL.out HI.out HONE.out 3
        refine Reg.step2_do (.int .i64 (m : Nat)) w2 ?_ rfl hF trivial
        simp [execOp]
        go_simp
      · skip
        intro aq wq lq hI hl hdone hlater hold hd ho
        have h38 : aq.tmps.getD 38 undef = .int .i64 (k : Nat) := hd 38 (by kernel_rfl)
        have h45 : aq.tmps.getD 45 undef = .int .i64 (m : Nat) := hd 45 (by kernel_rfl)
        clear hd ho hdone hlater hold
        rw [Array.getD_eq_getD_getElem?] at h38 h45
        refine Reg.step2_val (.int .i64 ((k + m : Nat) : Int)) ?_ rfl hI trivial
        simp [execOp, Act.eval, h38, h45]
        go_simp
        rw [IntKind.wrap_i64]; omega
      · skip
        intro aq wq lq hI hl hdone hlater hold hd ho
        have h46 : aq.tmps.getD 46 undef = .int .i64 ((k + m : Nat) : Int) := hd 46 (by kernel_rfl)
        clear hd ho hdone hlater hold
        exact Reg.step2_assign (.tmp 46) rfl h46 hI trivial
      case hend =>
      intro wx hI
      simp only [Reg.fill, List.foldl_cons, List.foldl_nil, List.setIfInBounds_toArray, List.set_cons_zero, List.set_cons_succ]
      have HI2 := Lib.hid (show Filled w (.int .i64 x) zs (k + m) wx from hI)
      clear hI
      go_wp2
      go_roundw
      case rel => exact ⟨k + m, by omega, by omega, rfl, HI2.out⟩
      case measure => simp [intOf]; omega
    · obtain rfl : k = n := by omega
      have hd : zs.drop (k) = [] := List.drop_of_length_le (by rw [HZL.out]; exact Nat.le_refl _)
      obtain ⟨hg, hbw, hsw⟩ := hg
      rw [hd, List.append_nil] at hg
      have HG := Lib.hid hg
      have HBW := Lib.hid hbw
      have HSW := Lib.hid hsw
      clear hd hg hbw hsw
      go_wp2
      go_ret
      exact ⟨rfl, HG.out, HBW.out, HSW.out⟩

set_option maxRecDepth 100000 in
set_option maxHeartbeats 1000000 in
theorem repeat_zero (b : Nat) (x : Int) (w : World) (hb : Has w b 3 [.int .i64 x]) :
    Calls Tryz.prog 147 #[.slice (some ⟨b, 0, none⟩) 1 1, .int .i64 0] w fun e w' => e = .returned (.slice (some ⟨w.heap.size, 0, none⟩) 0 0) ∧ Has w' w.heap.size 3 [] ∧ Below w.heap.size w w' ∧ w'.heap.size = w.heap.size + 1 := by
  obtain ⟨i0, hi, hz0, hz1, hz2⟩ := info_parts Tab.info_int6
  have hmk := run_make (P := Tryz.prog) w 148 3 i0 _ Tryz.underlying148 hi hz0 .i64 .i64 0 0 (by omega) (Int.le_refl _) (by rw [hz2]; omega) (by omega)
  rw [hz1] at hmk
  simp only [Int.toNat_zero, Nat.zero_mul] at hmk
  obtain ⟨zs, hzs, hzl⟩ : ∃ zs : List Value, madeCells (Value.int .i64 0).cells 0 = zs.toArray ∧ zs = [] := ⟨[], by simp [madeCells], rfl⟩
  subst hzl
  rw [hzs] at hmk
  have HMK := Lib.hid hmk
  clear hmk hzs
  go_enter Tryz.func147, Tryz.ntmps147
  go_wp2_with fail
  refine (mul_one_any 0 _ (by omega)).mono ?_
  rintro e w' ⟨rfl, rfl⟩
  have hmk := HMK.out
  have hz := Has.new w [] 3
  have HI := Lib.hid (show (Tryz.prog.info? 3).map (·.size) = some 1 by rw [hi]; simp [hz1])
  go_wp2_with (with_reducible refine wpList_copy_hasK (o := ⟨some 33, _, _, _, _, _⟩) rfl (.tmp 31) (.tmp 32) 148 148 rfl 3 1 Tryz.underlying148 HI.out w.heap.size 0 0 0 ⟨b, 0, none⟩ 1 1 rfl rfl [] 3 hz [] rfl (fun j v h => by simp at h) (Nat.le_refl _) (fun v h => by simp at h) ?_)
  clear hmk
  intro w2 HG hC hsz2
  try rw [show Nat.min 1 0 = 0 from rfl]
  have HG1 := Lib.hid (show Has w2 w.heap.size 3 [] from HG.out)
  have HB2 := Lib.hid (show Below w.heap.size w w2 from (((Chg.refl (fun k => k = w.heap.size) w).alloc (.cells (#[] : Array Value) 3)).trans hC (fun _ _ h => h)).below (Nat.le_refl _) (fun i h => by omega))
  have HSZ2 := Lib.hid (show w2.heap.size = w.heap.size + 1 by rw [hsz2])
  clear HG hC hz hsz2
  go_wp2_with fail
  go_loopw [8] (fun i wr => i = .int .i64 0 ∧ wr = w2) (fun _ _ => 0)
  case atStart => exact ⟨rfl, rfl⟩
  case round =>
    obtain ⟨rfl, rfl⟩ := hrel
    go_wp2
    go_ret
    exact ⟨rfl, HG1.out, HB2.out, HSZ2.out⟩
end Go.Proofs.YtflanjcfkdjpjaaGreatDoor.Rep

/- Contracts of layer 6 (table): widths, Text. -/
namespace Go.Proofs.YtflanjcfkdjpjaaGreatDoor.Tab
open Go.RowKit Go.Proofs.YtflanjcfkdjpjaaGreatDoor Go.Proofs.YtflanjcfkdjpjaaGreatDoor.Lend
set_option linter.unusedVariables false

theorem owns_one (w : World) (B : Nat) (x : Int) (h : B ≤ w.heap.size) : (w.alloc (.cells #[.int .i64 x] 3)).ownsRow B 3 1 (.slice (some ⟨w.heap.size, 0, none⟩) 1 1) 1 [.int .i64 x] :=
  ⟨rfl, .inr ⟨w.heap.size, 1, #[.int .i64 x], rfl, h, by show (w.heap.push _)[w.heap.size]? = _; simp, Nat.le_refl _, by unfold maxLen; omega, rfl, rfl⟩⟩
set_option maxRecDepth 100000 in
set_option maxHeartbeats 1000000 in
theorem widths_any (n : Nat) (w : World) (hn : n ≤ 32) : Calls Tryz.prog 137 #[.int .i64 (n : Nat)] w fun e w' => ∃ ao cap, e = .returned (.slice ao (n + 1 : Nat) cap) ∧ Row .i64 w' ao (n + 1) (tabW n) ∧ Below w.heap.size w w' := by
  obtain ⟨i0, hi, hz0, hz1, hz2⟩ := info_parts info_int6
  have hown := owns_one w w.heap.size 8 (Nat.le_refl _)
  have hown2 := hown.alloc (.cells #[.int .i64 2] 3)
  have hb2 := Has.new (w.alloc (.cells #[.int .i64 8] 3)) [.int .i64 2] 3
  have hsz : (w.alloc (.cells #[.int .i64 8] 3)).heap.size = w.heap.size + 1 := by simp
  rw [hsz] at hb2
  have hB := Lib.hid (b_nw (b_new w (.cells #[.int .i64 8] 3)) (.cells #[.int .i64 2] 3))
  have HO := Lib.hid hown2
  have HB2 := Lib.hid hb2
  clear hown hown2 hb2 hsz
  go_enter Tryz.func137, Tryz.ntmps137
  go_wp2_with fail
  have hrep : Calls Tryz.prog 147 #[.slice (some ⟨w.heap.size + 1, 0, none⟩) 1 1, .int .i64 (n : Nat)] ((w.alloc (.cells #[.int .i64 8] 3)).alloc (.cells #[.int .i64 2] 3)) fun e w' => e = .returned (.slice (some ⟨w.heap.size + 2, 0, none⟩) n n) ∧ Has w' (w.heap.size + 2) 3 (Rep.reps (.int .i64 2) n) ∧ Below (w.heap.size + 2) ((w.alloc (.cells #[.int .i64 8] 3)).alloc (.cells #[.int .i64 2] 3)) w' := by
    have hs2 : ((w.alloc (.cells #[.int .i64 8] 3)).alloc (.cells #[.int .i64 2] 3)).heap.size = w.heap.size + 2 := by simp
    by_cases h0 : n = 0
    · subst h0
      refine (Rep.repeat_zero (w.heap.size + 1) 2 _ HB2.out).mono ?_
      rintro e w' ⟨rfl, h1, h2, _⟩
      rw [hs2] at h1 h2 ⊢
      exact ⟨rfl, h1, h2⟩
    · refine (Rep.repeat_any (w.heap.size + 1) n 2 _ HB2.out (by omega) (by omega)).mono ?_
      rintro e w' ⟨rfl, h1, h2, _⟩
      rw [hs2] at h1 h2 ⊢
      exact ⟨rfl, h1, h2⟩
  refine hrep.mono ?_
  clear hrep
  rintro e w2 ⟨rfl, hh, hb⟩
  have hown2 := owns_same HO.out (w' := w2) (fun k hk => hb.block k (by
    have : k = w.heap.size := by simpa [Value.ownBlock] using hk.symm
    omega))
  have hB2 := hB.out.trans (hb.mono (by omega))
  have hsz2 := hB2.size
  have HH := Lib.hid hh
  have HB3 := Lib.hid hB2
  clear hh hb hB2 HO HB2 hB
  have HC := Lib.hid (show ∀ j u, (Rep.reps (.int .i64 2) n)[j]? = some u → w2.cell? ((⟨w.heap.size + 2, 0, none⟩ : Addr).add j) = some u from fun j u hj => by
    rw [Addr.add_lit, Nat.zero_add, HH.out.cell]; exact hj)
  have HM := Lib.hid (show (Rep.reps (.int .i64 2) n).length = n * 1 by rw [Rep.reps_len, Nat.mul_one])
  go_wp2_with (at_builtin; refine wpList_append_own _ rfl _ _ 148 rfl w.heap.size 3 i0 (.int .i64 0) 1 8 Tryz.underlying148 hi hz0 hz1 hz2 rfl (by decide) _ _ _ rfl hown2 ⟨w.heap.size + 2, 0, none⟩ n n (Rep.reps (.int .i64 2) n) rfl HM.out HC.out ?c2 ?c3 ?c4 ?c5 ?_)
  case c2 => intro q hq; rw [Rep.reps_mem hq]; rfl
  case c3 => unfold maxLen; omega
  case c4 => omega
  case c5 => omega
  intro v' w3 hown3 hgrow _
  have hbel := HB3.out.grown hgrow hsz2 (fun q hq => (hown2.lt q hq).1)
  have HBE := Lib.hid hbel
  have e1 : Value.int .i64 8 :: Rep.reps (.int .i64 2) n = (tabW n).map (Value.int .i64) := by simp [Rep.reps, tabW, twos]
  rw [e1] at hown3
  have e2 : 1 + n = n + 1 := by omega
  rw [e2] at hown3
  obtain ⟨ao', cap', rfl, hle⟩ := own_shape hown3
  have HRW := Lib.hid (Row.own hown3)
  clear hbel hgrow hown2 hown3 e1 e2 HC HM HH HB3
  go_wp2
  go_ret
  exact ⟨_, _, rfl, HRW.out, HBE.out⟩

theorem owns_oneU (w : World) (B : Nat) (x : Int) (h : B ≤ w.heap.size) : (w.alloc (.cells #[.int .u64 x] 22)).ownsRow B 22 1 (.slice (some ⟨w.heap.size, 0, none⟩) 1 1) 1 [.int .u64 x] :=
  ⟨rfl, .inr ⟨w.heap.size, 1, #[.int .u64 x], rfl, h, by show (w.heap.push _)[w.heap.size]? = _; simp, Nat.le_refl _, by unfold maxLen; omega, rfl, rfl⟩⟩
set_option maxRecDepth 100000 in
set_option maxHeartbeats 2000000 in
theorem text_any (n k : Int) (m : List Int) (w : World) (hg : Good n k m) : Calls Tryz.prog 118 #[.agg (ta n k m)] w fun e w' => e = .returned (.string (txS m)) ∧ Below w.heap.size w w' := by
  obtain ⟨g1, g2, g3, g4, g5⟩ := hg.bd
  obtain ⟨i0, hi, hz0, hz1, hz2⟩ := info_parts info_u64
  obtain ⟨hwb, hws⟩ := tab_wr hg
  have HW := Lib.hid (And.intro hwb hws)
  have HG := Lib.hid hg
  have hT := TAt.made w n k m
  have e0 := hT.ld
  obtain ⟨W1, hW1⟩ : ∃ W1, W1 = w.alloc (.cells (ta n k m) 88) := ⟨_, rfl⟩
  have hsz : W1.heap.size = w.heap.size + 1 := by rw [hW1]; simp
  have hB := b_new w (.cells (ta n k m) 88)
  rw [← hW1] at hT hB
  have HT := Lib.hid hT
  have HB := Lib.hid hB
  obtain ⟨u, hu⟩ : ∃ u, u = m.length := ⟨_, rfl⟩
  have HU := Lib.hid hu
  have hu5 : u ≤ 32 := by omega
  have hsl := slice_sp w.heap.size u hu5
  clear hT hB hwb hws hg
  go_enter Tryz.func118, Tryz.ntmps118
  go_wp2_with fail
  rw [← hW1]
  refine (gen_any n k m _ g5).mono ?_
  rintro e w1 ⟨rfl, hb⟩
  rw [← hu]
  have hb1 : Below (w.heap.size + 1) W1 w1 := by rw [← hsz]; exact hb
  have HB1 := Lib.hid (hb1.alloc (by have := hb1.size; omega) (.cells #[.int .u64 u] 22))
  have hT2 := (HT.out.on hb).new (.cells #[.int .u64 u] 22)
  have HT2 := Lib.hid hT2
  have hown := Lib.hid (owns_oneU w1 (w.heap.size + 1) u (by have := hb1.size; omega))
  have e2 := hT2.c2
  rw [← hu] at e2
  clear hb hb1 e0 hT2 hW1 hu g5
  go_wp2_with fail
  go_loopw [3, 16] (fun v i wr => ∃ c : Nat, c ≤ u ∧ i = .int .i64 c ∧ wr.ownsRow (w.heap.size + 1) 22 1 v (c + 1) ((((u : Int) :: m.take c)).map (Value.int .u64)) ∧ Below (w.heap.size + 1) W1 wr) (fun _ i _ => u - (intOf i).toNat)
  case atStart => exact ⟨0, Nat.zero_le _, rfl, hown.out, HB1.out⟩
  case round =>
    obtain ⟨c, hc, rfl, hownr, hbr⟩ := hrel
    have hszr := hbr.size
    have hTr : TAt wr w.heap.size n k m := Has.below HT.out hbr (by omega)
    have HTr := Lib.hid hTr
    clear hown HB1 HT2 e2
    by_cases hlt : c < u
    · have ec := hTr.cm c (by omega)
      have hx := HG.out.getD c (by rw [← HU.out]; exact hlt)
      have htk : m.take (c + 1) = m.take c ++ [m.getD c 0] := take_snoc' m c (by rw [← HU.out]; exact hlt)
      obtain ⟨x, hxx⟩ : ∃ x, x = m.getD c 0 := ⟨_, rfl⟩
      rw [← hxx] at ec hx htk
      obtain ⟨hx0, hx1⟩ := hx
      have hwx : IntKind.u64.wrap x = x := by rw [wrap_u64]; omega
      have HTK := Lib.hid htk
      clear hTr htk hxx
      go_wp2_with (at_builtin; refine wpList_append_own _ rfl _ _ 157 rfl (w.heap.size + 1) 22 i0 (.int .u64 0) 1 8 Tryz.underlying157 hi hz0 hz1 hz2 rfl (by decide) _ _ _ rfl (hownr.alloc _) ⟨wr.heap.size, 0, none⟩ 1 1 [.int .u64 x] rfl rfl ?c1 ?c2 ?c3 ?c4 ?c5 ?_)
      case c1 =>
        intro j q hj
        match j, hj with
        | 0, hj => simp at hj; subst hj; simp [Addr.add]
      case c2 => intro q hq; simp at hq; subst hq; rfl
      case c3 => unfold maxLen; omega
      case c4 => omega
      case c5 => simp; omega
      intro v' w2 hown' hgrow _
      have hbel : Below (w.heap.size + 1) W1 w2 := (hbr.alloc (by omega) _).grown hgrow (by simp; omega) (fun q hq => (hownr.lt q hq).1)
      have e1 : Value.int .u64 (u : Int) :: (List.take c (m.map (Value.int .u64)) ++ [.int .u64 x]) = (((u : Int) :: m.take (c + 1)).map (Value.int .u64)) := by rw [HTK.out]; simp
      rw [e1] at hown'
      clear hgrow hownr e1
      go_wp2
      go_roundw
      case rel => exact ⟨c + 1, by omega, by go_num, hown', hbel⟩
      case measure => simp [intOf]; omega
    · obtain rfl : c = u := by omega
      have e2 := hTr.c2
      rw [← HU.out] at e2
      have htk : m.take c = m := List.take_of_length_le (by rw [HU.out]; exact Nat.le_refl _)
      rw [htk] at hownr
      obtain ⟨ao, cap, rfl, _⟩ := own_shape hownr
      have HR := Lib.hid (Row.own hownr)
      have HBR := Lib.hid hbr
      clear hTr htk hownr hbr
      go_wp2_with fail
      refine (widths_any c wr hu5).mono ?_
      rintro e w2 ⟨bo, cb, rfl, hrow, hb2⟩
      have HR2 := Lib.hid (HR.out.below hb2 (Nat.le_refl _))
      have HRW := Lib.hid hrow
      have HB2 := Lib.hid (HBR.out.trans (hb2.mono (by omega)))
      clear hrow hb2 e2
      go_wp2_with fail
      refine (write_any _ _ _ _ _ _ _ _ w2 HRW.out HR2.out (by omega) (by omega) (fun z hz => ?_)).mono ?_
      · rcases List.mem_cons.1 hz with rfl | hz
        · omega
        · have := HG.out.mem z hz; omega
      rintro e w3 ⟨rfl, hb3⟩
      have HB3 := Lib.hid (HB2.out.trans (hb3.mono (by have := HB2.out.size; omega)))
      have hwS : wrS (tabW c) ((c : Int) :: m) = txS m := by rw [HU.out]; exact HW.out.2
      have hwB : wrB (tabW c) ((c : Int) :: m) = true := by rw [HU.out]; exact HW.out.1
      rw [hwS, hwB]
      clear hb3 hwS hwB
      go_wp2_with fail
      go_ret
      exact ⟨rfl, HB.out.trans (HB3.out.mono (by omega))⟩
end Go.Proofs.YtflanjcfkdjpjaaGreatDoor.Tab

/- Contracts of layer 6 (table): parse, Parse. -/
namespace Go.Proofs.YtflanjcfkdjpjaaGreatDoor.Tab
open Go.RowKit Go.Proofs.YtflanjcfkdjpjaaGreatDoor Go.Proofs.YtflanjcfkdjpjaaGreatDoor.Lend
set_option linter.unusedVariables false

theorem tabW_zero_sum : sumW (tabW 0) = 8 := rfl
theorem rd_tab (l : List UInt8) (h : l.length = 8 + 2 * getL (l.take 8)) : rdL (tabW (getL (l.take 8))) l = ((getL (l.take 8) : Nat) : Int) :: paL l := by
  have hN : paN l = getL (l.take 8) := by unfold paN; omega
  have hr2 : ∀ (c : Nat) (l : List UInt8), rdL (twos c) l = (List.range c).map fun i => ((getL ((l.drop (2 * i)).take 2) : Nat) : Int) := by
    intro c
    induction c with
    | zero => intro l; rfl
    | succ c ih =>
      intro l
      show rdL (2 :: twos c) l = _
      rw [rdL, ih, List.range_succ_eq_map]
      simp only [List.map_cons, List.map_map]
      congr 1
      apply List.map_congr_left
      intro i _
      simp only [Function.comp, List.drop_drop]
      rw [show (2 : Int).toNat + 2 * i = 2 * (i + 1) by simp; omega]
  show rdL (8 :: twos (getL (l.take 8))) l = _
  rw [rdL, hr2]
  show _ = _ :: List.map (paI l) (List.range (paN l))
  rw [hN]
  congr 1
  apply List.map_congr_left
  intro i _
  simp only [List.drop_drop, paI]
  rfl
theorem paF_no {l : List UInt8} {k : Int} (h : l.length < 8 ∨ k < getL (l.take 8) ∨ l.length ≠ 8 + 2 * getL (l.take 8)) : paF l k = false := by
  have : ¬ paF l k = true := by
    intro h2
    simp only [paF, Bool.and_eq_true, decide_eq_true_eq] at h2
    have : paN l = (l.length - 8) / 2 := rfl
    omega
  simpa using this
theorem paF_yes {l : List UInt8} {k : Int} (h1 : (getL (l.take 8) : Int) ≤ k) (h2 : l.length = 8 + 2 * getL (l.take 8)) : paF l k = true := by
  have : paN l = (l.length - 8) / 2 := rfl
  simp only [paF, Bool.and_eq_true, decide_eq_true_eq]
  omega

set_option maxRecDepth 100000 in
set_option maxHeartbeats 2000000 in
theorem parse1_any (s : ByteArray) (k : Int) (w : World) (hs : s.size ≤ 1000000) (hk0 : 0 ≤ k) (hk : k ≤ 32) :
    Calls Tryz.prog 143 #[.string s, .int .i64 k] w fun e w' => ∃ ao len cap, e = .returned (.tuple #[.slice ao len cap, .bool (paF s.data.toList k)]) ∧ (paF s.data.toList k = true → Row .u64 w' ao len (paL s.data.toList) ∧ len ≤ cap ∧ NewA w.heap.size ao) ∧ Below w.heap.size w w' := by
  obtain ⟨l, hl⟩ : ∃ l, s.data.toList = l := ⟨_, rfl⟩
  have hwk : IntKind.u64.wrap k = k := by rw [wrap_u64]; omega
  rw [hl]
  have HL := Lib.hid hl
  clear hl
  by_cases h8 : l.length < 8
  · rw [paF_no (.inl h8)]
    obtain ⟨r1, r2, r3⟩ := rd_no (ws := tabW 0) (l := l) (.inr (by rw [tabW_zero_sum]; omega))
    have HR := Lib.hid r1
    clear r1 r2 r3 h8
    go_enter Tryz.func143, Tryz.ntmps143
    go_wp2_with fail
    refine (widths_any 0 w (by omega)).mono ?_
    rintro e w1 ⟨bo, cb, rfl, hrow, hb1⟩
    have HB1 := Lib.hid hb1
    have HRW := Lib.hid hrow
    clear hb1 hrow
    go_wp2_with fail
    refine (read_any _ _ _ _ s w1 HRW.out (by omega) hs).mono ?_
    rintro e w2 ⟨co, n2, c2, rfl, _, hb2⟩
    rw [HL.out, HR.out]
    have HB2 := Lib.hid (b_on HB1.out hb2)
    clear hb2
    go_wp2_with fail
    go_ret2
    exact ⟨_, _, _, rfl, (fun h => by cases h), HB2.out⟩
  · obtain ⟨r1, r2, r3⟩ := rd_ok (ws := tabW 0) (l := l) (tabW_ok 0) (by rw [tabW_zero_sum]; omega)
    obtain ⟨G, hG⟩ : ∃ G, G = getL (l.take 8) := ⟨_, rfl⟩
    have HR0 := Lib.hid r1
    have HR1 := Lib.hid (show rdN (tabW 0) l = [(G : Int)] by rw [r2, hG]; rfl)
    have HG := Lib.hid hG
    have hGb : G < 18446744073709551616 := by
      have h1 := getL_bd (l.take 8)
      have h2 : (l.take 8).length ≤ 8 := by simp; omega
      have h3 : 2 ^ (8 * (l.take 8).length) ≤ 2 ^ 64 := Nat.pow_le_pow_right (by decide) (by omega)
      omega
    clear r1 r2 r3
    by_cases hGk : k < (G : Int)
    · rw [paF_no (l := l) (k := k) (.inr (.inl (by rw [← hG]; exact hGk)))]
      clear hG h8
      go_enter Tryz.func143, Tryz.ntmps143
      go_wp2_with fail
      refine (widths_any 0 w (by omega)).mono ?_
      rintro e w1 ⟨bo, cb, rfl, hrow, hb1⟩
      have HB1 := Lib.hid hb1
      have HRW := Lib.hid hrow
      clear hb1 hrow
      go_wp2_with fail
      refine (read_any _ _ _ _ s w1 HRW.out (by omega) hs).mono ?_
      rintro e w2 ⟨co, n2, c2, rfl, hown, hb2⟩
      rw [HL.out, HR1.out] at hown
      rw [HL.out, HR0.out]
      have hrow := Row.own hown
      obtain rfl : 1 = n2 := hrow.len_eq
      obtain ⟨b2, o2, rfl, hcell⟩ := hrow.at_ (by omega)
      have hg0 := hcell 0 (by omega)
      rw [show [(G : Int)].getD 0 0 = (G : Int) from rfl, Nat.add_zero] at hg0
      have HB2 := Lib.hid (b_on HB1.out hb2)
      clear hb2 hown hrow hcell
      go_wp2_with fail
      go_ret2
      exact ⟨_, _, _, rfl, (fun h => by cases h), HB2.out⟩
    · have hG32 : G ≤ 32 := by omega
      have hGk' : (G : Int) ≤ k := by omega
      have hwG : IntKind.i64.wrap (G : Int) = G := IntWalk.i64_in _ (by omega)
      have hgt : ¬ k < (G : Int) := hGk
      by_cases hlen : l.length < 8 + 2 * G
      · rw [paF_no (l := l) (k := k) (.inr (.inr (by rw [← hG]; omega)))]
        obtain ⟨r1, r2, r3⟩ := rd_no (ws := tabW G) (l := l) (.inr (by rw [tabW_sum]; omega))
        have HR4 := Lib.hid r1
        clear r1 r2 r3 hG h8 hlen
        go_enter Tryz.func143, Tryz.ntmps143
        go_wp2_with fail
        refine (widths_any 0 w (by omega)).mono ?_
        rintro e w1 ⟨bo, cb, rfl, hrow, hb1⟩
        have HB1 := Lib.hid hb1
        have HRW := Lib.hid hrow
        clear hb1 hrow
        go_wp2_with fail
        refine (read_any _ _ _ _ s w1 HRW.out (by omega) hs).mono ?_
        rintro e w2 ⟨co, n2, c2, rfl, hown, hb2⟩
        rw [HL.out, HR1.out] at hown
        rw [HL.out, HR0.out]
        have hrow := Row.own hown
        obtain rfl : 1 = n2 := hrow.len_eq
        obtain ⟨b2, o2, rfl, hcell⟩ := hrow.at_ (by omega)
        have hg0 := hcell 0 (by omega)
        rw [show [(G : Int)].getD 0 0 = (G : Int) from rfl, Nat.add_zero] at hg0
        have HB2 := Lib.hid (b_on HB1.out hb2)
        clear hb2 hown hrow hcell
        go_wp2_with fail
        refine (widths_any G w2 (by omega)).mono ?_
        rintro e w3 ⟨do_, cd, rfl, hrow, hb3⟩
        have HB3 := Lib.hid (b_on HB2.out hb3)
        have HRW3 := Lib.hid hrow
        clear hb3 hrow hg0
        go_wp2_with fail
        refine (read_any _ _ _ _ s w3 HRW3.out (by omega) hs).mono ?_
        rintro e w4 ⟨eo, n4, c4, rfl, hown, hb4⟩
        rw [HL.out] at hown
        rw [HL.out, HR4.out]
        have HB4 := Lib.hid (b_on HB3.out hb4)
        clear hb4 hown
        go_wp2_with fail
        go_ret2
        exact ⟨_, _, _, rfl, (fun h => by cases h), HB4.out⟩
      · obtain ⟨r1, r2, r3⟩ := rd_ok (ws := tabW G) (l := l) (tabW_ok G) (by rw [tabW_sum]; omega)
        have HR4 := Lib.hid r1
        have e8 : (sumW (tabW G)).toNat = 8 + 2 * G := by rw [tabW_sum]; omega
        rw [e8] at r3
        by_cases heq : l.length = 8 + 2 * G
        · rw [paF_yes (l := l) (k := k) (by rw [← hG]; omega) (by rw [← hG]; exact heq)]
          have HR5 := Lib.hid (show rdN (tabW G) l = (G : Int) :: paL l by rw [r2, hG]; exact rd_tab l (by rw [← hG]; exact heq))
          have HPL := Lib.hid (show (paL l).length = G by rw [paL_length, paN]; omega)
          have HR6 := Lib.hid (show strOf (rdS (tabW G) l) = ⟨#[]⟩ by rw [r3, List.drop_of_length_le (by omega)]; rfl)
          clear r1 r2 r3 e8 hG h8 hlen heq
          go_enter Tryz.func143, Tryz.ntmps143
          go_wp2_with fail
          refine (widths_any 0 w (by omega)).mono ?_
          rintro e w1 ⟨bo, cb, rfl, hrow, hb1⟩
          have HB1 := Lib.hid hb1
          have HRW := Lib.hid hrow
          clear hb1 hrow
          go_wp2_with fail
          refine (read_any _ _ _ _ s w1 HRW.out (by omega) hs).mono ?_
          rintro e w2 ⟨co, n2, c2, rfl, hown, hb2⟩
          rw [HL.out, HR1.out] at hown
          rw [HL.out, HR0.out]
          have hrow := Row.own hown
          obtain rfl : 1 = n2 := hrow.len_eq
          obtain ⟨b2, o2, rfl, hcell⟩ := hrow.at_ (by omega)
          have hg0 := hcell 0 (by omega)
          rw [show [(G : Int)].getD 0 0 = (G : Int) from rfl, Nat.add_zero] at hg0
          have HB2 := Lib.hid (b_on HB1.out hb2)
          clear hb2 hown hrow hcell
          go_wp2_with fail
          refine (widths_any G w2 (by omega)).mono ?_
          rintro e w3 ⟨do_, cd, rfl, hrow, hb3⟩
          have HB3 := Lib.hid (b_on HB2.out hb3)
          have HRW3 := Lib.hid hrow
          clear hb3 hrow hg0
          go_wp2_with fail
          refine (read_any _ _ _ _ s w3 HRW3.out (by omega) hs).mono ?_
          rintro e w4 ⟨eo, n4, c4, rfl, hown, hb4⟩
          rw [HL.out] at hown
          rw [HL.out, HR4.out, HR6.out]
          rw [HR5.out] at hown
          have HB4 := Lib.hid (b_on HB3.out hb4)
          have hrow4 := Row.own hown
          obtain rfl : G + 1 = n4 := by
            have h1 := hrow4.len_eq
            rw [List.length_cons, HPL.out] at h1; exact h1
          obtain ⟨b4, o4, rfl, _⟩ := hrow4.at_ (by omega)
          obtain ⟨a5, c5, hv, hle⟩ := own_shape hown
          injection hv with hv1 hv2 hv3
          subst hv3
          clear hv1 hv2
          have HNW := Lib.hid (show w.heap.size ≤ b4 from Nat.le_trans HB3.out.size (NewA.own hown _ rfl))
          have hrd := hrow4.dropIf c4 1 (by omega) hle
          rw [List.drop_one, List.tail_cons, Nat.add_sub_cancel] at hrd
          have HRD := Lib.hid hrd
          clear hb4 hrow4 hrd hown
          by_cases hc1 : c4 = 1
          · subst hc1
            have hG0 : G = 0 := by omega
            go_wp2_with fail
            go_ret2
            refine ⟨_, _, _, rfl, fun _ => ⟨?_, by omega, fun a ha => by cases ha; exact HNW.out⟩, HB4.out⟩
            have := HRD.out
            subst hG0
            simpa using this
          · have hlt1 : 1 < c4 := by omega
            go_wp2_with fail
            go_ret2
            refine ⟨_, _, _, rfl, fun _ => ⟨?_, by omega, fun a ha => by cases ha; exact HNW.out⟩, HB4.out⟩
            have := HRD.out
            rw [if_neg hc1, Option.map_some, Addr.add_lit] at this
            exact this
        · rw [paF_no (l := l) (k := k) (.inr (.inr (by rw [← hG]; exact heq)))]
          have hne : (strOf (rdS (tabW G) l)).size ≠ 0 := by
            rw [r3]; show (l.drop (8 + 2 * G)).length ≠ 0
            rw [List.length_drop]; omega
          have HNE := Lib.hid hne
          clear r1 r2 r3 e8 hG h8 hlen heq hne
          go_enter Tryz.func143, Tryz.ntmps143
          go_wp2_with fail
          refine (widths_any 0 w (by omega)).mono ?_
          rintro e w1 ⟨bo, cb, rfl, hrow, hb1⟩
          have HB1 := Lib.hid hb1
          have HRW := Lib.hid hrow
          clear hb1 hrow
          go_wp2_with fail
          refine (read_any _ _ _ _ s w1 HRW.out (by omega) hs).mono ?_
          rintro e w2 ⟨co, n2, c2, rfl, hown, hb2⟩
          rw [HL.out, HR1.out] at hown
          rw [HL.out, HR0.out]
          have hrow := Row.own hown
          obtain rfl : 1 = n2 := hrow.len_eq
          obtain ⟨b2, o2, rfl, hcell⟩ := hrow.at_ (by omega)
          have hg0 := hcell 0 (by omega)
          rw [show [(G : Int)].getD 0 0 = (G : Int) from rfl, Nat.add_zero] at hg0
          have HB2 := Lib.hid (b_on HB1.out hb2)
          clear hb2 hown hrow hcell
          go_wp2_with fail
          refine (widths_any G w2 (by omega)).mono ?_
          rintro e w3 ⟨do_, cd, rfl, hrow, hb3⟩
          have HB3 := Lib.hid (b_on HB2.out hb3)
          have HRW3 := Lib.hid hrow
          clear hb3 hrow hg0
          go_wp2_with fail
          refine (read_any _ _ _ _ s w3 HRW3.out (by omega) hs).mono ?_
          rintro e w4 ⟨eo, n4, c4, rfl, hown, hb4⟩
          rw [HL.out] at hown
          rw [HL.out, HR4.out]
          have HB4 := Lib.hid (b_on HB3.out hb4)
          obtain ⟨R, hR⟩ : ∃ R, R = strOf (rdS (tabW G) l) := ⟨_, rfl⟩
          have hne := HNE.out
          rw [← hR] at hne ⊢
          have hemp : R.toList.isEmpty = false := by
            rw [ByteArray.toList_eq, List.isEmpty_eq_false_iff]
            intro hx
            apply hne
            have : R.data.toList.length = 0 := by rw [hx]; rfl
            simpa using this
          clear hb4 hown hR hne
          go_wp2_with fail
          go_ret2
          exact ⟨_, _, _, rfl, (fun h => by cases h), HB4.out⟩

theorem Row.setRow {kd : IntKind} {w : World} {ao : Option Addr} {len q : Nat} {xs : List Int} (h : Row kd w ao len xs) (hq : ∀ a, ao = some a → a.block ≠ q) (cs : Array Value) : Row kd (w.setRow q cs) ao len xs :=
  ⟨h.len_eq, fun hl => by
    obtain ⟨b, off, hb, hc⟩ := h.at_ hl
    exact ⟨b, off, hb, fun i hi => (cell_setRow_other w q cs ⟨b, off + i, none⟩ (show b ≠ q from hq ⟨b, off, none⟩ hb)).trans (hc i hi)⟩⟩
/-- what Parse's table is -/
def psN (l : List UInt8) (n k : Int) : Int := if paE l n k = 0 then n else 0
def psK (l : List UInt8) (n k : Int) : Int := if paE l n k = 0 then k else 0
theorem ps_ok {l : List UInt8} {n k : Int} (h : paE l n k = 0) : psN l n k = n ∧ psK l n k = k := ⟨by rw [psN, if_pos h], by rw [psK, if_pos h]⟩
theorem ps_bad {l : List UInt8} {n k : Int} (h : paE l n k ≠ 0) : psN l n k = 0 ∧ psK l n k = 0 := ⟨by rw [psN, if_neg h], by rw [psK, if_neg h]⟩

set_option maxRecDepth 100000 in
set_option maxHeartbeats 4000000 in
theorem parse_any (s : ByteArray) (n k : Int) (w : World) (hs : s.size ≤ 1000000) : Calls Tryz.prog 129 #[.string s, .int .i64 n, .int .i64 k] w fun e w' => e = .returned (.tuple #[.agg (ta (psN s.data.toList n k) (psK s.data.toList n k) (paM s.data.toList n k)), .int .i64 (paE s.data.toList n k)]) ∧ Below w.heap.size w w' := by
  obtain ⟨l, hl⟩ : ∃ l, s.data.toList = l := ⟨_, rfl⟩
  rw [hl]
  have HL := Lib.hid hl
  have hP0 := TAt.made w 0 0 []
  have hB0 := b_new w (.cells (ta 0 0 []) 88)
  obtain ⟨p, hp⟩ : ∃ p, p = w.heap.size := ⟨_, rfl⟩
  have hpw : w.heap.size ≤ p := by omega
  rw [← hp] at hP0
  have HP := Lib.hid hP0
  have HB := Lib.hid hB0
  clear hl hP0 hB0
  cases hm : mayB n k with
  | false =>
    have hE : paE l n k = 2 := pa_may hm
    obtain ⟨y1, y2, y3⟩ := nw_no hm
    obtain ⟨z1, z2⟩ := ps_bad (l := l) (n := n) (k := k) (by rw [hE]; decide)
    rw [z1, z2, paM_no (by rw [hE]; decide), hE]
    have HY := Lib.hid (And.intro y1 (And.intro y2 y3))
    clear hE y1 y2 y3 z1 z2 hm
    go_enter Tryz.func129, Tryz.ntmps129
    go_wp2_with (first | with_reducible refine wl_alloc ?_)
    rw [← hp]
    clear hp
    refine (new_any n k _).mono ?_
    rintro e w1 ⟨rfl, hb⟩
    rw [HY.out.1, HY.out.2.1, HY.out.2.2]
    have hP1 := HP.out.on hb
    have HB1 := Lib.hid (b_on HB.out hb)
    have hQ := TAt.made w1 0 0 []
    have sq := hQ.st 0 0 []
    have hP2 := hP1.new (.cells (ta 0 0 []) 88)
    rw [World.setRow_alloc_new] at sq
    have sp := hP2.st 0 0 []
    have zp := (hP2.put 0 0 []).ld
    have hB2 := b_row (b_nw HB1.out (.cells (ta 0 0 []) 88)) (p := p) hpw (ta 0 0 [])
    clear hb hP1 hQ hP2
    go_wp2_with (first | with_reducible refine wl_alloc ?_ | with_reducible refine wl_build0 ?_)
    exact bodyPost_ret (v := .tuple #[.agg (ta 0 0 []), .int .i64 2]) (by simp [results, Tryz.results129, go_sem, zp]) rfl ⟨rfl, hB2⟩
  | true =>
    obtain ⟨m1, m2, m3, m4⟩ := mayB_parts hm
    obtain ⟨y1, y2, y3⟩ := nw_yes hm
    have HY := Lib.hid (And.intro y1 (And.intro y2 y3))
    clear y1 y2 y3
    cases hf : paF l k with
    | false =>
      have hE : paE l n k = 4 := pa_form hm (by rw [paB, hf]; rfl)
      obtain ⟨z1, z2⟩ := ps_bad (l := l) (n := n) (k := k) (by rw [hE]; decide)
      rw [z1, z2, paM_no (by rw [hE]; decide), hE]
      have HF := Lib.hid hf
      clear hE z1 z2 hm hf
      go_enter Tryz.func129, Tryz.ntmps129
      go_wp2_with (first | with_reducible refine wl_alloc ?_)
      rw [← hp]
      clear hp
      refine (new_any n k _).mono ?_
      rintro e w1 ⟨rfl, hb⟩
      rw [HY.out.1, HY.out.2.1, HY.out.2.2]
      have hP1 := HP.out.on hb
      have HB1 := Lib.hid (b_nw (b_on HB.out hb) (.cells (ta n k []) 88))
      have sq := (TAt.made w1 0 0 []).st n k []
      rw [World.setRow_alloc_new] at sq
      have HP2 := Lib.hid (hP1.new (.cells (ta n k []) 88))
      clear hb hP1
      go_wp2_with (first | with_reducible refine wl_alloc ?_)
      refine (parse1_any s k _ hs m3 m4).mono ?_
      rintro e w2 ⟨ao, len, cap, rfl, _, hb⟩
      rw [HL.out, HF.out]
      have hP3 := HP2.out.on hb
      have sp := hP3.st 0 0 []
      have zp := (hP3.put 0 0 []).ld
      have hB3 := b_row (b_on HB1.out hb) (p := p) hpw (ta 0 0 [])
      clear hb hP3 sq
      go_wp2_with (first | with_reducible refine wl_build0 ?_)
      exact bodyPost_ret (v := .tuple #[.agg (ta 0 0 []), .int .i64 4]) (by simp [results, Tryz.results129, go_sem, zp]) rfl ⟨rfl, hB3⟩
    | true =>
      obtain ⟨N, hN⟩ : ∃ N, N = paN l := ⟨_, rfl⟩
      have hNk : (N : Int) ≤ k := by
        simp only [paF, Bool.and_eq_true, decide_eq_true_eq] at hf
        omega
      have HBAD := Lib.hid (show ∀ c, c < N → n ≤ paI l c → psN l n k = 0 ∧ psK l n k = 0 ∧ paM l n k = [] ∧ paE l n k = 4 from fun c hc hx => by
        have hE : paE l n k = 4 := pa_form hm (paB_bad (by rw [← hN]; exact hc) hx)
        obtain ⟨z1, z2⟩ := ps_bad (l := l) (n := n) (k := k) (by rw [hE]; decide)
        exact ⟨z1, z2, paM_no (by rw [hE]; decide), hE⟩)
      have HOK := Lib.hid (show (∀ c, c < N → paI l c < n) → psN l n k = n ∧ psK l n k = k ∧ paM l n k = paL l ∧ paE l n k = 0 from fun h => by
        have hE : paE l n k = 0 := pa_ok hm (paB_all hf (by rw [← hN]; exact h))
        obtain ⟨z1, z2⟩ := ps_ok (l := l) (n := n) (k := k) hE
        exact ⟨z1, z2, paM_ok hE, hE⟩)
      have HTK := Lib.hid (show ∀ c, c < N → (paL l).take (c + 1) = (paL l).take c ++ [paI l c] from fun c hc => paL_take l c (by rw [← hN]; exact hc))
      have HGD := Lib.hid (show ∀ c, c < N → (paL l).getD c 0 = paI l c from fun c hc => paL_getD l c (by rw [← hN]; exact hc))
      have HLEN := Lib.hid (show (paL l).length = N by rw [paL_length, hN])
      have HALL := Lib.hid (show (paL l).take N = paL l from List.take_of_length_le (by rw [HLEN.out]; exact Nat.le_refl _))
      have HGOOD := Lib.hid (show ∀ c, c ≤ N → (∀ j, j < c → paI l j < n) → Good n k ((paL l).take c) from fun c hc h => ⟨hm, by rw [List.length_take, HLEN.out]; omega, fun x hx => by
        obtain ⟨j, hj, e⟩ := List.mem_iff_getElem.1 hx
        rw [List.length_take, HLEN.out] at hj
        have e2 : x = paI l j := by
          rw [← e, List.getElem_take, ← HGD.out j (by omega), List.getD_eq_getElem?_getD, List.getElem?_eq_getElem (by rw [HLEN.out]; omega)]; rfl
        rw [e2]
        exact ⟨(paI_bd l j).1, h j (by omega)⟩⟩)
      have HF := Lib.hid hf
      have hN32 : N ≤ 32 := by omega
      clear hm hf hN
      go_enter Tryz.func129, Tryz.ntmps129
      go_wp2_with (first | with_reducible refine wl_alloc ?_)
      rw [← hp]
      clear hp
      refine (new_any n k _).mono ?_
      rintro e w1 ⟨rfl, hb⟩
      rw [HY.out.1, HY.out.2.1, HY.out.2.2]
      have hP1 := HP.out.on hb
      have hpq : p < w1.heap.size := hP1.lt
      have HB1 := Lib.hid (b_nw (b_on HB.out hb) (.cells (ta n k []) 88))
      have sq := (TAt.made w1 0 0 []).st n k []
      rw [World.setRow_alloc_new] at sq
      have HP2 := Lib.hid (hP1.new (.cells (ta n k []) 88))
      have hQ2 := TAt.made w1 n k []
      obtain ⟨q, hq⟩ : ∃ q, q = w1.heap.size := ⟨_, rfl⟩
      rw [← hq] at hQ2 hpq
      have HQ2 := Lib.hid hQ2
      have hqs : (w1.alloc (.cells (ta n k []) 88)).heap.size = q + 1 := by rw [hq]; simp
      have hqw : w.heap.size ≤ q := by omega
      clear hb hP1 hQ2
      go_wp2_with (first | with_reducible refine wl_alloc ?_)
      rw [← hq]
      clear hq
      refine (parse1_any s k _ hs m3 m4).mono ?_
      rintro e w2 ⟨ao, len, cap, rfl, hrow, hb⟩
      rw [HL.out, HF.out]
      rw [HL.out, hqs] at hrow
      obtain ⟨hrow, hlc, hnew⟩ := hrow HF.out
      obtain rfl : N = len := by rw [← hrow.len_eq, HLEN.out]
      have HP3 := Lib.hid (HP2.out.on hb)
      have HQ3 := Lib.hid (HQ2.out.on hb)
      have HB3 := Lib.hid (b_on HB1.out hb)
      have HR3 := Lib.hid hrow
      have HOF := Lib.hid (show ∀ a, ao = some a → a.block ≠ q ∧ a.block ≠ p from fun a ha => by have := hnew a ha; omega)
      clear hb sq hqs HP2 HQ2 HB1 HB HP hrow hnew
      go_wp2_with fail
      go_loopw [9, 35] (fun e i wr => ∃ c : Nat, c ≤ N ∧ i = .int .i64 c ∧ e = .int .i64 0 ∧ TAt wr q n k ((paL l).take c) ∧ TAt wr p 0 0 [] ∧ (∀ j, j < c → paI l j < n) ∧ Row .u64 wr ao N (paL l) ∧ Below w.heap.size w wr) (fun _ i _ => N - (intOf i).toNat)
      case atStart => exact ⟨0, Nat.zero_le _, rfl, rfl, HQ3.out, HP3.out, fun j hj => absurd hj (Nat.not_lt_zero _), HR3.out, HB3.out⟩
      case round =>
        obtain ⟨c, hc, rfl, rfl, hq, hp, hall, hr, hbr⟩ := hrel
        clear HP3 HQ3 HB3 HR3
        by_cases hlt : c < N
        · obtain ⟨b, off, rfl, hcell⟩ := hr.at_ (by omega)
          have ec := hcell c hlt
          rw [HGD.out c hlt] at ec
          obtain ⟨x, hx⟩ : ∃ x, x = paI l c := ⟨_, rfl⟩
          have hxb : 0 ≤ x ∧ x < 65536 := by rw [hx]; exact paI_bd l c
          rw [← hx] at ec
          obtain ⟨hx0, hx1⟩ := hxb
          have hwx : IntKind.i64.wrap x = x := IntWalk.i64_in _ (by omega)
          have HG := Lib.hid (HGOOD.out c hc hall)
          have HQ := Lib.hid hq
          have HP := Lib.hid hp
          have HR := Lib.hid hr
          have HB := Lib.hid hbr
          have HAL := Lib.hid hall
          have HX := Lib.hid hx
          have e0 := hq.ld
          have hlenc : ((paL l).take c).length = c := by rw [List.length_take, HLEN.out]; omega
          have HLC := Lib.hid hlenc
          clear hcell hx hq hp hr hbr hall hlenc
          go_wp2_with fail
          refine (move_any n k x _ _ HG.out).mono ?_
          rintro e w3 ⟨rfl, hb⟩
          have hQ3 := HQ.out.on hb
          have hP3 := HP.out.on hb
          have hR3 := HR.out.below hb (Nat.le_refl _)
          have hB3 := b_on HB.out hb
          by_cases hxn : x < n
          · have hE := mv_yes (n := n) (k := k) (m := (paL l).take c) hx0 hxn (by rw [HLC.out]; omega)
            obtain ⟨v1, v2, v3⟩ := mv_ok hE
            rw [v1, v2, v3, hE, HX.out, ← HTK.out c hlt]
            have sq := hQ3.st n k ((paL l).take (c + 1))
            have HQ4 := Lib.hid (hQ3.put n k ((paL l).take (c + 1)))
            have HP4 := Lib.hid (hP3.putOther (q := q) (by omega) (ta n k ((paL l).take (c + 1))))
            have HR4 := Lib.hid (Row.setRow hR3 (q := q) (fun a ha => (HOF.out a ha).1) (ta n k ((paL l).take (c + 1))))
            have HB4 := Lib.hid (b_row hB3 (p := q) hqw (ta n k ((paL l).take (c + 1))))
            clear hb hQ3 hP3 hR3 hB3 hE v1 v2 v3 e0 ec
            go_wp2_with fail
            go_roundw
            case rel =>
              refine ⟨c + 1, by omega, by go_num, rfl, HQ4.out, HP4.out, fun j hj => ?_, HR4.out, HB4.out⟩
              by_cases hjc : j < c
              · exact HAL.out j hjc
              · obtain rfl : j = c := by omega
                rw [← HX.out]; exact hxn
            case measure => simp [intOf]; omega
          · have hE := mv_no (n := n) (k := k) (m := (paL l).take c) (b := x) (by omega)
            obtain ⟨v1, v2, v3⟩ := mv_bad (n := n) (k := k) (m := (paL l).take c) (b := x) (by rw [hE]; decide)
            rw [v1, v2, v3, hE]
            obtain ⟨z1, z2, z3, z4⟩ := HBAD.out c hlt (by rw [← HX.out]; omega)
            have HZ := Lib.hid (And.intro z1 (And.intro z2 (And.intro z3 z4)))
            have sq := hQ3.st 0 0 []
            have hP4 := hP3.putOther (q := q) (by omega) (ta 0 0 [])
            have sp := hP4.st 0 0 []
            have zp := (hP4.put 0 0 []).ld
            have hB4 := b_row (b_row hB3 (p := q) hqw (ta 0 0 [])) (p := p) hpw (ta 0 0 [])
            clear hb hQ3 hP3 hR3 hB3 hP4 hE v1 v2 v3 z1 z2 z3 z4 e0 ec
            go_wp2_with (first | with_reducible refine wl_build0 ?_)
            exact bodyPost_ret (v := .tuple #[.agg (ta 0 0 []), .int .i64 4]) (by simp [results, Tryz.results129, go_sem, zp]) rfl ⟨by rw [HZ.out.1, HZ.out.2.1, HZ.out.2.2.1, HZ.out.2.2.2], hB4⟩
        · obtain rfl : c = N := by omega
          rw [HALL.out] at hq
          have e0 := hq.ld
          have sp := hp.st n k (paL l)
          have zp := (hp.put n k (paL l)).ld
          have hB4 := b_row hbr (p := p) hpw (ta n k (paL l))
          have HZ := Lib.hid (HOK.out hall)
          clear hq hp hr hbr hall
          go_wp2_with fail
          exact bodyPost_ret (v := .tuple #[.agg (ta n k (paL l)), .int .i64 0]) (by simp [results, Tryz.results129, go_sem, zp]) rfl ⟨by rw [HZ.out.1, HZ.out.2.1, HZ.out.2.2.1, HZ.out.2.2.2], hB4⟩
end Go.Proofs.YtflanjcfkdjpjaaGreatDoor.Tab

/- A region that draws its order, and whose operations may write, where what is kept speaks of the frame, too: for blocks whose address the order decides. -/
namespace Go.Proofs.YtflanjcfkdjpjaaGreatDoor.Reg
open Go Go.RowKit
section
variable {P : Program} {ops : Array Oper} {Q : Exit → Act → World → Prop}

structure St3 (ops : Array Oper) (V : Tmp → Value → World → Prop) (Inv : (Nat → Bool) → Act → World → Prop) (a0 : Act) (listed : Array Bool) (a : Act) (w : World) : Prop where
  size : a.tmps.size = a0.tmps.size
  defers : a.defers = a0.defers
  inv : Inv (fun j => listed.getD j false) a w
  lsize : listed.size = ops.size
  val : ∀ i d, dstOf ops i = some d → listed.getD i false = true → V d (a.tmps.getD d undef) w
  out : ∀ t, (dsts ops).contains t = false → a.tmps.getD t undef = a0.tmps.getD t undef
  closed : ∀ i o, ops[i]? = some o → listed.getD i false = true → ∀ e ∈ o.after, Region.binds .any e = true → listed.getD e.on false = true
  old : ∀ i d, dstOf ops i = some d → listed.getD i false = false → a.tmps.getD d undef = a0.tmps.getD d undef

def Did3 (V : Tmp → Value → World → Prop) (Inv : (Nat → Bool) → Act → World → Prop) (Rel : World → World → Prop) (l : Nat → Bool) (i : Nat) (o : Oper) (a : Act) (w : World) : Act → World → Prop :=
  fun a' w' => ∃ v, a' = a.put o.dst v ∧ (∀ d, o.dst = some d → V d v w') ∧ Inv (lset l i) (a.put o.dst v) w' ∧ Rel w w'
/-- what is to be shown of one operation: l tells which have come up; none that waits for this one has -/
def Step3 (P : Program) (ops : Array Oper) (Q : Exit → Act → World → Prop) (V : Tmp → Value → World → Prop) (Inv : (Nat → Bool) → Act → World → Prop) (Rel : World → World → Prop) (a0 : Act) (i : Nat) (o : Oper) : Prop :=
  ∀ (a : Act) (w : World) (l : Nat → Bool), a.tmps.size = a0.tmps.size → Inv l a w → l i = false → (∀ j, Region.waitsFor .any ops i j = true → l j = true) →
    (∀ j, Region.waitsFor .any ops j i = true → l j = false) → (∀ j d, dstOf ops j = some d → l j = false → a.tmps.getD d undef = a0.tmps.getD d undef) →
    (∀ t, (deps ops o).contains t = true → V t (a.tmps.getD t undef) w) → (∀ t, (dsts ops).contains t = false → a.tmps.getD t undef = a0.tmps.getD t undef) →
    Oper.wp P o a w (Did3 V Inv Rel l i o a w) Q
/-- of all of them, one by one -/
def Steps3 (P : Program) (ops : Array Oper) (Q : Exit → Act → World → Prop) (V : Tmp → Value → World → Prop) (Inv : (Nat → Bool) → Act → World → Prop) (Rel : World → World → Prop) (a0 : Act) : Nat → List Oper → Prop
  | _, [] => True
  | i, o :: l => Step3 P ops Q V Inv Rel a0 i o ∧ Steps3 P ops Q V Inv Rel a0 (i + 1) l
theorem Steps3.at {V : Tmp → Value → World → Prop} {Inv : (Nat → Bool) → Act → World → Prop} {Rel : World → World → Prop} {a0 : Act} {l : List Oper} : ∀ {k : Nat}, Steps3 P ops Q V Inv Rel a0 k l → ∀ i o, l[i]? = some o → Step3 P ops Q V Inv Rel a0 (k + i) o := by
  induction l with
  | nil => intro k _ i o ho; simp at ho
  | cons x l ih =>
    intro k h i o ho
    cases i with
    | zero => simp at ho; subst ho; exact h.1
    | succ i => have := ih h.2 i o (by simpa using ho); rwa [show k + 1 + i = k + (i + 1) by omega] at this

theorem wpAny_specs3 (V : Tmp → Value → World → Prop) (Inv : (Nat → Bool) → Act → World → Prop) (Rel : World → World → Prop) (a0 : Act) (hok : okOps a0.tmps.size ops = true)
    (hV : ∀ t v w w', V t v w → Rel w w' → V t v w')
    (hg : ∀ p ∈ guards ops, ∀ v w, V p.1 v w → v = .bool p.2)
    (hstep : Steps3 P ops Q V Inv Rel a0 0 ops.toList)
    (hend : ∀ (a : Act) (w : World), a.tmps.size = a0.tmps.size → a.defers = a0.defers → Inv (fun j => decide (j < ops.size)) a w → (∀ t, (dsts ops).contains t = true → V t (a.tmps.getD t undef) w) →
      (∀ t, (dsts ops).contains t = false → a.tmps.getD t undef = a0.tmps.getD t undef) → Q .normal a w) :
    ∀ (fuel : Nat) (listed : Array Bool) (a : Act) (w : World), left listed ≤ fuel → St3 ops V Inv a0 listed a w → wpAny P .any ops Q fuel listed a w := by
  have hfin : ∀ (listed : Array Bool) (a : Act) (w : World), St3 ops V Inv a0 listed a w → Region.ready .any ops listed = [] → Q .normal a w := by
    intro listed a w hst hr
    have hall := ready_nil hok hst.lsize hr
    have hinv := hst.inv
    rw [show (fun j => listed.getD j false) = fun j => decide (j < ops.size) from funext fun j => by
      by_cases hj : j < ops.size
      · simp only [hj, decide_true]; exact hall j hj
      · rw [Array.getD_eq_getD_getElem?, Array.getElem?_eq_none (by rw [hst.lsize]; omega)]; simp [hj]] at hinv
    refine hend a w hst.size hst.defers hinv (fun t ht => ?_) hst.out
    have hm : t ∈ dsts ops := by simpa using ht
    obtain ⟨o, ho, hod⟩ := List.mem_filterMap.1 hm
    obtain ⟨i, hi, hio⟩ := List.mem_iff_getElem.1 ho
    have hio' : ops[i]? = some o := by rw [Array.getElem?_eq_getElem (by simpa using hi)]; simpa using hio
    exact hst.val i t (by unfold dstOf; rw [hio']; exact hod) (ready_nil hok hst.lsize hr i (by simpa using hi))
  intro fuel
  induction fuel with
  | zero =>
    intro listed a w hf hst
    have hr : Region.ready .any ops listed = [] := by
      cases h : Region.ready .any ops listed with
      | nil => rfl
      | cons i l =>
        have hi : i ∈ Region.ready .any ops listed := by rw [h]; exact List.mem_cons_self
        have := left_set listed i (mem_ready.1 hi).1
        omega
    exact ⟨hr, hfin listed a w hst hr⟩
  | succ fuel ih =>
    intro listed a w hf hst
    refine ⟨hfin listed a w hst, fun i hi => ?_⟩
    obtain ⟨hun, o, ho, hall⟩ := mem_ready.1 hi
    have hlt : i < ops.size := (Array.getElem?_eq_some_iff.1 ho).1
    have hmem : o ∈ ops.toList := by have := Array.mem_of_getElem? ho; simpa using this
    have hdep : ∀ t, (deps ops o).contains t = true → V t (a.tmps.getD t undef) w := by
      intro t ht
      have hm : t ∈ deps ops o := by simpa using ht
      obtain ⟨e, he, het⟩ := List.mem_filterMap.1 hm
      by_cases hbn : Region.binds .any e = true
      · rw [if_pos hbn] at het
        exact hst.val e.on t het (hall e (by simpa using he) hbn)
      · rw [if_neg hbn] at het; cases het
    have hw : Region.wanted o (yielded ops a.tmps) = true := by
      unfold Region.wanted
      cases hgd : o.guard with
      | none => rfl
      | some p =>
        obtain ⟨j, b⟩ := p
        obtain ⟨d, hd, hdc, hdn⟩ := (okOps_back hok ho).2 j b hgd
        have hv := hg (d, b) (List.mem_filterMap.2 ⟨o, hmem, by rw [hgd]; simp [hd]⟩) _ _ (hdep d hdc)
        have hsz : d < a.tmps.size := by rw [hst.size]; exact hdn
        have hs : a.tmps[d]? = some (.bool b) := by
          rw [Array.getElem?_eq_getElem hsz]
          rw [Array.getD_eq_getD_getElem?, Array.getElem?_eq_getElem hsz] at hv
          simpa using hv
        unfold dstOf at hd
        simp [yielded, hd, hs]
    have hunf : listed.getD i false = false := by
      have hlt' : i < listed.size := by rw [hst.lsize]; exact hlt
      rw [Array.getD_eq_getD_getElem?, Array.getElem?_eq_getElem hlt'] at hun ⊢
      simpa using hun
    have hstp := hstep.at i o (by simpa using ho)
    rw [Nat.zero_add] at hstp
    have hstp := hstp a w (fun j => listed.getD j false) hst.size hst.inv hunf (fun j hj => by
      obtain ⟨oj, hoj, e, he, hb, hei⟩ := Region.waitsFor_spec hj
      rw [ho] at hoj; cases hoj
      rw [← hei]; exact hall e he hb) (fun j hj => by
      obtain ⟨o', hoj, e, he, hb, hei⟩ := Region.waitsFor_spec hj
      cases hlj : listed.getD j false with
      | false => rfl
      | true => have := hst.closed j o' hoj hlj e he hb; rw [hei, hunf] at this; cases this) hst.old hdep hst.out
    unfold wpOp
    simp only [ho]
    rw [if_pos hw]
    refine .inl (Oper.wp_mono (fun a' w' hk => ?_) hstp)
    obtain ⟨v, rfl, hv, hinv, hb⟩ := hk
    refine ih _ _ _ (by have := left_set listed i hun; omega) ⟨by rw [size_put]; exact hst.size, by rw [defers_put]; exact hst.defers, by rw [show (fun j => (listed.setIfInBounds i true).getD j false) = lset (fun j => listed.getD j false) i from funext fun j => getD_listed _ _ _ (by rw [hst.lsize]; exact hlt)]; exact hinv, by simpa using hst.lsize, fun k d hk hl => ?_, fun t ht => ?_, fun k o' hk hl e he hbn => ?_, fun k d hk hl => ?_⟩
    · rw [getD_listed _ _ _ (by rw [hst.lsize]; exact hlt)] at hl
      cases hod : o.dst with
      | none =>
        by_cases e : i = k
        · subst e; unfold dstOf at hk; rw [ho] at hk; simp [hod] at hk
        · rw [if_neg e] at hl; exact hV _ _ _ _ (hst.val k d hk hl) hb
      | some c =>
        have hc : dstOf ops i = some c := by unfold dstOf; rw [ho]; exact hod
        have hcs : c < a.tmps.size := by rw [hst.size]; exact okOps_lt hok (dstOf_mem hc)
        rw [getD_put _ _ _ _ hcs]
        by_cases e : i = k
        · subst e
          rw [hc] at hk; cases hk
          rw [if_pos rfl]; exact hv _ hod
        · rw [if_neg e] at hl
          have : ¬ c = d := fun h => e (okOps_inj hok hc (by rw [h]; exact hk))
          rw [if_neg this]
          exact hV _ _ _ _ (hst.val k d hk hl) hb
    · cases hod : o.dst with
      | none => exact hst.out t ht
      | some c =>
        have hc : dstOf ops i = some c := by unfold dstOf; rw [ho]; exact hod
        have hcs : c < a.tmps.size := by rw [hst.size]; exact okOps_lt hok (dstOf_mem hc)
        rw [getD_put _ _ _ _ hcs, if_neg (fun h => ?_)]
        · exact hst.out t ht
        · subst h; have := dstOf_mem hc; simp at ht; exact ht this
    · rw [getD_listed _ _ _ (by rw [hst.lsize]; exact hlt)] at hl ⊢
      by_cases e1 : i = e.on
      · rw [if_pos e1]
      · rw [if_neg e1]
        by_cases e2 : i = k
        · subst e2; rw [ho] at hk; cases hk; exact hall e he hbn
        · rw [if_neg e2] at hl; exact hst.closed k o' hk hl e he hbn
    · rw [getD_listed _ _ _ (by rw [hst.lsize]; exact hlt)] at hl
      by_cases e1 : i = k
      · rw [if_pos e1] at hl; cases hl
      · rw [if_neg e1] at hl
        cases hod : o.dst with
        | none => exact hst.old k d hk hl
        | some c =>
          have hc : dstOf ops i = some c := by unfold dstOf; rw [ho]; exact hod
          have hcs : c < a.tmps.size := by rw [hst.size]; exact okOps_lt hok (dstOf_mem hc)
          rw [getD_put _ _ _ _ hcs, if_neg (fun h => ?_)]
          · exact hst.old k d hk hl
          · subst h; exact e1 (okOps_inj hok hc hk)

/-- The law: whatever the order. -/
theorem region_specs3 {id : Nat} {a0 : Act} {w : World} (hm : P.follows .mixedOrders = true) (V : Tmp → Value → World → Prop) (Inv : (Nat → Bool) → Act → World → Prop) (Rel : World → World → Prop) (hok : okOps a0.tmps.size ops = true)
    (hV : ∀ t v w w', V t v w → Rel w w' → V t v w')
    (hg : ∀ p ∈ guards ops, ∀ v w, V p.1 v w → v = .bool p.2)
    (h0 : Inv (fun _ => false) a0 w.drew)
    (hstep : Steps3 P ops Q V Inv Rel a0 0 ops.toList)
    (hend : ∀ (a : Act) (w : World), a.tmps.size = a0.tmps.size → a.defers = a0.defers → Inv (fun j => decide (j < ops.size)) a w → (∀ t, (dsts ops).contains t = true → V t (a.tmps.getD t undef) w) →
      (∀ t, (dsts ops).contains t = false → a.tmps.getD t undef = a0.tmps.getD t undef) → Q .normal a w) :
    (Code.region id ops true).wp P Q a0 w :=
  wp_region_any hm (wpAny_specs3 V Inv Rel a0 hok hV hg hstep hend _ _ _ _ (by rw [left_all]; exact Nat.le_refl _)
    ⟨rfl, rfl, by rw [show (fun j => (Array.replicate ops.size false).getD j false) = fun _ => false from funext fun j => by simp [Array.getD_eq_getD_getElem?, Array.getElem?_replicate]; split <;> rfl]; exact h0, by simp, fun i d _ h => by
      rw [Array.getD_eq_getD_getElem?] at h
      by_cases hi : i < ops.size
      · simp [hi] at h
      · simp [Array.getElem?_eq_none (by simpa using hi : (Array.replicate ops.size false).size ≤ i)] at h, fun _ _ => rfl, fun i o _ h => by
      rw [Array.getD_eq_getD_getElem?] at h
      by_cases hi : i < ops.size
      · simp [hi] at h
      · simp [Array.getElem?_eq_none (by simpa using hi : (Array.replicate ops.size false).size ≤ i)] at h, fun _ _ _ _ => rfl⟩)


section
variable {V : Tmp → Value → World → Prop} {Inv : (Nat → Bool) → Act → World → Prop} {Rel : World → World → Prop} {o : Oper} {a : Act} {w : World} {l : Nat → Bool} {i : Nat}
theorem step3_val (v : Value) (hr : (execOp a.eval o).run P w = .ok (.value v) w) (hv : VO V o.dst v w) (hI : Inv (lset l i) (a.put o.dst v) w) (hR : Rel w w) :
    Oper.wp P o a w (Did3 V Inv Rel l i o a w) Q := by
  unfold Oper.wp; rw [hr]; exact ⟨v, rfl, hv.all, hI, hR⟩
theorem step3_move (x : Operand) (ho : o.op = .move x) (hv : VO V o.dst (a.eval x) w) (hI : Inv (lset l i) (a.put o.dst (a.eval x)) w) (hR : Rel w w) :
    Oper.wp P o a w (Did3 V Inv Rel l i o a w) Q :=
  step3_val (a.eval x) (by unfold execOp; rw [ho]; rfl) hv hI hR
theorem step3_assign (x : Operand) (ho : o.op = .assign x) (hv : VO V o.dst (a.eval x) w) (hI : Inv (lset l i) (a.put o.dst (a.eval x)) w) (hR : Rel w w) :
    Oper.wp P o a w (Did3 V Inv Rel l i o a w) Q :=
  step3_val (a.eval x) (by unfold execOp; rw [ho]; rfl) hv hI hR
theorem step3_do (v : Value) (w2 : World) (hr : (execOp a.eval o).run P w = .ok (.value v) w2) (hv : VO V o.dst v w2) (hI : Inv (lset l i) (a.put o.dst v) w2) (hR : Rel w w2) :
    Oper.wp P o a w (Did3 V Inv Rel l i o a w) Q := by
  unfold Oper.wp; rw [hr]; exact ⟨v, rfl, hv.all, hI, hR⟩
theorem step3_skip (w2 : World) (ho : o.dst = none) (hr : (execOp a.eval o).run P w = .ok .skip w2) (hI : Inv (lset l i) a w2) (hR : Rel w w2) :
    Oper.wp P o a w (Did3 V Inv Rel l i o a w) Q := by
  unfold Oper.wp; rw [hr]
  exact ⟨undef, by rw [ho], (fun d hd => by rw [ho] at hd; cases hd), by rw [ho]; exact hI, hR⟩
theorem step3_call (f : FuncId) (args : Array Value) (hr : (execOp a.eval o).run P w = .ok (.enter f args) w)
    (hc : Calls P f args w fun e w' => ∃ v, e = .returned v ∧ VO V o.dst v w' ∧ Inv (lset l i) (a.put o.dst v) w' ∧ Rel w w') :
    Oper.wp P o a w (Did3 V Inv Rel l i o a w) Q := by
  unfold Oper.wp; rw [hr]
  refine hc.mono ?_
  rintro e w' ⟨v, rfl, hv, hI, hR⟩
  exact ⟨v, rfl, hv.all, hI, hR⟩
end
end

theorem step2_skip {P : Program} {Q : Exit → Act → World → Prop} {V : Tmp → Value → World → Prop} {Inv : (Nat → Bool) → World → Prop} {Rel : World → World → Prop} {o : Oper} {a : Act} {w : World} {l : Nat → Bool} {i : Nat}
    (w2 : World) (ho : o.dst = none) (hr : (execOp a.eval o).run P w = .ok .skip w2) (hI : Inv (lset l i) w2) (hR : Rel w w2) :
    Oper.wp P o a w (Did V Inv Rel l i o a w) Q := by
  unfold Oper.wp; rw [hr]
  exact ⟨undef, by rw [ho], (fun d hd => by rw [ho] at hd; cases hd), hI, hR⟩
/-- The law: the slots of S are filled so, those of D by somewhat of which Inv tells. -/
theorem region_vals3 {P : Program} {ops : Array Oper} {Q : Exit → Act → World → Prop} {id : Nat} {a0 : Act} {w : World} (hm : P.follows .mixedOrders = true) (S : List (Tmp × Value)) (D : List Tmp) (Inv : (Nat → Bool) → Act → World → Prop)
    (hok : okOps a0.tmps.size ops = true) (hkeys : decide (S.map (·.1)).Nodup = true) (hdn : decide D.Nodup = true) (hcov : (dsts ops).all (fun t => (S.map (·.1)).contains t != D.contains t) && (S.map (·.1)).all (fun t => (dsts ops).contains t) && D.all (fun t => (dsts ops).contains t) = true) (hg : guardsV S (guards ops) = true)
    (h0 : Inv (fun _ => false) a0 w.drew)
    (hstep : Steps3 P ops Q (VV S) Inv (fun _ _ => True) a0 0 ops.toList)
    (hend : ∀ w (v : Tmp → Value) (a : Act), (∀ d, D.contains d = true → a.tmps.getD d undef = v d) → Inv (fun j => decide (j < ops.size)) a w → Q .normal { tmps := fill (D.map fun d => (d, v d)) (fill S a0.tmps), defers := a0.defers } w) :
    (Code.region id ops true).wp P Q a0 w := by
  refine region_specs3 hm (VV S) Inv (fun _ _ => True) hok (fun _ _ _ _ h _ => h) ?_ h0 hstep ?_
  · intro p hp v w hv
    have := List.all_eq_true.1 hg p hp
    unfold VV at hv
    split at this
    · rename_i b hl
      rw [hl] at hv
      rw [hv, eq_of_beq this]
    · cases this
  · intro a w hsz hdf hI hd ho
    have hnd : (S.map (·.1)).Nodup := by simpa using hkeys
    have hnD : ((D.map fun d => (d, a.tmps.getD d undef)).map (·.1)).Nodup := by
      rw [List.map_map]
      have : (D.map ((fun x => x.1) ∘ fun d => (d, a.tmps.getD d undef))) = D := by
        conv => rhs; rw [← List.map_id D]
        rfl
      rw [this]; simpa using hdn
    have hlD : ∀ (L : List Tmp) (i : Tmp), (L.map fun d => (d, a.tmps.getD d undef)).lookup i = if L.contains i then some (a.tmps.getD i undef) else none := by
      intro L i
      induction L with
      | nil => rfl
      | cons x L ih =>
        simp only [List.map_cons, List.lookup_cons]
        by_cases e : i = x
        · subst e; simp
        · have hb : (i == x) = false := by simpa using e
          simp only [hb, ih, List.contains_cons, Bool.false_or]
    simp only [Bool.and_eq_true, List.all_eq_true] at hcov
    obtain ⟨⟨hc1, hc2⟩, hc3⟩ := hcov
    have e : a = { tmps := fill (D.map fun d => (d, a.tmps.getD d undef)) (fill S a0.tmps), defers := a0.defers } := by
      obtain ⟨tm, df⟩ := a
      simp only at hsz hdf hd ho hnD hlD
      subst hdf
      congr 1
      apply Array.ext_getElem?
      intro i
      by_cases hi : i < a0.tmps.size
      · rw [fill_get _ _ i hnD (by rw [fill_size]; exact hi), hlD D i]
        have hti : tm[i]? = some (tm.getD i undef) := by
          rw [Array.getD_eq_getD_getElem?, Array.getElem?_eq_getElem (by omega)]; rfl
        cases hD : D.contains i with
        | true => simp only [if_true]; exact hti
        | false =>
          simp only [Bool.false_eq_true, if_false]
          rw [fill_get S _ i hnd hi]
          cases hc : (dsts ops).contains i with
          | true =>
            have h1 := hc1 i (by simpa using hc)
            rw [hD] at h1
            have hm' : i ∈ S.map (·.1) := by simpa using h1
            obtain ⟨x, hx⟩ := lookup_mem S i hm'
            have hv := hd i hc
            unfold VV at hv
            rw [hx] at hv ⊢
            rw [hti, hv]
          | false =>
            have hl : S.lookup i = none := by
              rw [List.lookup_eq_none_iff]
              intro q hq
              have : ¬ i ∈ S.map (·.1) := fun hh => by have := hc2 i hh; rw [hc] at this; cases this
              simp; intro e'; exact this (List.mem_map.2 ⟨q, hq, e'.symm⟩)
            rw [hl, hti, ho i hc, Array.getD_eq_getD_getElem?, Array.getElem?_eq_getElem hi]; rfl
      · rw [Array.getElem?_eq_none (by omega), Array.getElem?_eq_none (by rw [fill_size, fill_size]; omega)]
    have := hend w (fun d => a.tmps.getD d undef)
    have := this a (fun _ _ => rfl) hI
    rwa [← e] at this
end Go.Proofs.YtflanjcfkdjpjaaGreatDoor.Reg

/- A drawn region with one new block, whose place the order decides, and that is filled at its end. -/
namespace Go.Proofs.YtflanjcfkdjpjaaGreatDoor
open Go Go.RowKit

def Uno (w0 : World) (d ia js : Nat) (t : TypeId) (zs cs : List Value) (l : Nat → Bool) (a : Act) (w : World) : Prop :=
  Below w0.heap.size w0 w ∧ (l ia = true → ∃ g, a.tmps.getD d undef = .pointer (some ⟨g, 0, none⟩) ∧ w0.heap.size ≤ g ∧ Has w g t (if l js = true then cs else zs))
section
variable {w0 w : World} {d ia js : Nat} {t : TypeId} {zs cs : List Value} {l : Nat → Bool} {a : Act}
theorem Uno.start (a : Act) : Uno w0 d ia js t zs cs (fun _ => false) a w0.drew := ⟨(Below.refl _ _).drew, fun h => by cases h⟩
theorem lset_ne {i k : Nat} (h : i ≠ k) : Reg.lset l i k = l k := by unfold Reg.lset; rw [if_neg h]
theorem lset_eq {i : Nat} : Reg.lset l i i = true := by unfold Reg.lset; rw [if_pos rfl]
theorem Uno.keep (h : Uno w0 d ia js t zs cs l a w) {i c : Nat} (v : Value) {w' : World} (hb : Below w.heap.size w w') (h1 : i ≠ ia) (h2 : i ≠ js) (h5 : c ≠ d) (hc : c < a.tmps.size) :
    Uno w0 d ia js t zs cs (Reg.lset l i) (a.put (some c) v) w' := by
  refine ⟨h.1.trans (hb.mono h.1.size), fun hl => ?_⟩
  rw [lset_ne h1] at hl
  obtain ⟨g, e1, e2, e3⟩ := h.2 hl
  refine ⟨g, by rw [Reg.getD_put _ _ _ _ hc, if_neg h5]; exact e1, e2, ?_⟩
  rw [lset_ne h2]; exact e3.below hb e3.lt
theorem Uno.mk (h : Uno w0 d ia js t zs cs l a w) (hl : l js = false) (hn : ia ≠ js) (hc : d < a.tmps.size) :
    Uno w0 d ia js t zs cs (Reg.lset l ia) (a.put (some d) (.pointer (some ⟨w.heap.size, 0, none⟩))) (w.alloc (.cells zs.toArray t)) := by
  refine ⟨h.1.alloc h.1.size _, fun _ => ⟨w.heap.size, by rw [Reg.getD_put _ _ _ _ hc, if_pos rfl], h.1.size, ?_⟩⟩
  rw [lset_ne hn, hl]; exact Has.new _ _ _
theorem Uno.st (h : Uno w0 d ia js t zs cs l a w) (h1 : l ia = true) (hl : l js = false) (_ : js ≠ ia) :
    ∃ g, a.tmps.getD d undef = .pointer (some ⟨g, 0, none⟩) ∧ w0.heap.size ≤ g ∧ Has w g t zs ∧ Below w0.heap.size w0 w ∧ ∀ w2, Has w2 g t cs → Below w0.heap.size w0 w2 → Uno w0 d ia js t zs cs (Reg.lset l js) a w2 := by
  obtain ⟨g, e1, e2, e3⟩ := h.2 h1
  rw [hl] at e3
  refine ⟨g, e1, e2, e3, h.1, fun w2 hh hb => ⟨hb, fun _ => ⟨g, e1, e2, ?_⟩⟩⟩
  rw [lset_eq]; exact hh
theorem Uno.done {n : Nat} (h : Uno w0 d ia js t zs cs (fun j => decide (j < n)) a w) (h1 : ia < n) (h2 : js < n) :
    ∃ g, a.tmps.getD d undef = .pointer (some ⟨g, 0, none⟩) ∧ w0.heap.size ≤ g ∧ Has w g t cs ∧ Below w0.heap.size w0 w := by
  obtain ⟨g, e1, e2, e3⟩ := h.2 (by simpa using h1)
  simp only [show decide (js < n) = true from decide_eq_true h2, if_true] at e3
  exact ⟨g, e1, e2, e3, h.1⟩
end
end Go.Proofs.YtflanjcfkdjpjaaGreatDoor

