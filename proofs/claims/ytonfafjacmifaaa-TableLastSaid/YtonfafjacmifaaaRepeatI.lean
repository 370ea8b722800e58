/- Contracts: slices.Repeat of one int. -/
import Derived.Deep.DeepCutAuto
import Derived.Test.YtonfafjacmifaaaRegionW
import Derived.Test.YtonfafjacmifaaaRefTab
import Derived.Test.YtonfafjacmifaaaHeap
import Derived.Test.YtonfafjacmifaaaShelf
import Derived.Laws.CopyOwn
import Derived.WalkLawsBesides
import Derived.WalkSpells
import Derived.Outline
namespace Go.Proofs.Ytonfafjacmifaaa.Rep
open Go.RowKit Go.Proofs.Ytonfafjacmifaaa
set_option linter.unusedVariables false

theorem run_copy_rowK {P : Program} (w : World) (dT sT ty elem : TypeId) (sz : Nat) (g o dLen dCap : Nat) (a : Addr) (sLen sCap : Nat) (cur : Array Value) (t : TypeId) (cs : List Value)
    (hu : P.underlying dT = some (.slice elem)) (hs : (P.info? elem).map (·.size) = some sz)
    (hg : w.heap[g]? = some (.cells cur t (0, 0))) (hn : cs.length = Nat.min sLen dLen * sz)
    (hsrc : ∀ j v, cs[j]? = some v → w.cell? (a.add j) = some v) (hfit : o + cs.length ≤ cur.size) (h1 : ∀ v ∈ cs, v.oneCell' = true) :
    (Builtin.copy_ #[dT, sT] ty #[.slice (some ⟨g, o, none⟩) dLen dCap, .slice (some a) sLen sCap]).run P w =
      .ok (goInt (Nat.min sLen dLen)) (w.setRow g (cur.toList.take o ++ cs ++ cur.toList.drop (o + cs.length)).toArray) := by
  have hst := run_storeCells_at P g o t cs 0 cur w hg (by simpa using hfit) h1
  have hf := run_firstCells_some (P := P) w sz (Nat.min sLen dLen) a sLen sCap cs hn hsrc
  cases hq : P.info? elem with
  | none => simp [hq] at hs
  | some i =>
    have hi : i.size = sz := by simpa [hq] using hs
    simp only [Nat.add_zero] at hst
    simp [Builtin.copy_, run_underlying hu, Builtin.lenOf, sizeOf, typeInfo, hq, hi, hf, hst]
theorem wpList_copy_hasK {P : Program} {w : World} {ops : Array Oper} {rest : List Oper} {o : Oper} {a : Act} {Q : Exit → Act → World → Prop} (hgd : o.guard = none) (d s : Operand) (dT sT : TypeId)
    (ho : o.op = .call { callee := .builtin .copy, args := #[d, s], argTypes := #[dT, sT] }) (elem : TypeId) (sz : Nat) (hu : P.underlying dT = some (.slice elem)) (hsz : (P.info? elem).map (·.size) = some sz)
    (g off dLen dCap : Nat) (ad : Addr) (sLen sCap : Nat) (hd : a.eval d = .slice (some ⟨g, off, none⟩) dLen dCap) (hs : a.eval s = .slice (some ad) sLen sCap)
    (cur : List Value) (t : TypeId) (hg : Has w g t cur) (cs : List Value) (hn : cs.length = Nat.min sLen dLen * sz)
    (hsrc : ∀ j v, cs[j]? = some v → w.cell? (ad.add j) = some v) (hfit : off + cs.length ≤ cur.length) (h1 : ∀ v ∈ cs, v.oneCell' = true)
    (h : ∀ w', Hid (Has w' g t (cur.take off ++ cs ++ cur.drop (off + cs.length))) → Chg (fun k => k = g) w w' → w'.heap.size = w.heap.size → wpList P ops Q rest (a.put o.dst (goInt (Nat.min sLen dLen))) w') : wpList P ops Q (o :: rest) a w := by
  refine wpList_plain hgd fun K hK => ?_
  have hrun := run_copy_rowK (P := P) w dT sT o.type elem sz g off dLen dCap ad sLen sCap cur.toArray t cs hu hsz hg hn hsrc (by simpa using hfit) h1
  unfold Oper.wp
  simp [execOp, ho, resolve, invoke, builtin, hd, hs, hrun, Result.andThen]
  refine hK _ _ (h _ ?_ ?_ (by simp [World.setRow]))
  · show w.setRow g _ |>.heap[g]? = _
    rw [setRow_heap w g cur.toArray _ t _ hg]
    simp
  · exact ⟨rfl, rfl, rfl, by simp [World.setRow], fun k _ hk => setRow_other w g k _ (fun e => hk e)⟩

/-- The run of the same, as an equation. -/
theorem run_copy_hasK {P : Program} {w : World} (dT sT ty elem : TypeId) (sz : Nat) (hu : P.underlying dT = some (.slice elem)) (hsz : (P.info? elem).map (·.size) = some sz)
    (g off dLen dCap : Nat) (ad : Addr) (sLen sCap : Nat) (cur : List Value) (t : TypeId) (hg : Has w g t cur) (cs : List Value) (hn : cs.length = Nat.min sLen dLen * sz)
    (hsrc : ∀ j v, cs[j]? = some v → w.cell? (ad.add j) = some v) (hfit : off + cs.length ≤ cur.length) (h1 : ∀ v ∈ cs, v.oneCell' = true) :
    ∃ w', (Builtin.copy_ #[dT, sT] ty #[.slice (some ⟨g, off, none⟩) dLen dCap, .slice (some ad) sLen sCap]).run P w = .ok (goInt (Nat.min sLen dLen)) w' ∧ Has w' g t (cur.take off ++ cs ++ cur.drop (off + cs.length)) ∧ Chg (fun k => k = g) w w' ∧ w'.heap.size = w.heap.size := by
  refine ⟨_, run_copy_rowK (P := P) w dT sT ty elem sz g off dLen dCap ad sLen sCap cur.toArray t cs hu hsz hg hn hsrc (by simpa using hfit) h1, ?_, ?_, by simp [World.setRow]⟩
  · show w.setRow g _ |>.heap[g]? = _
    rw [setRow_heap w g cur.toArray _ t _ hg]
  · exact ⟨rfl, rfl, rfl, by simp [World.setRow], fun k _ hk => setRow_other w g k _ (fun e => hk e)⟩

/-- k copies of one cell -/
def reps (c : Value) (k : Nat) : List Value := List.replicate k c
theorem reps_len (c : Value) (k : Nat) : (reps c k).length = k := by simp [reps]
theorem reps_add (c : Value) (k m : Nat) : reps c (k + m) = reps c k ++ reps c m := by
  unfold reps; rw [← List.replicate_append_replicate]
theorem reps_mem {c : Value} {k : Nat} {v : Value} (h : v ∈ reps c k) : v = c := List.eq_of_mem_replicate h
theorem mul_one_any (n : Nat) (w : World) (hn : n ≤ 1000000) : Calls Try.prog 42 #[.int .u64 1, .int .u64 (n : Nat)] w fun e w' => e = .returned (.tuple #[.int .u64 0, .int .u64 (n : Nat)]) ∧ w = w' := by
  refine (Try.bits_Mul 1 n (by omega) (by omega) w).mono ?_
  rintro e w' ⟨rfl, rfl⟩
  refine ⟨?_, rfl⟩
  have e1 : 1 * n / 18446744073709551616 = 0 := by omega
  have e2 : 1 * n % 18446744073709551616 = n := by omega
  rw [e1, e2]; rfl
theorem reps_cells {w : World} {g : Nat} {t : TypeId} {c : Value} {k m : Nat} {rest : List Value} (h : Has w g t (reps c k ++ rest)) (hm : m ≤ k) : ∀ j v, (reps c m)[j]? = some v → w.cell? ((⟨g, 0, none⟩ : Addr).add j) = some v := by
  intro j v hv
  have hj : j < m := by have := (List.getElem?_eq_some_iff.1 hv).1; rwa [reps_len] at this
  rw [Addr.add_lit, Nat.zero_add, h.cell]
  have e : reps c k = reps c m ++ reps c (k - m) := by rw [← reps_add]; congr 1; omega
  rw [List.getElem?_append_left (by rw [reps_len]; omega), e, List.getElem?_append_left (by rw [reps_len]; omega)]
  exact hv

/-- filled up to k, or, behind the copy, up to k + m -/
def Filled (w : World) (c : Value) (zs : List Value) (k : Nat) (wx : World) : Prop := Has wx w.heap.size 3 (reps c k ++ zs.drop (k)) ∧ Below w.heap.size w wx ∧ wx.heap.size = w.heap.size + 1
theorem Filled.more {w wx : World} {c : Value} {zs : List Value} {k m n : Nat} (h : Filled w c zs k wx) (hm : m = min k (n - k)) (hk : k < n) (hz : zs.length = n)
    (hi : (Try.prog.info? 3).map (·.size) = some 1) (h1 : ∀ k, ∀ v ∈ reps c k, v.oneCell' = true) (ty : TypeId) :
    ∃ w', (Builtin.copy_ #[22, 22] ty #[.slice (some ⟨w.heap.size, k, none⟩) (n - k) (n - k), .slice (some ⟨w.heap.size, 0, none⟩) k n]).run Try.prog wx = .ok (goInt m) w' ∧ Filled w c zs (k + m) w' := by
  obtain ⟨hg, hb, hz1⟩ := h
  obtain ⟨w', hr, hg', hc, hz2⟩ := run_copy_hasK (P := Try.prog) 22 22 ty 3 1 Try.underlying22 hi w.heap.size (k) (n - k) (n - k) ⟨w.heap.size, 0, none⟩ k n _ 3 hg (reps c m)
    (by rw [reps_len, hm, Nat.mul_one]) (reps_cells hg (by omega)) (by rw [reps_len, List.length_append, reps_len, List.length_drop, hz]; omega) (h1 m)
  refine ⟨w', by rw [hr, hm], ?_, hb.trans (hc.below hb.size (fun i h => by omega)), by omega⟩
  rw [reps_len, List.take_left' (reps_len _ _), List.drop_append, List.drop_of_length_le (by rw [reps_len]; omega), List.nil_append, List.drop_drop, reps_len, ← reps_add] at hg'
  rw [show k + (k + m - k) = k + m by omega] at hg'
  exact hg'
theorem Filled.drew {w wx : World} {c : Value} {zs : List Value} {k : Nat} (h : Filled w c zs k wx) : Filled w c zs k wx.drew := ⟨h.1, h.2.1.drew, h.2.2⟩

set_option maxRecDepth 100000 in
set_option maxHeartbeats 2000000 in
theorem repeat_any (b n : Nat) (x : Int) (w : World) (hb : Has w b 3 [.int .i64 x]) (hn1 : 1 ≤ n) (hn2 : n ≤ 1000000) :
    Calls Try.prog 37 #[.slice (some ⟨b, 0, none⟩) 1 1, .int .i64 (n : Nat)] w fun e w' => e = .returned (.slice (some ⟨w.heap.size, 0, none⟩) n n) ∧ Has w' w.heap.size 3 (reps (.int .i64 x) n) ∧ Below w.heap.size w w' ∧ w'.heap.size = w.heap.size + 1 := by
  obtain ⟨i0, hi, hz0, hz1, hz2⟩ := info_parts Tab.info_int6
  have hmk := run_make (P := Try.prog) w 22 3 i0 _ Try.underlying22 hi hz0 .i64 .i64 n n (by omega) (Int.le_refl _) (by rw [hz2]; omega) (by omega)
  rw [hz1] at hmk
  simp only [Int.toNat_natCast] at hmk
  obtain ⟨zs, hzs, hzl⟩ : ∃ zs : List Value, madeCells (Value.int .i64 0).cells (n * 1) = zs.toArray ∧ zs.length = n := ⟨(madeCells (Value.int .i64 0).cells (n * 1)).toList, by simp, by rw [Array.length_toList, size_madeCells, Nat.mul_one]⟩
  rw [hzs] at hmk
  have HMK := Lib.hid hmk
  have HZL := Lib.hid hzl
  have HB := Lib.hid hb
  have hbl := hb.lt
  have hone : ∀ k, ∀ v ∈ reps (.int .i64 x) k, v.oneCell' = true := by
    intro k v hv; rw [reps_mem hv]; rfl
  have HONE := Lib.hid hone
  clear hmk hzs hzl hb hone
  go_enter Try.func37, Try.ntmps37
  go_wp2_with fail
  refine (mul_one_any n _ hn2).mono ?_
  rintro e w' ⟨rfl, rfl⟩
  have hmk := HMK.out
  have h63 : ¬ 9223372036854775807 < n := by omega
  have hz := Has.new w zs 3
  have hbn := HB.out.alloc (.cells zs.toArray 3)
  have HC1 := Lib.hid (reps_cells (rest := []) (by rw [List.append_nil]; exact hbn) (Nat.le_refl 1))
  have HL1 := Lib.hid (show (reps (.int .i64 x) 1).length = Nat.min 1 n * 1 by rw [reps_len, Nat.mul_one]; exact (Nat.min_eq_left hn1).symm)
  have HL2 := Lib.hid (show 0 + (reps (.int .i64 x) 1).length ≤ zs.length by rw [reps_len, HZL.out]; omega)
  have HI := Lib.hid (show (Try.prog.info? 3).map (·.size) = some 1 by rw [hi]; simp [hz1])
  clear hbn
  go_wp2_with (with_reducible refine wpList_copy_hasK (o := ⟨some 33, _, _, _, _, _⟩) rfl (.tmp 31) (.tmp 32) 22 22 rfl 3 1 Try.underlying22 HI.out w.heap.size 0 n n ⟨b, 0, none⟩ 1 1 rfl rfl zs 3 hz (reps (.int .i64 x) 1) HL1.out HC1.out HL2.out (HONE.out 1) ?_)
  clear hmk
  intro w2 HG hC hsz2
  try rw [show Nat.min 1 n = 1 from Nat.min_eq_left hn1]
  have HG1 := Lib.hid (show Has w2 w.heap.size 3 (reps (.int .i64 x) 1 ++ zs.drop (1)) by
    have := HG.out
    rw [reps_len] at this
    simpa using this)
  have HB2 := Lib.hid (show Below w.heap.size w w2 from (((Chg.refl (fun k => k = w.heap.size) w).alloc (.cells zs.toArray 3)).trans hC (fun _ _ h => h)).below (Nat.le_refl _) (fun i h => by omega))
  have HSZ2 := Lib.hid (show w2.heap.size = w.heap.size + 1 by rw [hsz2])
  clear HG hC hz HC1 HL1 HL2 hsz2
  go_wp2_with fail
  go_loopw [8] (fun i wr => ∃ k : Nat, 1 ≤ k ∧ k ≤ n ∧ i = .int .i64 k ∧ Filled w (.int .i64 x) zs k wr) (fun i _ => n - (intOf i).toNat)
  case atStart => exact ⟨1, Nat.le_refl _, hn1, rfl, HG1.out, HB2.out, HSZ2.out⟩
  case round =>
    obtain ⟨k, hk1, hk, rfl, hg⟩ := hrel
    clear HG1 HB2 HSZ2
    by_cases hlt : k < n
    · obtain ⟨m, hm⟩ : ∃ m, m = min k (n - k) := ⟨_, rfl⟩
      have hm1 : 1 ≤ m := by omega
      have hm3 : k + m ≤ n := by omega
      have HM := Lib.hid hm
      have hne : ¬ n = k := by omega
      have hkn : (k : Int) < (n : Int) := by omega
      have HG := Lib.hid hg
      clear hm hg
      go_wp2
      go_upto_region 9 with fail
      refine Reg.region_vals (by kernel_rfl) [(38, .int .i64 (k : Nat)), (39, .slice (some ⟨w.heap.size, 0, none⟩) n n), (40, .int .i64 (k : Nat)), (41, .slice (some ⟨w.heap.size, k, none⟩) (n - k) (n - k)), (42, .slice (some ⟨w.heap.size, 0, none⟩) n n), (43, .int .i64 (k : Nat)), (44, .slice (some ⟨w.heap.size, 0, none⟩) k n), (45, .int .i64 (m : Nat)), (46, .int .i64 ((k + m : Nat) : Int)), (8, .int .i64 ((k + m : Nat) : Int))] (fun l wx => Filled w (.int .i64 x) zs (if l 7 then k + m else k) wx) (by kernel_rfl) (by kernel_rfl) (by kernel_rfl) (HG.out.drew) ⟨?_, ?_, ?_, ?_, ?_, ?_, ?_, ?_, ?_, ?_, trivial⟩ ?hend
      · -- 0: 38 := Op.move t8
        intro aq wq lq hI hl hdone hlater hold hd ho
        have h8 : aq.tmps.getD 8 undef = .int .i64 (k : Nat) := hold 9 8 (by kernel_rfl) (hlater 9 (by kernel_rfl))
        clear hd ho hdone hlater hold
        exact Reg.step2_move (.tmp 8) rfl h8 hI trivial
      · -- 1: 39 := Op.move t7
        intro aq wq lq hI hl hdone hlater hold hd ho
        have h7 : aq.tmps.getD 7 undef = .slice (some ⟨w.heap.size, 0, none⟩) n n := ho 7 (by kernel_rfl)
        clear hd ho hdone hlater hold
        exact Reg.step2_move (.tmp 7) rfl h7 hI trivial
      · -- 2: 40 := Op.move t8
        intro aq wq lq hI hl hdone hlater hold hd ho
        have h8 : aq.tmps.getD 8 undef = .int .i64 (k : Nat) := hold 9 8 (by kernel_rfl) (hlater 9 (by kernel_rfl))
        clear hd ho hdone hlater hold
        exact Reg.step2_move (.tmp 8) rfl h8 hI trivial
      · -- 3: 41 := Op.slice 22 t39 (some t40) none none
        intro aq wq lq hI hl hdone hlater hold hd ho
        have h39 : aq.tmps.getD 39 undef = .slice (some ⟨w.heap.size, 0, none⟩) n n := hd 39 (by kernel_rfl)
        have h40 : aq.tmps.getD 40 undef = .int .i64 (k : Nat) := hd 40 (by kernel_rfl)
        clear hd ho hdone hlater hold
        rw [Array.getD_eq_getD_getElem?] at h39 h40
        refine Reg.step2_val (.slice (some ⟨w.heap.size, k, none⟩) (n - k) (n - k)) ?_ rfl hI trivial
        simp [execOp, Act.eval, h39, h40]
        try go_simp
      · -- 4: 42 := Op.move t7
        intro aq wq lq hI hl hdone hlater hold hd ho
        have h7 : aq.tmps.getD 7 undef = .slice (some ⟨w.heap.size, 0, none⟩) n n := ho 7 (by kernel_rfl)
        clear hd ho hdone hlater hold
        exact Reg.step2_move (.tmp 7) rfl h7 hI trivial
      · -- 5: 43 := Op.move t8
        intro aq wq lq hI hl hdone hlater hold hd ho
        have h8 : aq.tmps.getD 8 undef = .int .i64 (k : Nat) := hold 9 8 (by kernel_rfl) (hlater 9 (by kernel_rfl))
        clear hd ho hdone hlater hold
        exact Reg.step2_move (.tmp 8) rfl h8 hI trivial
      · -- 6: 44 := Op.slice 22 t42 none (some t43) none
        intro aq wq lq hI hl hdone hlater hold hd ho
        have h42 : aq.tmps.getD 42 undef = .slice (some ⟨w.heap.size, 0, none⟩) n n := hd 42 (by kernel_rfl)
        have h43 : aq.tmps.getD 43 undef = .int .i64 (k : Nat) := hd 43 (by kernel_rfl)
        clear hd ho hdone hlater hold
        rw [Array.getD_eq_getD_getElem?] at h42 h43
        refine Reg.step2_val (.slice (some ⟨w.heap.size, 0, none⟩) k n) ?_ rfl hI trivial
        simp [execOp, Act.eval, h42, h43]
        try go_simp
      · -- 7: 45 := Op.call ( builtin copy, args := #(t41, t44), argTypes := #(2
        intro aq wq lq hI hl hdone hlater hold hd ho
        have h41 : aq.tmps.getD 41 undef = .slice (some ⟨w.heap.size, k, none⟩) (n - k) (n - k) := hd 41 (by kernel_rfl)
        have h44 : aq.tmps.getD 44 undef = .slice (some ⟨w.heap.size, 0, none⟩) k n := hd 44 (by kernel_rfl)
        clear hd ho hdone hlater hold
        rw [Array.getD_eq_getD_getElem?] at h41 h44
        rw [show lq 7 = false from hl] at hI
        obtain ⟨w2, hr, hF⟩ := Filled.more (k := k) hI HM.out hlt HZL.out HI.out HONE.out 3
        refine Reg.step2_do (.int .i64 (m : Nat)) w2 ?_ rfl hF trivial
        simp [execOp]
        go_simp
      · -- 8: 46 := Op.binOp BinOp.add 3 t38 t45 3
        intro aq wq lq hI hl hdone hlater hold hd ho
        have h38 : aq.tmps.getD 38 undef = .int .i64 (k : Nat) := hd 38 (by kernel_rfl)
        have h45 : aq.tmps.getD 45 undef = .int .i64 (m : Nat) := hd 45 (by kernel_rfl)
        clear hd ho hdone hlater hold
        rw [Array.getD_eq_getD_getElem?] at h38 h45
        refine Reg.step2_val (.int .i64 ((k + m : Nat) : Int)) ?_ rfl hI trivial
        simp [execOp, Act.eval, h38, h45]
        go_simp
        rw [IntKind.wrap_i64]; omega
      · -- 9: 8 := Op.assign t46
        intro aq wq lq hI hl hdone hlater hold hd ho
        have h46 : aq.tmps.getD 46 undef = .int .i64 ((k + m : Nat) : Int) := hd 46 (by kernel_rfl)
        clear hd ho hdone hlater hold
        exact Reg.step2_assign (.tmp 46) rfl h46 hI trivial
      case hend =>
      intro wx hI
      simp only [Reg.fill, List.foldl_cons, List.foldl_nil, List.setIfInBounds_toArray, List.set_cons_zero, List.set_cons_succ]
      have HI2 := Lib.hid (show Filled w (.int .i64 x) zs (k + m) wx from hI)
      clear hI
      go_wp2
      go_roundw
      case rel => exact ⟨k + m, by omega, by omega, rfl, HI2.out⟩
      case measure => simp [intOf]; omega
    · obtain rfl : k = n := by omega
      have hd : zs.drop (k) = [] := List.drop_of_length_le (by rw [HZL.out]; exact Nat.le_refl _)
      obtain ⟨hg, hbw, hsw⟩ := hg
      rw [hd, List.append_nil] at hg
      have HG := Lib.hid hg
      have HBW := Lib.hid hbw
      have HSW := Lib.hid hsw
      clear hd hg hbw hsw
      go_wp2
      go_ret
      exact ⟨rfl, HG.out, HBW.out, HSW.out⟩

set_option maxRecDepth 100000 in
set_option maxHeartbeats 1000000 in
theorem repeat_zero (b : Nat) (x : Int) (w : World) (hb : Has w b 3 [.int .i64 x]) :
    Calls Try.prog 37 #[.slice (some ⟨b, 0, none⟩) 1 1, .int .i64 0] w fun e w' => e = .returned (.slice (some ⟨w.heap.size, 0, none⟩) 0 0) ∧ Has w' w.heap.size 3 [] ∧ Below w.heap.size w w' ∧ w'.heap.size = w.heap.size + 1 := by
  obtain ⟨i0, hi, hz0, hz1, hz2⟩ := info_parts Tab.info_int6
  have hmk := run_make (P := Try.prog) w 22 3 i0 _ Try.underlying22 hi hz0 .i64 .i64 0 0 (by omega) (Int.le_refl _) (by rw [hz2]; omega) (by omega)
  rw [hz1] at hmk
  simp only [Int.toNat_zero, Nat.zero_mul] at hmk
  obtain ⟨zs, hzs, hzl⟩ : ∃ zs : List Value, madeCells (Value.int .i64 0).cells 0 = zs.toArray ∧ zs = [] := ⟨[], by simp [madeCells], rfl⟩
  subst hzl
  rw [hzs] at hmk
  have HMK := Lib.hid hmk
  clear hmk hzs
  go_enter Try.func37, Try.ntmps37
  go_wp2_with fail
  refine (mul_one_any 0 _ (by omega)).mono ?_
  rintro e w' ⟨rfl, rfl⟩
  have hmk := HMK.out
  have hz := Has.new w [] 3
  have HI := Lib.hid (show (Try.prog.info? 3).map (·.size) = some 1 by rw [hi]; simp [hz1])
  go_wp2_with (with_reducible refine wpList_copy_hasK (o := ⟨some 33, _, _, _, _, _⟩) rfl (.tmp 31) (.tmp 32) 22 22 rfl 3 1 Try.underlying22 HI.out w.heap.size 0 0 0 ⟨b, 0, none⟩ 1 1 rfl rfl [] 3 hz [] rfl (fun j v h => by simp at h) (Nat.le_refl _) (fun v h => by simp at h) ?_)
  clear hmk
  intro w2 HG hC hsz2
  try rw [show Nat.min 1 0 = 0 from rfl]
  have HG1 := Lib.hid (show Has w2 w.heap.size 3 [] from HG.out)
  have HB2 := Lib.hid (show Below w.heap.size w w2 from (((Chg.refl (fun k => k = w.heap.size) w).alloc (.cells (#[] : Array Value) 3)).trans hC (fun _ _ h => h)).below (Nat.le_refl _) (fun i h => by omega))
  have HSZ2 := Lib.hid (show w2.heap.size = w.heap.size + 1 by rw [hsz2])
  clear HG hC hz hsz2
  go_wp2_with fail
  go_loopw [8] (fun i wr => i = .int .i64 0 ∧ wr = w2) (fun _ _ => 0)
  case atStart => exact ⟨rfl, rfl⟩
  case round =>
    obtain ⟨rfl, rfl⟩ := hrel
    go_wp2
    go_ret
    exact ⟨rfl, HG1.out, HB2.out, HSZ2.out⟩
end Go.Proofs.Ytonfafjacmifaaa.Rep
