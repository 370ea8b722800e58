/- Layer 12 (rec): the law's own of. -/
import Derived.Test.YtomhalcoomdadaaRecH
import Derived.Test.YtomhalcoomdadaaRegionV
namespace Go.Proofs.Ytomhalcoomdadaa.Rec
open Go Go.RowKit Go.Proofs.Ytomhalcoomdadaa Go.Proofs.Ytomhalcoomdadaa.Lend
set_option linter.unusedVariables false

/-- an update, cut off -/
def ctU (u : Up) : Up := ⟨u.kind, u.key.take 40, u.val.take 40, u.delta⟩
def ofL (l : List Up) : List Up := (l.take 12).map ctU
theorem ofL_length (l : List Up) : (ofL l).length = min 12 l.length := by simp [ofL]
theorem ofL_wf {l : List Up} (h : ∀ u ∈ l, WfU u) : ∀ u ∈ ofL l, WfU u := by
  intro u hu
  obtain ⟨x, hx, rfl⟩ := List.mem_map.1 hu
  exact h x (List.mem_of_mem_take hx)
/-- texts that a machine can hold -/
def SzU (u : Up) : Prop := u.key.length ≤ 9223372036854775807 ∧ u.val.length ≤ 9223372036854775807
/-- what of answers -/
def OfP (w : World) (m : List Up) (e : Ending) (w' : World) : Prop := ∃ a b, e = .returned (.tuple #[a, b]) ∧ RA w' w.heap.size a m ∧ RU w' w.heap.size b m ∧ Below w.heap.size w w'
theorem ra_ru {w : World} {B B' : Nat} {v v' : Value} {l l' : List Up} (h : RA w B v l) (h' : RU w B' v' l') : ∀ k, v.ownBlock = some k → v'.ownBlock ≠ some k := by
  intro k hk hk'
  rcases h.2 with ⟨rfl, _⟩ | ⟨g, cap, cur, rfl, _, hg, _⟩
  · cases hk
  · rcases h'.2 with ⟨rfl, _⟩ | ⟨g', cap', cur', rfl, _, hg', _⟩
    · cases hk'
    · have e1 : g = k := by simpa [Value.ownBlock] using hk
      have e2 : g' = k := by simpa [Value.ownBlock] using hk'
      subst e1 e2
      rw [hg] at hg'
      simp at hg'
/-- both rows, and the update's block -/
structure Ox (w0 : World) (av bv : Value) (m : List Up) (w : World) : Prop where
  ra : RA w w0.heap.size av m
  ru : RU w w0.heap.size bv m
  bel : Below w0.heap.size w0 w
theorem Ox.on {w0 w w' : World} {av bv : Value} {m : List Up} (h : Ox w0 av bv m w) (hb : Below w.heap.size w w') : Ox w0 av bv m w' := ⟨own_bel h.ra hb, own_bel h.ru hb, below_on h.bel hb⟩
theorem Ox.set {w0 w : World} {av bv : Value} {m : List Up} (h : Ox w0 av bv m w) {X : Nat} (hX : w0.heap.size ≤ X) (ha : ∀ k, av.ownBlock = some k → k < X) (hb : ∀ k, bv.ownBlock = some k → k < X) (i : Nat) (x : Value) : Ox w0 av bv m (w.setCell ⟨X, i, none⟩ x) :=
  ⟨owns_same h.ra fun k e => Below.heap_setCell _ _ _ _ (fun e2 => by have h1 := ha k e; subst e2; exact Nat.lt_irrefl _ h1), owns_same h.ru fun k e => Below.heap_setCell _ _ _ _ (fun e2 => by have h1 := hb k e; subst e2; exact Nat.lt_irrefl _ h1), h.bel.setCell hX x⟩
theorem ofL_snoc {l : List Up} {k : Nat} (hk : k < l.length) (h : k < 12) : ofL (l.take (k + 1)) = ofL (l.take k) ++ [ctU l[k]] := by
  unfold ofL
  rw [List.take_take, List.take_take, Nat.min_eq_right (by omega), Nat.min_eq_right (by omega), List.take_succ_eq_append_getElem hk, List.map_append]
  rfl
/-- what holds while the update is cut off -/
def Hx (w0 : World) (av bv : Value) (m : List Up) (X : Nat) (kd : Int) (K V : ByteArray) (dl : Int) (w : World) : Prop := Has w X 43 [.int .u8 kd, .string K, .string V, .int .u64 dl] ∧ Ox w0 av bv m w
theorem below_drw (w : World) : Below w.heap.size w w.drew := (Below.refl _ _).drew
theorem take40 (x : List UInt8) : (Lend.strOf x).extract 0 (min (Lend.strOf x).size 40) = Lend.strOf (x.take 40) := by
  apply Lend.strOf_ext
  rw [Lib.extract_data, Lend.strOf_data, List.drop_zero, Nat.sub_zero, ssize, List.take_eq_take_iff]; omega
set_option maxHeartbeats 4000000 in
set_option maxRecDepth 100000 in
theorem of_any {a : Option Addr} {n cap : Nat} {l : List Up} {w : World} (h : UR w (.slice a n cap) l) (hn : n = l.length) (hc : n ≤ cap) (hcm : cap ≤ maxLen) (hsz : ∀ u ∈ l, SzU u) :
    Calls Try.prog 8 #[.slice a n cap] w (OfP w (ofL l)) := by
  obtain ⟨ia, hia, hza0, hza1, hza2⟩ := info_parts info_up
  obtain ⟨ib, hib, hzb0, hzb1, hzb2⟩ := info_parts info_ur
  have HN := Lib.hid hn
  have HZ := Lib.hid hsz
  have HU := Lib.hid h
  unfold maxLen at hcm
  clear hn hsz h
  go_enter Try.func8, Try.ntmps8
  obtain ⟨m, hm⟩ : ∃ m, m = min n 12 := ⟨_, rfl⟩
  have HM := Lib.hid hm
  go_upto_region 3 with fail
  go_cut [12, 13, 14] (fun s t i wx => ∃ a' cap', s = .slice a' m cap' ∧ t = .int .i64 m ∧ i = .int .i64 ((0 : Nat) : Int) ∧ (0 < m → a' = a) ∧ wx = w)
  case first =>
    go_wp2_with fail
    all_goals
      go_meet
      first
      | (have e : m = 12 := by have := HM.out; omega
         exact ⟨a, cap, by rw [e], by rw [e]; rfl, rfl, fun _ => rfl, rfl⟩)
      | (have e : m = n := by have := HM.out; omega
         exact ⟨a, cap, by rw [e], by rw [e], rfl, fun _ => rfl, rfl⟩)
  case rest =>
    obtain ⟨a', cap', rfl, rfl, rfl, haa, hww⟩ := hcut
    have hww := hww.symm
    subst hww
    have hml : m ≤ l.length ∧ m ≤ 12 := by have := HM.out; have := HN.out; omega
    obtain ⟨hml, hm12⟩ := hml
    have HAA := Lib.hid haa
    obtain ⟨a1, c1, he, hx⟩ := HU.out.form
    have HX := Lib.hid hx
    have HE := Lib.hid he
    clear hm haa he hx hc hcm
    go_wp2_with fail
    go_loopw [4, 5, 14] (fun av bv i wr => ∃ (k : Nat) (av' bv' : Value), k ≤ m ∧ av' = av ∧ bv' = bv ∧ i = .int .i64 k ∧ Ox w av' bv' (ofL (l.take k)) wr) (fun _ _ i _ => m - (intOf i).toNat)
    case atStart => exact ⟨0, _, _, Nat.zero_le _, rfl, rfl, rfl, World.ownsRow_nil _ _ _ _, World.ownsRow_nil _ _ _ _, Below.refl _ _⟩
    case round =>
      obtain ⟨k, av, bv, hk, rfl, rfl, rfl, hox⟩ := hrel
      by_cases hlt : k < m
      · have hke : k < l.length := by omega
        have hki : (k : Int) < (m : Int) := by omega
        have ea : a1 = a := by have := HE.out; simp at this; exact this.1.symm
        obtain ⟨g, off, hg, hcc⟩ := HX.out (by omega)
        obtain rfl : a' = some ⟨g, off, none⟩ := by rw [HAA.out (by omega), ← ea, hg]
        have hcc := hcc k hke
        have hsu := HZ.out _ (List.getElem_mem hke)
        have HOF := Lib.hid (ofL_snoc hke (by omega))
        obtain ⟨u, hu⟩ : ∃ u, u = l[k] := ⟨_, rfl⟩
        rw [← hu] at hcc hsu HOF
        have hbc : ∀ j x, j < 4 → (encU u)[j]? = some x → wr.cell? ⟨g, off + k * 4 + j, none⟩ = some x := fun j x hj hx => by
          have h1 := (hcc j hj).trans hx
          rw [hox.bel.cell (World.block_lt_of_cell? _ _ h1)]; exact h1
        have c0 : wr.cell? ⟨g, off + k * 4, none⟩ = some (.int .u8 u.kind) := hbc 0 _ (by omega) rfl
        have c1 : wr.cell? ⟨g, off + k * 4 + 1, none⟩ = some (.string (Lend.strOf u.key)) := hbc 1 _ (by omega) rfl
        have c2 : wr.cell? ⟨g, off + k * 4 + 2, none⟩ = some (.string (Lend.strOf u.val)) := hbc 2 _ (by omega) rfl
        have c3 : wr.cell? ⟨g, off + k * 4 + 3, none⟩ = some (.int .u64 u.delta) := hbc 3 _ (by omega) rfl
        have HOX := Lib.hid hox
        have HKT := Lib.hid (take40 u.key)
        have HVT := Lib.hid (take40 u.val)
        have hKs : (Lend.strOf u.key).size ≤ 9223372036854775807 := by rw [ssize]; exact hsu.1
        have hVs : (Lend.strOf u.val).size ≤ 9223372036854775807 := by rw [ssize]; exact hsu.2
        obtain ⟨K, hK⟩ : ∃ x, x = Lend.strOf u.key := ⟨_, rfl⟩
        obtain ⟨V, hV⟩ : ∃ x, x = Lend.strOf u.val := ⟨_, rfl⟩
        obtain ⟨KT, hKT⟩ : ∃ x, x = Lend.strOf (u.key.take 40) := ⟨_, rfl⟩
        obtain ⟨VT, hVT⟩ : ∃ x, x = Lend.strOf (u.val.take 40) := ⟨_, rfl⟩
        have HCT := Lib.hid (show encU (ctU u) = [.int .u8 u.kind, .string KT, .string VT, .int .u64 u.delta] by rw [hKT, hVT]; rfl)
        rw [← hK] at HKT c1 hKs
        rw [← hV] at HVT c2 hVs
        rw [← hKT] at HKT
        rw [← hVT] at HVT
        obtain ⟨kd, hkd⟩ : ∃ x, x = u.kind := ⟨_, rfl⟩
        obtain ⟨dl, hdl⟩ : ∃ x, x = u.delta := ⟨_, rfl⟩
        rw [← hkd] at c0 HCT
        rw [← hdl] at c3 HCT
        obtain ⟨w1, hw1⟩ : ∃ x, x = wr.alloc (.cells #[.int .u8 kd, .string K, .string V, .int .u64 dl] 43) := ⟨_, rfl⟩
        have HB1 := Lib.hid (show Has w1 wr.heap.size 43 [.int .u8 kd, .string K, .string V, .int .u64 dl] by rw [hw1]; exact Has.new _ _ _)
        have HO1 := Lib.hid (show Ox w av bv (ofL (l.take k)) w1 by rw [hw1]; exact hox.on (below_new _ _))
        have HLA := Lib.hid (show ∀ k, av.ownBlock = some k → k < wr.heap.size from fun k e => (hox.ra.lt k e).2)
        have HLB := Lib.hid (show ∀ k, bv.ownBlock = some k → k < wr.heap.size from fun k e => (hox.ru.lt k e).2)
        have HGE := Lib.hid hox.bel.size
        clear hcc hu hbc hK hV hKT hVT hkd hdl hsu hox hke ea hg
        go_upto_region 6 with fail
        rw [← hw1]
        obtain ⟨M, hM⟩ : ∃ x, x = ofL (l.take k) := ⟨_, rfl⟩
        rw [← hM] at HO1 HOF
        obtain ⟨X, hX⟩ : ∃ x, x = wr.heap.size := ⟨_, rfl⟩
        rw [← hX] at HB1 HLA HLB HGE ⊢
        have hMl : M.length ≤ 12 := by rw [hM, ofL_length]; omega
        clear hw1 c0 c1 c2 c3 hM hX
        go_cut [7] (fun s wx => s = .pointer (some ⟨X, 0, none⟩) ∧ Hx w av bv M X kd KT VT dl wx)
        case first =>
          obtain ⟨mK, hmK⟩ : ∃ x, min K.size 40 = x := ⟨_, rfl⟩
          obtain ⟨mV, hmV⟩ : ∃ x, min V.size 40 = x := ⟨_, rfl⟩
          have hke := HKT.out
          have hve := HVT.out
          rw [hmK] at hke
          rw [hmV] at hve
          have hmK1 : mK ≤ K.size := by omega
          have hmV1 : mV ≤ V.size := by omega
          have HMK := Lib.hid (show (if (40 : Int) < (K.size : Int) then (40 : Int) else (K.size : Int)) = (mK : Int) by split <;> omega)
          have HMV := Lib.hid (show (if (40 : Int) < (V.size : Int) then (40 : Int) else (V.size : Int)) = (mV : Int) by split <;> omega)
          clear hmK hmV
          refine Reg.region_vals (by kernel_rfl) [(18, .pointer (some ⟨X, 1, none⟩)), (19, .string K), (20, .pointer (some ⟨X, 1, none⟩)), (21, .string K), (22, .int .i64 (K.size : Nat)), (23, .int .i64 (mK : Nat)), (24, .string KT), (25, .pointer (some ⟨X, 2, none⟩)), (26, .string V), (27, .pointer (some ⟨X, 2, none⟩)), (28, .string V), (29, .int .i64 (V.size : Nat)), (30, .int .i64 (mV : Nat)), (31, .string VT), (32, .pointer (some ⟨X, 1, none⟩)), (33, .pointer (some ⟨X, 2, none⟩))] (fun l wy => Hx w av bv M X kd (bif l 15 then KT else K) (bif l 17 then VT else V) dl wy) (by kernel_rfl) (by kernel_rfl) (by kernel_rfl) (⟨Has.drew HB1.out, HO1.out.on (below_drw _)⟩) ⟨?_, ?_, ?_, ?_, ?_, ?_, ?_, ?_, ?_, ?_, ?_, ?_, ?_, ?_, ?_, ?_, ?_, ?_, trivial⟩ ?hend
          · -- 0: 18 := Op.fieldAddr 43 t7 1
            intro aq wq lq hI hl hdone hlater hold hd ho
            have h7 : aq.tmps.getD 7 undef = .pointer (some ⟨X, 0, none⟩) := ho 7 (by kernel_rfl)
            clear hd ho hdone hlater hold
            rw [Array.getD_eq_getD_getElem?] at h7
            refine Reg.step2_val (.pointer (some ⟨X, 1, none⟩)) ?_ rfl hI trivial
            go_simp
          · -- 1: 19 := Op.load 9 t18
            intro aq wq lq hI hl hdone hlater hold hd ho
            have h18 : aq.tmps.getD 18 undef = .pointer (some ⟨X, 1, none⟩) := hd 18 (by kernel_rfl)
            have gl15 : lq 15 = false := hlater 15 (by kernel_rfl)
            clear hd ho hdone hlater hold
            rw [Array.getD_eq_getD_getElem?] at h18
            have e0 := hI.1.cell 1
            rw [gl15] at e0
            simp only [cond_false, List.getElem?_cons_zero, List.getElem?_cons_succ] at e0
            refine Reg.step2_val (.string K) ?_ rfl hI trivial
            clear hI
            go_simp
          · -- 2: 20 := Op.fieldAddr 43 t7 1
            intro aq wq lq hI hl hdone hlater hold hd ho
            have h7 : aq.tmps.getD 7 undef = .pointer (some ⟨X, 0, none⟩) := ho 7 (by kernel_rfl)
            clear hd ho hdone hlater hold
            rw [Array.getD_eq_getD_getElem?] at h7
            refine Reg.step2_val (.pointer (some ⟨X, 1, none⟩)) ?_ rfl hI trivial
            go_simp
          · -- 3: 21 := Op.load 9 t20
            intro aq wq lq hI hl hdone hlater hold hd ho
            have h20 : aq.tmps.getD 20 undef = .pointer (some ⟨X, 1, none⟩) := hd 20 (by kernel_rfl)
            have gl15 : lq 15 = false := hlater 15 (by kernel_rfl)
            clear hd ho hdone hlater hold
            rw [Array.getD_eq_getD_getElem?] at h20
            have e0 := hI.1.cell 1
            rw [gl15] at e0
            simp only [cond_false, List.getElem?_cons_zero, List.getElem?_cons_succ] at e0
            refine Reg.step2_val (.string K) ?_ rfl hI trivial
            clear hI
            go_simp
          · -- 4: 22 := Op.call ( builtin len, args := #(t21), argTypes := #(9) )
            intro aq wq lq hI hl hdone hlater hold hd ho
            have h21 : aq.tmps.getD 21 undef = .string K := hd 21 (by kernel_rfl)
            clear hd ho hdone hlater hold
            rw [Array.getD_eq_getD_getElem?] at h21
            refine Reg.step2_val (.int .i64 (K.size : Nat)) ?_ rfl hI trivial
            simp [execOp]
            go_simp
          · -- 5: 23 := Op.call ( builtin min, args := #(t22, const (40:i64)), argTy
            intro aq wq lq hI hl hdone hlater hold hd ho
            have h22 : aq.tmps.getD 22 undef = .int .i64 (K.size : Nat) := hd 22 (by kernel_rfl)
            clear hd ho hdone hlater hold
            rw [Array.getD_eq_getD_getElem?] at h22
            refine Reg.step2_val (.int .i64 (mK : Nat)) ?_ rfl hI trivial
            simp [execOp]
            go_simp
            exact HMK.out
          · -- 6: 24 := Op.slice 9 t19 none (some t23) none
            intro aq wq lq hI hl hdone hlater hold hd ho
            have h19 : aq.tmps.getD 19 undef = .string K := hd 19 (by kernel_rfl)
            have h23 : aq.tmps.getD 23 undef = .int .i64 (mK : Nat) := hd 23 (by kernel_rfl)
            clear hd ho hdone hlater hold
            rw [Array.getD_eq_getD_getElem?] at h19 h23
            refine Reg.step2_val (.string KT) ?_ rfl hI trivial
            simp [execOp, Act.eval, h19, h23]
            try go_simp
          · -- 7: 25 := Op.fieldAddr 43 t7 2
            intro aq wq lq hI hl hdone hlater hold hd ho
            have h7 : aq.tmps.getD 7 undef = .pointer (some ⟨X, 0, none⟩) := ho 7 (by kernel_rfl)
            clear hd ho hdone hlater hold
            rw [Array.getD_eq_getD_getElem?] at h7
            refine Reg.step2_val (.pointer (some ⟨X, 2, none⟩)) ?_ rfl hI trivial
            go_simp
          · -- 8: 26 := Op.load 9 t25
            intro aq wq lq hI hl hdone hlater hold hd ho
            have h25 : aq.tmps.getD 25 undef = .pointer (some ⟨X, 2, none⟩) := hd 25 (by kernel_rfl)
            have gl17 : lq 17 = false := hlater 17 (by kernel_rfl)
            clear hd ho hdone hlater hold
            rw [Array.getD_eq_getD_getElem?] at h25
            have e0 := hI.1.cell 2
            rw [gl17] at e0
            simp only [cond_false, List.getElem?_cons_zero, List.getElem?_cons_succ] at e0
            refine Reg.step2_val (.string V) ?_ rfl hI trivial
            clear hI
            go_simp
          · -- 9: 27 := Op.fieldAddr 43 t7 2
            intro aq wq lq hI hl hdone hlater hold hd ho
            have h7 : aq.tmps.getD 7 undef = .pointer (some ⟨X, 0, none⟩) := ho 7 (by kernel_rfl)
            clear hd ho hdone hlater hold
            rw [Array.getD_eq_getD_getElem?] at h7
            refine Reg.step2_val (.pointer (some ⟨X, 2, none⟩)) ?_ rfl hI trivial
            go_simp
          · -- 10: 28 := Op.load 9 t27
            intro aq wq lq hI hl hdone hlater hold hd ho
            have h27 : aq.tmps.getD 27 undef = .pointer (some ⟨X, 2, none⟩) := hd 27 (by kernel_rfl)
            have gl17 : lq 17 = false := hlater 17 (by kernel_rfl)
            clear hd ho hdone hlater hold
            rw [Array.getD_eq_getD_getElem?] at h27
            have e0 := hI.1.cell 2
            rw [gl17] at e0
            simp only [cond_false, List.getElem?_cons_zero, List.getElem?_cons_succ] at e0
            refine Reg.step2_val (.string V) ?_ rfl hI trivial
            clear hI
            go_simp
          · -- 11: 29 := Op.call ( builtin len, args := #(t28), argTypes := #(9) )
            intro aq wq lq hI hl hdone hlater hold hd ho
            have h28 : aq.tmps.getD 28 undef = .string V := hd 28 (by kernel_rfl)
            clear hd ho hdone hlater hold
            rw [Array.getD_eq_getD_getElem?] at h28
            refine Reg.step2_val (.int .i64 (V.size : Nat)) ?_ rfl hI trivial
            simp [execOp]
            go_simp
          · -- 12: 30 := Op.call ( builtin min, args := #(t29, const (40:i64)), argTy
            intro aq wq lq hI hl hdone hlater hold hd ho
            have h29 : aq.tmps.getD 29 undef = .int .i64 (V.size : Nat) := hd 29 (by kernel_rfl)
            clear hd ho hdone hlater hold
            rw [Array.getD_eq_getD_getElem?] at h29
            refine Reg.step2_val (.int .i64 (mV : Nat)) ?_ rfl hI trivial
            simp [execOp]
            go_simp
            exact HMV.out
          · -- 13: 31 := Op.slice 9 t26 none (some t30) none
            intro aq wq lq hI hl hdone hlater hold hd ho
            have h26 : aq.tmps.getD 26 undef = .string V := hd 26 (by kernel_rfl)
            have h30 : aq.tmps.getD 30 undef = .int .i64 (mV : Nat) := hd 30 (by kernel_rfl)
            clear hd ho hdone hlater hold
            rw [Array.getD_eq_getD_getElem?] at h26 h30
            refine Reg.step2_val (.string VT) ?_ rfl hI trivial
            simp [execOp, Act.eval, h26, h30]
            try go_simp
          · -- 14: 32 := Op.fieldAddr 43 t7 1
            intro aq wq lq hI hl hdone hlater hold hd ho
            have h7 : aq.tmps.getD 7 undef = .pointer (some ⟨X, 0, none⟩) := ho 7 (by kernel_rfl)
            clear hd ho hdone hlater hold
            rw [Array.getD_eq_getD_getElem?] at h7
            refine Reg.step2_val (.pointer (some ⟨X, 1, none⟩)) ?_ rfl hI trivial
            go_simp
          · -- 15: None := Op.store 9 t32 t24
            intro aq wq lq hI hl hdone hlater hold hd ho
            have h32 : aq.tmps.getD 32 undef = .pointer (some ⟨X, 1, none⟩) := hd 32 (by kernel_rfl)
            have h24 : aq.tmps.getD 24 undef = .string KT := hd 24 (by kernel_rfl)
            have gl17 : lq 17 = false := hlater 17 (by kernel_rfl)
            clear hd ho hdone hlater hold
            rw [Array.getD_eq_getD_getElem?] at h32 h24
            have e0 := hI.1.cell 1
            have f0 := hI.1.frozen 1
            simp only [List.getElem?_cons_zero, List.getElem?_cons_succ] at e0
            have hJ := hI
            clear hI
            refine Reg.step2_skip (wq.setCell ⟨X, 1, none⟩ (.string KT)) rfl ?_ ⟨hJ.1.set 1 _, hJ.2.set HGE.out HLA.out HLB.out 1 _⟩ trivial
            clear hJ
            simp [execOp]
            go_simp
          · -- 16: 33 := Op.fieldAddr 43 t7 2
            intro aq wq lq hI hl hdone hlater hold hd ho
            have h7 : aq.tmps.getD 7 undef = .pointer (some ⟨X, 0, none⟩) := ho 7 (by kernel_rfl)
            clear hd ho hdone hlater hold
            rw [Array.getD_eq_getD_getElem?] at h7
            refine Reg.step2_val (.pointer (some ⟨X, 2, none⟩)) ?_ rfl hI trivial
            go_simp
          · -- 17: None := Op.store 9 t33 t31
            intro aq wq lq hI hl hdone hlater hold hd ho
            have h33 : aq.tmps.getD 33 undef = .pointer (some ⟨X, 2, none⟩) := hd 33 (by kernel_rfl)
            have h31 : aq.tmps.getD 31 undef = .string VT := hd 31 (by kernel_rfl)
            have gd15 : lq 15 = true := hdone 15 (by kernel_rfl)
            clear hd ho hdone hlater hold
            rw [Array.getD_eq_getD_getElem?] at h33 h31
            have e0 := hI.1.cell 2
            have f0 := hI.1.frozen 2
            simp only [List.getElem?_cons_zero, List.getElem?_cons_succ] at e0
            have hJ := hI
            clear hI
            refine Reg.step2_skip (wq.setCell ⟨X, 2, none⟩ (.string VT)) rfl ?_ ⟨hJ.1.set 2 _, hJ.2.set HGE.out HLA.out HLB.out 2 _⟩ trivial
            clear hJ
            simp [execOp]
            go_simp
          case hend =>
          intro wx hI
          simp only [Reg.fill, List.foldl_cons, List.foldl_nil, List.setIfInBounds_toArray, List.set_cons_zero, List.set_cons_succ]
          have hJ : Hx w av bv M X kd KT VT dl wx := hI
          clear hI
          go_wp2_with fail
          go_meet
          exact ⟨rfl, hJ⟩
        case rest =>
          obtain ⟨rfl, hJ⟩ := hcut
          have HH := Lib.hid hJ.1
          have HO := Lib.hid hJ.2
          have y0 := hJ.1.cell 0
          have y1 := hJ.1.cell 1
          have y2 := hJ.1.cell 2
          have y3 := hJ.1.cell 3
          simp only [List.getElem?_cons_zero, List.getElem?_cons_succ] at y0 y1 y2 y3
          clear hJ
          have HNA := Lib.hid (show ∀ j x, (encU (ctU u))[j]? = some x → (wc.alloc (.cells #[.int .u8 kd, .string KT, .string VT, .int .u64 dl] 33)).cell? ((⟨wc.heap.size, 0, none⟩ : Addr).add j) = some x from by rw [HCT.out]; exact has_news (Has.new wc [.int .u8 kd, .string KT, .string VT, .int .u64 dl] _))
          have HO1 := Lib.hid (HO.out.on (below_new wc (.cells #[.int .u8 kd, .string KT, .string VT, .int .u64 dl] 33)))
          go_wp2_with (at_builtin; refine wpList_append_own _ rfl _ _ 23 rfl w.heap.size 33 ia _ 4 48 Try.underlying23 hia hza0 hza1 hza2 rfl (by decide) _ M.length (flatU M) rfl HO1.out.ra ⟨wc.heap.size, 0, none⟩ 1 1 (encU (ctU u)) rfl rfl HNA.out (enc_one _) ?c1 ?c2 ?c3 ?_)
          case c1 => unfold maxLen; omega
          case c2 => omega
          case c3 => exact HO1.out.bel.size
          intro av2 w4 hown4 hgr _
          have HA4 := Lib.hid (show RA w4 w.heap.size av2 (M ++ [ctU u]) by unfold RA; rw [flatU_snoc, List.length_append]; exact hown4)
          have HV4 := Lib.hid (show RU w4 w.heap.size bv M from owns_same HO1.out.ru fun k e => hgr.block k (HO1.out.ru.lt k e).2 (fun e2 => ra_ru HO1.out.ra HO1.out.ru k e2.symm e))
          have HE4 := Lib.hid (HO1.out.bel.grown hgr HO1.out.bel.size (fun q hq => (HO1.out.ra.lt q hq).1))
          have hx4 : Has w4 X 43 [.int .u8 kd, .string KT, .string VT, .int .u64 dl] := (HH.out.alloc _).same (hgr.block X (HH.out.alloc _).lt (fun e => Nat.lt_irrefl _ (HLA.out X e.symm)))
          clear y0 y1 y2 y3
          have y0 := hx4.cell 0
          have y1 := hx4.cell 1
          have y2 := hx4.cell 2
          have y3 := hx4.cell 3
          simp only [List.getElem?_cons_zero, List.getElem?_cons_succ] at y0 y1 y2 y3
          clear hown4 hgr hx4
          have HNB := Lib.hid (show ∀ j x, (encU (ctU u))[j]? = some x → (w4.alloc (.cells #[.int .u8 kd, .string KT, .string VT, .int .u64 dl] 74)).cell? ((⟨w4.heap.size, 0, none⟩ : Addr).add j) = some x from by rw [HCT.out]; exact has_news (Has.new w4 [.int .u8 kd, .string KT, .string VT, .int .u64 dl] _))
          have HA5 := Lib.hid (show RA (w4.alloc (.cells #[.int .u8 kd, .string KT, .string VT, .int .u64 dl] 74)) w.heap.size av2 (M ++ [ctU u]) from HA4.out.alloc _)
          have HV5 := Lib.hid (show RU (w4.alloc (.cells #[.int .u8 kd, .string KT, .string VT, .int .u64 dl] 74)) w.heap.size bv M from HV4.out.alloc _)
          have HE5 := Lib.hid (below_nw HE4.out (.cells #[.int .u8 kd, .string KT, .string VT, .int .u64 dl] 74))
          go_wp2_with (at_builtin; refine wpList_append_own _ rfl _ _ 24 rfl w.heap.size 74 ib _ 4 48 Try.underlying24 hib hzb0 hzb1 hzb2 rfl (by decide) _ M.length (flatU M) rfl HV5.out ⟨w4.heap.size, 0, none⟩ 1 1 (encU (ctU u)) rfl rfl HNB.out (enc_one _) ?c4 ?c5 ?c6 ?_)
          case c4 => unfold maxLen; omega
          case c5 => omega
          case c6 => exact HE5.out.size
          intro bv2 w6 hown6 hgr _
          have HV6 := Lib.hid (show RU w6 w.heap.size bv2 (M ++ [ctU u]) by unfold RU; rw [flatU_snoc, List.length_append]; exact hown6)
          have HA6 := Lib.hid (show RA w6 w.heap.size av2 (M ++ [ctU u]) from owns_same HA5.out fun k e => hgr.block k (HA5.out.lt k e).2 (fun e2 => ra_ru HA5.out HV5.out k e e2.symm))
          have HE6 := Lib.hid (HE5.out.grown hgr HE5.out.size (fun q hq => (HV5.out.lt q hq).1))
          clear hown6 hgr y0 y1 y2 y3
          go_wp2_with fail
          go_roundw
          case rel => exact ⟨k + 1, _, _, by omega, rfl, rfl, by go_num, by rw [HOF.out]; exact ⟨HA6.out, HV6.out, HE6.out⟩⟩
          case measure => simp [intOf]; omega
      · obtain rfl : k = m := by omega
        have hki : ¬ (k : Int) < (k : Int) := by omega
        have htk : ofL (l.take k) = ofL l := by
          unfold ofL
          rw [List.take_take]
          congr 1
          rw [List.take_eq_take_iff]
          have := HM.out; have := HN.out; omega
        rw [htk] at hox
        have HOX := Lib.hid hox
        clear hox htk
        go_wp2_with fail
        go_ret2
        exact ⟨_, _, rfl, HOX.out.ra, HOX.out.ru, HOX.out.bel⟩
end Go.Proofs.Ytomhalcoomdadaa.Rec
