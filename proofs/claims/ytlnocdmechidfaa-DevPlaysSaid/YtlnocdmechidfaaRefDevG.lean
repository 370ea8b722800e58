/- Contracts of the reference of layer 3: Garble. -/
import Derived.Deep.DeepCutAuto
import Derived.Deep.RegionWith
import Derived.Test.YtlnocdmechidfaaRegionV
import Derived.Test.YtlnocdmechidfaaDevGM
import Derived.Test.YtlnocdmechidfaaRefDevS
namespace Go.Proofs.Ytlnocdmechidfaa.Dev
open Go Go.RowKit Go.Proofs.Ytlnocdmechidfaa
set_option linter.unusedVariables false

/-- the reference's device is one of two -/
def RTwo (w0 : World) (p : Nat) (B : RB) (cv : Value) (D D' : Dv) (b : Bool) (w : World) : Prop := RefAt w p B cv (if b then D' else D) ∧ Chg (rfoot p B cv) w0 w
theorem RTwo.at {w0 w : World} {p : Nat} {B : RB} {cv : Value} {D D' : Dv} {b : Bool} (h : RTwo w0 p B cv D D' b w) (hb : b = false) : RefAt w p B cv D := by subst hb; exact h.1
theorem RTwo.c1 {w0 w : World} {p : Nat} {B : RB} {cv : Value} {D D' : Dv} {b : Bool} (h : RTwo w0 p B cv D D' b w) (hn : D'.n = D.n) : w.cell? ⟨p, 1, none⟩ = some (.slice (some ⟨B.mb, 0, none⟩) D.n B.mc) := by
  have := h.1.c1
  cases b
  · exact this
  · rw [← hn]; exact this
theorem RTwo.below {w0 w w' : World} {p : Nat} {B : RB} {cv : Value} {D D' : Dv} {b : Bool} (h : RTwo w0 p B cv D D' b w) (hb : Below w.heap.size w w') : RTwo w0 p B cv D D' b w' :=
  ⟨h.1.below hb (Nat.le_refl _), h.2.trans (Chg.of_below (R := fun _ => False) hb (Nat.le_refl _)) (fun _ _ h => h.elim)⟩

set_option maxRecDepth 100000 in
set_option maxHeartbeats 4000000 in
theorem refgarble_any {p : Nat} {B : RB} {cv : Value} {D : Dv} (i at' : Int) (b : UInt8) (w : World) (h : RefAt w p B cv D) (hl : D.cache.length ≤ 1000000000) :
    Calls Try.prog 17 #[.pointer (some ⟨p, 0, none⟩), .int .i64 i, .int .i64 at', .int .u8 b.toNat] w fun e w' => e = .returned (.tuple #[]) ∧ Chg (rfoot p B cv) w w' ∧ RefAt w' p B cv (D.garbleD i at' b) := by
  have hn4 := h.ok.n4096
  have c1 := h.c1
  have HD := Lib.hid h
  by_cases hneg : i < 0
  · have e3 : D.garbleD i at' b = D := by unfold Dv.garbleD; rw [if_pos (.inl (by unfold hasB; simp; omega))]
    rw [e3]
    clear h e3
    go_enter Try.func17, Try.ntmps17
    go_wp2_with fail
    refine bodyPost_ret (results_none rfl _ _ _) rfl ?_
    exact ⟨rfl, Chg.refl _ _, HD.out⟩
  · by_cases hge : (D.n : Int) ≤ i
    · have e3 : D.garbleD i at' b = D := by unfold Dv.garbleD; rw [if_pos (.inl (by unfold hasB; simp; omega))]
      rw [e3]
      clear h e3
      go_enter Try.func17, Try.ntmps17
      go_wp2_with fail
      refine bodyPost_ret (results_none rfl _ _ _) rfl ?_
      exact ⟨rfl, Chg.refl _ _, HD.out⟩
    · obtain ⟨q, rfl⟩ := Int.eq_ofNat_of_zero_le (show 0 ≤ i by omega)
      have hq : q < D.n := by omega
      have hqi : (q : Int) < (D.n : Int) := by omega
      by_cases hat : at' < 0
      · have e3 : D.garbleD q at' b = D := by unfold Dv.garbleD; rw [if_pos (.inr hat)]
        rw [e3]
        clear h e3
        go_enter Try.func17, Try.ntmps17
        go_wp2_with fail
        refine bodyPost_ret (results_none rfl _ _ _) rfl ?_
        exact ⟨rfl, Chg.refl _ _, HD.out⟩
      · obtain ⟨a0, rfl⟩ := Int.eq_ofNat_of_zero_le (show 0 ≤ at' by omega)
        obtain ⟨sa, cap, hcv, hsa⟩ := h.cv_slice
        subst hcv
        obtain ⟨n, hn⟩ : ∃ n, n = D.cache.length := ⟨_, rfl⟩
        rw [← hn] at HD h hl hsa ⊢
        have HND := Lib.hid hn.symm
        have c0 := h.c0
        have hs1 := h.ok.s128
        have hs2 := h.ok.s1024
        obtain ⟨j, hj⟩ : ∃ j, j = a0 % D.size := ⟨_, rfl⟩
        have hjl : j < D.size := by rw [hj]; exact Nat.mod_lt _ (by omega)
        have hjr : Int.tmod (a0 : Int) (D.size : Int) = (j : Int) := by rw [hj]; rfl
        have hs0 : ¬ (D.size : Int) = 0 := by omega
        have HJ := Lib.hid hj
        have e3 : D.garbleD q a0 b = (D.turnM q j b).turnC q j b D.cache.length := by
          unfold Dv.garbleD; rw [if_neg (by rintro (h | h); · { unfold hasB at h; simp at h; omega }; · omega), Int.toNat_natCast, Int.toNat_natCast, ← hj]
        rw [e3]
        have hmz := h.ok.media _ (List.getElem_mem hq)
        obtain ⟨m, hm⟩ : ∃ m, m = (D.secs[q]'hq).1 := ⟨_, rfl⟩
        rw [← hm] at hmz
        have HNN := Lib.hid (show (D.turnM q j b).n = D.n by rw [D.turnM_eq q j b hq]; show List.length _ = _; rw [List.length_set]; rfl)
        have HM := Lib.hid (show ∀ X, RefAt X p B (.slice sa n cap) D → RefAt (X.setCell ⟨B.mb, q, none⟩ (.string (turnB m j b))) p B (.slice sa n cap) (D.turnM q j b) from
          fun X hX => hX.setMedia q hq _ _ (by rw [hm]; exact D.turnM_eq q j b hq) (D.turnM_ok q j b hq h.ok))
        have HME := Lib.hid (show ∀ X, RefAt X p B (.slice sa n cap) D → X.cell? ⟨B.mb, q, none⟩ = some (.string m) from fun X hX => by rw [hm]; exact hX.med q hq)
        have HMZ := Lib.hid hmz
        have HJL := Lib.hid hjl
        clear h e3 hm hmz hj hjl hn
        go_enter Try.func17, Try.ntmps17
        go_wp2_with fail
        have H0 := Lib.hid (show RTwo w p B (.slice sa n cap) D (D.turnM q j b) false w.drew from ⟨HD.out.drew, (Chg.refl _ _).drew⟩)
        refine Reg.region_vals (by kernel_rfl) [(30, .pointer (some ⟨p, 0, none⟩)), (31, .pointer (some ⟨p, 0, none⟩)), (32, .pointer (some ⟨p, 1, none⟩)), (33, .slice (some ⟨B.mb, 0, none⟩) D.n B.mc), (34, .int .i64 (q : Nat)), (35, .pointer (some ⟨p, 0, none⟩)), (36, .pointer (some ⟨p, 0, none⟩)), (37, .pointer (some ⟨p, 1, none⟩)), (38, .slice (some ⟨B.mb, 0, none⟩) D.n B.mc), (39, .int .i64 (q : Nat)), (40, .pointer (some ⟨B.mb, q, none⟩)), (41, .string m), (42, .int .i64 (j : Nat)), (43, .int .u8 b.toNat), (44, .string (turnB m j b)), (45, .pointer (some ⟨B.mb, q, none⟩))] (fun l wx => RTwo w p B (.slice sa n cap) D (D.turnM q j b) (l 16) wx ∧ (l 16 = true → l 14 = true) ∧ (l 14 = true → l 11 = true)) (by kernel_rfl) (by kernel_rfl) (by kernel_rfl) (⟨H0.out, fun h => h, fun h => h⟩) ⟨?_, ?_, ?_, ?_, ?_, ?_, ?_, ?_, ?_, ?_, ?_, ?_, ?_, ?_, ?_, ?_, ?_, trivial⟩ ?hend
        · -- 0: 30 := Op.move t0
          intro aq wq lq hI hl hdone hlater hold hd ho
          have h0 : aq.tmps.getD 0 undef = .pointer (some ⟨p, 0, none⟩) := ho 0 (by kernel_rfl)
          clear hd ho hdone hlater hold
          exact Reg.step2_move (.tmp 0) rfl h0 hI trivial
        · -- 1: 31 := Op.nilCheck t30
          intro aq wq lq hI hl hdone hlater hold hd ho
          have h30 : aq.tmps.getD 30 undef = .pointer (some ⟨p, 0, none⟩) := hd 30 (by kernel_rfl)
          clear hd ho hdone hlater hold
          rw [Array.getD_eq_getD_getElem?] at h30
          refine Reg.step2_val (.pointer (some ⟨p, 0, none⟩)) ?_ rfl hI trivial
          go_simp
        · -- 2: 32 := Op.fieldAddr 52 t31 1
          intro aq wq lq hI hl hdone hlater hold hd ho
          have h31 : aq.tmps.getD 31 undef = .pointer (some ⟨p, 0, none⟩) := hd 31 (by kernel_rfl)
          clear hd ho hdone hlater hold
          rw [Array.getD_eq_getD_getElem?] at h31
          refine Reg.step2_val (.pointer (some ⟨p, 1, none⟩)) ?_ rfl hI trivial
          go_simp
        · -- 3: 33 := Op.load 48 t32
          intro aq wq lq hI hl hdone hlater hold hd ho
          have h32 : aq.tmps.getD 32 undef = .pointer (some ⟨p, 1, none⟩) := hd 32 (by kernel_rfl)
          clear hd ho hdone hlater hold
          rw [Array.getD_eq_getD_getElem?] at h32
          have e0 := hI.1.c1 HNN.out
          refine Reg.step2_val (.slice (some ⟨B.mb, 0, none⟩) D.n B.mc) ?_ rfl hI trivial
          go_simp
        · -- 4: 34 := Op.move t1
          intro aq wq lq hI hl hdone hlater hold hd ho
          have h1 : aq.tmps.getD 1 undef = .int .i64 (q : Nat) := ho 1 (by kernel_rfl)
          clear hd ho hdone hlater hold
          exact Reg.step2_move (.tmp 1) rfl h1 hI trivial
        · -- 5: 35 := Op.move t0
          intro aq wq lq hI hl hdone hlater hold hd ho
          have h0 : aq.tmps.getD 0 undef = .pointer (some ⟨p, 0, none⟩) := ho 0 (by kernel_rfl)
          clear hd ho hdone hlater hold
          exact Reg.step2_move (.tmp 0) rfl h0 hI trivial
        · -- 6: 36 := Op.nilCheck t35
          intro aq wq lq hI hl hdone hlater hold hd ho
          have h35 : aq.tmps.getD 35 undef = .pointer (some ⟨p, 0, none⟩) := hd 35 (by kernel_rfl)
          clear hd ho hdone hlater hold
          rw [Array.getD_eq_getD_getElem?] at h35
          refine Reg.step2_val (.pointer (some ⟨p, 0, none⟩)) ?_ rfl hI trivial
          go_simp
        · -- 7: 37 := Op.fieldAddr 52 t36 1
          intro aq wq lq hI hl hdone hlater hold hd ho
          have h36 : aq.tmps.getD 36 undef = .pointer (some ⟨p, 0, none⟩) := hd 36 (by kernel_rfl)
          clear hd ho hdone hlater hold
          rw [Array.getD_eq_getD_getElem?] at h36
          refine Reg.step2_val (.pointer (some ⟨p, 1, none⟩)) ?_ rfl hI trivial
          go_simp
        · -- 8: 38 := Op.load 48 t37
          intro aq wq lq hI hl hdone hlater hold hd ho
          have h37 : aq.tmps.getD 37 undef = .pointer (some ⟨p, 1, none⟩) := hd 37 (by kernel_rfl)
          clear hd ho hdone hlater hold
          rw [Array.getD_eq_getD_getElem?] at h37
          have e0 := hI.1.c1 HNN.out
          refine Reg.step2_val (.slice (some ⟨B.mb, 0, none⟩) D.n B.mc) ?_ rfl hI trivial
          go_simp
        · -- 9: 39 := Op.move t1
          intro aq wq lq hI hl hdone hlater hold hd ho
          have h1 : aq.tmps.getD 1 undef = .int .i64 (q : Nat) := ho 1 (by kernel_rfl)
          clear hd ho hdone hlater hold
          exact Reg.step2_move (.tmp 1) rfl h1 hI trivial
        · -- 10: 40 := Op.indexAddr 48 t38 t39
          intro aq wq lq hI hl hdone hlater hold hd ho
          have h38 : aq.tmps.getD 38 undef = .slice (some ⟨B.mb, 0, none⟩) D.n B.mc := hd 38 (by kernel_rfl)
          have h39 : aq.tmps.getD 39 undef = .int .i64 (q : Nat) := hd 39 (by kernel_rfl)
          clear hd ho hdone hlater hold
          rw [Array.getD_eq_getD_getElem?] at h38 h39
          refine Reg.step2_val (.pointer (some ⟨B.mb, q, none⟩)) ?_ rfl hI trivial
          go_simp
        · -- 11: 41 := Op.load 9 t40
          intro aq wq lq hI hl hdone hlater hold hd ho
          have h40 : aq.tmps.getD 40 undef = .pointer (some ⟨B.mb, q, none⟩) := hd 40 (by kernel_rfl)
          clear hd ho hdone hlater hold
          rw [Array.getD_eq_getD_getElem?] at h40
          have g14 : lq 14 = false := by cases h : lq 14 with | false => rfl | true => have := hI.2.2 h; rw [hl] at this; cases this
          have g16 : lq 16 = false := by cases h : lq 16 with | false => rfl | true => have := hI.2.1 h; rw [g14] at this; cases this
          have e0 := HME.out _ (hI.1.at g16)
          refine Reg.step2_val (.string m) ?_ rfl ⟨hI.1, hI.2.1, fun _ => rfl⟩ trivial
          clear hI
          go_simp
        · -- 12: 42 := Op.move t2
          intro aq wq lq hI hl hdone hlater hold hd ho
          have h2 : aq.tmps.getD 2 undef = .int .i64 (j : Nat) := ho 2 (by kernel_rfl)
          clear hd ho hdone hlater hold
          exact Reg.step2_move (.tmp 2) rfl h2 hI trivial
        · -- 13: 43 := Op.move t3
          intro aq wq lq hI hl hdone hlater hold hd ho
          have h3 : aq.tmps.getD 3 undef = .int .u8 b.toNat := ho 3 (by kernel_rfl)
          clear hd ho hdone hlater hold
          exact Reg.step2_move (.tmp 3) rfl h3 hI trivial
        · -- 14: 44 := Op.call ( value (Operand.func 41), args := #(t41, t42, t43),
          intro aq wq lq hI hl hdone hlater hold hd ho
          have h41 : aq.tmps.getD 41 undef = .string m := hd 41 (by kernel_rfl)
          have h42 : aq.tmps.getD 42 undef = .int .i64 (j : Nat) := hd 42 (by kernel_rfl)
          have h43 : aq.tmps.getD 43 undef = .int .u8 b.toNat := hd 43 (by kernel_rfl)
          have gd11 : lq 11 = true := hdone 11 (by kernel_rfl)
          clear hd ho hdone hlater hold
          rw [Array.getD_eq_getD_getElem?] at h41 h42 h43
          refine Reg.step2_call 41 #[.string m, .int .i64 (j : Nat), .int .u8 b.toNat] ?_ ((turn_any m j b wq (by rw [HMZ.out]; exact HJL.out) (by rw [HMZ.out]; omega)).mono ?_)
          · simp [execOp]
            go_simp
          · rintro e w' ⟨rfl, hb⟩
            exact ⟨_, rfl, rfl, ⟨hI.1.below hb, fun _ => rfl, fun _ => gd11⟩, trivial⟩
        · -- 15: 45 := Op.indexAddr 48 t33 t34
          intro aq wq lq hI hl hdone hlater hold hd ho
          have h33 : aq.tmps.getD 33 undef = .slice (some ⟨B.mb, 0, none⟩) D.n B.mc := hd 33 (by kernel_rfl)
          have h34 : aq.tmps.getD 34 undef = .int .i64 (q : Nat) := hd 34 (by kernel_rfl)
          clear hd ho hdone hlater hold
          rw [Array.getD_eq_getD_getElem?] at h33 h34
          refine Reg.step2_val (.pointer (some ⟨B.mb, q, none⟩)) ?_ rfl hI trivial
          go_simp
        · -- 16: None := Op.store 9 t45 t44
          intro aq wq lq hI hl hdone hlater hold hd ho
          have h45 : aq.tmps.getD 45 undef = .pointer (some ⟨B.mb, q, none⟩) := hd 45 (by kernel_rfl)
          have h44 : aq.tmps.getD 44 undef = .string (turnB m j b) := hd 44 (by kernel_rfl)
          have gd14 : lq 14 = true := hdone 14 (by kernel_rfl)
          clear hd ho hdone hlater hold
          rw [Array.getD_eq_getD_getElem?] at h45 h44
          have hJ := hI.1
          have hK := hI.2.2
          clear hI
          rw [show lq 16 = false from hl] at hJ
          have e0 := HME.out _ hJ.1
          have f0 := RefAt.mfz hJ.1 q
          refine Reg.step2_skip (wq.setCell ⟨B.mb, q, none⟩ (.string (turnB m j b))) rfl ?_ ⟨⟨HM.out _ hJ.1, hJ.2.setCell (p := ⟨B.mb, q, none⟩) (fun _ => .inr (.inl rfl)) _⟩, fun _ => gd14, hK⟩ trivial
          clear hJ hK
          simp [execOp]
          go_simp
        case hend =>
        intro wx hI
        simp only [Reg.fill, List.foldl_cons, List.foldl_nil, List.setIfInBounds_toArray, List.set_cons_zero, List.set_cons_succ]
        obtain ⟨hd1, hc1⟩ : RefAt wx p B (.slice sa n cap) (D.turnM q j b) ∧ Chg (rfoot p B (.slice sa n cap)) w wx := hI.1
        obtain ⟨E, hE⟩ : ∃ E, E = D.turnM q j b := ⟨_, rfl⟩
        have hEc : E.cache = D.cache := by rw [hE, D.turnM_eq q j b hq]
        have hEs : E.size = D.size := by rw [hE, D.turnM_eq q j b hq]
        rw [← hE] at hd1
        have HEE := Lib.hid hE
        have HN := Lib.hid (show n = E.cache.length by rw [hEc, HND.out])
        have HD1 := Lib.hid hd1
        have HC1 := Lib.hid hc1
        clear hd1 hc1 hE hEc HD H0 HME HM
        go_wp2_with fail
        go_loopw [8] (fun i wr => ∃ k : Nat, k ≤ n ∧ i = .int .i64 k ∧ Chg (rfoot p B (.slice sa n cap)) w wr ∧ RefAt wr p B (.slice sa n cap) (E.turnC q j b k)) (fun i _ => n - (intOf i).toNat)
        case atStart => exact ⟨0, Nat.zero_le _, rfl, HC1.out, by rw [Dv.turnC_zero]; exact HD1.out⟩
        case round =>
          obtain ⟨k, hk, rfl, hc, hd⟩ := hrel
          clear HC1 HD1
          have h3 := hd.c3
          by_cases hlt : k < n
          · have hkn : (k : Int) < (n : Int) := by omega
            obtain ⟨g, rfl⟩ := hsa (by omega)
            obtain ⟨⟨si, st⟩, hx⟩ : ∃ x, E.cache[k]? = some x := ⟨_, List.getElem?_eq_getElem (by rw [← HN.out]; omega)⟩
            have hlen : n = (E.turnC q j b k).cache.length := by rw [Dv.turnC_len _ _ _ _ _ (by rw [← HN.out]; exact hk), ← HN.out]
            have hxk : (E.turnC q j b k).cache[k]? = some (si, st) := by rw [Dv.turnC_get _ _ _ _ _ (by rw [← HN.out]; exact hk)]; exact hx
            obtain ⟨hx0, hx1⟩ := hd.cw hlen k hxk
            simp only at hx0 hx1
            have hst0 := hd.ok.text (si, st) (List.mem_of_getElem? hxk)
            have hst : st.size = D.size := by rw [← hEs]; exact hst0
            clear hst0
            by_cases hsq : si = q
            · subst hsq
              have hgF : gF si j b (si, st) = (si, turnB st j b) := by unfold gF; rw [if_pos rfl]
              have hnext := Dv.turnC_next E si j b k (si, st) hx
              rw [hgF] at hnext
              have HT := Lib.hid (show ∀ X, RefAt X p B (.slice (some ⟨g, 0, none⟩) n cap) (E.turnC si j b k) → RefAt (X.setCell ⟨g, k * 2 + 1, none⟩ (.string (turnB st j b))) p B (.slice (some ⟨g, 0, none⟩) n cap) (E.turnC si j b (k + 1)) from
                fun X hX => by rw [hnext]; exact hX.retext hlen k (si, st) hxk (turnB st j b) (by rw [turnB_size, hst]; exact hEs.symm))
              have HCE := Lib.hid (show ∀ X, RefAt X p B (.slice (some ⟨g, 0, none⟩) n cap) (E.turnC si j b k) → X.cell? ⟨g, k * 2 + 1, none⟩ = some (.string st) from fun X hX => (hX.cw hlen k hxk).2)
              have HFZ := Lib.hid (show ∀ X, RefAt X p B (.slice (some ⟨g, 0, none⟩) n cap) (E.turnC si j b k) → X.frozen? ⟨g, k * 2 + 1, none⟩ = false from fun X hX => hX.ctfz hlen _)
              have H0 := Lib.hid (show RTwo w p B (.slice (some ⟨g, 0, none⟩) n cap) (E.turnC si j b k) (E.turnC si j b (k + 1)) false wr.drew from ⟨hd.drew, hc.drew⟩)
              have HST := Lib.hid hst
              clear hd hc hnext hgF hxk hx hlen hst
              go_wp2_with fail
              refine Reg.region_vals (by kernel_rfl) [(65, .pointer (some ⟨p, 0, none⟩)), (66, .pointer (some ⟨p, 0, none⟩)), (67, .pointer (some ⟨p, 3, none⟩)), (68, .slice (some ⟨g, 0, none⟩) n cap), (69, .int .i64 (k : Nat)), (70, .pointer (some ⟨p, 0, none⟩)), (71, .pointer (some ⟨p, 0, none⟩)), (72, .pointer (some ⟨p, 3, none⟩)), (73, .slice (some ⟨g, 0, none⟩) n cap), (74, .int .i64 (k : Nat)), (75, .pointer (some ⟨g, k * 2, none⟩)), (76, .pointer (some ⟨g, k * 2 + 1, none⟩)), (77, .string st), (78, .int .i64 (j : Nat)), (79, .int .u8 b.toNat), (80, .string (turnB st j b)), (81, .pointer (some ⟨g, k * 2, none⟩)), (82, .pointer (some ⟨g, k * 2 + 1, none⟩))] (fun l wx => RTwo w p B (.slice (some ⟨g, 0, none⟩) n cap) (E.turnC si j b k) (E.turnC si j b (k + 1)) (l 18) wx ∧ (l 18 = true → l 15 = true) ∧ (l 15 = true → l 12 = true)) (by kernel_rfl) (by kernel_rfl) (by kernel_rfl) (⟨H0.out, fun h => h, fun h => h⟩) ⟨?_, ?_, ?_, ?_, ?_, ?_, ?_, ?_, ?_, ?_, ?_, ?_, ?_, ?_, ?_, ?_, ?_, ?_, ?_, trivial⟩ ?hend
              · -- 0: 65 := Op.move t0
                intro aq wq lq hI hl hdone hlater hold hd ho
                have h0 : aq.tmps.getD 0 undef = .pointer (some ⟨p, 0, none⟩) := ho 0 (by kernel_rfl)
                clear hd ho hdone hlater hold
                exact Reg.step2_move (.tmp 0) rfl h0 hI trivial
              · -- 1: 66 := Op.nilCheck t65
                intro aq wq lq hI hl hdone hlater hold hd ho
                have h65 : aq.tmps.getD 65 undef = .pointer (some ⟨p, 0, none⟩) := hd 65 (by kernel_rfl)
                clear hd ho hdone hlater hold
                rw [Array.getD_eq_getD_getElem?] at h65
                refine Reg.step2_val (.pointer (some ⟨p, 0, none⟩)) ?_ rfl hI trivial
                go_simp
              · -- 2: 67 := Op.fieldAddr 52 t66 3
                intro aq wq lq hI hl hdone hlater hold hd ho
                have h66 : aq.tmps.getD 66 undef = .pointer (some ⟨p, 0, none⟩) := hd 66 (by kernel_rfl)
                clear hd ho hdone hlater hold
                rw [Array.getD_eq_getD_getElem?] at h66
                refine Reg.step2_val (.pointer (some ⟨p, 3, none⟩)) ?_ rfl hI trivial
                go_simp
              · -- 3: 68 := Op.load 50 t67
                intro aq wq lq hI hl hdone hlater hold hd ho
                have h67 : aq.tmps.getD 67 undef = .pointer (some ⟨p, 3, none⟩) := hd 67 (by kernel_rfl)
                clear hd ho hdone hlater hold
                rw [Array.getD_eq_getD_getElem?] at h67
                have e0 := hI.1.1.c3
                refine Reg.step2_val (.slice (some ⟨g, 0, none⟩) n cap) ?_ rfl hI trivial
                go_simp
              · -- 4: 69 := Op.move t8
                intro aq wq lq hI hl hdone hlater hold hd ho
                have h8 : aq.tmps.getD 8 undef = .int .i64 (k : Nat) := ho 8 (by kernel_rfl)
                clear hd ho hdone hlater hold
                exact Reg.step2_move (.tmp 8) rfl h8 hI trivial
              · -- 5: 70 := Op.move t0
                intro aq wq lq hI hl hdone hlater hold hd ho
                have h0 : aq.tmps.getD 0 undef = .pointer (some ⟨p, 0, none⟩) := ho 0 (by kernel_rfl)
                clear hd ho hdone hlater hold
                exact Reg.step2_move (.tmp 0) rfl h0 hI trivial
              · -- 6: 71 := Op.nilCheck t70
                intro aq wq lq hI hl hdone hlater hold hd ho
                have h70 : aq.tmps.getD 70 undef = .pointer (some ⟨p, 0, none⟩) := hd 70 (by kernel_rfl)
                clear hd ho hdone hlater hold
                rw [Array.getD_eq_getD_getElem?] at h70
                refine Reg.step2_val (.pointer (some ⟨p, 0, none⟩)) ?_ rfl hI trivial
                go_simp
              · -- 7: 72 := Op.fieldAddr 52 t71 3
                intro aq wq lq hI hl hdone hlater hold hd ho
                have h71 : aq.tmps.getD 71 undef = .pointer (some ⟨p, 0, none⟩) := hd 71 (by kernel_rfl)
                clear hd ho hdone hlater hold
                rw [Array.getD_eq_getD_getElem?] at h71
                refine Reg.step2_val (.pointer (some ⟨p, 3, none⟩)) ?_ rfl hI trivial
                go_simp
              · -- 8: 73 := Op.load 50 t72
                intro aq wq lq hI hl hdone hlater hold hd ho
                have h72 : aq.tmps.getD 72 undef = .pointer (some ⟨p, 3, none⟩) := hd 72 (by kernel_rfl)
                clear hd ho hdone hlater hold
                rw [Array.getD_eq_getD_getElem?] at h72
                have e0 := hI.1.1.c3
                refine Reg.step2_val (.slice (some ⟨g, 0, none⟩) n cap) ?_ rfl hI trivial
                go_simp
              · -- 9: 74 := Op.move t8
                intro aq wq lq hI hl hdone hlater hold hd ho
                have h8 : aq.tmps.getD 8 undef = .int .i64 (k : Nat) := ho 8 (by kernel_rfl)
                clear hd ho hdone hlater hold
                exact Reg.step2_move (.tmp 8) rfl h8 hI trivial
              · -- 10: 75 := Op.indexAddr 50 t73 t74
                intro aq wq lq hI hl hdone hlater hold hd ho
                have h73 : aq.tmps.getD 73 undef = .slice (some ⟨g, 0, none⟩) n cap := hd 73 (by kernel_rfl)
                have h74 : aq.tmps.getD 74 undef = .int .i64 (k : Nat) := hd 74 (by kernel_rfl)
                clear hd ho hdone hlater hold
                rw [Array.getD_eq_getD_getElem?] at h73 h74
                refine Reg.step2_val (.pointer (some ⟨g, k * 2, none⟩)) ?_ rfl hI trivial
                go_simp
              · -- 11: 76 := Op.fieldAddr 79 t75 1
                intro aq wq lq hI hl hdone hlater hold hd ho
                have h75 : aq.tmps.getD 75 undef = .pointer (some ⟨g, k * 2, none⟩) := hd 75 (by kernel_rfl)
                clear hd ho hdone hlater hold
                rw [Array.getD_eq_getD_getElem?] at h75
                refine Reg.step2_val (.pointer (some ⟨g, k * 2 + 1, none⟩)) ?_ rfl hI trivial
                go_simp
              · -- 12: 77 := Op.load 9 t76
                intro aq wq lq hI hl hdone hlater hold hd ho
                have h76 : aq.tmps.getD 76 undef = .pointer (some ⟨g, k * 2 + 1, none⟩) := hd 76 (by kernel_rfl)
                clear hd ho hdone hlater hold
                rw [Array.getD_eq_getD_getElem?] at h76
                have g15 : lq 15 = false := by cases h : lq 15 with | false => rfl | true => have := hI.2.2 h; rw [hl] at this; cases this
                have g18 : lq 18 = false := by cases h : lq 18 with | false => rfl | true => have := hI.2.1 h; rw [g15] at this; cases this
                have e0 := HCE.out _ (hI.1.at g18)
                refine Reg.step2_val (.string st) ?_ rfl ⟨hI.1, hI.2.1, fun _ => rfl⟩ trivial
                clear hI
                go_simp
              · -- 13: 78 := Op.move t2
                intro aq wq lq hI hl hdone hlater hold hd ho
                have h2 : aq.tmps.getD 2 undef = .int .i64 (j : Nat) := ho 2 (by kernel_rfl)
                clear hd ho hdone hlater hold
                exact Reg.step2_move (.tmp 2) rfl h2 hI trivial
              · -- 14: 79 := Op.move t3
                intro aq wq lq hI hl hdone hlater hold hd ho
                have h3 : aq.tmps.getD 3 undef = .int .u8 b.toNat := ho 3 (by kernel_rfl)
                clear hd ho hdone hlater hold
                exact Reg.step2_move (.tmp 3) rfl h3 hI trivial
              · -- 15: 80 := Op.call ( value (Operand.func 41), args := #(t77, t78, t79),
                intro aq wq lq hI hl hdone hlater hold hd ho
                have h77 : aq.tmps.getD 77 undef = .string st := hd 77 (by kernel_rfl)
                have h78 : aq.tmps.getD 78 undef = .int .i64 (j : Nat) := hd 78 (by kernel_rfl)
                have h79 : aq.tmps.getD 79 undef = .int .u8 b.toNat := hd 79 (by kernel_rfl)
                have gd12 : lq 12 = true := hdone 12 (by kernel_rfl)
                clear hd ho hdone hlater hold
                rw [Array.getD_eq_getD_getElem?] at h77 h78 h79
                refine Reg.step2_call 41 #[.string st, .int .i64 (j : Nat), .int .u8 b.toNat] ?_ ((turn_any st j b wq (by rw [HST.out]; exact HJL.out) (by rw [HST.out]; omega)).mono ?_)
                · simp [execOp]
                  go_simp
                · rintro e w' ⟨rfl, hb⟩
                  exact ⟨_, rfl, rfl, ⟨hI.1.below hb, fun _ => rfl, fun _ => gd12⟩, trivial⟩
              · -- 16: 81 := Op.indexAddr 50 t68 t69
                intro aq wq lq hI hl hdone hlater hold hd ho
                have h68 : aq.tmps.getD 68 undef = .slice (some ⟨g, 0, none⟩) n cap := hd 68 (by kernel_rfl)
                have h69 : aq.tmps.getD 69 undef = .int .i64 (k : Nat) := hd 69 (by kernel_rfl)
                clear hd ho hdone hlater hold
                rw [Array.getD_eq_getD_getElem?] at h68 h69
                refine Reg.step2_val (.pointer (some ⟨g, k * 2, none⟩)) ?_ rfl hI trivial
                go_simp
              · -- 17: 82 := Op.fieldAddr 79 t81 1
                intro aq wq lq hI hl hdone hlater hold hd ho
                have h81 : aq.tmps.getD 81 undef = .pointer (some ⟨g, k * 2, none⟩) := hd 81 (by kernel_rfl)
                clear hd ho hdone hlater hold
                rw [Array.getD_eq_getD_getElem?] at h81
                refine Reg.step2_val (.pointer (some ⟨g, k * 2 + 1, none⟩)) ?_ rfl hI trivial
                go_simp
              · -- 18: None := Op.store 9 t82 t80
                intro aq wq lq hI hl hdone hlater hold hd ho
                have h82 : aq.tmps.getD 82 undef = .pointer (some ⟨g, k * 2 + 1, none⟩) := hd 82 (by kernel_rfl)
                have h80 : aq.tmps.getD 80 undef = .string (turnB st j b) := hd 80 (by kernel_rfl)
                have gd15 : lq 15 = true := hdone 15 (by kernel_rfl)
                clear hd ho hdone hlater hold
                rw [Array.getD_eq_getD_getElem?] at h82 h80
                have hJ := hI.1
                have hK := hI.2.2
                clear hI
                rw [show lq 18 = false from hl] at hJ
                have e0 := HCE.out _ hJ.1
                have f0 := HFZ.out _ hJ.1
                refine Reg.step2_skip (wq.setCell ⟨g, k * 2 + 1, none⟩ (.string (turnB st j b))) rfl ?_ ⟨⟨HT.out _ hJ.1, hJ.2.setCell (p := ⟨g, k * 2 + 1, none⟩) (fun _ => .inr (.inr (.inr rfl))) _⟩, fun _ => gd15, hK⟩ trivial
                clear hJ hK
                simp [execOp]
                go_simp
              case hend =>
              intro wx hI
              simp only [Reg.fill, List.foldl_cons, List.foldl_nil, List.setIfInBounds_toArray, List.set_cons_zero, List.set_cons_succ]
              obtain ⟨hd1, hc1⟩ : RefAt wx p B (.slice (some ⟨g, 0, none⟩) n cap) (E.turnC si j b (k + 1)) ∧ Chg (rfoot p B (.slice (some ⟨g, 0, none⟩) n cap)) w wx := hI.1
              have HD1 := Lib.hid hd1
              have HC1 := Lib.hid hc1
              clear hd1 hc1
              go_wp2_with fail
              go_roundw
              case rel => exact ⟨k + 1, by omega, by simp, HC1.out, HD1.out⟩
              case measure => simp [intOf]; omega
            · have hsame := Dv.turnC_same E q j b k (si, st) hx hsq
              have q1 : ((si : Int) == (q : Int)) = false := by simp; omega
              have HD1 := Lib.hid (show RefAt wr p B (.slice (some ⟨g, 0, none⟩) n cap) (E.turnC q j b (k + 1)) by rw [hsame]; exact hd)
              have HC1 := Lib.hid hc
              clear hd hc hsame hxk hx hlen hst
              go_wp2_with fail
              go_roundw
              case rel => exact ⟨k + 1, by omega, by simp, HC1.out, HD1.out⟩
              case measure => simp [intOf]; omega
          · obtain rfl : k = n := by omega
            have HD1 := Lib.hid hd
            have HC1 := Lib.hid hc
            clear hd hc
            go_wp2_with fail
            go_end0
            exact ⟨rfl, HC1.out, by rw [HND.out, ← HEE.out]; exact HD1.out⟩
end Go.Proofs.Ytlnocdmechidfaa.Dev
