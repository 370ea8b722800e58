/- Contracts of layer 3: Garble. -/
import Derived.Deep.DeepCutAuto
import Derived.Deep.RegionWith
import Derived.Test.YtlnocdmechidfaaRegionV
import Derived.Test.YtlnocdmechidfaaDevGM
import Derived.Test.YtlnocdmechidfaaDevC
namespace Go.Proofs.Ytlnocdmechidfaa.Dev
open Go Go.RowKit Go.Proofs.Ytlnocdmechidfaa
set_option linter.unusedVariables false

/-- the device is one of two -/
def DTwo (w0 : World) (p sb : Nat) (cv : Value) (D D' : Dv) (b : Bool) (w : World) : Prop := DevAt w p sb cv (if b then D' else D) ∧ Chg (foot p sb cv) w0 w
section
variable {w0 w : World} {p sb : Nat} {cv : Value} {D D' : Dv} {b : Bool}
theorem DTwo.at (h : DTwo w0 p sb cv D D' b w) (hb : b = false) : DevAt w p sb cv D := by subst hb; exact h.1
theorem DTwo.c2 (h : DTwo w0 p sb cv D D' b w) (hn : D'.n = D.n) : w.cell? ⟨p, 2, none⟩ = some (.slice (some ⟨sb, 0, none⟩) D.n D.n) := by
  have := h.1.c2
  cases b
  · exact this
  · rw [← hn]; exact this
theorem DTwo.below {w' : World} (h : DTwo w0 p sb cv D D' b w) (hb : Below w.heap.size w w') : DTwo w0 p sb cv D D' b w' :=
  ⟨h.1.below hb (Nat.le_refl _), h.2.trans (Chg.of_below (R := fun _ => False) hb (Nat.le_refl _)) (fun _ _ h => h.elim)⟩
end

set_option maxRecDepth 100000 in
set_option maxHeartbeats 4000000 in
theorem garble_any {p sb : Nat} {cv : Value} {D : Dv} (i at' : Int) (b : UInt8) (w : World) (h : DevAt w p sb cv D) (hl : D.cache.length ≤ 1000000000) :
    Calls Try.prog 16 #[.pointer (some ⟨p, 0, none⟩), .int .i64 i, .int .i64 at', .int .u8 b.toNat] w fun e w' => e = .returned (.tuple #[]) ∧ Chg (foot p sb cv) w w' ∧ DevAt w' p sb cv (D.garbleD i at' b) := by
  have hn4 := h.ok.n4096
  have HD := Lib.hid h
  cases hh : hasB D i with
  | false =>
    have e3 : D.garbleD i at' b = D := by unfold Dv.garbleD; rw [if_pos (.inl hh)]
    rw [e3]
    have HH := Lib.hid hh
    clear h e3 hh
    go_enter Try.func16, Try.ntmps16
    go_wp2_with fail
    refine (has_any i _ HD.out).mono ?_
    rintro e w' ⟨rfl, rfl⟩
    rw [HH.out]
    go_wp2_with fail
    refine bodyPost_ret (results_none rfl _ _ _) rfl ?_
    exact ⟨rfl, Chg.refl _ _, HD.out⟩
  | true =>
    have hrr : 0 ≤ i ∧ i < D.n := by unfold hasB at hh; simpa using hh
    obtain ⟨q, rfl⟩ := Int.eq_ofNat_of_zero_le hrr.1
    have hq : q < D.n := by omega
    have hqi : (q : Int) < (D.n : Int) := by omega
    have HH := Lib.hid hh
    by_cases hat : at' < 0
    · have e3 : D.garbleD q at' b = D := by unfold Dv.garbleD; rw [if_pos (.inr hat)]
      rw [e3]
      clear h e3 hh hrr
      go_enter Try.func16, Try.ntmps16
      go_wp2_with fail
      refine (has_any q _ HD.out).mono ?_
      rintro e w' ⟨rfl, rfl⟩
      rw [HH.out]
      go_wp2_with fail
      refine bodyPost_ret (results_none rfl _ _ _) rfl ?_
      exact ⟨rfl, Chg.refl _ _, HD.out⟩
    · obtain ⟨a0, rfl⟩ := Int.eq_ofNat_of_zero_le (show 0 ≤ at' by omega)
      obtain ⟨sa, cap, hcv, hsa⟩ := h.cv_slice
      subst hcv
      obtain ⟨n, hn⟩ : ∃ n, n = D.cache.length := ⟨_, rfl⟩
      rw [← hn] at HD h hl hsa ⊢
      have HND := Lib.hid hn.symm
      have c1 := h.c1
      have hs1 := h.ok.s128
      have hs2 := h.ok.s1024
      obtain ⟨j, hj⟩ : ∃ j, j = a0 % D.size := ⟨_, rfl⟩
      have hjl : j < D.size := by rw [hj]; exact Nat.mod_lt _ (by omega)
      have hjr : Int.tmod (a0 : Int) (D.size : Int) = (j : Int) := by rw [hj]; rfl
      have hs0 : ¬ (D.size : Int) = 0 := by omega
      have HJ := Lib.hid hj
      have e3 : D.garbleD q a0 b = (D.turnM q j b).turnC q j b D.cache.length := by
        unfold Dv.garbleD; rw [if_neg (by rintro (h | h); · { rw [hh] at h; cases h }; · omega), Int.toNat_natCast, Int.toNat_natCast, ← hj]
      rw [e3]
      have hmz := h.ok.media _ (List.getElem_mem hq)
      obtain ⟨m, hm⟩ : ∃ m, m = (D.secs[q]'hq).1 := ⟨_, rfl⟩
      rw [← hm] at hmz
      have HNN := Lib.hid (show (D.turnM q j b).n = D.n by rw [D.turnM_eq q j b hq]; show List.length _ = _; rw [List.length_set]; rfl)
      have HM := Lib.hid (show ∀ X, DevAt X p sb (.slice sa n cap) D → DevAt (X.setCell ⟨sb, q * 2, none⟩ (.string (turnB m j b))) p sb (.slice sa n cap) (D.turnM q j b) from
        fun X hX => hX.setMedia q hq _ _ (by rw [hm]; exact D.turnM_eq q j b hq) (D.turnM_ok q j b hq h.ok))
      have HME := Lib.hid (show ∀ X, DevAt X p sb (.slice sa n cap) D → X.cell? ⟨sb, q * 2, none⟩ = some (.string m) from fun X hX => by rw [hm]; exact hX.media q hq)
      have HMZ := Lib.hid hmz
      have HJL := Lib.hid hjl
      clear h e3 hm hmz hj hjl hn hh hrr
      go_enter Try.func16, Try.ntmps16
      go_wp2_with fail
      refine (has_any q _ HD.out).mono ?_
      rintro e w' ⟨rfl, rfl⟩
      rw [HH.out]
      go_wp2_with fail
      have H0 := Lib.hid (show DTwo w p sb (.slice sa n cap) D (D.turnM q j b) false w.drew from ⟨HD.out.drew, (Chg.refl _ _).drew⟩)
      refine Reg.region_vals (by kernel_rfl) [(25, .pointer (some ⟨p, 0, none⟩)), (26, .pointer (some ⟨p, 0, none⟩)), (27, .pointer (some ⟨p, 2, none⟩)), (28, .slice (some ⟨sb, 0, none⟩) D.n D.n), (29, .int .i64 (q : Nat)), (30, .pointer (some ⟨p, 0, none⟩)), (31, .pointer (some ⟨p, 0, none⟩)), (32, .pointer (some ⟨p, 2, none⟩)), (33, .slice (some ⟨sb, 0, none⟩) D.n D.n), (34, .int .i64 (q : Nat)), (35, .pointer (some ⟨sb, q * 2, none⟩)), (36, .pointer (some ⟨sb, q * 2, none⟩)), (37, .string m), (38, .int .i64 (j : Nat)), (39, .int .u8 b.toNat), (40, .string (turnB m j b)), (41, .pointer (some ⟨sb, q * 2, none⟩)), (42, .pointer (some ⟨sb, q * 2, none⟩))] (fun l wx => DTwo w p sb (.slice sa n cap) D (D.turnM q j b) (l 18) wx ∧ (l 18 = true → l 15 = true) ∧ (l 15 = true → l 12 = true)) (by kernel_rfl) (by kernel_rfl) (by kernel_rfl) (⟨H0.out, fun h => h, fun h => h⟩) ⟨?_, ?_, ?_, ?_, ?_, ?_, ?_, ?_, ?_, ?_, ?_, ?_, ?_, ?_, ?_, ?_, ?_, ?_, ?_, trivial⟩ ?hend
      · -- 0: 25 := Op.move t0
        intro aq wq lq hI hl hdone hlater hold hd ho
        have h0 : aq.tmps.getD 0 undef = .pointer (some ⟨p, 0, none⟩) := ho 0 (by kernel_rfl)
        clear hd ho hdone hlater hold
        exact Reg.step2_move (.tmp 0) rfl h0 hI trivial
      · -- 1: 26 := Op.nilCheck t25
        intro aq wq lq hI hl hdone hlater hold hd ho
        have h25 : aq.tmps.getD 25 undef = .pointer (some ⟨p, 0, none⟩) := hd 25 (by kernel_rfl)
        clear hd ho hdone hlater hold
        rw [Array.getD_eq_getD_getElem?] at h25
        refine Reg.step2_val (.pointer (some ⟨p, 0, none⟩)) ?_ rfl hI trivial
        go_simp
      · -- 2: 27 := Op.fieldAddr 70 t26 1
        intro aq wq lq hI hl hdone hlater hold hd ho
        have h26 : aq.tmps.getD 26 undef = .pointer (some ⟨p, 0, none⟩) := hd 26 (by kernel_rfl)
        clear hd ho hdone hlater hold
        rw [Array.getD_eq_getD_getElem?] at h26
        refine Reg.step2_val (.pointer (some ⟨p, 2, none⟩)) ?_ rfl hI trivial
        go_simp
      · -- 3: 28 := Op.load 64 t27
        intro aq wq lq hI hl hdone hlater hold hd ho
        have h27 : aq.tmps.getD 27 undef = .pointer (some ⟨p, 2, none⟩) := hd 27 (by kernel_rfl)
        clear hd ho hdone hlater hold
        rw [Array.getD_eq_getD_getElem?] at h27
        have e0 := hI.1.c2 HNN.out
        refine Reg.step2_val (.slice (some ⟨sb, 0, none⟩) D.n D.n) ?_ rfl hI trivial
        go_simp
      · -- 4: 29 := Op.move t1
        intro aq wq lq hI hl hdone hlater hold hd ho
        have h1 : aq.tmps.getD 1 undef = .int .i64 (q : Nat) := ho 1 (by kernel_rfl)
        clear hd ho hdone hlater hold
        exact Reg.step2_move (.tmp 1) rfl h1 hI trivial
      · -- 5: 30 := Op.move t0
        intro aq wq lq hI hl hdone hlater hold hd ho
        have h0 : aq.tmps.getD 0 undef = .pointer (some ⟨p, 0, none⟩) := ho 0 (by kernel_rfl)
        clear hd ho hdone hlater hold
        exact Reg.step2_move (.tmp 0) rfl h0 hI trivial
      · -- 6: 31 := Op.nilCheck t30
        intro aq wq lq hI hl hdone hlater hold hd ho
        have h30 : aq.tmps.getD 30 undef = .pointer (some ⟨p, 0, none⟩) := hd 30 (by kernel_rfl)
        clear hd ho hdone hlater hold
        rw [Array.getD_eq_getD_getElem?] at h30
        refine Reg.step2_val (.pointer (some ⟨p, 0, none⟩)) ?_ rfl hI trivial
        go_simp
      · -- 7: 32 := Op.fieldAddr 70 t31 1
        intro aq wq lq hI hl hdone hlater hold hd ho
        have h31 : aq.tmps.getD 31 undef = .pointer (some ⟨p, 0, none⟩) := hd 31 (by kernel_rfl)
        clear hd ho hdone hlater hold
        rw [Array.getD_eq_getD_getElem?] at h31
        refine Reg.step2_val (.pointer (some ⟨p, 2, none⟩)) ?_ rfl hI trivial
        go_simp
      · -- 8: 33 := Op.load 64 t32
        intro aq wq lq hI hl hdone hlater hold hd ho
        have h32 : aq.tmps.getD 32 undef = .pointer (some ⟨p, 2, none⟩) := hd 32 (by kernel_rfl)
        clear hd ho hdone hlater hold
        rw [Array.getD_eq_getD_getElem?] at h32
        have e0 := hI.1.c2 HNN.out
        refine Reg.step2_val (.slice (some ⟨sb, 0, none⟩) D.n D.n) ?_ rfl hI trivial
        go_simp
      · -- 9: 34 := Op.move t1
        intro aq wq lq hI hl hdone hlater hold hd ho
        have h1 : aq.tmps.getD 1 undef = .int .i64 (q : Nat) := ho 1 (by kernel_rfl)
        clear hd ho hdone hlater hold
        exact Reg.step2_move (.tmp 1) rfl h1 hI trivial
      · -- 10: 35 := Op.indexAddr 64 t33 t34
        intro aq wq lq hI hl hdone hlater hold hd ho
        have h33 : aq.tmps.getD 33 undef = .slice (some ⟨sb, 0, none⟩) D.n D.n := hd 33 (by kernel_rfl)
        have h34 : aq.tmps.getD 34 undef = .int .i64 (q : Nat) := hd 34 (by kernel_rfl)
        clear hd ho hdone hlater hold
        rw [Array.getD_eq_getD_getElem?] at h33 h34
        refine Reg.step2_val (.pointer (some ⟨sb, q * 2, none⟩)) ?_ rfl hI trivial
        go_simp
      · -- 11: 36 := Op.fieldAddr 63 t35 0
        intro aq wq lq hI hl hdone hlater hold hd ho
        have h35 : aq.tmps.getD 35 undef = .pointer (some ⟨sb, q * 2, none⟩) := hd 35 (by kernel_rfl)
        clear hd ho hdone hlater hold
        rw [Array.getD_eq_getD_getElem?] at h35
        refine Reg.step2_val (.pointer (some ⟨sb, q * 2, none⟩)) ?_ rfl hI trivial
        go_simp
      · -- 12: 37 := Op.load 9 t36
        intro aq wq lq hI hl hdone hlater hold hd ho
        have h36 : aq.tmps.getD 36 undef = .pointer (some ⟨sb, q * 2, none⟩) := hd 36 (by kernel_rfl)
        clear hd ho hdone hlater hold
        rw [Array.getD_eq_getD_getElem?] at h36
        have g15 : lq 15 = false := by cases h : lq 15 with | false => rfl | true => have := hI.2.2 h; rw [hl] at this; cases this
        have g18 : lq 18 = false := by cases h : lq 18 with | false => rfl | true => have := hI.2.1 h; rw [g15] at this; cases this
        have e0 := HME.out _ (hI.1.at g18)
        refine Reg.step2_val (.string m) ?_ rfl ⟨hI.1, hI.2.1, fun _ => rfl⟩ trivial
        clear hI
        go_simp
      · -- 13: 38 := Op.move t2
        intro aq wq lq hI hl hdone hlater hold hd ho
        have h2 : aq.tmps.getD 2 undef = .int .i64 (j : Nat) := ho 2 (by kernel_rfl)
        clear hd ho hdone hlater hold
        exact Reg.step2_move (.tmp 2) rfl h2 hI trivial
      · -- 14: 39 := Op.move t3
        intro aq wq lq hI hl hdone hlater hold hd ho
        have h3 : aq.tmps.getD 3 undef = .int .u8 b.toNat := ho 3 (by kernel_rfl)
        clear hd ho hdone hlater hold
        exact Reg.step2_move (.tmp 3) rfl h3 hI trivial
      · -- 15: 40 := Op.call ( value (Operand.func 40), args := #(t37, t38, t39),
        intro aq wq lq hI hl hdone hlater hold hd ho
        have h37 : aq.tmps.getD 37 undef = .string m := hd 37 (by kernel_rfl)
        have h38 : aq.tmps.getD 38 undef = .int .i64 (j : Nat) := hd 38 (by kernel_rfl)
        have h39 : aq.tmps.getD 39 undef = .int .u8 b.toNat := hd 39 (by kernel_rfl)
        have gd12 : lq 12 = true := hdone 12 (by kernel_rfl)
        clear hd ho hdone hlater hold
        rw [Array.getD_eq_getD_getElem?] at h37 h38 h39
        refine Reg.step2_call 40 #[.string m, .int .i64 (j : Nat), .int .u8 b.toNat] ?_ ((garbled_any m j b wq (by rw [HMZ.out]; exact HJL.out) (by rw [HMZ.out]; omega)).mono ?_)
        · simp [execOp]
          go_simp
        · rintro e w' ⟨rfl, hb⟩
          exact ⟨_, rfl, rfl, ⟨hI.1.below hb, fun _ => rfl, fun _ => gd12⟩, trivial⟩
      · -- 16: 41 := Op.indexAddr 64 t28 t29
        intro aq wq lq hI hl hdone hlater hold hd ho
        have h28 : aq.tmps.getD 28 undef = .slice (some ⟨sb, 0, none⟩) D.n D.n := hd 28 (by kernel_rfl)
        have h29 : aq.tmps.getD 29 undef = .int .i64 (q : Nat) := hd 29 (by kernel_rfl)
        clear hd ho hdone hlater hold
        rw [Array.getD_eq_getD_getElem?] at h28 h29
        refine Reg.step2_val (.pointer (some ⟨sb, q * 2, none⟩)) ?_ rfl hI trivial
        go_simp
      · -- 17: 42 := Op.fieldAddr 63 t41 0
        intro aq wq lq hI hl hdone hlater hold hd ho
        have h41 : aq.tmps.getD 41 undef = .pointer (some ⟨sb, q * 2, none⟩) := hd 41 (by kernel_rfl)
        clear hd ho hdone hlater hold
        rw [Array.getD_eq_getD_getElem?] at h41
        refine Reg.step2_val (.pointer (some ⟨sb, q * 2, none⟩)) ?_ rfl hI trivial
        go_simp
      · -- 18: None := Op.store 9 t42 t40
        intro aq wq lq hI hl hdone hlater hold hd ho
        have h42 : aq.tmps.getD 42 undef = .pointer (some ⟨sb, q * 2, none⟩) := hd 42 (by kernel_rfl)
        have h40 : aq.tmps.getD 40 undef = .string (turnB m j b) := hd 40 (by kernel_rfl)
        have gd15 : lq 15 = true := hdone 15 (by kernel_rfl)
        clear hd ho hdone hlater hold
        rw [Array.getD_eq_getD_getElem?] at h42 h40
        have hJ := hI.1
        have hK := hI.2.2
        clear hI
        rw [show lq 18 = false from hl] at hJ
        have e0 := HME.out _ hJ.1
        have f0 := DevAt.sfz hJ.1 (q * 2)
        refine Reg.step2_skip (wq.setCell ⟨sb, q * 2, none⟩ (.string (turnB m j b))) rfl ?_ ⟨⟨HM.out _ hJ.1, hJ.2.setCell (p := ⟨sb, q * 2, none⟩) (fun _ => .inr (.inl rfl)) _⟩, fun _ => gd15, hK⟩ trivial
        clear hJ hK
        simp [execOp]
        go_simp
      case hend =>
      intro wx hI
      simp only [Reg.fill, List.foldl_cons, List.foldl_nil, List.setIfInBounds_toArray, List.set_cons_zero, List.set_cons_succ]
      obtain ⟨hd1, hc1⟩ : DevAt wx p sb (.slice sa n cap) (D.turnM q j b) ∧ Chg (foot p sb (.slice sa n cap)) w wx := hI.1
      obtain ⟨E, hE⟩ : ∃ E, E = D.turnM q j b := ⟨_, rfl⟩
      have hEc : E.cache = D.cache := by rw [hE, D.turnM_eq q j b hq]
      have hEs : E.size = D.size := by rw [hE, D.turnM_eq q j b hq]
      rw [← hE] at hd1
      have HEE := Lib.hid hE
      have HN := Lib.hid (show n = E.cache.length by rw [hEc, HND.out])
      have h3 := hd1.c3
      have HD1 := Lib.hid hd1
      have HC1 := Lib.hid hc1
      clear hd1 hc1 hE hEc HD H0 HME HM hI
      go_wp2_with fail
      clear h3 c1
      go_loopw [48] (fun i wr => ∃ k : Nat, k ≤ n ∧ i = .int .i64 k ∧ Chg (foot p sb (.slice sa n cap)) w wr ∧ DevAt wr p sb (.slice sa n cap) (E.turnC q j b k)) (fun i _ => n - (intOf i).toNat)
      case atStart => exact ⟨0, Nat.zero_le _, rfl, HC1.out, by rw [Dv.turnC_zero]; exact HD1.out⟩
      case round =>
        obtain ⟨k, hk, rfl, hc, hd⟩ := hrel
        clear HC1 HD1
        by_cases hlt : k < n
        · have hkn : (k : Int) < (n : Int) := by omega
          obtain ⟨g, rfl⟩ := hsa (by omega)
          obtain ⟨⟨si, st⟩, hx⟩ : ∃ x, E.cache[k]? = some x := ⟨_, List.getElem?_eq_getElem (by rw [← HN.out]; omega)⟩
          have hlen : n = (E.turnC q j b k).cache.length := by rw [Dv.turnC_len _ _ _ _ _ (by rw [← HN.out]; exact hk), ← HN.out]
          have hxk : (E.turnC q j b k).cache[k]? = some (si, st) := by rw [Dv.turnC_get _ _ _ _ _ (by rw [← HN.out]; exact hk)]; exact hx
          obtain ⟨hx0, hx1⟩ := hd.cw0x hlen k hxk
          simp only at hx0 hx1
          have h3 := hd.c3
          have hst0 := hd.ok.text (si, st) (List.mem_of_getElem? hxk)
          have hst : st.size = D.size := by rw [← hEs]; exact hst0
          clear hst0
          have hgl : g < wr.heap.size := hd.lt g (.inr (.inr rfl))
          by_cases hsq : si = q
          · subst hsq
            have hgF : gF si j b (si, st) = (si, turnB st j b) := by unfold gF; rw [if_pos rfl]
            have hnext := Dv.turnC_next E si j b k (si, st) hx
            rw [hgF] at hnext
            have HT := Lib.hid (show ∀ X, DevAt X p sb (.slice (some ⟨g, 0, none⟩) n cap) (E.turnC si j b k) → DevAt (X.setCell ⟨g, k * 2 + 1, none⟩ (.string (turnB st j b))) p sb (.slice (some ⟨g, 0, none⟩) n cap) (E.turnC si j b (k + 1)) from
              fun X hX => by rw [hnext]; exact hX.retext hlen k (si, st) hxk (turnB st j b) (by rw [turnB_size, hst]; exact hEs.symm))
            have HCE := Lib.hid (show ∀ X, DevAt X p sb (.slice (some ⟨g, 0, none⟩) n cap) (E.turnC si j b k) → X.cell? ⟨g, k * 2 + 1, none⟩ = some (.string st) from fun X hX => (hX.cw0x hlen k hxk).2)
            have HFZ := Lib.hid (show ∀ X, DevAt X p sb (.slice (some ⟨g, 0, none⟩) n cap) (E.turnC si j b k) → X.frozen? ⟨g, k * 2 + 1, none⟩ = false from fun X hX => hX.ctfz hlen _)
            obtain ⟨wb, hwb⟩ : ∃ wb, wb = wr.heap.size := ⟨_, rfl⟩
            obtain ⟨W2, hW2⟩ : ∃ W2, W2 = wr.alloc (.cells #[.int .i64 (si : Nat), .string st] 76) := ⟨_, rfl⟩
            have H0 := Lib.hid (show DTwo w p sb (.slice (some ⟨g, 0, none⟩) n cap) (E.turnC si j b k) (E.turnC si j b (k + 1)) false W2.drew from by rw [hW2]; exact ⟨(hd.alloc _).drew, (hc.alloc _).drew⟩)
            have H1 := Lib.hid (show W2.drew.cell? ⟨wb, 1, none⟩ = some (.string st) by rw [hW2, hwb]; show World.cell? (World.alloc _ _) _ = _; simp)
            have HW2 := Lib.hid hW2
            have HWB := Lib.hid hwb
            have HGL := Lib.hid (show g < wb by omega)
            have HST := Lib.hid hst
            clear hd hc hnext hgF hxk hx hlen hst hW2 hwb
            go_wp2_with fail
            rw [← HW2.out, ← HWB.out]
            clear hx0 hx1 h3
            refine Reg.region_vals (by kernel_rfl) [(57, .pointer (some ⟨p, 0, none⟩)), (58, .pointer (some ⟨p, 0, none⟩)), (59, .pointer (some ⟨p, 3, none⟩)), (60, .slice (some ⟨g, 0, none⟩) n cap), (61, .int .i64 (k : Nat)), (62, .pointer (some ⟨wb, 1, none⟩)), (63, .string st), (64, .int .i64 (j : Nat)), (65, .int .u8 b.toNat), (66, .string (turnB st j b)), (67, .pointer (some ⟨g, k * 2, none⟩)), (68, .pointer (some ⟨g, k * 2 + 1, none⟩))] (fun l wx => DTwo w p sb (.slice (some ⟨g, 0, none⟩) n cap) (E.turnC si j b k) (E.turnC si j b (k + 1)) (l 12) wx ∧ wx.cell? ⟨wb, 1, none⟩ = some (.string st)) (by kernel_rfl) (by kernel_rfl) (by kernel_rfl) (⟨H0.out, H1.out⟩) ⟨?_, ?_, ?_, ?_, ?_, ?_, ?_, ?_, ?_, ?_, ?_, ?_, ?_, trivial⟩ ?hend
            · -- 0: 57 := Op.move t0
              intro aq wq lq hI hl hdone hlater hold hd ho
              have h0 : aq.tmps.getD 0 undef = .pointer (some ⟨p, 0, none⟩) := ho 0 (by kernel_rfl)
              clear hd ho hdone hlater hold
              exact Reg.step2_move (.tmp 0) rfl h0 hI trivial
            · -- 1: 58 := Op.nilCheck t57
              intro aq wq lq hI hl hdone hlater hold hd ho
              have h57 : aq.tmps.getD 57 undef = .pointer (some ⟨p, 0, none⟩) := hd 57 (by kernel_rfl)
              clear hd ho hdone hlater hold
              rw [Array.getD_eq_getD_getElem?] at h57
              refine Reg.step2_val (.pointer (some ⟨p, 0, none⟩)) ?_ rfl hI trivial
              go_simp
            · -- 2: 59 := Op.fieldAddr 70 t58 2
              intro aq wq lq hI hl hdone hlater hold hd ho
              have h58 : aq.tmps.getD 58 undef = .pointer (some ⟨p, 0, none⟩) := hd 58 (by kernel_rfl)
              clear hd ho hdone hlater hold
              rw [Array.getD_eq_getD_getElem?] at h58
              refine Reg.step2_val (.pointer (some ⟨p, 3, none⟩)) ?_ rfl hI trivial
              go_simp
            · -- 3: 60 := Op.load 66 t59
              intro aq wq lq hI hl hdone hlater hold hd ho
              have h59 : aq.tmps.getD 59 undef = .pointer (some ⟨p, 3, none⟩) := hd 59 (by kernel_rfl)
              clear hd ho hdone hlater hold
              rw [Array.getD_eq_getD_getElem?] at h59
              have e0 := hI.1.1.c3
              refine Reg.step2_val (.slice (some ⟨g, 0, none⟩) n cap) ?_ rfl hI trivial
              go_simp
            · -- 4: 61 := Op.move t8
              intro aq wq lq hI hl hdone hlater hold hd ho
              have h8 : aq.tmps.getD 8 undef = .int .i64 (k : Nat) := ho 8 (by kernel_rfl)
              clear hd ho hdone hlater hold
              exact Reg.step2_move (.tmp 8) rfl h8 hI trivial
            · -- 5: 62 := Op.fieldAddr 76 t9 1
              intro aq wq lq hI hl hdone hlater hold hd ho
              have h9 : aq.tmps.getD 9 undef = .pointer (some ⟨wb, 0, none⟩) := ho 9 (by kernel_rfl)
              clear hd ho hdone hlater hold
              rw [Array.getD_eq_getD_getElem?] at h9
              refine Reg.step2_val (.pointer (some ⟨wb, 1, none⟩)) ?_ rfl hI trivial
              go_simp
            · -- 6: 63 := Op.load 9 t62
              intro aq wq lq hI hl hdone hlater hold hd ho
              have h62 : aq.tmps.getD 62 undef = .pointer (some ⟨wb, 1, none⟩) := hd 62 (by kernel_rfl)
              clear hd ho hdone hlater hold
              rw [Array.getD_eq_getD_getElem?] at h62
              have e0 := hI.2
              refine Reg.step2_val (.string st) ?_ rfl hI trivial
              go_simp
            · -- 7: 64 := Op.move t2
              intro aq wq lq hI hl hdone hlater hold hd ho
              have h2 : aq.tmps.getD 2 undef = .int .i64 (j : Nat) := ho 2 (by kernel_rfl)
              clear hd ho hdone hlater hold
              exact Reg.step2_move (.tmp 2) rfl h2 hI trivial
            · -- 8: 65 := Op.move t3
              intro aq wq lq hI hl hdone hlater hold hd ho
              have h3 : aq.tmps.getD 3 undef = .int .u8 b.toNat := ho 3 (by kernel_rfl)
              clear hd ho hdone hlater hold
              exact Reg.step2_move (.tmp 3) rfl h3 hI trivial
            · -- 9: 66 := Op.call ( value (Operand.func 40), args := #(t63, t64, t65),
              intro aq wq lq hI hl hdone hlater hold hd ho
              have h63 : aq.tmps.getD 63 undef = .string st := hd 63 (by kernel_rfl)
              have h64 : aq.tmps.getD 64 undef = .int .i64 (j : Nat) := hd 64 (by kernel_rfl)
              have h65 : aq.tmps.getD 65 undef = .int .u8 b.toNat := hd 65 (by kernel_rfl)
              clear hd ho hdone hlater hold
              rw [Array.getD_eq_getD_getElem?] at h63 h64 h65
              refine Reg.step2_call 40 #[.string st, .int .i64 (j : Nat), .int .u8 b.toNat] ?_ ((garbled_any st j b wq (by rw [HST.out]; exact HJL.out) (by rw [HST.out]; omega)).mono ?_)
              · simp [execOp]
                go_simp
              · rintro e w' ⟨rfl, hb⟩
                exact ⟨_, rfl, rfl, ⟨hI.1.below hb, by rw [hb.cell (World.block_lt_of_cell? _ _ hI.2)]; exact hI.2⟩, trivial⟩
            · -- 10: 67 := Op.indexAddr 66 t60 t61
              intro aq wq lq hI hl hdone hlater hold hd ho
              have h60 : aq.tmps.getD 60 undef = .slice (some ⟨g, 0, none⟩) n cap := hd 60 (by kernel_rfl)
              have h61 : aq.tmps.getD 61 undef = .int .i64 (k : Nat) := hd 61 (by kernel_rfl)
              clear hd ho hdone hlater hold
              rw [Array.getD_eq_getD_getElem?] at h60 h61
              refine Reg.step2_val (.pointer (some ⟨g, k * 2, none⟩)) ?_ rfl hI trivial
              go_simp
            · -- 11: 68 := Op.fieldAddr 76 t67 1
              intro aq wq lq hI hl hdone hlater hold hd ho
              have h67 : aq.tmps.getD 67 undef = .pointer (some ⟨g, k * 2, none⟩) := hd 67 (by kernel_rfl)
              clear hd ho hdone hlater hold
              rw [Array.getD_eq_getD_getElem?] at h67
              refine Reg.step2_val (.pointer (some ⟨g, k * 2 + 1, none⟩)) ?_ rfl hI trivial
              go_simp
            · -- 12: None := Op.store 9 t68 t66
              intro aq wq lq hI hl hdone hlater hold hd ho
              have h68 : aq.tmps.getD 68 undef = .pointer (some ⟨g, k * 2 + 1, none⟩) := hd 68 (by kernel_rfl)
              have h66 : aq.tmps.getD 66 undef = .string (turnB st j b) := hd 66 (by kernel_rfl)
              have gd9 : lq 9 = true := hdone 9 (by kernel_rfl)
              clear hd ho hdone hlater hold
              rw [Array.getD_eq_getD_getElem?] at h68 h66
              have hJ := hI.1
              have hK := hI.2
              clear hI
              rw [show lq 12 = false from hl] at hJ
              have e0 := HCE.out _ hJ.1
              have f0 := HFZ.out _ hJ.1
              refine Reg.step2_skip (wq.setCell ⟨g, k * 2 + 1, none⟩ (.string (turnB st j b))) rfl ?_ ⟨⟨HT.out _ hJ.1, hJ.2.setCell (p := ⟨g, k * 2 + 1, none⟩) (fun _ => .inr (.inr rfl)) _⟩, by rw [World.cell?_setCell_other _ _ _ _ (fun e => by have := HGL.out; simp at e <;> omega)]; exact hK⟩ trivial
              clear hJ hK
              simp [execOp]
              go_simp
            case hend =>
            intro wx hI
            simp only [Reg.fill, List.foldl_cons, List.foldl_nil, List.setIfInBounds_toArray, List.set_cons_zero, List.set_cons_succ]
            obtain ⟨hd1, hc1⟩ : DevAt wx p sb (.slice (some ⟨g, 0, none⟩) n cap) (E.turnC si j b (k + 1)) ∧ Chg (foot p sb (.slice (some ⟨g, 0, none⟩) n cap)) w wx := hI.1
            have HD1 := Lib.hid hd1
            have HC1 := Lib.hid hc1
            clear hd1 hc1 hI
            go_wp2_with fail
            go_roundw
            case rel => exact ⟨k + 1, by omega, by go_num, HC1.out, HD1.out⟩
            case measure => simp [intOf]; omega
          · have hsame := Dv.turnC_same E q j b k (si, st) hx hsq
            have q1 : ((si : Int) == (q : Int)) = false := by simp; omega
            have HD1 := Lib.hid (show ∀ m, DevAt ((wr.alloc (.cells #[.int .i64 (si : Nat), .string st] 76)).drewN m) p sb (.slice (some ⟨g, 0, none⟩) n cap) (E.turnC q j b (k + 1)) from fun m => by rw [hsame]; exact (hd.alloc _).drewN m)
            have HC1 := Lib.hid (show ∀ m, Chg (foot p sb (.slice (some ⟨g, 0, none⟩) n cap)) w ((wr.alloc (.cells #[.int .i64 (si : Nat), .string st] 76)).drewN m) from fun m => (hc.alloc _).drewN m)
            clear hd hc hsame hxk hx hlen hst
            go_wp2_with fail
            go_roundw
            case rel => exact ⟨k + 1, by omega, by go_num, HC1.out 0, HD1.out 0⟩
            case measure => simp [intOf]; omega
        · obtain rfl : k = n := by omega
          have HD1 := Lib.hid hd
          have HC1 := Lib.hid hc
          clear hd hc
          go_wp2_with fail
          go_end0
          exact ⟨rfl, HC1.out, by rw [HND.out, ← HEE.out]; exact HD1.out⟩
end Go.Proofs.Ytlnocdmechidfaa.Dev
