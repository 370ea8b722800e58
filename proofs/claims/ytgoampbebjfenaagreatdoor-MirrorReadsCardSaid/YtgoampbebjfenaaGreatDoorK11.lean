/- Layers' contracts, bundled: DevGb, MirKey, MirA, MirB, MirC. -/
import Derived.Deep.DeepCutAuto
import Derived.Deep.RegionWith
import Derived.Test.YtgoampbebjfenaaGreatDoorK07
import Derived.Test.YtgoampbebjfenaaGreatDoorK10
import Derived.Test.YtgoampbebjfenaaGreatDoorK02
import Derived.Test.YtgoampbebjfenaaGreatDoorProg
import Derived.Test.YtgoampbebjfenaaGreatDoorK01
import Derived.WideKeyPair
import Derived.DeepKeys4
import Derived.Maps.Views
import Derived.Maps.OwnSet
import Derived.Test.YtgoampbebjfenaaGreatDoorK05
import Derived.Test.YtgoampbebjfenaaGreatDoorK08
/- Contracts of layer 3: Garble. -/
namespace Go.Proofs.YtgoampbebjfenaaGreatDoor.Dev
open Go Go.RowKit Go.Proofs.YtgoampbebjfenaaGreatDoor
set_option linter.unusedVariables false

/-- the device is one of two -/
def DTwo (w0 : World) (p sb : Nat) (cv : Value) (D D' : Dv) (b : Bool) (w : World) : Prop := DevAt w p sb cv (if b then D' else D) ∧ Chg (foot p sb cv) w0 w
section
variable {w0 w : World} {p sb : Nat} {cv : Value} {D D' : Dv} {b : Bool}
theorem DTwo.at (h : DTwo w0 p sb cv D D' b w) (hb : b = false) : DevAt w p sb cv D := by subst hb; exact h.1
theorem DTwo.c2 (h : DTwo w0 p sb cv D D' b w) (hn : D'.n = D.n) : w.cell? ⟨p, 2, none⟩ = some (.slice (some ⟨sb, 0, none⟩) D.n D.n) := by
  have := h.1.c2
  cases b
  · exact this
  · rw [← hn]; exact this
theorem DTwo.below {w' : World} (h : DTwo w0 p sb cv D D' b w) (hb : Below w.heap.size w w') : DTwo w0 p sb cv D D' b w' :=
  ⟨h.1.below hb (Nat.le_refl _), h.2.trans (Chg.of_below (R := fun _ => False) hb (Nat.le_refl _)) (fun _ _ h => h.elim)⟩
end

set_option maxRecDepth 100000 in
set_option maxHeartbeats 4000000 in
theorem garble_any {p sb : Nat} {cv : Value} {D : Dv} (i at' : Int) (b : UInt8) (w : World) (h : DevAt w p sb cv D) (hl : D.cache.length ≤ 1000000000) :
    Calls Tryz.prog 10 #[.pointer (some ⟨p, 0, none⟩), .int .i64 i, .int .i64 at', .int .u8 b.toNat] w fun e w' => e = .returned (.tuple #[]) ∧ Chg (foot p sb cv) w w' ∧ DevAt w' p sb cv (D.garbleD i at' b) := by
  have hn4 := h.ok.n4096
  have HD := Lib.hid h
  cases hh : hasB D i with
  | false =>
    have e3 : D.garbleD i at' b = D := by unfold Dv.garbleD; rw [if_pos (.inl hh)]
    rw [e3]
    have HH := Lib.hid hh
    clear h e3 hh
    go_enter Tryz.func10, Tryz.ntmps10
    go_wp2_with fail
    refine (has_any i _ HD.out).mono ?_
    rintro e w' ⟨rfl, rfl⟩
    rw [HH.out]
    go_wp2_with fail
    refine bodyPost_ret (results_none rfl _ _ _) rfl ?_
    exact ⟨rfl, Chg.refl _ _, HD.out⟩
  | true =>
    have hrr : 0 ≤ i ∧ i < D.n := by unfold hasB at hh; simpa using hh
    obtain ⟨q, rfl⟩ := Int.eq_ofNat_of_zero_le hrr.1
    have hq : q < D.n := by omega
    have hqi : (q : Int) < (D.n : Int) := by omega
    have HH := Lib.hid hh
    by_cases hat : at' < 0
    · have e3 : D.garbleD q at' b = D := by unfold Dv.garbleD; rw [if_pos (.inr hat)]
      rw [e3]
      clear h e3 hh hrr
      go_enter Tryz.func10, Tryz.ntmps10
      go_wp2_with fail
      refine (has_any q _ HD.out).mono ?_
      rintro e w' ⟨rfl, rfl⟩
      rw [HH.out]
      go_wp2_with fail
      refine bodyPost_ret (results_none rfl _ _ _) rfl ?_
      exact ⟨rfl, Chg.refl _ _, HD.out⟩
    · obtain ⟨a0, rfl⟩ := Int.eq_ofNat_of_zero_le (show 0 ≤ at' by omega)
      obtain ⟨sa, cap, hcv, hsa⟩ := h.cv_slice
      subst hcv
      obtain ⟨n, hn⟩ : ∃ n, n = D.cache.length := ⟨_, rfl⟩
      rw [← hn] at HD h hl hsa ⊢
      have HND := Lib.hid hn.symm
      have c1 := h.c1
      have hs1 := h.ok.s128
      have hs2 := h.ok.s1024
      obtain ⟨j, hj⟩ : ∃ j, j = a0 % D.size := ⟨_, rfl⟩
      have hjl : j < D.size := by rw [hj]; exact Nat.mod_lt _ (by omega)
      have hjr : Int.tmod (a0 : Int) (D.size : Int) = (j : Int) := by rw [hj]; rfl
      have hs0 : ¬ (D.size : Int) = 0 := by omega
      have HJ := Lib.hid hj
      have e3 : D.garbleD q a0 b = (D.turnM q j b).turnC q j b D.cache.length := by
        unfold Dv.garbleD; rw [if_neg (by rintro (h | h); · { rw [hh] at h; cases h }; · omega), Int.toNat_natCast, Int.toNat_natCast, ← hj]
      rw [e3]
      have hmz := h.ok.media _ (List.getElem_mem hq)
      obtain ⟨m, hm⟩ : ∃ m, m = (D.secs[q]'hq).1 := ⟨_, rfl⟩
      rw [← hm] at hmz
      have HNN := Lib.hid (show (D.turnM q j b).n = D.n by rw [D.turnM_eq q j b hq]; show List.length _ = _; rw [List.length_set]; rfl)
      have HM := Lib.hid (show ∀ X, DevAt X p sb (.slice sa n cap) D → DevAt (X.setCell ⟨sb, q * 2, none⟩ (.string (turnB m j b))) p sb (.slice sa n cap) (D.turnM q j b) from
        fun X hX => hX.setMedia q hq _ _ (by rw [hm]; exact D.turnM_eq q j b hq) (D.turnM_ok q j b hq h.ok))
      have HME := Lib.hid (show ∀ X, DevAt X p sb (.slice sa n cap) D → X.cell? ⟨sb, q * 2, none⟩ = some (.string m) from fun X hX => by rw [hm]; exact hX.media q hq)
      have HMZ := Lib.hid hmz
      have HJL := Lib.hid hjl
      clear h e3 hm hmz hj hjl hn hh hrr
      go_enter Tryz.func10, Tryz.ntmps10
      go_wp2_with fail
      refine (has_any q _ HD.out).mono ?_
      rintro e w' ⟨rfl, rfl⟩
      rw [HH.out]
      go_wp2_with fail
      have H0 := Lib.hid (show DTwo w p sb (.slice sa n cap) D (D.turnM q j b) false w.drew from ⟨HD.out.drew, (Chg.refl _ _).drew⟩)
      refine Reg.region_vals (by kernel_rfl) [(25, .pointer (some ⟨p, 0, none⟩)), (26, .pointer (some ⟨p, 0, none⟩)), (27, .pointer (some ⟨p, 2, none⟩)), (28, .slice (some ⟨sb, 0, none⟩) D.n D.n), (29, .int .i64 (q : Nat)), (30, .pointer (some ⟨p, 0, none⟩)), (31, .pointer (some ⟨p, 0, none⟩)), (32, .pointer (some ⟨p, 2, none⟩)), (33, .slice (some ⟨sb, 0, none⟩) D.n D.n), (34, .int .i64 (q : Nat)), (35, .pointer (some ⟨sb, q * 2, none⟩)), (36, .pointer (some ⟨sb, q * 2, none⟩)), (37, .string m), (38, .int .i64 (j : Nat)), (39, .int .u8 b.toNat), (40, .string (turnB m j b)), (41, .pointer (some ⟨sb, q * 2, none⟩)), (42, .pointer (some ⟨sb, q * 2, none⟩))] (fun l wx => DTwo w p sb (.slice sa n cap) D (D.turnM q j b) (l 18) wx ∧ (l 18 = true → l 15 = true) ∧ (l 15 = true → l 12 = true)) (by kernel_rfl) (by kernel_rfl) (by kernel_rfl) (⟨H0.out, fun h => h, fun h => h⟩) ⟨?_, ?_, ?_, ?_, ?_, ?_, ?_, ?_, ?_, ?_, ?_, ?_, ?_, ?_, ?_, ?_, ?_, ?_, ?_, trivial⟩ ?hend
      · skip
        intro aq wq lq hI hl hdone hlater hold hd ho
        have h0 : aq.tmps.getD 0 undef = .pointer (some ⟨p, 0, none⟩) := ho 0 (by kernel_rfl)
        clear hd ho hdone hlater hold
        exact Reg.step2_move (.tmp 0) rfl h0 hI trivial
      · skip
        intro aq wq lq hI hl hdone hlater hold hd ho
        have h25 : aq.tmps.getD 25 undef = .pointer (some ⟨p, 0, none⟩) := hd 25 (by kernel_rfl)
        clear hd ho hdone hlater hold
        rw [Array.getD_eq_getD_getElem?] at h25
        refine Reg.step2_val (.pointer (some ⟨p, 0, none⟩)) ?_ rfl hI trivial
        go_simp
      · skip
        intro aq wq lq hI hl hdone hlater hold hd ho
        have h26 : aq.tmps.getD 26 undef = .pointer (some ⟨p, 0, none⟩) := hd 26 (by kernel_rfl)
        clear hd ho hdone hlater hold
        rw [Array.getD_eq_getD_getElem?] at h26
        refine Reg.step2_val (.pointer (some ⟨p, 2, none⟩)) ?_ rfl hI trivial
        go_simp
      · skip
        intro aq wq lq hI hl hdone hlater hold hd ho
        have h27 : aq.tmps.getD 27 undef = .pointer (some ⟨p, 2, none⟩) := hd 27 (by kernel_rfl)
        clear hd ho hdone hlater hold
        rw [Array.getD_eq_getD_getElem?] at h27
        have e0 := hI.1.c2 HNN.out
        refine Reg.step2_val (.slice (some ⟨sb, 0, none⟩) D.n D.n) ?_ rfl hI trivial
        go_simp
      · skip
        intro aq wq lq hI hl hdone hlater hold hd ho
        have h1 : aq.tmps.getD 1 undef = .int .i64 (q : Nat) := ho 1 (by kernel_rfl)
        clear hd ho hdone hlater hold
        exact Reg.step2_move (.tmp 1) rfl h1 hI trivial
      · skip
        intro aq wq lq hI hl hdone hlater hold hd ho
        have h0 : aq.tmps.getD 0 undef = .pointer (some ⟨p, 0, none⟩) := ho 0 (by kernel_rfl)
        clear hd ho hdone hlater hold
        exact Reg.step2_move (.tmp 0) rfl h0 hI trivial
      · skip
        intro aq wq lq hI hl hdone hlater hold hd ho
        have h30 : aq.tmps.getD 30 undef = .pointer (some ⟨p, 0, none⟩) := hd 30 (by kernel_rfl)
        clear hd ho hdone hlater hold
        rw [Array.getD_eq_getD_getElem?] at h30
        refine Reg.step2_val (.pointer (some ⟨p, 0, none⟩)) ?_ rfl hI trivial
        go_simp
      · skip
        intro aq wq lq hI hl hdone hlater hold hd ho
        have h31 : aq.tmps.getD 31 undef = .pointer (some ⟨p, 0, none⟩) := hd 31 (by kernel_rfl)
        clear hd ho hdone hlater hold
        rw [Array.getD_eq_getD_getElem?] at h31
        refine Reg.step2_val (.pointer (some ⟨p, 2, none⟩)) ?_ rfl hI trivial
        go_simp
      · skip
        intro aq wq lq hI hl hdone hlater hold hd ho
        have h32 : aq.tmps.getD 32 undef = .pointer (some ⟨p, 2, none⟩) := hd 32 (by kernel_rfl)
        clear hd ho hdone hlater hold
        rw [Array.getD_eq_getD_getElem?] at h32
        have e0 := hI.1.c2 HNN.out
        refine Reg.step2_val (.slice (some ⟨sb, 0, none⟩) D.n D.n) ?_ rfl hI trivial
        go_simp
      · skip
        intro aq wq lq hI hl hdone hlater hold hd ho
        have h1 : aq.tmps.getD 1 undef = .int .i64 (q : Nat) := ho 1 (by kernel_rfl)
        clear hd ho hdone hlater hold
        exact Reg.step2_move (.tmp 1) rfl h1 hI trivial
      · skip
        intro aq wq lq hI hl hdone hlater hold hd ho
        have h33 : aq.tmps.getD 33 undef = .slice (some ⟨sb, 0, none⟩) D.n D.n := hd 33 (by kernel_rfl)
        have h34 : aq.tmps.getD 34 undef = .int .i64 (q : Nat) := hd 34 (by kernel_rfl)
        clear hd ho hdone hlater hold
        rw [Array.getD_eq_getD_getElem?] at h33 h34
        refine Reg.step2_val (.pointer (some ⟨sb, q * 2, none⟩)) ?_ rfl hI trivial
        go_simp
      · skip
        intro aq wq lq hI hl hdone hlater hold hd ho
        have h35 : aq.tmps.getD 35 undef = .pointer (some ⟨sb, q * 2, none⟩) := hd 35 (by kernel_rfl)
        clear hd ho hdone hlater hold
        rw [Array.getD_eq_getD_getElem?] at h35
        refine Reg.step2_val (.pointer (some ⟨sb, q * 2, none⟩)) ?_ rfl hI trivial
        go_simp
      · skip
        intro aq wq lq hI hl hdone hlater hold hd ho
        have h36 : aq.tmps.getD 36 undef = .pointer (some ⟨sb, q * 2, none⟩) := hd 36 (by kernel_rfl)
        clear hd ho hdone hlater hold
        rw [Array.getD_eq_getD_getElem?] at h36
        have g15 : lq 15 = false := by cases h : lq 15 with | false => rfl | true => have := hI.2.2 h; rw [hl] at this; cases this
        have g18 : lq 18 = false := by cases h : lq 18 with | false => rfl | true => have := hI.2.1 h; rw [g15] at this; cases this
        have e0 := HME.out _ (hI.1.at g18)
        refine Reg.step2_val (.string m) ?_ rfl ⟨hI.1, hI.2.1, fun _ => rfl⟩ trivial
        clear hI
        go_simp
      · skip
        intro aq wq lq hI hl hdone hlater hold hd ho
        have h2 : aq.tmps.getD 2 undef = .int .i64 (j : Nat) := ho 2 (by kernel_rfl)
        clear hd ho hdone hlater hold
        exact Reg.step2_move (.tmp 2) rfl h2 hI trivial
      · skip
        intro aq wq lq hI hl hdone hlater hold hd ho
        have h3 : aq.tmps.getD 3 undef = .int .u8 b.toNat := ho 3 (by kernel_rfl)
        clear hd ho hdone hlater hold
        exact Reg.step2_move (.tmp 3) rfl h3 hI trivial
      · skip
        intro aq wq lq hI hl hdone hlater hold hd ho
        have h37 : aq.tmps.getD 37 undef = .string m := hd 37 (by kernel_rfl)
        have h38 : aq.tmps.getD 38 undef = .int .i64 (j : Nat) := hd 38 (by kernel_rfl)
        have h39 : aq.tmps.getD 39 undef = .int .u8 b.toNat := hd 39 (by kernel_rfl)
        have gd12 : lq 12 = true := hdone 12 (by kernel_rfl)
        clear hd ho hdone hlater hold
        rw [Array.getD_eq_getD_getElem?] at h37 h38 h39
        refine Reg.step2_call 31 #[.string m, .int .i64 (j : Nat), .int .u8 b.toNat] ?_ ((garbled_any m j b wq (by rw [HMZ.out]; exact HJL.out) (by rw [HMZ.out]; omega)).mono ?_)
        · simp [execOp]
          go_simp
        · rintro e w' ⟨rfl, hb⟩
          exact ⟨_, rfl, rfl, ⟨hI.1.below hb, fun _ => rfl, fun _ => gd12⟩, trivial⟩
      · skip
        intro aq wq lq hI hl hdone hlater hold hd ho
        have h28 : aq.tmps.getD 28 undef = .slice (some ⟨sb, 0, none⟩) D.n D.n := hd 28 (by kernel_rfl)
        have h29 : aq.tmps.getD 29 undef = .int .i64 (q : Nat) := hd 29 (by kernel_rfl)
        clear hd ho hdone hlater hold
        rw [Array.getD_eq_getD_getElem?] at h28 h29
        refine Reg.step2_val (.pointer (some ⟨sb, q * 2, none⟩)) ?_ rfl hI trivial
        go_simp
      · skip
        intro aq wq lq hI hl hdone hlater hold hd ho
        have h41 : aq.tmps.getD 41 undef = .pointer (some ⟨sb, q * 2, none⟩) := hd 41 (by kernel_rfl)
        clear hd ho hdone hlater hold
        rw [Array.getD_eq_getD_getElem?] at h41
        refine Reg.step2_val (.pointer (some ⟨sb, q * 2, none⟩)) ?_ rfl hI trivial
        go_simp
      · skip
        intro aq wq lq hI hl hdone hlater hold hd ho
        have h42 : aq.tmps.getD 42 undef = .pointer (some ⟨sb, q * 2, none⟩) := hd 42 (by kernel_rfl)
        have h40 : aq.tmps.getD 40 undef = .string (turnB m j b) := hd 40 (by kernel_rfl)
        have gd15 : lq 15 = true := hdone 15 (by kernel_rfl)
        clear hd ho hdone hlater hold
        rw [Array.getD_eq_getD_getElem?] at h42 h40
        have hJ := hI.1
        have hK := hI.2.2
        clear hI
        rw [show lq 18 = false from hl] at hJ
        have e0 := HME.out _ hJ.1
        have f0 := DevAt.sfz hJ.1 (q * 2)
        refine Reg.step2_skip (wq.setCell ⟨sb, q * 2, none⟩ (.string (turnB m j b))) rfl ?_ ⟨⟨HM.out _ hJ.1, hJ.2.setCell (p := ⟨sb, q * 2, none⟩) (fun _ => .inr (.inl rfl)) _⟩, fun _ => gd15, hK⟩ trivial
        clear hJ hK
        simp [execOp]
        go_simp
      case hend =>
      intro wx hI
      simp only [Reg.fill, List.foldl_cons, List.foldl_nil, List.setIfInBounds_toArray, List.set_cons_zero, List.set_cons_succ]
      obtain ⟨hd1, hc1⟩ : DevAt wx p sb (.slice sa n cap) (D.turnM q j b) ∧ Chg (foot p sb (.slice sa n cap)) w wx := hI.1
      obtain ⟨E, hE⟩ : ∃ E, E = D.turnM q j b := ⟨_, rfl⟩
      have hEc : E.cache = D.cache := by rw [hE, D.turnM_eq q j b hq]
      have hEs : E.size = D.size := by rw [hE, D.turnM_eq q j b hq]
      rw [← hE] at hd1
      have HEE := Lib.hid hE
      have HN := Lib.hid (show n = E.cache.length by rw [hEc, HND.out])
      have h3 := hd1.c3
      have HD1 := Lib.hid hd1
      have HC1 := Lib.hid hc1
      clear hd1 hc1 hE hEc HD H0 HME HM hI
      go_wp2_with fail
      clear h3 c1
      go_loopw [48] (fun i wr => ∃ k : Nat, k ≤ n ∧ i = .int .i64 k ∧ Chg (foot p sb (.slice sa n cap)) w wr ∧ DevAt wr p sb (.slice sa n cap) (E.turnC q j b k)) (fun i _ => n - (intOf i).toNat)
      case atStart => exact ⟨0, Nat.zero_le _, rfl, HC1.out, by rw [Dv.turnC_zero]; exact HD1.out⟩
      case round =>
        obtain ⟨k, hk, rfl, hc, hd⟩ := hrel
        clear HC1 HD1
        by_cases hlt : k < n
        · have hkn : (k : Int) < (n : Int) := by omega
          obtain ⟨g, rfl⟩ := hsa (by omega)
          obtain ⟨⟨si, st⟩, hx⟩ : ∃ x, E.cache[k]? = some x := ⟨_, List.getElem?_eq_getElem (by rw [← HN.out]; omega)⟩
          have hlen : n = (E.turnC q j b k).cache.length := by rw [Dv.turnC_len _ _ _ _ _ (by rw [← HN.out]; exact hk), ← HN.out]
          have hxk : (E.turnC q j b k).cache[k]? = some (si, st) := by rw [Dv.turnC_get _ _ _ _ _ (by rw [← HN.out]; exact hk)]; exact hx
          obtain ⟨hx0, hx1⟩ := hd.cw0x hlen k hxk
          simp only at hx0 hx1
          have h3 := hd.c3
          have hst0 := hd.ok.text (si, st) (List.mem_of_getElem? hxk)
          have hst : st.size = D.size := by rw [← hEs]; exact hst0
          clear hst0
          have hgl : g < wr.heap.size := hd.lt g (.inr (.inr rfl))
          by_cases hsq : si = q
          · subst hsq
            have hgF : gF si j b (si, st) = (si, turnB st j b) := by unfold gF; rw [if_pos rfl]
            have hnext := Dv.turnC_next E si j b k (si, st) hx
            rw [hgF] at hnext
            have HT := Lib.hid (show ∀ X, DevAt X p sb (.slice (some ⟨g, 0, none⟩) n cap) (E.turnC si j b k) → DevAt (X.setCell ⟨g, k * 2 + 1, none⟩ (.string (turnB st j b))) p sb (.slice (some ⟨g, 0, none⟩) n cap) (E.turnC si j b (k + 1)) from
              fun X hX => by rw [hnext]; exact hX.retext hlen k (si, st) hxk (turnB st j b) (by rw [turnB_size, hst]; exact hEs.symm))
            have HCE := Lib.hid (show ∀ X, DevAt X p sb (.slice (some ⟨g, 0, none⟩) n cap) (E.turnC si j b k) → X.cell? ⟨g, k * 2 + 1, none⟩ = some (.string st) from fun X hX => (hX.cw0x hlen k hxk).2)
            have HFZ := Lib.hid (show ∀ X, DevAt X p sb (.slice (some ⟨g, 0, none⟩) n cap) (E.turnC si j b k) → X.frozen? ⟨g, k * 2 + 1, none⟩ = false from fun X hX => hX.ctfz hlen _)
            obtain ⟨wb, hwb⟩ : ∃ wb, wb = wr.heap.size := ⟨_, rfl⟩
            obtain ⟨W2, hW2⟩ : ∃ W2, W2 = wr.alloc (.cells #[.int .i64 (si : Nat), .string st] 97) := ⟨_, rfl⟩
            have H0 := Lib.hid (show DTwo w p sb (.slice (some ⟨g, 0, none⟩) n cap) (E.turnC si j b k) (E.turnC si j b (k + 1)) false W2.drew from by rw [hW2]; exact ⟨(hd.alloc _).drew, (hc.alloc _).drew⟩)
            have H1 := Lib.hid (show W2.drew.cell? ⟨wb, 1, none⟩ = some (.string st) by rw [hW2, hwb]; show World.cell? (World.alloc _ _) _ = _; simp)
            have HW2 := Lib.hid hW2
            have HWB := Lib.hid hwb
            have HGL := Lib.hid (show g < wb by omega)
            have HST := Lib.hid hst
            clear hd hc hnext hgF hxk hx hlen hst hW2 hwb
            go_wp2_with fail
            rw [← HW2.out, ← HWB.out]
            clear hx0 hx1 h3
            refine Reg.region_vals (by kernel_rfl) [(57, .pointer (some ⟨p, 0, none⟩)), (58, .pointer (some ⟨p, 0, none⟩)), (59, .pointer (some ⟨p, 3, none⟩)), (60, .slice (some ⟨g, 0, none⟩) n cap), (61, .int .i64 (k : Nat)), (62, .pointer (some ⟨wb, 1, none⟩)), (63, .string st), (64, .int .i64 (j : Nat)), (65, .int .u8 b.toNat), (66, .string (turnB st j b)), (67, .pointer (some ⟨g, k * 2, none⟩)), (68, .pointer (some ⟨g, k * 2 + 1, none⟩))] (fun l wx => DTwo w p sb (.slice (some ⟨g, 0, none⟩) n cap) (E.turnC si j b k) (E.turnC si j b (k + 1)) (l 12) wx ∧ wx.cell? ⟨wb, 1, none⟩ = some (.string st)) (by kernel_rfl) (by kernel_rfl) (by kernel_rfl) (⟨H0.out, H1.out⟩) ⟨?_, ?_, ?_, ?_, ?_, ?_, ?_, ?_, ?_, ?_, ?_, ?_, ?_, trivial⟩ ?hend
            · skip
              intro aq wq lq hI hl hdone hlater hold hd ho
              have h0 : aq.tmps.getD 0 undef = .pointer (some ⟨p, 0, none⟩) := ho 0 (by kernel_rfl)
              clear hd ho hdone hlater hold
              exact Reg.step2_move (.tmp 0) rfl h0 hI trivial
            · skip
              intro aq wq lq hI hl hdone hlater hold hd ho
              have h57 : aq.tmps.getD 57 undef = .pointer (some ⟨p, 0, none⟩) := hd 57 (by kernel_rfl)
              clear hd ho hdone hlater hold
              rw [Array.getD_eq_getD_getElem?] at h57
              refine Reg.step2_val (.pointer (some ⟨p, 0, none⟩)) ?_ rfl hI trivial
              go_simp
            · skip
              intro aq wq lq hI hl hdone hlater hold hd ho
              have h58 : aq.tmps.getD 58 undef = .pointer (some ⟨p, 0, none⟩) := hd 58 (by kernel_rfl)
              clear hd ho hdone hlater hold
              rw [Array.getD_eq_getD_getElem?] at h58
              refine Reg.step2_val (.pointer (some ⟨p, 3, none⟩)) ?_ rfl hI trivial
              go_simp
            · skip
              intro aq wq lq hI hl hdone hlater hold hd ho
              have h59 : aq.tmps.getD 59 undef = .pointer (some ⟨p, 3, none⟩) := hd 59 (by kernel_rfl)
              clear hd ho hdone hlater hold
              rw [Array.getD_eq_getD_getElem?] at h59
              have e0 := hI.1.1.c3
              refine Reg.step2_val (.slice (some ⟨g, 0, none⟩) n cap) ?_ rfl hI trivial
              go_simp
            · skip
              intro aq wq lq hI hl hdone hlater hold hd ho
              have h8 : aq.tmps.getD 8 undef = .int .i64 (k : Nat) := ho 8 (by kernel_rfl)
              clear hd ho hdone hlater hold
              exact Reg.step2_move (.tmp 8) rfl h8 hI trivial
            · skip
              intro aq wq lq hI hl hdone hlater hold hd ho
              have h9 : aq.tmps.getD 9 undef = .pointer (some ⟨wb, 0, none⟩) := ho 9 (by kernel_rfl)
              clear hd ho hdone hlater hold
              rw [Array.getD_eq_getD_getElem?] at h9
              refine Reg.step2_val (.pointer (some ⟨wb, 1, none⟩)) ?_ rfl hI trivial
              go_simp
            · skip
              intro aq wq lq hI hl hdone hlater hold hd ho
              have h62 : aq.tmps.getD 62 undef = .pointer (some ⟨wb, 1, none⟩) := hd 62 (by kernel_rfl)
              clear hd ho hdone hlater hold
              rw [Array.getD_eq_getD_getElem?] at h62
              have e0 := hI.2
              refine Reg.step2_val (.string st) ?_ rfl hI trivial
              go_simp
            · skip
              intro aq wq lq hI hl hdone hlater hold hd ho
              have h2 : aq.tmps.getD 2 undef = .int .i64 (j : Nat) := ho 2 (by kernel_rfl)
              clear hd ho hdone hlater hold
              exact Reg.step2_move (.tmp 2) rfl h2 hI trivial
            · skip
              intro aq wq lq hI hl hdone hlater hold hd ho
              have h3 : aq.tmps.getD 3 undef = .int .u8 b.toNat := ho 3 (by kernel_rfl)
              clear hd ho hdone hlater hold
              exact Reg.step2_move (.tmp 3) rfl h3 hI trivial
            · skip
              intro aq wq lq hI hl hdone hlater hold hd ho
              have h63 : aq.tmps.getD 63 undef = .string st := hd 63 (by kernel_rfl)
              have h64 : aq.tmps.getD 64 undef = .int .i64 (j : Nat) := hd 64 (by kernel_rfl)
              have h65 : aq.tmps.getD 65 undef = .int .u8 b.toNat := hd 65 (by kernel_rfl)
              clear hd ho hdone hlater hold
              rw [Array.getD_eq_getD_getElem?] at h63 h64 h65
              refine Reg.step2_call 31 #[.string st, .int .i64 (j : Nat), .int .u8 b.toNat] ?_ ((garbled_any st j b wq (by rw [HST.out]; exact HJL.out) (by rw [HST.out]; omega)).mono ?_)
              · simp [execOp]
                go_simp
              · rintro e w' ⟨rfl, hb⟩
                exact ⟨_, rfl, rfl, ⟨hI.1.below hb, by rw [hb.cell (World.block_lt_of_cell? _ _ hI.2)]; exact hI.2⟩, trivial⟩
            · skip
              intro aq wq lq hI hl hdone hlater hold hd ho
              have h60 : aq.tmps.getD 60 undef = .slice (some ⟨g, 0, none⟩) n cap := hd 60 (by kernel_rfl)
              have h61 : aq.tmps.getD 61 undef = .int .i64 (k : Nat) := hd 61 (by kernel_rfl)
              clear hd ho hdone hlater hold
              rw [Array.getD_eq_getD_getElem?] at h60 h61
              refine Reg.step2_val (.pointer (some ⟨g, k * 2, none⟩)) ?_ rfl hI trivial
              go_simp
            · skip
              intro aq wq lq hI hl hdone hlater hold hd ho
              have h67 : aq.tmps.getD 67 undef = .pointer (some ⟨g, k * 2, none⟩) := hd 67 (by kernel_rfl)
              clear hd ho hdone hlater hold
              rw [Array.getD_eq_getD_getElem?] at h67
              refine Reg.step2_val (.pointer (some ⟨g, k * 2 + 1, none⟩)) ?_ rfl hI trivial
              go_simp
            · skip
              intro aq wq lq hI hl hdone hlater hold hd ho
              have h68 : aq.tmps.getD 68 undef = .pointer (some ⟨g, k * 2 + 1, none⟩) := hd 68 (by kernel_rfl)
              have h66 : aq.tmps.getD 66 undef = .string (turnB st j b) := hd 66 (by kernel_rfl)
              have gd9 : lq 9 = true := hdone 9 (by kernel_rfl)
              clear hd ho hdone hlater hold
              rw [Array.getD_eq_getD_getElem?] at h68 h66
              have hJ := hI.1
              have hK := hI.2
              clear hI
              rw [show lq 12 = false from hl] at hJ
              have e0 := HCE.out _ hJ.1
              have f0 := HFZ.out _ hJ.1
              refine Reg.step2_skip (wq.setCell ⟨g, k * 2 + 1, none⟩ (.string (turnB st j b))) rfl ?_ ⟨⟨HT.out _ hJ.1, hJ.2.setCell (p := ⟨g, k * 2 + 1, none⟩) (fun _ => .inr (.inr rfl)) _⟩, by rw [World.cell?_setCell_other _ _ _ _ (fun e => by have := HGL.out; simp at e <;> omega)]; exact hK⟩ trivial
              clear hJ hK
              simp [execOp]
              go_simp
            case hend =>
            intro wx hI
            simp only [Reg.fill, List.foldl_cons, List.foldl_nil, List.setIfInBounds_toArray, List.set_cons_zero, List.set_cons_succ]
            obtain ⟨hd1, hc1⟩ : DevAt wx p sb (.slice (some ⟨g, 0, none⟩) n cap) (E.turnC si j b (k + 1)) ∧ Chg (foot p sb (.slice (some ⟨g, 0, none⟩) n cap)) w wx := hI.1
            have HD1 := Lib.hid hd1
            have HC1 := Lib.hid hc1
            clear hd1 hc1 hI
            go_wp2_with fail
            go_roundw
            case rel => exact ⟨k + 1, by omega, by go_num, HC1.out, HD1.out⟩
            case measure => simp [intOf]; omega
          · have hsame := Dv.turnC_same E q j b k (si, st) hx hsq
            have q1 : ((si : Int) == (q : Int)) = false := by simp; omega
            have HD1 := Lib.hid (show ∀ m, DevAt ((wr.alloc (.cells #[.int .i64 (si : Nat), .string st] 97)).drewN m) p sb (.slice (some ⟨g, 0, none⟩) n cap) (E.turnC q j b (k + 1)) from fun m => by rw [hsame]; exact (hd.alloc _).drewN m)
            have HC1 := Lib.hid (show ∀ m, Chg (foot p sb (.slice (some ⟨g, 0, none⟩) n cap)) w ((wr.alloc (.cells #[.int .i64 (si : Nat), .string st] 97)).drewN m) from fun m => (hc.alloc _).drewN m)
            clear hd hc hsame hxk hx hlen hst
            go_wp2_with fail
            go_roundw
            case rel => exact ⟨k + 1, by omega, by go_num, HC1.out 0, HD1.out 0⟩
            case measure => simp [intOf]; omega
        · obtain rfl : k = n := by omega
          have HD1 := Lib.hid hd
          have HC1 := Lib.hid hc
          clear hd hc
          go_wp2_with fail
          go_end0
          exact ⟨rfl, HC1.out, by rw [HND.out, ← HEE.out]; exact HD1.out⟩
end Go.Proofs.YtgoampbebjfenaaGreatDoor.Dev

/- Layer 8 (mirror): places as keys of a map. -/
namespace Go.Proofs.YtgoampbebjfenaaGreatDoor.Mir
open Go Go.RowKit Go.Proofs.YtgoampbebjfenaaGreatDoor Go.Maps Go.WideMaps
set_option linter.unusedVariables false

theorem laidM : laidOutB Tryz.prog = true := by kernel_rfl
theorem keyedP : Keyed Tryz.prog 123 := Keyed.of_law (deep_law_laid laidM (m := 2) (by omega) (of_decide_eq_true (by kernel_rfl)) (by kernel_rfl) (by rw [Tryz.underlying123]))
def kl (s b : Nat) : Lit := .string (keyBytes [.int .i64 s, .int .i64 b])
theorem wf_i64 {x : Nat} (h : x < 1000000) : (Lit.int .i64 (x : Int)).wf = true := by
  simp only [Lit.wf, Bool.and_eq_true, decide_eq_true_eq, show IntKind.i64.min = -9223372036854775808 from rfl, show IntKind.i64.max = 9223372036854775807 from rfl]
  omega
theorem keyTypeP : Tryz.prog.keyType 123 = true := by kernel_rfl
theorem cellsP : Tryz.prog.cellsOf 123 = 2 := by kernel_rfl
theorem cellsI : Tryz.prog.cellsOf 3 = 1 := by kernel_rfl
theorem keyP {s b : Nat} (hs : s < 2) (hb : b < 1000000) : keyOf Tryz.prog 123 (.agg #[.int .i64 s, .int .i64 b]) = some (kl s b) := by
  have h1 := wf_i64 (x := s) (by omega)
  have h2 := wf_i64 hb
  obtain ⟨m, hm⟩ : ∃ m, (Tryz.prog).types.size = m + 1 := ⟨(Tryz.prog).types.size - 1, by kernel_rfl⟩
  unfold keyOf
  simp only [Tryz.underlying123]
  rw [if_pos (by simp [keyTypeP, Value.formed, Tryz.underlying123, cellsP]), hm]
  unfold Program.keyLits
  simp only [Tryz.underlying123, Value.cells]
  rw [if_pos (by rw [cellsP]; exact ⟨rfl, by simp⟩)]
  simp [cellsI, Program.keyLits, Tryz.underlying3, h1, h2, kl]
theorem kl_inj {s b s' b' : Nat} (hs : s < 2) (hb : b < 1000000) (hs' : s' < 2) (hb' : b' < 1000000) (h : kl s b = kl s' b') : s = s' ∧ b = b' := by
  have h1 := keyP hs hb
  have h2 := keyP hs' hb'
  rw [← h] at h2
  have := keyedP.inj h1 h2
  simp at this
  omega
theorem kl_key (s b : Nat) : WideAt.IsKeyLit (kl s b) := trivial
/-- how the map's values are read: all are alike -/
def badR : Value → Option (DataW Unit × List MemPlace) := fun _ => some (.lit (.bool true), [])
abbrev MapB (w : World) (bb n : Nat) (D : DataW Unit) : Prop := w.ownsMap Tryz.prog 123 badR bb n D
theorem mapB_same {w w' : World} {b n : Nat} {D : DataW Unit} (h : MapB w b n D) (hk : w'.heap[b]? = w.heap[b]?) : MapB w' b n D := by
  obtain ⟨es, clock, hb, F, hs, hD⟩ := h
  exact ⟨es, clock, hk.trans hb, F, hs, hD⟩
theorem mapB_lt {w : World} {b n : Nat} {D : DataW Unit} (h : MapB w b n D) : b < w.heap.size := by
  obtain ⟨es, clock, hb, _⟩ := h
  exact (Array.getElem?_eq_some_iff.1 hb).1
end Go.Proofs.YtgoampbebjfenaaGreatDoor.Mir

/- Layer 8 (mirror): a mirror in memory, over a pair of which sides may be gone; what a write of the pair does. -/
set_option linter.unusedVariables false
namespace Go.Proofs.YtgoampbebjfenaaGreatDoor.Rem
open Go Go.RowKit Go.Proofs.YtgoampbebjfenaaGreatDoor Dev Tab
section
variable {S S' : Nat → Sd} {s b : Nat}
theorem pl_congr {x y : Sd} (h : x.m = y.m) (b : Nat) : pl x b = pl y b := by unfold pl; rw [h]
theorem pl_ge {x : Sd} (hg : Tab.Good 14 6 x.m) {b : Nat} (hb : b < 14) : 4 ≤ pl x b := (pl_bd hg hb).1
theorem pl_lt {x : Sd} (hg : Tab.Good 14 6 x.m) {b : Nat} (hb : b < 14) : pl x b < 24 := by have := (pl_bd hg hb).2.1; have := hg.len; omega
theorem pl_inj {x : Sd} (hg : Tab.Good 14 6 x.m) {b c : Nat} (hb : b < 14) (hc : c < 14) (h : pl x b = pl x c) : b = c := by
  have h1 := (pl_bd hg hb).2.2
  have h2 := (pl_bd hg hc).2.2
  have : plc 14 x.m b = plc 14 x.m c := by omega
  have := plc_inj (n := 14) (m := x.m) (b := (b : Int)) (c := (c : Int)) (by omega) (by omega) this
  omega
theorem pl_push {x y : Sd} {b c : Nat} (h : y.m = x.m ++ [(b : Int)]) (hc : c ≠ b) : pl y c = pl x c := by
  unfold pl; rw [h, plc_snoc, if_neg (by omega)]
theorem pl_pushed {x y : Sd} {b : Nat} (h : y.m = x.m ++ [(b : Int)]) : pl y b = 18 + x.m.length := by
  unfold pl; rw [h, plc_snoc, if_pos rfl]; omega
theorem Oth.keep (h : Oth S S' s) (hg : ∀ t, t < 2 → Tab.Good 14 6 (S t).m) {s' b' : Nat} (h1 : s' < 2) (h2 : b' < 14) (hne : s' ≠ s) : (S' s').B (pl (S' s') b') = (S s').B (pl (S s') b') ∧ (S' s').V (pl (S' s') b') = (S s').V (pl (S s') b') := by
  obtain ⟨r1, r2, r3⟩ := h s' h1 hne
  rw [pl_congr r1 b', r2]
  exact ⟨rfl, r3 _ (pl_ge (hg s' h1) h2)⟩
theorem Wr.keep {d : ByteArray} (h : Wr S S' s b d) (hg : ∀ t, t < 2 → Tab.Good 14 6 (S t).m) (hg' : ∀ t, t < 2 → Tab.Good 14 6 (S' t).m) (hb : b < 14) {s' b' : Nat} (h1 : s' < 2) (h2 : b' < 14) (hne : ¬ (s' = s ∧ b' = b)) : (S' s').B (pl (S' s') b') = (S s').B (pl (S s') b') ∧ (S' s').V (pl (S' s') b') = (S s').V (pl (S s') b') := by
  by_cases e : s' = s
  · subst e
    have hb' : b' ≠ b := fun e => hne ⟨rfl, e⟩
    have hp : pl (S' s') b' = pl (S s') b' := by
      have := h.m
      split at this
      · exact pl_push this hb'
      · exact pl_congr this b'
    rw [hp, h.bad]
    refine ⟨rfl, h.rest _ (pl_ge (hg s' h1) h2) (.inl fun e2 => hb' ?_)⟩
    rw [← hp] at e2
    exact pl_inj (hg' s' h1) h2 hb e2
  · exact h.oth.keep hg h1 h2 e
theorem wrE_9 {x : Sd} (h : wrE x b ≠ 0) : wrE x b = 9 ∧ x.B (pl x b) = true ∧ 6 ≤ x.m.length := by
  unfold wrE at h ⊢
  split
  · rename_i hh; exact ⟨rfl, hh⟩
  · rename_i hh; rw [if_neg hh] at h; exact absurd rfl h
theorem Wr.same {d : ByteArray} (h : Wr S S' s b d) (hE : wrE (S s) b ≠ 0) : (S' s).m = (S s).m := by
  rw [h.m, if_neg]; have := (wrE_9 hE).2.2; omega
theorem Wr.good {d : ByteArray} (h : Wr S S' s b d) (hE : wrE (S s) b = 0) (hsp : Spare (S s)) : (S' s).B (pl (S' s) b) = false := by
  rw [h.bad]
  have hm := h.m
  by_cases hB : (S s).B (pl (S s) b) = true
  · have hl : (S s).m.length < 6 := by
      by_cases hl : (S s).m.length < 6
      · exact hl
      · unfold wrE at hE; rw [if_pos ⟨hB, by omega⟩] at hE; cases hE
    rw [if_pos ⟨hB, hl⟩] at hm
    rw [pl_pushed hm]
    exact hsp _ (Nat.le_refl _) hl
  · rw [if_neg (fun h => hB h.1)] at hm
    rw [pl_congr hm b]
    simpa using hB
theorem Wr.spare {d : ByteArray} (h : Wr S S' s b d) (hsp : ∀ t, t < 2 → Spare (S t)) : ∀ t, t < 2 → Spare (S' t) := fun t ht j h1 h2 => by
  by_cases e : t = s
  · subst e
    rw [h.bad]
    refine hsp t ht j ?_ h2
    have := h.m
    split at this
    · rw [this, List.length_append] at h1; simp at h1; omega
    · rw [this] at h1; exact h1
  · obtain ⟨r1, r2, _⟩ := h.oth t ht e
    rw [r2]; exact hsp t ht j (by rw [← r1]; exact h1) h2
theorem Wr.len {d : ByteArray} (h : Wr S S' s b d) {t : Nat} (ht : t < 2) : (S t).m.length ≤ (S' t).m.length := by
  by_cases e : t = s
  · subst e
    rw [h.m]; split
    · simp
    · omega
  · rw [(h.oth t ht e).1]; omega
theorem Wr.nobad {d : ByteArray} (h : Wr S S' s b d) (hB : ∀ t, t < 2 → ∀ i, 4 ≤ i → i < 24 → (S t).B i = false) : ∀ t, t < 2 → ∀ i, 4 ≤ i → i < 24 → (S' t).B i = false := fun t ht i h1 h2 => by
  by_cases e : t = s
  · subst e; rw [h.bad]; exact hB t ht i h1 h2
  · rw [(h.oth t ht e).2.1]; exact hB t ht i h1 h2
end
end Go.Proofs.YtgoampbebjfenaaGreatDoor.Rem
namespace Go.Proofs.YtgoampbebjfenaaGreatDoor.Mir
open Go Go.RowKit Go.Proofs.YtgoampbebjfenaaGreatDoor Dev Tab Rem Go.Maps Go.WideMaps

/-! ### what a write of the pair does -/
def wE (S : Nat → Sd) (G : Nat → Bool) (s b : Nat) : Int := if G s = true then 8 else wrE (S s) b
def WrX (S S' : Nat → Sd) (G : Nat → Bool) (s b : Nat) (d : ByteArray) : Prop := (G s = true → S' = S) ∧ (G s = false → Wr S S' s b d)
/-- either nobody is gone, or there is no bad sector -/
def Fit (S : Nat → Sd) (G : Nat → Bool) : Prop := (∀ t, t < 2 → Spare (S t)) ∧ ((∀ t, t < 2 → G t = false) ∨ (∀ t, t < 2 → ∀ i, 4 ≤ i → i < 24 → (S t).B i = false))
/-- what a side reads of a block -/
def cont (S : Nat → Sd) (G : Nat → Bool) (s b : Nat) : Option ByteArray := if G s = true ∨ (S s).B (pl (S s) b) = true then none else some ((S s).V (pl (S s) b))
def GoodS (S : Nat → Sd) : Prop := ∀ t, t < 2 → Tab.Good 14 6 (S t).m
section
variable {S S' : Nat → Sd} {G : Nat → Bool} {s b : Nat} {d : ByteArray}
theorem wE_gone (h : G s = true) : wE S G s b = 8 := if_pos h
theorem wE_there (h : G s = false) : wE S G s b = wrE (S s) b := if_neg (by rw [h]; decide)
theorem wE_vals : wE S G s b = 0 ∨ wE S G s b = 8 ∧ G s = true ∨ wE S G s b = 9 ∧ G s = false ∧ 6 ≤ (S s).m.length := by
  cases hG : G s with
  | true => exact .inr (.inl ⟨wE_gone hG, rfl⟩)
  | false =>
    rw [wE_there hG]
    by_cases h : wrE (S s) b = 0
    · exact .inl h
    · exact .inr (.inr ⟨(wrE_9 h).1, rfl, (wrE_9 h).2.2⟩)
theorem WrX.fit (h : WrX S S' G s b d) (hf : Fit S G) : Fit S' G := by
  cases hG : G s with
  | true => rw [h.1 hG]; exact hf
  | false =>
    have hw := h.2 hG
    refine ⟨hw.spare hf.1, ?_⟩
    rcases hf.2 with hf | hf
    · exact .inl hf
    · exact .inr (hw.nobad hf)
theorem WrX.len (h : WrX S S' G s b d) {t : Nat} (ht : t < 2) : (S t).m.length ≤ (S' t).m.length := by
  cases hG : G s with
  | true => rw [h.1 hG]; omega
  | false => exact (h.2 hG).len ht
theorem WrX.cont_ok (h : WrX S S' G s b d) (hf : Fit S G) (hs : s < 2) (hE : wE S G s b = 0) : cont S' G s b = some d := by
  cases hG : G s with
  | true => rw [wE_gone hG] at hE; cases hE
  | false =>
    rw [wE_there hG] at hE
    unfold cont
    rw [if_neg (by rw [hG, (h.2 hG).good hE (hf.1 s hs)]; simp), (h.2 hG).at_ hE]
theorem WrX.cont_no (h : WrX S S' G s b d) (hg : GoodS S) (hs : s < 2) (hb : b < 14) (hE : wE S G s b ≠ 0) : cont S' G s b = cont S G s b := by
  cases hG : G s with
  | true => rw [h.1 hG]
  | false =>
    rw [wE_there hG] at hE
    have hw := h.2 hG
    unfold cont
    rw [pl_congr (hw.same hE) b, hw.bad, hw.rest _ (pl_ge (hg s hs) hb) (.inr hE)]
theorem WrX.cont_far (h : WrX S S' G s b d) (hg : GoodS S) (hg' : GoodS S') (hb : b < 14) {s' b' : Nat} (h1 : s' < 2) (h2 : b' < 14) (hne : ¬ (s' = s ∧ b' = b)) : cont S' G s' b' = cont S G s' b' := by
  cases hG : G s with
  | true => rw [h.1 hG]
  | false =>
    obtain ⟨r1, r2⟩ := (h.2 hG).keep hg hg' hb h1 h2 hne
    unfold cont
    rw [r1, r2]
theorem Wr.start {V : Nat → ByteArray} : True := trivial
end
section
variable {w0 w w' : World} {X Y : List Nat} {q c : Nat} {pd : Nat → Nat} {S : Nat → Sd} {G : Nat → Bool} {s : Nat}
theorem wr_plain {b : Nat} {d : ByteArray} (hB : (S s).B (pl (S s) b) = false) : Wr S (setS S s (upd (S s).V (pl (S s) b) d) (S s).B) s b d := by
  have hE : wrE (S s) b = 0 := by unfold wrE; rw [if_neg (by rw [hB]; simp)]
  have hp : ∀ b', pl (setS S s (upd (S s).V (pl (S s) b) d) (S s).B s) b' = pl (S s) b' := fun b' => pl_congr (setS_m _ _ _ _ _) b'
  refine ⟨fun t ht hne => ?_, ?_, ?_, fun _ => ?_, fun i h1 h2 => ?_⟩
  · rw [setS_ne _ _ _ hne]; exact ⟨rfl, rfl, fun _ _ => rfl⟩
  · rw [setS_same]
  · rw [setS_m, if_neg (by rw [hB]; simp)]
  · rw [hp, setS_same]; exact upd_same _ _ _
  · rw [hp] at h2; rw [setS_same]; refine upd_ne _ _ ?_
    rcases h2 with h2 | h2
    · exact h2
    · exact absurd hE h2
theorem pwrite (h : CG w0 X q pd S G c w) (hf : Fit S G) (hs : s < 2) {b : Nat} (hb : b < 14) {d : ByteArray} (hd : d.size = 128) (hc : c ≤ 900000) : Calls Tryz.prog 67 #[.pointer (some ⟨q, 0, none⟩), .int .i64 (s : Nat), .int .i64 (b : Nat), .string d] w fun e w' => ∃ S', e = .returned (.int .i64 (wE S G s b)) ∧ WrX S S' G s b d ∧ CG w0 X q pd S' G (c + 4) w' ∧ Same X w w' := by
  have hg := h.good hs
  rcases hf.2 with hG | hB
  · have hcp := h.cp (hG 0 (by omega)) (hG 1 (by omega))
    refine (write_c hcp hs hb hd hc (hf.1 s hs)).mono ?_
    rintro e w' ⟨S', rfl, hw, hc', hsm⟩
    refine ⟨S', by rw [wE_there (hG s hs)], ⟨fun h => (by rw [hG s hs] at h; cases h), fun _ => hw⟩, ?_, hsm⟩
    have := hc'.cg
    refine ⟨?_, this.slots⟩
    obtain ⟨D, e1, e2⟩ := this.raw
    exact ⟨D, e1, fun t ht => by rw [hG t ht]; exact e2 t ht⟩
  · have hp : G s = false → (S s).B (pl (S s) b) = false := fun _ => hB s hs _ (pl_ge hg hb) (pl_lt hg hb)
    refine (write_g h hs hb hd (by omega) hp).mono ?_
    rintro e w' ⟨rfl, hc', hsm⟩
    refine ⟨_, ?_, ⟨fun hG => ?_, fun hG => ?_⟩, hc'.mono (by omega), hsm⟩
    · cases hG : G s with
      | true => rw [wE_gone hG]; rfl
      | false => rw [wE_there hG]; unfold wrE; rw [hp hG, if_neg (by simp)]; rfl
    · unfold wrG; rw [if_pos hG]
    · unfold wrG; rw [if_neg (by rw [hG]; decide)]; exact wr_plain (hp hG)
/-- what Read answers, by what there is -/
theorem pread (h : CG w0 X q pd S G c w) (hs : s < 2) {b : Nat} (hb : b < 14) (hc : c ≤ 1000000) : Calls Tryz.prog 116 #[.pointer (some ⟨q, 0, none⟩), .int .i64 (s : Nat), .int .i64 (b : Nat)] w fun e w' => (∃ x : Int, e = .returned (.tuple #[.string ((cont S G s b).getD ⟨#[]⟩), .int .i64 x]) ∧ x ≠ 6 ∧ (x = 0 ↔ (cont S G s b).isSome = true)) ∧ CG w0 X q pd S G c w' ∧ Same X w w' := by
  refine (read_g h hs hb hc).mono ?_
  rintro e w' ⟨rfl, hc', hsm⟩
  refine ⟨⟨rdGE S G s b, ?_, ?_, ?_⟩, hc', hsm⟩
  · rw [show rdGT S G s b = (cont S G s b).getD ⟨#[]⟩ from ?_]
    unfold rdGT cont
    have : rdGE S G s b = 0 ↔ ¬ (G s = true ∨ (S s).B (pl (S s) b) = true) := by
      unfold rdGE
      cases G s <;> cases (S s).B (pl (S s) b) <;> simp
    by_cases hh : G s = true ∨ (S s).B (pl (S s) b) = true
    · rw [if_pos hh, if_neg (fun h => this.1 h hh)]; rfl
    · rw [if_neg hh, if_pos (this.2 hh)]; rfl
  · unfold rdGE; cases G s <;> cases (S s).B (pl (S s) b) <;> simp
  · unfold rdGE cont; cases G s <;> cases (S s).B (pl (S s) b) <;> simp

/-! ### the mirror -/
/-- each bad place is of a side whose spares are all used -/
def BadOk (S : Nat → Sd) (D : DataW Unit) : Prop := IsMap D ∧ ∀ z, Maps.has D z = true → ∃ s b, s < 2 ∧ b < 14 ∧ z = kl s b ∧ 6 ≤ (S s).m.length
def mrow (q tb bb R : Nat) : List Value := [.pointer (some ⟨q, 0, none⟩), .pointer (some ⟨tb, 0, none⟩), .int .i64 R, .map (some bb)]
structure MG (w0 : World) (Y : List Nat) (mm tb bb q : Nat) (pd : Nat → Nat) (S : Nat → Sd) (G : Nat → Bool) (c R : Nat) (w : World) : Prop where
  cg : CG w0 (mm :: tb :: bb :: Y) q pd S G c w
  fit : Fit S G
  row : Has w mm 84 (mrow q tb bb R)
  tab : Sum.IsTab w tb
  mt : mm ≠ tb
  my : mm ∉ Y ∧ tb ∉ Y ∧ bb ∉ Y
  map : ∃ n D, n ≤ c ∧ MapB w bb n D ∧ BadOk S D
theorem cell_same {w w' : World} {a : Addr} (h : w'.heap[a.block]? = w.heap[a.block]?) : w'.cell? a = w.cell? a := by unfold World.cell?; rw [h]
theorem tab_same {w w' : World} {b : Nat} (h : Sum.IsTab w b) (hk : w'.heap[b]? = w.heap[b]?) : Sum.IsTab w' b := fun j hj => (cell_same (a := ⟨b, j, none⟩) hk).trans (h j hj)
theorem BadOk.mono {S S' : Nat → Sd} {D : DataW Unit} (h : BadOk S D) (hm : ∀ t, t < 2 → (S t).m.length ≤ (S' t).m.length) : BadOk S' D :=
  ⟨h.1, fun z hz => by obtain ⟨s, b, h1, h2, h3, h4⟩ := h.2 z hz; exact ⟨s, b, h1, h2, h3, Nat.le_trans h4 (hm s h1)⟩⟩
section
variable {mm tb bb R : Nat}
theorem MG.good (h : MG w0 Y mm tb bb q pd S G c R w) : GoodS S := fun t ht => h.cg.good ht
/-- the pair goes on -/
theorem MG.go {S' : Nat → Sd} {G' : Nat → Bool} {c' : Nat} (h : MG w0 Y mm tb bb q pd S G c R w) (hc : CG w0 (mm :: tb :: bb :: Y) q pd S' G' c' w') (hsm : Same (mm :: tb :: bb :: Y) w w') (hf : Fit S' G') (hm : ∀ t, t < 2 → (S t).m.length ≤ (S' t).m.length) (hcc : c ≤ c') : MG w0 Y mm tb bb q pd S' G' c' R w' := by
  obtain ⟨n, D, h1, h2, h3⟩ := h.map
  exact ⟨hc, hf, Has.same h.row (hsm mm (by simp)), tab_same h.tab (hsm tb (by simp)), h.mt, h.my, n, D, Nat.le_trans h1 hcc, mapB_same h2 (hsm bb (by simp)), h3.mono hm⟩
theorem MG.later (h : MG w0 Y mm tb bb q pd S G c R w) (hb : Below w.heap.size w w') : MG w0 Y mm tb bb q pd S G c R w' :=
  h.go (h.cg.later hb) (Same.of_belowG h.cg hb) h.fit (fun _ _ => Nat.le_refl _) (Nat.le_refl _)
theorem MG.mono (h : MG w0 Y mm tb bb q pd S G c R w) {d : Nat} (hd : c ≤ d) : MG w0 Y mm tb bb q pd S G d R w :=
  h.go (h.cg.mono hd) (Same.refl _ _) h.fit (fun _ _ => Nat.le_refl _) hd
theorem MG.read (h : MG w0 Y mm tb bb q pd S G c R w) (hc : CG w0 (mm :: tb :: bb :: Y) q pd S G c w') (hsm : Same (mm :: tb :: bb :: Y) w w') : MG w0 Y mm tb bb q pd S G c R w' :=
  h.go hc hsm h.fit (fun _ _ => Nat.le_refl _) (Nat.le_refl _)
theorem same_y (hsm : Same (mm :: tb :: bb :: Y) w w') : Same Y w w' := fun k hk => hsm k (by simp [hk])
theorem MG.c0 (h : MG w0 Y mm tb bb q pd S G c R w) : w.cell? ⟨mm, 0, none⟩ = some (.pointer (some ⟨q, 0, none⟩)) := (Has.cell h.row 0).trans rfl
theorem MG.c1 (h : MG w0 Y mm tb bb q pd S G c R w) : w.cell? ⟨mm, 1, none⟩ = some (.pointer (some ⟨tb, 0, none⟩)) := (Has.cell h.row 1).trans rfl
theorem MG.c2 (h : MG w0 Y mm tb bb q pd S G c R w) : w.cell? ⟨mm, 2, none⟩ = some (.int .i64 R) := (Has.cell h.row 2).trans rfl
theorem MG.c3 (h : MG w0 Y mm tb bb q pd S G c R w) : w.cell? ⟨mm, 3, none⟩ = some (.map (some bb)) := (Has.cell h.row 3).trans rfl
theorem MG.fz (h : MG w0 Y mm tb bb q pd S G c R w) (i : Nat) : w.frozen? ⟨mm, i, none⟩ = false := Has.frozen h.row i
theorem MG.mb (h : MG w0 Y mm tb bb q pd S G c R w) : mm ≠ bb := fun e => by
  obtain ⟨n, D, _, h2, _⟩ := h.map
  obtain ⟨es, clock, hb, _⟩ := h2
  have := h.row
  unfold Has at this
  rw [e, hb] at this
  cases this
theorem MG.tb_ (h : MG w0 Y mm tb bb q pd S G c R w) : tb ≠ bb := fun e => by
  obtain ⟨n, D, _, h2, _⟩ := h.map
  obtain ⟨es, clock, hb, _⟩ := h2
  have := h.tab 0 (by omega)
  unfold World.cell? at this
  rw [e, hb] at this
  cases this
theorem MG.lt (h : MG w0 Y mm tb bb q pd S G c R w) : mm < w.heap.size := Has.lt h.row
/-- the map turned -/
theorem MG.turn {n : Nat} {D : DataW Unit} (h : MG w0 Y mm tb bb q pd S G c R w) (hg : w.grownBy w' (some bb)) (hn : n ≤ c) (hm : MapB w' bb n D) (hb : BadOk S D) : MG w0 Y mm tb bb q pd S G c R w' := by
  have hblk : ∀ k, k ≠ bb → k < w.heap.size → w'.heap[k]? = w.heap[k]? := fun k h1 h2 => hg.block k h2 (by simpa using h1)
  refine ⟨h.cg.chg ((Chg.refl _ w).grown hg (fun k _ hk => by cases hk; simp)), h.fit, Has.same h.row (hblk mm h.mb h.lt), tab_same h.tab (hblk tb h.tb_ (h.cg.x tb (by simp)).2), h.mt, h.my, n, D, hn, hm, hb⟩
theorem same_turn (h : MG w0 Y mm tb bb q pd S G c R w) (hg : w.grownBy w' (some bb)) : Same Y w w' := fun k hk => hg.block k (h.cg.x k (by simp [hk])).2 (by
  have : bb ≠ k := fun e => h.my.2.2 (by rw [e]; exact hk)
  simpa using fun e => this e.symm)
/-- one repair more -/
theorem MG.more (h : MG w0 Y mm tb bb q pd S G c R w) (R' : Nat) : MG w0 Y mm tb bb q pd S G c R' (w.setCell ⟨mm, 2, none⟩ (.int .i64 R')) ∧ Same Y w (w.setCell ⟨mm, 2, none⟩ (.int .i64 R')) := by
  have hblk : ∀ k, k ≠ mm → (w.setCell ⟨mm, 2, none⟩ (.int .i64 R')).heap[k]? = w.heap[k]? := fun k hk => Below.heap_setCell _ _ _ _ hk
  obtain ⟨n, D, h1, h2, h3⟩ := h.map
  refine ⟨⟨h.cg.chg ((Chg.refl _ w).setCell (fun _ => by simp) _), h.fit, Has.set h.row 2 _, tab_same h.tab (hblk tb (Ne.symm h.mt)), h.mt, h.my, n, D, h1, mapB_same h2 (hblk bb (Ne.symm h.mb)), h3⟩, fun k hk => hblk k (fun e => h.my.1 (by rw [← e]; exact hk))⟩
end
end
/-! ### what is done to both copies of a block -/
/-- each bad sector -/
def NoBad (S : Nat → Sd) : Prop := ∀ t, t < 2 → ∀ i, 4 ≤ i → i < 24 → (S t).B i = false
/-- the sides of which P holds were given the image d of the block b -/
structure St (S S' : Nat → Sd) (G : Nat → Bool) (b : Nat) (d : ByteArray) (P : Nat → Prop) : Prop where
  len : ∀ t, t < 2 → (S t).m.length ≤ (S' t).m.length
  far : ∀ s, s < 2 → ∀ b', b' < 14 → b' ≠ b → cont S' G s b' = cont S G s b'
  at_ : ∀ s, s < 2 → (P s ∧ wE S G s b = 0 ∧ cont S' G s b = some d) ∨ ((P s → wE S G s b ≠ 0) ∧ cont S' G s b = cont S G s b ∧ wE S' G s b = wE S G s b)
  nb : NoBad S → NoBad S'
  m0 : NoBad S → ∀ t, t < 2 → (S' t).m = (S t).m
section
variable {S S' S'' : Nat → Sd} {G : Nat → Bool} {s b : Nat} {d : ByteArray} {P Q : Nat → Prop}
theorem St.none : St S S G b d (fun _ => False) := ⟨fun _ _ => Nat.le_refl _, fun _ _ _ _ _ => rfl, fun _ _ => .inr ⟨fun h => h.elim, rfl, rfl⟩, fun h => h, fun _ _ _ => rfl⟩
theorem St.iff (h : St S S' G b d P) (hP : ∀ s, s < 2 → (Q s ↔ P s)) : St S S' G b d Q := ⟨h.len, h.far, fun s hs => by
  rcases h.at_ s hs with ⟨h1, h2⟩ | ⟨h1, h2⟩
  · exact .inl ⟨(hP s hs).2 h1, h2⟩
  · exact .inr ⟨fun h => h1 ((hP s hs).1 h), h2⟩, h.nb, h.m0⟩
theorem St.trans (h : St S S' G b d P) (k : St S' S'' G b d Q) (hPQ : ∀ s, s < 2 → P s → ¬ Q s) : St S S'' G b d (fun s => P s ∨ Q s) := by
  refine ⟨fun t ht => Nat.le_trans (h.len t ht) (k.len t ht), fun s hs b' h1 h2 => (k.far s hs b' h1 h2).trans (h.far s hs b' h1 h2), fun s hs => ?_, fun hn => k.nb (h.nb hn), fun hn t ht => (k.m0 (h.nb hn) t ht).trans (h.m0 hn t ht)⟩
  rcases h.at_ s hs with ⟨h1, h2, h3⟩ | ⟨h1, h2, h3⟩
  · rcases k.at_ s hs with ⟨k1, k2, k3⟩ | ⟨k1, k2, k3⟩
    · exact absurd k1 (hPQ s hs h1)
    · exact .inl ⟨.inl h1, h2, k2.trans h3⟩
  · rcases k.at_ s hs with ⟨k1, k2, k3⟩ | ⟨k1, k2, k3⟩
    · exact .inl ⟨.inr k1, by rw [← h3]; exact k2, k3⟩
    · refine .inr ⟨fun hh => ?_, k2.trans h2, k3.trans h3⟩
      rcases hh with hh | hh
      · exact h1 hh
      · rw [← h3]; exact k1 hh
theorem St.wr (h : WrX S S' G s b d) (hf : Fit S G) (hg : GoodS S) (hg' : GoodS S') (hs : s < 2) (hb : b < 14) : St S S' G b d (fun t => t = s) := by
  refine ⟨fun t ht => h.len ht, fun s' hs' b' h1 h2 => h.cont_far hg hg' hb hs' h1 (fun hh => h2 hh.2), fun t ht => ?_, fun hn => ?_, fun hn t ht => ?_⟩
  · by_cases e : t = s
    · subst e
      by_cases hE : wE S G t b = 0
      · exact .inl ⟨rfl, hE, h.cont_ok hf hs hE⟩
      · refine .inr ⟨fun _ => hE, h.cont_no hg hs hb hE, ?_⟩
        cases hG : G t with
        | true => rw [h.1 hG]
        | false =>
          rw [wE_there hG] at hE ⊢
          rw [wE_there hG]
          have hw := h.2 hG
          unfold wrE
          rw [pl_congr (hw.same hE) b, hw.bad, hw.same hE]
    · refine .inr ⟨fun h => absurd h e, h.cont_far hg hg' hb ht hb (fun hh => e hh.1), ?_⟩
      cases hG : G s with
      | true => rw [h.1 hG]
      | false =>
        have hw := (h.2 hG).oth t ht e
        unfold wE wrE
        rw [pl_congr hw.1 b, hw.2.1, hw.1]
  · cases hG : G s with
    | true => rw [h.1 hG]; exact hn
    | false => exact (h.2 hG).nobad hn
  · cases hG : G s with
    | true => rw [h.1 hG]
    | false =>
      have hw := h.2 hG
      by_cases e : t = s
      · subst e
        rw [hw.m, if_neg]
        rw [hn t ht _ (pl_ge (hg t ht) hb) (pl_lt (hg t ht) hb)]; simp
      · exact (hw.oth t ht e).1
/-- without bad sectors each side that isn't gone takes what it is given -/
theorem wE_nobad (hn : NoBad S) (hg : GoodS S) (hs : s < 2) (hb : b < 14) : wE S G s b = if G s = true then 8 else 0 := by
  unfold wE wrE
  rw [hn s hs _ (pl_ge (hg s hs) hb) (pl_lt (hg s hs) hb)]
  simp
theorem cont_some (hn : NoBad S) (hg : GoodS S) (hs : s < 2) (hb : b < 14) (hG : G s = false) : cont S G s b = some ((S s).V (pl (S s) b)) := by
  unfold cont
  rw [hn s hs _ (pl_ge (hg s hs) hb) (pl_lt (hg s hs) hb), hG]
  simp
theorem cont_gone (hG : G s = true) : cont S G s b = Option.none := by unfold cont; rw [if_pos (.inl hG)]
end

/-- what a side reads has a sector's bytes -/
theorem reads_size {D : Dv} (ok : D.Ok) {i : Nat} (hi : i < D.n) : (D.reads i).size = D.size := by
  rw [reads_med]
  cases hf : D.cache.reverse.find? fun x => x.1 == i with
  | some x => exact ok.text x (List.mem_reverse.1 (List.mem_of_find?_eq_some hf))
  | none =>
    show (medG D i).size = D.size
    unfold medG
    have hi' : i < D.secs.length := hi
    rw [List.getElem?_eq_getElem hi']
    exact ok.media _ (List.getElem_mem hi')
theorem cont_size {w0 w : World} {X : List Nat} {q c : Nat} {pd : Nat → Nat} {S : Nat → Sd} {G : Nat → Bool} (h : CG w0 X q pd S G c w) {s b : Nat} (hs : s < 2) (hb : b < 14) {t : ByteArray} (ht : cont S G s b = some t) : t.size = 128 := by
  have hg := h.good hs
  obtain ⟨⟨D, e1, e2⟩, _⟩ := h
  unfold cont at ht
  by_cases hh : G s = true ∨ (S s).B (pl (S s) b) = true
  · rw [if_pos hh] at ht; cases ht
  · rw [if_neg hh] at ht
    have hG : G s = false := by cases hG : G s with
      | true => exact absurd (.inl hG) hh
      | false => rfl
    have h2 := e2 s hs
    rw [hG] at h2
    have h2 : Cd (D s) 24 128 (S s).V (S s).B c := h2
    have hl := pl_lt hg hb
    have := reads_size (e1.ok hs) (i := pl (S s) b) (by rw [h2.n]; exact hl)
    rw [h2.vis _ hl, h2.size] at this
    injection ht with ht
    rw [← ht]; exact this
/-! ### blocks that are new lie apart -/
theorem _root_.Go.Proofs.YtgoampbebjfenaaGreatDoor.Rem.CPe.fresh {w0 w w' : World} {X : List Nat} {q : Nat} {pd : Nat → Nat} {m : Nat → List Int} {D : Nat → Dv} (h : CPe w0 X q pd m D w) (hb : Below w.heap.size w w') {b : Nat} (h1 : w.heap.size ≤ b) (h2 : b < w'.heap.size) : CPe w0 (b :: X) q pd m D w' := by
  have hql := h.lt
  have hlow := h.below.size
  have hl := h.later hb
  obtain ⟨⟨sb, cv, hd, hf, hff⟩, hp, hq, hx, hb0⟩ := h
  refine ⟨⟨sb, cv, fun s hs => (hd s hs).below hb (Nat.le_refl _), fun s hs k hk => ⟨(hf s hs k hk).1, ?_, (hf s hs k hk).2.2⟩, hff⟩, hl.pb, ⟨hq.1, ?_⟩, ?_, hl.below⟩
  · intro he
    rcases List.mem_cons.1 he with rfl | he
    · have := (hd s hs).lt _ hk; omega
    · exact (hf s hs k hk).2.1 he
  · intro he
    rcases List.mem_cons.1 he with rfl | he
    · omega
    · exact hq.2 he
  · intro k hk
    rcases List.mem_cons.1 hk with rfl | hk
    · exact ⟨Nat.le_trans hlow h1, h2⟩
    · exact hl.x k hk
section
variable {w0 w w' : World} {X Y Z : List Nat} {q c mm tb bb R : Nat} {pd : Nat → Nat} {S : Nat → Sd} {G : Nat → Bool}
theorem _root_.Go.Proofs.YtgoampbebjfenaaGreatDoor.Rem.CG.fresh (h : CG w0 X q pd S G c w) (hb : Below w.heap.size w w') {b : Nat} (h1 : w.heap.size ≤ b) (h2 : b < w'.heap.size) : CG w0 (b :: X) q pd S G c w' := by
  obtain ⟨⟨D, e1, e2⟩, h3⟩ := h; exact ⟨⟨D, e1.fresh hb h1 h2, e2⟩, h3⟩
theorem MG.sub (h : MG w0 Y mm tb bb q pd S G c R w) (hZ : ∀ k ∈ Z, k ∈ Y) : MG w0 Z mm tb bb q pd S G c R w :=
  ⟨h.cg.sub (fun k hk => by simp at hk ⊢; rcases hk with rfl | rfl | rfl | hk <;> simp [*]), h.fit, h.row, h.tab, h.mt, ⟨fun e => h.my.1 (hZ _ e), fun e => h.my.2.1 (hZ _ e), fun e => h.my.2.2 (hZ _ e)⟩, h.map⟩
theorem MG.fresh (h : MG w0 Y mm tb bb q pd S G c R w) (hb : Below w.heap.size w w') {b : Nat} (h1 : w.heap.size ≤ b) (h2 : b < w'.heap.size) : MG w0 (b :: Y) mm tb bb q pd S G c R w' := by
  have hl := h.later hb
  have hm := (h.cg.x mm (by simp)).2
  have ht := (h.cg.x tb (by simp)).2
  have hbb := (h.cg.x bb (by simp)).2
  refine ⟨(h.cg.fresh hb h1 h2).sub (fun k hk => by simp at hk ⊢; rcases hk with rfl | rfl | rfl | rfl | hk <;> simp [*]), h.fit, hl.row, hl.tab, h.mt, ⟨?_, ?_, ?_⟩, hl.map⟩
  · intro e; rcases List.mem_cons.1 e with e | e
    · omega
    · exact h.my.1 e
  · intro e; rcases List.mem_cons.1 e with e | e
    · omega
    · exact h.my.2.1 e
  · intro e; rcases List.mem_cons.1 e with e | e
    · omega
    · exact h.my.2.2 e
theorem MG.y (h : MG w0 Y mm tb bb q pd S G c R w) : ∀ k ∈ Y, w0.heap.size ≤ k ∧ k < w.heap.size := fun k hk => h.cg.x k (by simp [hk])
theorem MG.below (h : MG w0 Y mm tb bb q pd S G c R w) : Below w0.heap.size w0 w := h.cg.below
theorem MG.new (h : MG w0 Y mm tb bb q pd S G c R w) (o : Obj) : MG w0 (w.heap.size :: Y) mm tb bb q pd S G c R (w.alloc o) := h.fresh ((Below.refl _ w).alloc (Nat.le_refl _) o) (Nat.le_refl _) (by simp)
end
end Go.Proofs.YtgoampbebjfenaaGreatDoor.Mir

/- Layer 8 (mirror): contracts of its small functions. -/
namespace Go.Proofs.YtgoampbebjfenaaGreatDoor.Mir
open Go Go.RowKit Go.Proofs.YtgoampbebjfenaaGreatDoor Dev Tab Rem Go.Maps Go.WideMaps
set_option linter.unusedVariables false

/-- the sides that aren't gone -/
def al (G : Nat → Bool) : List Nat := [0, 1].filter (fun s => !G s)
def alK (G : Nat → Bool) (r : Nat) : List Nat := (List.range r).filter (fun s => !G s)
theorem alK_two (G : Nat → Bool) : alK G 2 = al G := rfl
theorem alK_next (G : Nat → Bool) (r : Nat) : alK G (r + 1) = if G r = true then alK G r else alK G r ++ [r] := by
  unfold alK
  rw [List.range_succ, List.filter_append]
  cases h : G r <;> simp [h]
theorem alK_le (G : Nat → Bool) (r : Nat) : (alK G r).length ≤ r := by
  unfold alK; have := List.length_filter_le (fun s => !G s) (List.range r); rwa [List.length_range] at this
theorem al_mem {G : Nat → Bool} {s : Nat} : s ∈ al G ↔ s < 2 ∧ G s = false := by
  rw [← alK_two]; unfold alK
  rw [List.mem_filter, List.mem_range]; simp
theorem al_le (G : Nat → Bool) : (al G).length ≤ 2 := alK_le G 2
theorem al_nodup (G : Nat → Bool) : (al G).Nodup := by
  rw [← alK_two]; unfold alK
  exact List.Nodup.sublist List.filter_sublist List.nodup_range
def iV (l : List Nat) : List Value := l.map fun s => Value.int .i64 (s : Nat)
theorem iV_snoc (l : List Nat) (s : Nat) : iV (l ++ [s]) = iV l ++ [.int .i64 s] := by simp [iV]
/-- a row of sides -/
def Sides (w : World) (a : Option Addr) (l : List Nat) : Prop := l = [] ∨ ∃ b, a = some ⟨b, 0, none⟩ ∧ ∀ k (hk : k < l.length), w.cell? ⟨b, k, none⟩ = some (.int .i64 (l[k] : Nat))
theorem Sides.same {w w' : World} {a : Option Addr} {l : List Nat} (h : Sides w a l) (hk : ∀ b o, a = some ⟨b, o, none⟩ → w'.heap[b]? = w.heap[b]?) : Sides w' a l := by
  rcases h with h | ⟨b, rfl, h⟩
  · exact .inl h
  · exact .inr ⟨b, rfl, fun k hl => (cell_same (a := ⟨b, k, none⟩) (hk b 0 rfl)).trans (h k hl)⟩
theorem own_sides {w : World} {B n cap : Nat} {ao : Option Addr} {l : List Nat} {e : TypeId} (h : w.ownsRow B e 1 (.slice ao n cap) n (iV l)) : Sides w ao l ∧ ∀ b o, ao = some ⟨b, o, none⟩ → B ≤ b ∧ b < w.heap.size := by
  refine ⟨?_, fun b o hb => h.lt b (by subst hb; rfl)⟩
  rcases h.2 with ⟨h1, h2⟩ | ⟨g, cap', cur, h1, -⟩
  · left
    have := h.1
    subst h2
    simpa [iV] using this
  · right
    injection h1 with h1 _ _
    subst h1
    refine ⟨g, rfl, fun k hk => ?_⟩
    have := h.cells (g := g) rfl k (.int .i64 (l[k] : Nat)) (by unfold iV; rw [List.getElem?_map, List.getElem?_eq_getElem hk]; rfl)
    have e : (⟨g, 0, none⟩ : Addr).add k = ⟨g, k, none⟩ := by unfold Addr.add; split <;> simp_all
    rwa [e] at this
theorem info_int8 : (Tryz.prog.info? 3).map (fun i => (i.zero, i.size, i.bytes)) = some (some (.int .i64 0), 1, 8) := by kernel_rfl
section
variable {w0 w w' : World} {X Y Z : List Nat} {q c mm tb bb R : Nat} {pd : Nat → Nat} {S : Nat → Sd} {G : Nat → Bool}
set_option maxHeartbeats 1000000 in
set_option maxRecDepth 100000 in
theorem alive_m (h : MG w0 Y mm tb bb q pd S G c R w) : Calls Tryz.prog 27 #[.pointer (some ⟨mm, 0, none⟩)] w fun e w' => ∃ a cap, e = .returned (.slice a (al G).length cap) ∧ Sides w' a (al G) ∧ (∀ b o, a = some ⟨b, o, none⟩ → w.heap.size ≤ b ∧ b < w'.heap.size) ∧ Below w.heap.size w w' := by
  obtain ⟨i0, hi, hz0, hz1, hz2⟩ := info_parts info_int8
  have HM := Lib.hid h
  have hown := World.ownsRow_nil w w.heap.size 3 1
  clear h
  go_enter Tryz.func27, Tryz.ntmps27
  go_wp2_with fail
  go_loopw [3, 5] (fun v i wr => ∃ r : Nat, r ≤ 2 ∧ i = .int .i64 r ∧ wr.ownsRow w.heap.size 3 1 v (alK G r).length (iV (alK G r)) ∧ Below w.heap.size w wr) (fun _ i _ => 2 - (intOf i).toNat)
  case atStart => exact ⟨0, Nat.zero_le _, rfl, hown, Below.refl _ _⟩
  case round =>
    obtain ⟨r, hr, rfl, hownr, hbr⟩ := hrel
    have hszr := hbr.size
    clear hown
    by_cases hlt : r < 2
    · have HMr := Lib.hid (HM.out.later hbr)
      have c0 := HMr.out.c0
      have hle := alK_le G r
      cases hG : G r with
      | true =>
        have HN := Lib.hid (show alK G (r + 1) = alK G r by rw [alK_next, if_pos hG])
        go_wp2_with (first | (go_at_call 44; refine (alive_g HMr.out.cg hlt).mono ?_; rintro e w' ⟨rfl, rfl⟩; rw [hG]))
        go_roundw
        case rel => exact ⟨r + 1, by omega, by go_num, by rw [HN.out]; exact hownr, hbr⟩
        case measure => simp [intOf]; omega
      | false =>
        have HN := Lib.hid (show alK G (r + 1) = alK G r ++ [r] by rw [alK_next, if_neg (by rw [hG]; decide)])
        go_wp2_with (first | (go_at_call 44; refine (alive_g HMr.out.cg hlt).mono ?_; rintro e w' ⟨rfl, rfl⟩; rw [hG]) | (at_builtin; refine wpList_append_own _ rfl _ _ 79 rfl w.heap.size 3 i0 (.int .i64 0) 1 8 Tryz.underlying79 hi hz0 hz1 hz2 rfl (by decide) _ _ _ rfl (hownr.alloc _) ⟨wr.heap.size, 0, none⟩ 1 1 [.int .i64 r] rfl rfl ?c1 ?c2 ?c3 ?c4 ?c5 ?_))
        case c1 =>
          intro j q hj
          match j, hj with
          | 0, hj => simp at hj; subst hj; simp [Addr.add]
        case c2 => intro q hq; simp at hq; subst hq; rfl
        case c3 => unfold maxLen; omega
        case c4 => omega
        case c5 => simp; omega
        intro v' w2 hown' hgrow _
        have hbel : Below w.heap.size w w2 := (hbr.alloc hszr _).grown hgrow (by simp; omega) (fun q hq => (hownr.lt q hq).1)
        clear hgrow
        go_wp2_with fail
        go_roundw
        case rel => exact ⟨r + 1, by omega, by go_num, by rw [HN.out, iV_snoc, List.length_append]; exact hown', hbel⟩
        case measure => simp [intOf]; omega
    · obtain rfl : r = 2 := by omega
      rw [alK_two] at hownr
      obtain ⟨bo, cap', rfl, hbo⟩ := own_shape hownr
      go_wp2_with fail
      obtain ⟨hs1, hs2⟩ := own_sides hownr
      go_ret
      exact ⟨_, _, rfl, hs1, hs2, hbr⟩
/-- what a call of a block is refused with -/
def rfE (b : Int) : Int := if b < 0 ∨ 14 ≤ b then 3 else 0
theorem refusal_n (b : Int) (w : World) : Calls Tryz.prog 64 #[.pointer none, .int .i64 b] w fun e w' => e = .returned (.int .i64 1) ∧ w = w' := by
  go_enter Tryz.func64, Tryz.ntmps64
  go_wp2
  go_ret
  exact ⟨rfl, rfl⟩
theorem refusal_m (h : MG w0 Y mm tb bb q pd S G c R w) (b : Int) : Calls Tryz.prog 64 #[.pointer (some ⟨mm, 0, none⟩), .int .i64 b] w fun e w' => e = .returned (.int .i64 (rfE b)) ∧ Below w.heap.size w w' := by
  have HM := Lib.hid h
  have c0 := h.c0
  have HG := Lib.hid (h.good 0 (by omega))
  clear h
  by_cases h1 : b < 0
  · have HE := Lib.hid (show rfE b = 3 by unfold rfE; rw [if_pos (.inl h1)])
    go_enter Tryz.func64, Tryz.ntmps64
    go_wp2
    go_ret
    exact ⟨by rw [HE.out]; rfl, Below.refl _ _⟩
  · by_cases h2 : b < 14
    · have HE := Lib.hid (show rfE b = 0 by unfold rfE; rw [if_neg (by omega)])
      go_enter Tryz.func64, Tryz.ntmps64
      go_wp2_with fail
      refine (table_e HM.out.cg.pb (s := 0) (by omega)).mono ?_
      rintro e w1 ⟨rfl, hb1⟩
      have HB1 := Lib.hid hb1
      clear hb1
      go_wp2_with fail
      refine (Tab.blocks_any _ _ _ _).mono ?_
      rintro e w2 ⟨rfl, hb2⟩
      have HB2 := Lib.hid (HB1.out.trans (hb2.mono HB1.out.size))
      clear hb2
      go_wp2
      go_ret
      exact ⟨by rw [HE.out]; rfl, HB2.out⟩
    · have h3 : 14 ≤ b := by omega
      have HE := Lib.hid (show rfE b = 3 by unfold rfE; rw [if_pos (.inr h3)])
      clear h2
      go_enter Tryz.func64, Tryz.ntmps64
      go_wp2_with fail
      refine (table_e HM.out.cg.pb (s := 0) (by omega)).mono ?_
      rintro e w1 ⟨rfl, hb1⟩
      have HB1 := Lib.hid hb1
      clear hb1
      go_wp2_with fail
      refine (Tab.blocks_any _ _ _ _).mono ?_
      rintro e w2 ⟨rfl, hb2⟩
      have HB2 := Lib.hid (HB1.out.trans (hb2.mono HB1.out.size))
      clear hb2
      go_wp2
      go_ret
      exact ⟨by rw [HE.out]; rfl, HB2.out⟩
/-- .. of an image, too -/
def irE (b : Int) (n : Nat) : Int := if rfE b ≠ 0 then 3 else if n = 128 then 0 else 2
theorem rfE_v (b : Int) : rfE b = 0 ∨ rfE b = 3 := by unfold rfE; split <;> simp
theorem irefusal_n (b : Int) (t : ByteArray) (w : World) : Calls Tryz.prog 26 #[.pointer none, .int .i64 b, .string t] w fun e w' => e = .returned (.int .i64 1) ∧ w = w' := by
  go_enter Tryz.func26, Tryz.ntmps26
  go_wp2_with fail
  refine (refusal_n b w).mono ?_
  rintro e w' ⟨rfl, rfl⟩
  go_wp2
  go_ret
  exact ⟨rfl, rfl⟩
theorem shape_g (h : CG w0 X q pd S G c w) {s : Nat} (hs : s < 2) : Calls Tryz.prog 66 #[.pointer (some ⟨pd s, 0, none⟩)] w fun e w' => e = .returned (.agg #[.int .i64 24, .int .i64 128]) ∧ Below w.heap.size w w' := by
  obtain ⟨⟨D, e1, e2⟩, _⟩ := h
  obtain ⟨sb, cv, hd, -⟩ := e1.some_
  exact shape_l w (hd s hs) 24 128 (by have := (e2 s hs).n; omega) (by have := (e2 s hs).size; omega)
set_option maxRecDepth 100000 in
theorem irefusal_m (h : MG w0 Y mm tb bb q pd S G c R w) (b : Int) (t : ByteArray) : Calls Tryz.prog 26 #[.pointer (some ⟨mm, 0, none⟩), .int .i64 b, .string t] w fun e w' => e = .returned (.int .i64 (irE b t.size)) ∧ Below w.heap.size w w' := by
  have HM := Lib.hid h
  clear h
  have hv := rfE_v b
  have hfd : ∀ W, (Instr.field 67 (.agg #[.int .i64 24, .int .i64 128]) 1).run Tryz.prog W = .ok (.int .i64 128) W := fun W => by kernel_rfl
  go_enter Tryz.func26, Tryz.ntmps26
  go_wp2_with fail
  refine (refusal_m HM.out b).mono ?_
  rintro e w1 ⟨rfl, hb1⟩
  have HM1 := Lib.hid (HM.out.later hb1)
  have HB1 := Lib.hid hb1
  have c0 := HM1.out.c0
  clear hb1 HM
  rcases hv with hv | hv
  · rw [hv]
    obtain ⟨n, hn⟩ : ∃ n, n = t.size := ⟨_, rfl⟩
    have HV := Lib.hid hv
    clear hv
    by_cases hz : n = 128
    · have HE := Lib.hid (show irE b n = 0 by unfold irE; rw [if_neg (by rw [HV.out]; simp), if_pos hz])
      rw [hn] at HE
      have hzz : (t.size : Int) = 128 := by omega
      have hzn : t.size = 128 := by omega
      clear hn hz
      go_wp2_with fail
      refine (device_e HM1.out.cg.pb (s := 0) (by omega)).mono ?_
      rintro e w2 ⟨rfl, rfl⟩
      go_wp2_with fail
      refine (shape_g HM1.out.cg (s := 0) (by omega)).mono ?_
      rintro e w2 ⟨rfl, hb2⟩
      have HB2 := Lib.hid (HB1.out.trans (hb2.mono HB1.out.size))
      clear hb2
      go_wp2
      go_ret
      exact ⟨by rw [HE.out]; rfl, HB2.out⟩
    · have HE := Lib.hid (show irE b n = 2 by unfold irE; rw [if_neg (by rw [HV.out]; simp), if_neg hz])
      rw [hn] at HE
      have hzz : ¬ (t.size : Int) = 128 := by omega
      have hzn : ¬ t.size = 128 := by omega
      clear hn hz
      go_wp2_with fail
      refine (device_e HM1.out.cg.pb (s := 0) (by omega)).mono ?_
      rintro e w2 ⟨rfl, rfl⟩
      go_wp2_with fail
      refine (shape_g HM1.out.cg (s := 0) (by omega)).mono ?_
      rintro e w2 ⟨rfl, hb2⟩
      have HB2 := Lib.hid (HB1.out.trans (hb2.mono HB1.out.size))
      clear hb2
      go_wp2
      go_ret
      exact ⟨by rw [HE.out]; rfl, HB2.out⟩
  · have HE := Lib.hid (show irE b t.size = 3 by unfold irE; rw [if_pos (by rw [hv]; decide)])
    rw [hv]
    clear hv
    go_wp2
    go_ret
    exact ⟨by rw [HE.out]; rfl, HB1.out⟩
theorem BadOk.del {S : Nat → Sd} {D : DataW Unit} (h : BadOk S D) (k : Lit) : BadOk S (D.del k) := ⟨h.1.del _, fun z hz => by
  by_cases e : z = k
  · rw [e, has_del_same] at hz; cases hz
  · rw [has_del_other e] at hz; exact h.2 z hz⟩
theorem BadOk.put {S : Nat → Sd} {D : DataW Unit} (h : BadOk S D) {s b : Nat} (hs : s < 2) (hb : b < 14) (hl : 6 ≤ (S s).m.length) (x : DataW Unit) : BadOk S (D.put (kl s b) x) := ⟨h.1.put _ _, fun z hz => by
  by_cases e : z = kl s b
  · exact ⟨s, b, hs, hb, e, hl⟩
  · rw [has_put_other e] at hz; exact h.2 z hz⟩
set_option maxHeartbeats 1000000 in
set_option maxRecDepth 100000 in
theorem put_m (h : MG w0 Y mm tb bb q pd S G c R w) {s b : Nat} (hs : s < 2) (hb : b < 14) {d : ByteArray} (hd : d.size = 128) (hc : c ≤ 800000) : Calls Tryz.prog 28 #[.pointer (some ⟨mm, 0, none⟩), .int .i64 (s : Nat), .int .i64 (b : Nat), .string d] w fun e w' => ∃ S', e = .returned (.int .i64 (wE S G s b)) ∧ St S S' G b d (fun t => t = s) ∧ MG w0 Y mm tb bb q pd S' G (c + 4) R w' ∧ Same Y w w' := by
  have HM := Lib.hid h
  have HD := Lib.hid hd
  have HC := Lib.hid hc
  have HB := Lib.hid hb
  have HS := Lib.hid hs
  have c0 := h.c0
  clear h hd hc hb hs
  go_enter Tryz.func28, Tryz.ntmps28
  go_wp2_with fail
  refine (pwrite HM.out.cg HM.out.fit HS.out HB.out HD.out (by have := HC.out; omega)).mono ?_
  rintro e w1 ⟨S1, rfl, hw, hcg, hsm⟩
  have hM1 := HM.out.go hcg hsm (hw.fit HM.out.fit) (fun t ht => hw.len ht) (by omega)
  have HM1 := Lib.hid hM1
  have HST := Lib.hid (St.wr hw HM.out.fit HM.out.good hM1.good HS.out HB.out)
  have HSM := Lib.hid (same_y hsm)
  have c0 := hM1.c0
  have c3 := hM1.c3
  obtain ⟨n, D, hn, hmap0, hbad0⟩ := HM.out.map
  have hmap := mapB_same hmap0 (hsm bb (by simp))
  have hbad := hbad0.mono (fun t ht => hw.len ht)
  have HMP := Lib.hid hmap
  have HBD := Lib.hid hbad
  have HN := Lib.hid hn
  have hv := wE_vals (S := S) (G := G) (s := s) (b := b)
  clear hw hcg hsm hM1 hmap hbad hn HM hmap0 hbad0
  rcases hv with hv | ⟨hv, -⟩ | ⟨hv, -, hl⟩
  · have HV := Lib.hid hv
    rw [hv]
    clear hv
    go_wp2_with (at_delete; refine wpList_delete_own _ rfl _ _ 82 123 rfl 127 keyedP Tryz.underlying82 _ bb n D rfl HMP.out _ _ rfl (keyP HS.out (by have := HB.out; omega)) ?_)
    intro w6 hown hturn
    have HM6 := Lib.hid (HM1.out.turn hturn.grown (Nat.le_trans HN.out (by omega)) hown (HBD.out.del _))
    have HS6 := Lib.hid (HSM.out.trans (same_turn HM1.out hturn.grown))
    clear hown hturn
    go_wp2
    go_ret
    exact ⟨S1, by rw [HV.out]; rfl, HST.out, HM6.out, HS6.out⟩
  · have HV := Lib.hid hv
    rw [hv]
    clear hv
    go_wp2
    go_ret
    exact ⟨S1, by rw [HV.out]; rfl, HST.out, HM1.out, HSM.out⟩
  · have HV := Lib.hid hv
    rw [hv]
    clear hv
    have HL := Lib.hid (Nat.le_trans hl (HST.out.len s HS.out))
    have HNL := Lib.hid (show n < maxLen by unfold maxLen; have := HN.out; have := HC.out; omega)
    clear hl
    go_wp2_with (at_mapUpdate; refine wpList_mapUpdate_own _ rfl _ _ _ 82 rfl 123 127 keyedP Tryz.underlying82 badR bb n D rfl HMP.out HNL.out _ _ (kl s b) rfl rfl (keyP HS.out (by have := HB.out; omega)) (.lit (.bool true)) [] rfl ?_)
    intro w6 hown hgrow
    have HM6 := Lib.hid (HM1.out.turn (n := n + 1) hgrow (by have := HN.out; omega) hown (HBD.out.put HS.out HB.out HL.out _))
    have HS6 := Lib.hid (HSM.out.trans (same_turn HM1.out hgrow))
    clear hown hgrow
    go_wp2
    go_ret
    exact ⟨S1, by rw [HV.out]; rfl, HST.out, HM6.out, HS6.out⟩
end
end Go.Proofs.YtgoampbebjfenaaGreatDoor.Mir

/- Layer 8 (mirror): contracts of read, readWhole, repair, heal. -/
namespace Go.Proofs.YtgoampbebjfenaaGreatDoor.Mir
open Go Go.RowKit Go.Proofs.YtgoampbebjfenaaGreatDoor Dev Tab Rem Go.Maps Go.WideMaps
set_option linter.unusedVariables false

theorem text_ne {s u : ByteArray} (h : ¬ s = u) : (s.toList == u.toList) = false := by
  rw [beq_eq_false_iff_ne]
  intro he
  rw [ByteArray.toList_eq, ByteArray.toList_eq] at he
  apply h
  cases s; cases u
  simp at he
  rw [he]
/-- is what is read the image of which that is known? -/
def wh (o : Option ByteArray) (a g k : Int) : Bool := match o with | some t => Env.meetB t.data.toList a g k | none => false
abbrev ptrV (a g k : Int) : Value := .agg #[.int .i64 a, .int .u64 g, .int .u32 k]
section
variable {w0 w w' : World} {X Y Z : List Nat} {q c mm tb bb R s b : Nat} {pd : Nat → Nat} {S : Nat → Sd} {G : Nat → Bool}
theorem read_m (h : MG w0 Y mm tb bb q pd S G c R w) (hs : s < 2) (hb : b < 14) (hc : c ≤ 1000000) : Calls Tryz.prog 98 #[.pointer (some ⟨mm, 0, none⟩), .int .i64 (s : Nat), .int .i64 (b : Nat)] w fun e w' => e = .returned (.tuple #[.string ((cont S G s b).getD ⟨#[]⟩), .bool (cont S G s b).isSome, .int .i64 0]) ∧ MG w0 Y mm tb bb q pd S G c R w' ∧ Same Y w w' := by
  have HM := Lib.hid h
  have HC := Lib.hid hc
  have HB := Lib.hid hb
  have HS := Lib.hid hs
  have c0 := h.c0
  obtain ⟨o, ho⟩ : ∃ o, o = cont S G s b := ⟨_, rfl⟩
  have HO := Lib.hid ho
  rw [← ho]
  clear h hc hb hs ho
  go_enter Tryz.func98, Tryz.ntmps98
  go_wp2_with fail
  refine (pread HM.out.cg HS.out HB.out HC.out).mono ?_
  rintro e w1 ⟨⟨x, rfl, h6, h0⟩, hcg, hsm⟩
  rw [← HO.out] at h0 ⊢
  have HM1 := Lib.hid (HM.out.read hcg hsm)
  have HSM := Lib.hid (same_y hsm)
  have H0 := Lib.hid h0
  clear hcg hsm h0
  obtain ⟨y, hy⟩ : ∃ y, y = o.getD ⟨#[]⟩ := ⟨_, rfl⟩
  rw [← hy]
  have HY := Lib.hid hy
  clear hy
  go_wp2
  go_ret3
  refine ⟨?_, HM1.out, HSM.out⟩
  rw [← HY.out]
  have := H0.out
  cases ho : o.isSome with
  | true => rw [ho] at this; simp [this.2 rfl]
  | false => rw [ho] at this; have : ¬ x = 0 := fun h => by have := this.1 h; cases this
             simp [this]
set_option maxHeartbeats 1000000 in
set_option maxRecDepth 100000 in
theorem readWhole_m (h : MG w0 Y mm tb bb q pd S G c R w) (hs : s < 2) (hb : b < 14) (hc : c ≤ 1000000) (a g k : Int) (ha : a = (b : Nat)) : Calls Tryz.prog 76 #[.pointer (some ⟨mm, 0, none⟩), .int .i64 (s : Nat), ptrV a g k] w fun e w' => e = .returned (.tuple #[.string ((cont S G s b).getD ⟨#[]⟩), .bool (wh (cont S G s b) a g k), .int .i64 0]) ∧ MG w0 Y mm tb bb q pd S G c R w' ∧ Same Y w w' := by
  subst ha
  have HM := Lib.hid (h.new (.cells #[.int .i64 (b : Nat), .int .u64 g, .int .u32 k] 35))
  have hhas := Has.new w [.int .i64 (b : Nat), .int .u64 g, .int .u32 k] 35
  have HSZ : ∀ t, cont S G s b = some t → t.size ≤ 1000000 := fun t ht => by rw [cont_size h.cg hs hb ht]; omega
  have HC := Lib.hid hc
  have HB := Lib.hid hb
  have HS := Lib.hid hs
  have HLT := Lib.hid (show ∀ k ∈ Y, k < w.heap.size from fun k hk => (h.y k hk).2)
  obtain ⟨o, ho⟩ : ∃ o, o = cont S G s b := ⟨_, rfl⟩
  rw [← ho] at HSZ ⊢
  have HSZ := Lib.hid HSZ
  have HO := Lib.hid ho
  obtain ⟨p, hp⟩ : ∃ p, p = w.heap.size := ⟨_, rfl⟩
  rw [← hp] at HM hhas
  have HH := Lib.hid hhas
  have HP := Lib.hid hp
  have HNEW := Lib.hid (Below.refl _ w |>.alloc (Nat.le_refl _) (.cells #[.int .i64 (b : Nat), .int .u64 g, .int .u32 k] 35))
  have e0 := hhas.cell 0
  simp only [List.getElem?_cons_zero] at e0
  clear h hc hb hs ho hhas
  go_enter Tryz.func76, Tryz.ntmps76
  rw [hp] at e0
  clear hp
  go_wp2_with fail
  refine (read_m HM.out HS.out HB.out HC.out).mono ?_
  rintro e w1 ⟨rfl, hm, hsm⟩
  rw [← HO.out, ← HP.out]
  have HM1 := Lib.hid hm
  have HH1 := Lib.hid (Has.same HH.out (hsm p (by simp)))
  have HSM := Lib.hid (show Same Y w w1 from fun k hk => (hsm k (by simp [hk])).trans (HNEW.out.block k (HLT.out k hk)))
  clear hm hsm e0 HM HH
  cases o with
  | none =>
    have HE := Lib.hid (show wh none (b : Int) g k = false from rfl)
    have hgt : (none : Option ByteArray).getD ⟨#[]⟩ = ⟨#[]⟩ := rfl
    have his : (none : Option ByteArray).isSome = false := rfl
    rw [hgt, his]
    go_wp2_with fail
    refine Reg.region_valsG (by kernel_rfl) [(21, .string ⟨#[]⟩), (22, .bool false), (23, .bool false), (24, undef), (25, undef), (26, undef), (27, undef), (28, undef), (29, undef), (30, undef), (31, .bool false), (32, .int .i64 0), (6, .string ⟨#[]⟩), (7, .bool false), (8, .int .i64 0)] (fun _ wy => Below w1.heap.size w1 wy) (by kernel_rfl) (by kernel_rfl) [3, 4, 5, 6, 7, 8, 9] (by kernel_rfl) ((Env.below_dr (Below.refl _ w1))) ⟨?_, ?_, ?_, ?_, ?_, ?_, ?_, ?_, ?_, ?_, ?_, ?_, ?_, ?_, ?_, trivial⟩ ?hend
    · skip
      intro aq wq lq hI hl hdone hlater hold hd ho
      have h9 : aq.tmps.getD 9 undef = .string ⟨#[]⟩ := ho 9 (by kernel_rfl)
      clear hd ho hdone hlater hold
      exact Reg.step2_move (.tmp 9) rfl h9 hI trivial
    · skip
      intro aq wq lq hI hl hdone hlater hold hd ho
      have h10 : aq.tmps.getD 10 undef = .bool false := ho 10 (by kernel_rfl)
      clear hd ho hdone hlater hold
      exact Reg.step2_move (.tmp 10) rfl h10 hI trivial
    · skip
      intro aq wq lq hI hl hdone hlater hold hd ho
      have h22 : aq.tmps.getD 22 undef = .bool false := hd 22 (by kernel_rfl)
      clear hd ho hdone hlater hold
      exact Reg.step2_move (.tmp 22) rfl h22 hI trivial
    · skip
      intro aq wq lq hI hl hdone hlater hold hd ho
      exact Reg.stepG_skip rfl hI trivial
    · skip
      intro aq wq lq hI hl hdone hlater hold hd ho
      exact Reg.stepG_skip rfl hI trivial
    · skip
      intro aq wq lq hI hl hdone hlater hold hd ho
      exact Reg.stepG_skip rfl hI trivial
    · skip
      intro aq wq lq hI hl hdone hlater hold hd ho
      exact Reg.stepG_skip rfl hI trivial
    · skip
      intro aq wq lq hI hl hdone hlater hold hd ho
      exact Reg.stepG_skip rfl hI trivial
    · skip
      intro aq wq lq hI hl hdone hlater hold hd ho
      exact Reg.stepG_skip rfl hI trivial
    · skip
      intro aq wq lq hI hl hdone hlater hold hd ho
      exact Reg.stepG_skip rfl hI trivial
    · skip
      intro aq wq lq hI hl hdone hlater hold hd ho
      have h23 : aq.tmps.getD 23 undef = .bool false := hd 23 (by kernel_rfl)
      have h30 : aq.tmps.getD 30 undef = undef := hd 30 (by kernel_rfl)
      clear hd ho hdone hlater hold
      rw [Array.getD_eq_getD_getElem?] at h23 h30
      refine Reg.step2_val (.bool false) ?_ rfl hI trivial
      simp [execOp, Act.eval, h23, h30]
      try go_simp
    · skip
      intro aq wq lq hI hl hdone hlater hold hd ho
      have h11 : aq.tmps.getD 11 undef = .int .i64 0 := ho 11 (by kernel_rfl)
      clear hd ho hdone hlater hold
      exact Reg.step2_move (.tmp 11) rfl h11 hI trivial
    · skip
      intro aq wq lq hI hl hdone hlater hold hd ho
      have h21 : aq.tmps.getD 21 undef = .string ⟨#[]⟩ := hd 21 (by kernel_rfl)
      clear hd ho hdone hlater hold
      exact Reg.step2_assign (.tmp 21) rfl h21 hI trivial
    · skip
      intro aq wq lq hI hl hdone hlater hold hd ho
      have h31 : aq.tmps.getD 31 undef = .bool false := hd 31 (by kernel_rfl)
      clear hd ho hdone hlater hold
      exact Reg.step2_assign (.tmp 31) rfl h31 hI trivial
    · skip
      intro aq wq lq hI hl hdone hlater hold hd ho
      have h32 : aq.tmps.getD 32 undef = .int .i64 0 := hd 32 (by kernel_rfl)
      clear hd ho hdone hlater hold
      exact Reg.step2_assign (.tmp 32) rfl h32 hI trivial
    case hend =>
      intro wz hI
      simp only [Reg.fill, List.foldl_cons, List.foldl_nil, List.setIfInBounds_toArray, List.set_cons_zero, List.set_cons_succ]
      have HMZ := Lib.hid ((HM1.out.later hI).sub (Z := Y) (fun k hk => List.mem_cons_of_mem _ hk))
      have HSZ2 := Lib.hid (show Same Y w wz from fun k hk => (hI.block k (HM1.out.y k (by simp [hk])).2).trans (HSM.out k hk))
      clear hI
      go_wp2
      go_ret3
      exact ⟨by rw [HE.out]; rfl, HMZ.out, HSZ2.out⟩
  | some t =>
    have hsz := HSZ.out t rfl
    have HT := Lib.hid hsz
    obtain ⟨m, hm⟩ : ∃ m, m = Env.meetB t.data.toList (b : Int) g k := ⟨_, rfl⟩
    have HME := Lib.hid hm
    have HE := Lib.hid (show wh (some t) (b : Int) g k = m from hm.symm)
    have hgt : (some t).getD ⟨#[]⟩ = t := rfl
    have his : (some t).isSome = true := rfl
    rw [hgt, his]
    clear hm hsz
    go_wp2_with fail
    refine Reg.region_vals (by kernel_rfl) [(21, .string t), (22, .bool true), (23, .bool true), (24, .agg #[.int .i64 (b : Nat), .int .u64 g, .int .u32 k]), (25, .pointer (some ⟨mm, 0, none⟩)), (26, .pointer (some ⟨mm, 0, none⟩)), (27, .pointer (some ⟨mm, 1, none⟩)), (28, .pointer (some ⟨tb, 0, none⟩)), (29, .string t), (30, .bool m), (31, .bool m), (32, .int .i64 0), (6, .string t), (7, .bool m), (8, .int .i64 0)] (fun _ wy => Below w1.heap.size w1 wy) (by kernel_rfl) (by kernel_rfl) (by kernel_rfl) ((Env.below_dr (Below.refl _ w1))) ⟨?_, ?_, ?_, ?_, ?_, ?_, ?_, ?_, ?_, ?_, ?_, ?_, ?_, ?_, ?_, trivial⟩ ?hend
    · skip
      intro aq wq lq hI hl hdone hlater hold hd ho
      have h9 : aq.tmps.getD 9 undef = .string t := ho 9 (by kernel_rfl)
      clear hd ho hdone hlater hold
      exact Reg.step2_move (.tmp 9) rfl h9 hI trivial
    · skip
      intro aq wq lq hI hl hdone hlater hold hd ho
      have h10 : aq.tmps.getD 10 undef = .bool true := ho 10 (by kernel_rfl)
      clear hd ho hdone hlater hold
      exact Reg.step2_move (.tmp 10) rfl h10 hI trivial
    · skip
      intro aq wq lq hI hl hdone hlater hold hd ho
      have h22 : aq.tmps.getD 22 undef = .bool true := hd 22 (by kernel_rfl)
      clear hd ho hdone hlater hold
      exact Reg.step2_move (.tmp 22) rfl h22 hI trivial
    · skip
      intro aq wq lq hI hl hdone hlater hold hd ho
      have h5 : aq.tmps.getD 5 undef = .pointer (some ⟨p, 0, none⟩) := ho 5 (by kernel_rfl)
      clear hd ho hdone hlater hold
      rw [Array.getD_eq_getD_getElem?] at h5
      have hx := HH1.out.below hI HH1.out.lt
      have x0 := hx.cell 0
      have x1 := hx.cell 1
      have x2 := hx.cell 2
      simp only [List.getElem?_cons_zero, List.getElem?_cons_succ] at x0 x1 x2
      clear hx
      refine Reg.step2_val (.agg #[.int .i64 (b : Nat), .int .u64 g, .int .u32 k]) ?_ rfl hI trivial
      go_simp
    · skip
      intro aq wq lq hI hl hdone hlater hold hd ho
      have h0 : aq.tmps.getD 0 undef = .pointer (some ⟨mm, 0, none⟩) := ho 0 (by kernel_rfl)
      clear hd ho hdone hlater hold
      exact Reg.step2_move (.tmp 0) rfl h0 hI trivial
    · skip
      intro aq wq lq hI hl hdone hlater hold hd ho
      have h25 : aq.tmps.getD 25 undef = .pointer (some ⟨mm, 0, none⟩) := hd 25 (by kernel_rfl)
      clear hd ho hdone hlater hold
      rw [Array.getD_eq_getD_getElem?] at h25
      refine Reg.step2_val (.pointer (some ⟨mm, 0, none⟩)) ?_ rfl hI trivial
      go_simp
    · skip
      intro aq wq lq hI hl hdone hlater hold hd ho
      have h26 : aq.tmps.getD 26 undef = .pointer (some ⟨mm, 0, none⟩) := hd 26 (by kernel_rfl)
      clear hd ho hdone hlater hold
      rw [Array.getD_eq_getD_getElem?] at h26
      refine Reg.step2_val (.pointer (some ⟨mm, 1, none⟩)) ?_ rfl hI trivial
      go_simp
    · skip
      intro aq wq lq hI hl hdone hlater hold hd ho
      have h27 : aq.tmps.getD 27 undef = .pointer (some ⟨mm, 1, none⟩) := hd 27 (by kernel_rfl)
      clear hd ho hdone hlater hold
      rw [Array.getD_eq_getD_getElem?] at h27
      have x1 := (HM1.out.later hI).c1
      refine Reg.step2_val (.pointer (some ⟨tb, 0, none⟩)) ?_ rfl hI trivial
      go_simp
    · skip
      intro aq wq lq hI hl hdone hlater hold hd ho
      have h9 : aq.tmps.getD 9 undef = .string t := ho 9 (by kernel_rfl)
      clear hd ho hdone hlater hold
      exact Reg.step2_move (.tmp 9) rfl h9 hI trivial
    · skip
      intro aq wq lq hI hl hdone hlater hold hd ho
      have h24 : aq.tmps.getD 24 undef = .agg #[.int .i64 (b : Nat), .int .u64 g, .int .u32 k] := hd 24 (by kernel_rfl)
      have h28 : aq.tmps.getD 28 undef = .pointer (some ⟨tb, 0, none⟩) := hd 28 (by kernel_rfl)
      have h29 : aq.tmps.getD 29 undef = .string t := hd 29 (by kernel_rfl)
      clear hd ho hdone hlater hold
      rw [Array.getD_eq_getD_getElem?] at h24 h28 h29
      refine Reg.step2_call 99 #[.agg #[.int .i64 (b : Nat), .int .u64 g, .int .u32 k], .pointer (some ⟨tb, 0, none⟩), .string t] ?_ ((Env.meets_any tb (b : Int) g k t wq (HM1.out.later hI).tab HT.out).mono ?_)
      · clear hI
        simp [execOp]
        go_simp
      · rintro e w2 ⟨rfl, hb⟩
        rw [← HME.out]
        exact ⟨_, rfl, rfl, hI.trans (hb.mono hI.size), trivial⟩
    · skip
      intro aq wq lq hI hl hdone hlater hold hd ho
      have h23 : aq.tmps.getD 23 undef = .bool true := hd 23 (by kernel_rfl)
      have h30 : aq.tmps.getD 30 undef = .bool m := hd 30 (by kernel_rfl)
      clear hd ho hdone hlater hold
      rw [Array.getD_eq_getD_getElem?] at h23 h30
      refine Reg.step2_val (.bool m) ?_ rfl hI trivial
      simp [execOp, Act.eval, h23, h30]
      try go_simp
    · skip
      intro aq wq lq hI hl hdone hlater hold hd ho
      have h11 : aq.tmps.getD 11 undef = .int .i64 0 := ho 11 (by kernel_rfl)
      clear hd ho hdone hlater hold
      exact Reg.step2_move (.tmp 11) rfl h11 hI trivial
    · skip
      intro aq wq lq hI hl hdone hlater hold hd ho
      have h21 : aq.tmps.getD 21 undef = .string t := hd 21 (by kernel_rfl)
      clear hd ho hdone hlater hold
      exact Reg.step2_assign (.tmp 21) rfl h21 hI trivial
    · skip
      intro aq wq lq hI hl hdone hlater hold hd ho
      have h31 : aq.tmps.getD 31 undef = .bool m := hd 31 (by kernel_rfl)
      clear hd ho hdone hlater hold
      exact Reg.step2_assign (.tmp 31) rfl h31 hI trivial
    · skip
      intro aq wq lq hI hl hdone hlater hold hd ho
      have h32 : aq.tmps.getD 32 undef = .int .i64 0 := hd 32 (by kernel_rfl)
      clear hd ho hdone hlater hold
      exact Reg.step2_assign (.tmp 32) rfl h32 hI trivial
    case hend =>
      intro wz hI
      simp only [Reg.fill, List.foldl_cons, List.foldl_nil, List.setIfInBounds_toArray, List.set_cons_zero, List.set_cons_succ]
      have HMZ := Lib.hid ((HM1.out.later hI).sub (Z := Y) (fun k hk => List.mem_cons_of_mem _ hk))
      have HSZ2 := Lib.hid (show Same Y w wz from fun k hk => (hI.block k (HM1.out.y k (by simp [hk])).2).trans (HSM.out k hk))
      clear hI
      go_wp2
      go_ret3
      exact ⟨by rw [HE.out]; rfl, HMZ.out, HSZ2.out⟩
/-- how many copies a repair writes anew -/
def rpN (S : Nat → Sd) (G : Nat → Bool) (s b : Nat) : Nat := if wE S G s b = 0 then 1 else 0
theorem repair_m (h : MG w0 Y mm tb bb q pd S G c R w) (hs : s < 2) (hb : b < 14) {d : ByteArray} (hd : d.size = 128) (hc : c ≤ 800000) (hR : R ≤ 1000000) : Calls Tryz.prog 45 #[.pointer (some ⟨mm, 0, none⟩), .int .i64 (s : Nat), .int .i64 (b : Nat), .string d] w fun e w' => ∃ S', e = .returned (.tuple #[.int .i64 (rpN S G s b : Nat), .int .i64 0]) ∧ St S S' G b d (fun t => t = s) ∧ MG w0 Y mm tb bb q pd S' G (c + 4) (R + rpN S G s b) w' ∧ Same Y w w' := by
  have HM := Lib.hid h
  have HD := Lib.hid hd
  have HC := Lib.hid hc
  have HB := Lib.hid hb
  have HS := Lib.hid hs
  have hv := wE_vals (S := S) (G := G) (s := s) (b := b)
  clear h hd hc hb hs
  go_enter Tryz.func45, Tryz.ntmps45
  go_wp2_with fail
  refine (put_m HM.out HS.out HB.out HD.out HC.out).mono ?_
  rintro e w1 ⟨S1, rfl, hst, hm, hsm⟩
  have HST := Lib.hid hst
  have HM1 := Lib.hid hm
  have HSM := Lib.hid hsm
  have c2 := hm.c2
  have f2 := hm.fz 2
  have hmore := hm.more (R + 1)
  have HMO := Lib.hid hmore
  clear hst hm hsm hmore HM
  rcases hv with hv | ⟨hv, -⟩ | ⟨hv, -⟩
  · have HR := Lib.hid (show rpN S G s b = 1 by unfold rpN; rw [if_pos hv])
    rw [hv]
    clear hv
    go_wp2
    go_ret2
    rw [HR.out]
    refine ⟨S1, rfl, HST.out, ?_, ?_⟩
    · have := HMO.out.1; simpa using this
    · have := HSM.out.trans HMO.out.2; simpa using this
  · have HR := Lib.hid (show rpN S G s b = 0 by unfold rpN; rw [if_neg (by rw [hv]; decide)])
    rw [hv]
    clear hv
    go_wp2
    go_ret2
    rw [HR.out]
    exact ⟨S1, rfl, HST.out, HM1.out, HSM.out⟩
  · have HR := Lib.hid (show rpN S G s b = 0 by unfold rpN; rw [if_neg (by rw [hv]; decide)])
    rw [hv]
    clear hv
    go_wp2
    go_ret2
    rw [HR.out]
    exact ⟨S1, rfl, HST.out, HM1.out, HSM.out⟩
/-- how many copies of a side aren't that image, and can be -/
def hlN (S : Nat → Sd) (G : Nat → Bool) (s b : Nat) (d : ByteArray) : Nat := if cont S G s b = some d then 0 else rpN S G s b
theorem heal_m (h : MG w0 Y mm tb bb q pd S G c R w) (hs : s < 2) (hb : b < 14) {d : ByteArray} (hd : d.size = 128) (hc : c ≤ 800000) (hR : R ≤ 1000000) : Calls Tryz.prog 79 #[.pointer (some ⟨mm, 0, none⟩), .int .i64 (s : Nat), .int .i64 (b : Nat), .string d] w fun e w' => ∃ S', e = .returned (.tuple #[.int .i64 (hlN S G s b d : Nat), .int .i64 0]) ∧ St S S' G b d (fun t => t = s ∧ cont S G s b ≠ some d) ∧ MG w0 Y mm tb bb q pd S' G (c + 4) (R + hlN S G s b d) w' ∧ Same Y w w' := by
  have HM := Lib.hid h
  have HD := Lib.hid hd
  have HC := Lib.hid hc
  have HB := Lib.hid hb
  have HS := Lib.hid hs
  have HRR := Lib.hid hR
  clear h hd hc hb hs hR
  go_enter Tryz.func79, Tryz.ntmps79
  go_wp2_with fail
  refine (read_m HM.out HS.out HB.out (by have := HC.out; omega)).mono ?_
  rintro e w1 ⟨rfl, hm, hsm⟩
  have HM1 := Lib.hid hm
  have HSM := Lib.hid hsm
  obtain ⟨o, ho⟩ : ∃ o, o = cont S G s b := ⟨_, rfl⟩
  rw [← ho]
  have HO := Lib.hid ho
  clear hm hsm HM ho
  cases o with
  | none =>
    have hgt : (none : Option ByteArray).getD ⟨#[]⟩ = ⟨#[]⟩ := rfl
    have his : (none : Option ByteArray).isSome = false := rfl
    rw [hgt, his]
    have HN := Lib.hid (show hlN S G s b d = rpN S G s b by unfold hlN; rw [if_neg (by rw [← HO.out]; simp)])
    go_wp2_with fail
    refine (repair_m HM1.out HS.out HB.out HD.out HC.out HRR.out).mono ?_
    rintro e w2 ⟨S1, rfl, hst, hm, hsm⟩
    have HST := Lib.hid (hst.iff (Q := fun t => t = s ∧ cont S G s b ≠ some d) (fun t ht => ⟨fun h => h.1, fun h => ⟨h, by rw [← HO.out]; simp⟩⟩))
    have HM2 := Lib.hid hm
    have HSM2 := Lib.hid (HSM.out.trans hsm)
    clear hst hm hsm
    go_wp2
    go_ret2
    exact ⟨S1, by rw [HN.out]; rfl, HST.out, by rw [HN.out]; exact HM2.out, HSM2.out⟩
  | some t =>
    have hgt : (some t).getD ⟨#[]⟩ = t := rfl
    have his : (some t).isSome = true := rfl
    rw [hgt, his]
    by_cases htd : t = d
    · have HN := Lib.hid (show hlN S G s b d = 0 by unfold hlN; rw [if_pos (by rw [← HO.out, htd])])
      have HST := Lib.hid ((St.none (S := S) (G := G) (b := b) (d := d)).iff (Q := fun t => t = s ∧ cont S G s b ≠ some d) (fun u hu => ⟨fun h => h.2 (by rw [← HO.out, htd]), fun h => h.elim⟩))
      subst htd
      go_wp2
      go_ret2
      exact ⟨S, by rw [HN.out]; rfl, HST.out, by rw [HN.out]; exact HM1.out.mono (by omega), HSM.out⟩
    · have hne : (t.toList == d.toList) = false := text_ne htd
      have hne2 : ¬ t.toList = d.toList := by simpa using hne
      have HNE := Lib.hid (show cont S G s b ≠ some d by rw [← HO.out]; simp [htd])
      have HN := Lib.hid (show hlN S G s b d = rpN S G s b by unfold hlN; rw [if_neg HNE.out])
      go_wp2_with fail
      refine (repair_m HM1.out HS.out HB.out HD.out HC.out HRR.out).mono ?_
      rintro e w2 ⟨S1, rfl, hst, hm, hsm⟩
      have HST := Lib.hid (hst.iff (Q := fun t => t = s ∧ cont S G s b ≠ some d) (fun t ht => ⟨fun h => h.1, fun h => ⟨h, HNE.out⟩⟩))
      have HM2 := Lib.hid hm
      have HSM2 := Lib.hid (HSM.out.trans hsm)
      clear hst hm hsm
      go_wp2
      go_ret2
      exact ⟨S1, by rw [HN.out]; rfl, HST.out, by rw [HN.out]; exact HM2.out, HSM2.out⟩
end
end Go.Proofs.YtgoampbebjfenaaGreatDoor.Mir

