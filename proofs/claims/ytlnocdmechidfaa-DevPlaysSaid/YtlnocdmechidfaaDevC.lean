/- Contracts of layer 3 (dev): blows, target, lasts. -/
import Derived.Deep.DeepCutAuto
import Derived.Deep.RegionWith
import Derived.Test.YtlnocdmechidfaaDevA
import Derived.Test.YtlnocdmechidfaaRegionW
namespace Go.Proofs.Ytlnocdmechidfaa.Dev
open Go.RowKit Go.Proofs.Ytlnocdmechidfaa
set_option linter.unusedVariables false

theorem blows_any {p sb : Nat} {cv : Value} {D : Dv} (w : World) (h : DevAt w p sb cv D) :
    Calls Try.prog 32 #[.pointer (some ⟨p, 0, none⟩)] w fun e w' => e = .returned (.bool (stk D.fuse)) ∧ Chg (foot p sb cv) w w' ∧ DevAt w' p sb cv D.blow := by
  have h6 := h.c6
  have f6 := h.fz 6
  have hf := h.ok.fuse
  have hs1 := h.set 6 (.int .i64 ((D.fuse - 1 : Nat) : Int)) { D with fuse := D.fuse - 1 } rfl rfl rfl ⟨h.ok.n8, h.ok.n4096, h.ok.s128, h.ok.s1024, h.ok.media, h.ok.text, h.ok.sector, by simp only; omega, h.ok.lose, h.ok.stray⟩
  have hs2 := hs1.set 5 (.bool (stk D.fuse)) D.blow rfl rfl rfl ⟨h.ok.n8, h.ok.n4096, h.ok.s128, h.ok.s1024, h.ok.media, h.ok.text, h.ok.sector, by simp only [Dv.blow]; omega, h.ok.lose, h.ok.stray⟩
  have h5 := hs1.c5
  have f5 := hs1.fz 5
  have h5' := hs2.c5
  have HS := Lib.hid hs2
  have hC : Chg (foot p sb cv) w ((w.setCell ⟨p, 6, none⟩ (.int .i64 ((D.fuse - 1 : Nat) : Int))).setCell ⟨p, 5, none⟩ (.bool (stk D.fuse))) := (((Chg.refl _ _).setCell (fun _ => .inl rfl) _).setCell (fun _ => .inl rfl) _)
  have HC := Lib.hid hC
  clear hs1 hs2 h hC
  obtain ⟨k, hk⟩ : ∃ k, k = D.fuse - 1 := ⟨_, rfl⟩
  have HK := Lib.hid hk
  rw [← hk] at h5 f5 h5' HS HC
  unfold Dv.blow at h5'
  simp only at h5'
  clear hk
  go_enter Try.func32, Try.ntmps32
  go_wp2_with fail
  refine (strikes_any p 6 D.fuse _ h6 f6 hf).mono ?_
  rintro e w' ⟨rfl, rfl⟩
  rw [← HK.out]
  go_wp2
  go_ret
  exact ⟨rfl, HC.out, HS.out⟩

/-- between the two countdowns -/
def StruckAt (w0 : World) (p sb : Nat) (cv : Value) (D : Dv) (a b : Bool) (w : World) : Prop :=
  DevAt w p sb cv { D with lose := if a then D.lose - 1 else D.lose, stray := if b then D.stray - 1 else D.stray } ∧ Chg (foot p sb cv) w0 w
section
variable {w0 w : World} {p sb : Nat} {cv : Value} {D : Dv} {a b : Bool}
theorem StruckAt.start (h : DevAt w0 p sb cv D) : StruckAt w0 p sb cv D false false w0.drew := ⟨h.drew, (Chg.refl _ _).drew⟩
theorem StruckAt.cell7 (h : StruckAt w0 p sb cv D false b w) : w.cell? ⟨p, 7, none⟩ = some (.int .i64 (D.lose : Int)) := h.1.c7
theorem StruckAt.cell8 (h : StruckAt w0 p sb cv D a false w) : w.cell? ⟨p, 8, none⟩ = some (.int .i64 (D.stray : Int)) := h.1.c8
theorem StruckAt.strike7 (h : StruckAt w0 p sb cv D false b w) : StruckAt w0 p sb cv D true b (w.setCell ⟨p, 7, none⟩ (.int .i64 ((D.lose - 1 : Nat) : Int))) :=
  ⟨h.1.set 7 _ _ rfl rfl rfl ⟨h.1.ok.n8, h.1.ok.n4096, h.1.ok.s128, h.1.ok.s1024, h.1.ok.media, h.1.ok.text, h.1.ok.sector, h.1.ok.fuse, by have := h.1.ok.lose; simp at this ⊢; omega, h.1.ok.stray⟩, h.2.setCell (fun _ => .inl rfl) _⟩
theorem StruckAt.strike8 (h : StruckAt w0 p sb cv D a false w) : StruckAt w0 p sb cv D a true (w.setCell ⟨p, 8, none⟩ (.int .i64 ((D.stray - 1 : Nat) : Int))) :=
  ⟨h.1.set 8 _ _ rfl rfl rfl ⟨h.1.ok.n8, h.1.ok.n4096, h.1.ok.s128, h.1.ok.s1024, h.1.ok.media, h.1.ok.text, h.1.ok.sector, h.1.ok.fuse, h.1.ok.lose, by have := h.1.ok.stray; simp at this ⊢; omega⟩, h.2.setCell (fun _ => .inl rfl) _⟩
end

set_option maxRecDepth 100000 in
set_option maxHeartbeats 1000000 in
theorem target_any {p sb : Nat} {cv : Value} {D : Dv} (i : Int) (w : World) (h : DevAt w p sb cv D) :
    Calls Try.prog 33 #[.pointer (some ⟨p, 0, none⟩), .int .i64 i] w fun e w' => e = .returned (.tuple #[.int .i64 (dest D i), .bool (goes D i)]) ∧ Chg (foot p sb cv) w w' ∧ DevAt w' p sb cv D.struck := by
  have hl := h.ok.lose
  have hs := h.ok.stray
  have HL := Lib.hid hl
  have HS := Lib.hid hs
  have HD := Lib.hid h
  obtain ⟨j, hj⟩ : ∃ j, j = dest D i := ⟨_, rfl⟩
  obtain ⟨g, hg⟩ : ∃ g, g = goes D i := ⟨_, rfl⟩
  rw [← hj, ← hg]
  have HG := Lib.hid (show g = (!stk D.lose && (hasB D j && !badB D j)) by rw [hg]; unfold goes; rw [← hj])
  have HJ := Lib.hid (show j = if stk D.stray then D.tgt else i from hj)
  clear h hl hs hg hj
  go_enter Try.func33, Try.ntmps33
  go_wp2
  go_upto_region 2 with fail
  go_cut [0, 1, 6, 7] (fun d j a b wx => d = .pointer (some ⟨p, 0, none⟩) ∧ j = .int .i64 i ∧ a = .bool (stk D.lose) ∧ b = .bool (stk D.stray) ∧ Chg (foot p sb cv) w wx ∧ DevAt wx p sb cv D.struck)
  case first =>
    refine Reg.region_vals (by kernel_rfl) [(8, .pointer (some ⟨p, 0, none⟩)), (9, .pointer (some ⟨p, 0, none⟩)), (10, .pointer (some ⟨p, 7, none⟩)), (11, .bool (stk D.lose)), (12, .pointer (some ⟨p, 0, none⟩)), (13, .pointer (some ⟨p, 0, none⟩)), (14, .pointer (some ⟨p, 8, none⟩)), (15, .bool (stk D.stray)), (6, .bool (stk D.lose)), (7, .bool (stk D.stray))] (fun l wx => StruckAt w p sb cv D (l 3) (l 7) wx) (by kernel_rfl) (by kernel_rfl) (by kernel_rfl) (StruckAt.start HD.out) ⟨?_, ?_, ?_, ?_, ?_, ?_, ?_, ?_, ?_, ?_, trivial⟩ ?hend
    · -- 0: 8 := Op.move t0
      intro aq wq lq hI hl hdone hlater hold hd ho
      have h0 : aq.tmps.getD 0 undef = .pointer (some ⟨p, 0, none⟩) := ho 0 (by kernel_rfl)
      clear hd ho hdone hlater hold
      exact Reg.step2_move (.tmp 0) rfl h0 hI trivial
    · -- 1: 9 := Op.nilCheck t8
      intro aq wq lq hI hl hdone hlater hold hd ho
      have h8 : aq.tmps.getD 8 undef = .pointer (some ⟨p, 0, none⟩) := hd 8 (by kernel_rfl)
      clear hd ho hdone hlater hold
      rw [Array.getD_eq_getD_getElem?] at h8
      refine Reg.step2_val (.pointer (some ⟨p, 0, none⟩)) ?_ rfl hI trivial
      go_simp
    · -- 2: 10 := Op.fieldAddr 70 t9 6
      intro aq wq lq hI hl hdone hlater hold hd ho
      have h9 : aq.tmps.getD 9 undef = .pointer (some ⟨p, 0, none⟩) := hd 9 (by kernel_rfl)
      clear hd ho hdone hlater hold
      rw [Array.getD_eq_getD_getElem?] at h9
      refine Reg.step2_val (.pointer (some ⟨p, 7, none⟩)) ?_ rfl hI trivial
      go_simp
    · -- 3: 11 := Op.call ( value (Operand.func 53), args := #(t10), argTypes 
      intro aq wq lq hI hl hdone hlater hold hd ho
      have h10 : aq.tmps.getD 10 undef = .pointer (some ⟨p, 7, none⟩) := hd 10 (by kernel_rfl)
      clear hd ho hdone hlater hold
      rw [Array.getD_eq_getD_getElem?] at h10
      rw [show lq 3 = false from hl] at hI
      refine Reg.step2_call 53 #[.pointer (some ⟨p, 7, none⟩)] ?_ ((strikes_any p 7 D.lose _ hI.cell7 (hI.1.fz 7) HL.out).mono ?_)
      · simp [execOp]
        go_simp
      · rintro e w' ⟨rfl, rfl⟩
        exact ⟨_, rfl, rfl, hI.strike7, trivial⟩
    · -- 4: 12 := Op.move t0
      intro aq wq lq hI hl hdone hlater hold hd ho
      have h0 : aq.tmps.getD 0 undef = .pointer (some ⟨p, 0, none⟩) := ho 0 (by kernel_rfl)
      clear hd ho hdone hlater hold
      exact Reg.step2_move (.tmp 0) rfl h0 hI trivial
    · -- 5: 13 := Op.nilCheck t12
      intro aq wq lq hI hl hdone hlater hold hd ho
      have h12 : aq.tmps.getD 12 undef = .pointer (some ⟨p, 0, none⟩) := hd 12 (by kernel_rfl)
      clear hd ho hdone hlater hold
      rw [Array.getD_eq_getD_getElem?] at h12
      refine Reg.step2_val (.pointer (some ⟨p, 0, none⟩)) ?_ rfl hI trivial
      go_simp
    · -- 6: 14 := Op.fieldAddr 70 t13 7
      intro aq wq lq hI hl hdone hlater hold hd ho
      have h13 : aq.tmps.getD 13 undef = .pointer (some ⟨p, 0, none⟩) := hd 13 (by kernel_rfl)
      clear hd ho hdone hlater hold
      rw [Array.getD_eq_getD_getElem?] at h13
      refine Reg.step2_val (.pointer (some ⟨p, 8, none⟩)) ?_ rfl hI trivial
      go_simp
    · -- 7: 15 := Op.call ( value (Operand.func 53), args := #(t14), argTypes 
      intro aq wq lq hI hl hdone hlater hold hd ho
      have h14 : aq.tmps.getD 14 undef = .pointer (some ⟨p, 8, none⟩) := hd 14 (by kernel_rfl)
      clear hd ho hdone hlater hold
      rw [Array.getD_eq_getD_getElem?] at h14
      rw [show lq 7 = false from hl] at hI
      refine Reg.step2_call 53 #[.pointer (some ⟨p, 8, none⟩)] ?_ ((strikes_any p 8 D.stray _ hI.cell8 (hI.1.fz 8) HS.out).mono ?_)
      · simp [execOp]
        go_simp
      · rintro e w' ⟨rfl, rfl⟩
        exact ⟨_, rfl, rfl, hI.strike8, trivial⟩
    · -- 8: 6 := Op.assign t11
      intro aq wq lq hI hl hdone hlater hold hd ho
      have h11 : aq.tmps.getD 11 undef = .bool (stk D.lose) := hd 11 (by kernel_rfl)
      clear hd ho hdone hlater hold
      exact Reg.step2_assign (.tmp 11) rfl h11 hI trivial
    · -- 9: 7 := Op.assign t15
      intro aq wq lq hI hl hdone hlater hold hd ho
      have h15 : aq.tmps.getD 15 undef = .bool (stk D.stray) := hd 15 (by kernel_rfl)
      clear hd ho hdone hlater hold
      exact Reg.step2_assign (.tmp 15) rfl h15 hI trivial
    case hend =>
    intro wx hI
    simp only [Reg.fill, List.foldl_cons, List.foldl_nil, List.setIfInBounds_toArray, List.set_cons_zero, List.set_cons_succ]
    go_wp2
    go_meet
    case rel => exact ⟨rfl, rfl, rfl, rfl, hI.2, hI.1⟩
  case rest =>
    obtain ⟨rfl, rfl, rfl, rfl, hC, hd⟩ := hcut
    have HC := Lib.hid hC
    have h9 := hd.c9
    have h2 := hd.c2
    have hn4 := hd.ok.n4096
    have HDD := Lib.hid hd
    have e1 : D.struck.tgt = D.tgt := rfl
    have e2 : D.struck.n = D.n := rfl
    rw [e1] at h9
    rw [e2] at h2 hn4
    have fin : ∀ (gg : Bool) (x : Ending) (W : World), x = .returned (.tuple #[.int .i64 j, .bool gg]) → (∃ n, W = wc.drewN n) → g = gg → x = .returned (.tuple #[.int .i64 j, .bool g]) ∧ Chg (foot p sb cv) w W ∧ DevAt W p sb cv D.struck := by
      rintro gg x W rfl ⟨n, rfl⟩ rfl
      exact ⟨rfl, HC.out.drewN n, HDD.out.drewN n⟩
    have FIN := Lib.hid fin
    clear fin hC e1 e2 hd
    have hj := HJ.out
    clear HJ
    generalize D.tgt = t0 at h9 hj
    cases hst : stk D.stray
    all_goals
      rw [hst] at hj
      simp only [if_true, Bool.false_eq_true, if_false] at hj
      clear hst
      subst hj
      cases hlo : stk D.lose
      · cases hh : hasB D.struck j
        · have HH := Lib.hid hh
          have HG2 := Lib.hid (show g = false by rw [HG.out, hlo]; have : hasB D j = hasB D.struck j := rfl; rw [this, hh]; rfl)
          clear hlo hh
          go_wp2
          go_quiet ((go_at_call 31; exact Calls.quiet_of_same ((has_any j _ (HDD.out.drewN _)).mono fun e w' ⟨he, hw⟩ => ⟨by rw [he, HH.out], hw.symm⟩)))
          go_wp2
          go_ret2
          exact FIN.out _ _ _ rfl ⟨_, rfl⟩ HG2.out
        · have hr : 0 ≤ j ∧ j < D.n := by unfold hasB at hh; rw [show D.struck.n = D.n from rfl] at hh; simpa using hh
          obtain ⟨k, rfl⟩ := Int.eq_ofNat_of_zero_le hr.1
          have hk : k < D.n := by omega
          have hki : (k : Int) < (D.n : Int) := hr.2
          have hb := HDD.out.bad k hk
          have HH := Lib.hid hh
          have HG2 := Lib.hid (show g = !(D.secs[k]'hk).2 by
            rw [HG.out, hlo]
            have : hasB D k = hasB D.struck k := rfl
            rw [this, hh]; unfold badB; rw [Int.toNat_natCast, List.getElem?_eq_getElem hk]; rfl)
          have hb' : wc.cell? ⟨sb, k * 2 + 1, none⟩ = some (.bool (D.secs[k]'hk).2) := hb
          generalize (D.secs[k]'hk).2 = bad at hb' HG2
          clear hlo hh hr hb
          go_wp2
          go_quiet ((go_at_call 31; exact Calls.quiet_of_same ((has_any k _ (HDD.out.drewN _)).mono fun e w' ⟨he, hw⟩ => ⟨by rw [he, HH.out], hw.symm⟩)))
          go_wp2
          go_ret2
          exact FIN.out _ _ _ rfl ⟨_, rfl⟩ HG2.out
      · have HG2 := Lib.hid (show g = false by rw [HG.out, hlo]; rfl)
        clear hlo
        go_wp2
        go_quiet (fail)
        go_wp2
        go_ret2
        exact FIN.out _ _ _ rfl ⟨_, rfl⟩ HG2.out
end Go.Proofs.Ytlnocdmechidfaa.Dev
