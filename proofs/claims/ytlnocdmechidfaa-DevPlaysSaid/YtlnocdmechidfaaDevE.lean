/- Contracts of layer 3 (dev): Read, Write. -/
import Derived.Deep.DeepCutAuto
import Derived.Deep.RegionWith
import Derived.Test.YtlnocdmechidfaaDevB
import Derived.Test.YtlnocdmechidfaaDevC
import Derived.Test.YtlnocdmechidfaaDevMathB
import Derived.Maps.AppendAt
namespace Go.Proofs.Ytlnocdmechidfaa.Dev
open Go.RowKit Go.Proofs.Ytlnocdmechidfaa
set_option linter.unusedVariables false

theorem read_nil (i : Int) (w : World) :
    Calls Try.prog 12 #[.pointer none, .int .i64 i] w fun e w' => e = .returned (.tuple #[.string ⟨#[]⟩, .int .i64 1]) ∧ w = w' := by
  go_enter Try.func12, Try.ntmps12
  go_wp2_with fail
  refine (refusal_nil _).mono ?_
  rintro e w' ⟨rfl, rfl⟩
  go_wp2
  go_ret2
  exact ⟨rfl, rfl⟩

set_option maxRecDepth 100000 in
set_option maxHeartbeats 1000000 in
theorem read_any {p sb : Nat} {cv : Value} {D : Dv} (i : Int) (w : World) (h : DevAt w p sb cv D) (hl : D.cache.length ≤ 9223372036854775807) :
    Calls Try.prog 12 #[.pointer (some ⟨p, 0, none⟩), .int .i64 i] w fun e w' => e = .returned (.tuple #[.string (D.readT i), .int .i64 (D.readE i)]) ∧ Chg (foot p sb cv) w w' ∧ DevAt w' p sb cv (D.readD i) := by
  obtain ⟨r, hr⟩ : ∃ r, r = refuse D := ⟨_, rfl⟩
  have HR := Lib.hid hr
  by_cases h0 : r = 0
  · cases hh : hasB D i with
    | false =>
      have e1 : D.readE i = 3 := by unfold Dv.readE; rw [← hr, h0, hh]; rfl
      have e2 : D.readT i = ⟨#[]⟩ := by unfold Dv.readT; rw [e1]; rfl
      have e3 : D.readD i = D := by unfold Dv.readD; rw [e1]; rfl
      rw [e1, e2, e3]
      have HH := Lib.hid hh
      have HZ := Lib.hid h0
      have HD := Lib.hid h
      clear e1 e2 e3 hh h0 hr h
      go_enter Try.func12, Try.ntmps12
      go_wp2_with fail
      refine (refusal_any _ HD.out).mono ?_
      rintro e w' ⟨rfl, rfl⟩
      rw [← HR.out, HZ.out]
      go_wp2_with fail
      refine (has_any i _ HD.out).mono ?_
      rintro e w' ⟨rfl, rfl⟩
      rw [HH.out]
      go_wp2
      go_ret2
      exact ⟨rfl, Chg.refl _ _, HD.out⟩
    | true =>
      have hrr : 0 ≤ i ∧ i < D.n := by unfold hasB at hh; simpa using hh
      obtain ⟨k, rfl⟩ := Int.eq_ofNat_of_zero_le hrr.1
      have hk : k < D.n := by omega
      have hki : (k : Int) < (D.n : Int) := hrr.2
      have hn4 := h.ok.n4096
      have h2 := h.c2
      have hb := h.bad k hk
      have hbe : badB D k = (D.secs[k]'hk).2 := by unfold badB; rw [Int.toNat_natCast, List.getElem?_eq_getElem hk]; rfl
      cases hbb : (D.secs[k]'hk).2 with
      | true =>
        have e1 : D.readE k = 7 := by unfold Dv.readE; rw [← hr, h0, hh, hbe, hbb]; rfl
        have e2 : D.readT k = ⟨#[]⟩ := by unfold Dv.readT; rw [e1]; rfl
        have e3 : D.readD k = D := by unfold Dv.readD; rw [e1]; rfl
        rw [e1, e2, e3]
        rw [hbb] at hb
        have HH := Lib.hid hh
        have HZ := Lib.hid h0
        have HD := Lib.hid h
        clear e1 e2 e3 hh h0 hr h hbb hbe hrr
        go_enter Try.func12, Try.ntmps12
        go_wp2_with fail
        refine (refusal_any _ HD.out).mono ?_
        rintro e w' ⟨rfl, rfl⟩
        rw [← HR.out, HZ.out]
        go_wp2_with fail
        refine (has_any k _ HD.out).mono ?_
        rintro e w' ⟨rfl, rfl⟩
        rw [HH.out]
        go_wp2
        go_ret2
        exact ⟨rfl, Chg.refl _ _, HD.out⟩
      | false =>
        have e1 : D.readE k = 0 := by unfold Dv.readE; rw [← hr, h0, hh, hbe, hbb]; rfl
        have e2 : D.readT k = D.reads k := by unfold Dv.readT; rw [e1, Int.toNat_natCast]; rfl
        have e3 : D.readD k = { D with nr := bump D.nr } := by unfold Dv.readD; rw [e1]; rfl
        rw [e1, e2, e3]
        rw [hbb] at hb
        have hc10 := h.c10
        have hf10 := h.fz 10
        have HD2 := Lib.hid (h.set 10 (.int .i64 (bump D.nr)) { D with nr := bump D.nr } rfl rfl rfl ⟨h.ok.n8, h.ok.n4096, h.ok.s128, h.ok.s1024, h.ok.media, h.ok.text, h.ok.sector, h.ok.fuse, h.ok.lose, h.ok.stray⟩)
        have HH := Lib.hid hh
        have HZ := Lib.hid h0
        have HD := Lib.hid h
        clear e1 e2 e3 hh h0 hr h hbb hbe hrr
        go_enter Try.func12, Try.ntmps12
        go_wp2_with fail
        refine (refusal_any _ HD.out).mono ?_
        rintro e w' ⟨rfl, rfl⟩
        rw [← HR.out, HZ.out]
        go_wp2_with fail
        refine (has_any k _ HD.out).mono ?_
        rintro e w' ⟨rfl, rfl⟩
        rw [HH.out]
        go_wp2
        refine Reg.still_tail 9 (by kernel_rfl) (by kernel_rfl) ?_
        simp only [List.take_succ_cons, List.take_zero, List.drop_succ_cons, List.drop_zero]
        repeat still_step
        try refine wpStill_nil ?_
        go_wp2_with fail
        refine (reading_any k _ (HD2.out.drewN 1) hk hl).mono ?_
        rintro e w' ⟨rfl, hb2⟩
        have hc2 : Chg (foot p sb cv) w w' := (((Chg.refl _ w).setCell (fun _ => .inl rfl) _).drewN 1).trans (Chg.of_below hb2 (Nat.le_refl _)) (fun _ _ h => h)
        have hd2 := (HD2.out.drewN 1).below hb2 (Nat.le_refl _)
        clear hb2
        go_wp2
        go_ret2
        exact ⟨rfl, hc2, hd2⟩
  · have e1 : D.readE i = r := by unfold Dv.readE; rw [← hr, if_pos h0]
    have e2 : D.readT i = ⟨#[]⟩ := by unfold Dv.readT; rw [e1, if_neg h0]
    have e3 : D.readD i = D := by unfold Dv.readD; rw [e1, if_neg h0]
    rw [e1, e2, e3]
    have hb : (r != 0) = true := by simpa using h0
    have HD := Lib.hid h
    clear e1 e2 e3 h0 hr h
    go_enter Try.func12, Try.ntmps12
    go_wp2_with fail
    refine (refusal_any _ HD.out).mono ?_
    rintro e w' ⟨rfl, rfl⟩
    rw [← HR.out]
    go_wp2
    go_ret2
    exact ⟨rfl, Chg.refl _ _, HD.out⟩

theorem write_nil (i : Int) (s : ByteArray) (w : World) :
    Calls Try.prog 7 #[.pointer none, .int .i64 i, .string s] w fun e w' => e = .returned (.int .i64 1) ∧ w = w' := by
  go_enter Try.func7, Try.ntmps7
  go_wp2_with fail
  refine (refusal_nil _).mono ?_
  rintro e w' ⟨rfl, rfl⟩
  go_wp2
  go_ret
  exact ⟨rfl, rfl⟩

theorem info_write : (Try.prog.info? 76).map (fun i => (i.zero, i.size, i.bytes)) = some (some (.agg #[.int .i64 0, .string ⟨#[]⟩]), 2, 24) := by kernel_rfl

set_option maxRecDepth 100000 in
set_option maxHeartbeats 4000000 in
theorem write_any {p sb : Nat} {cv : Value} {D : Dv} (i : Int) (s : ByteArray) (w : World) (h : DevAt w p sb cv D) (hl : D.cache.length ≤ 1000000000) (hsm : s.size ≤ 1000000000) :
    Calls Try.prog 7 #[.pointer (some ⟨p, 0, none⟩), .int .i64 i, .string s] w fun e w' => e = .returned (.int .i64 (D.writeE i s)) ∧ Now p sb cv w (D.writeD i s) w' := by
  obtain ⟨r, hr⟩ : ∃ r, r = refuse D := ⟨_, rfl⟩
  have HR := Lib.hid hr
  by_cases h0 : r = 0
  · cases hh : hasB D i with
    | false =>
      have e1 : D.writeE i s = 3 := by unfold Dv.writeE; rw [← hr, h0, hh]; rfl
      have e3 : D.writeD i s = D := by unfold Dv.writeD; rw [if_pos (.inr (.inl hh))]
      rw [e1, e3]
      have HH := Lib.hid hh
      have HZ := Lib.hid h0
      have HD := Lib.hid h
      clear e1 e3 hh h0 hr h
      go_enter Try.func7, Try.ntmps7
      go_wp2_with fail
      refine (refusal_any _ HD.out).mono ?_
      rintro e w' ⟨rfl, rfl⟩
      rw [← HR.out, HZ.out]
      go_wp2_with fail
      refine (has_any i _ HD.out).mono ?_
      rintro e w' ⟨rfl, rfl⟩
      rw [HH.out]
      go_wp2
      go_ret
      exact ⟨rfl, .same (Chg.refl _ _) HD.out⟩
    | true =>
      have hrr : 0 ≤ i ∧ i < D.n := by unfold hasB at hh; simpa using hh
      obtain ⟨k, rfl⟩ := Int.eq_ofNat_of_zero_le hrr.1
      have hk : k < D.n := by omega
      have hki : (k : Int) < (D.n : Int) := hrr.2
      have hn4 := h.ok.n4096
      have hs1 := h.ok.s1024
      have h1 := h.c1
      have HH := Lib.hid hh
      have HZ := Lib.hid h0
      have HD := Lib.hid h
      by_cases hsz : s.size = D.size
      · have hne : ((s.size : Int) != (D.size : Int)) = false := by simp; omega
        have HSZ := Lib.hid hsz
        cases hst : stk D.fuse with
        | true =>
          have e1 : D.writeE k s = 6 := by unfold Dv.writeE; rw [← hr, h0, hh, hst]; simp [hsz]
          have e3 : D.writeD k s = D.blow := by unfold Dv.writeD; rw [if_neg (by rw [← hr, hh]; simp [h0, hsz]), if_pos (.inl hst)]
          rw [e1, e3]
          have HS := Lib.hid hst
          clear e1 e3 hh h0 hr h hst hrr hsz
          go_enter Try.func7, Try.ntmps7
          go_wp2_with fail
          refine (refusal_any _ HD.out).mono ?_
          rintro e w' ⟨rfl, rfl⟩
          rw [← HR.out, HZ.out]
          go_wp2_with fail
          refine (has_any k _ HD.out).mono ?_
          rintro e w' ⟨rfl, rfl⟩
          rw [HH.out]
          go_wp2_with fail
          refine (blows_any _ HD.out).mono ?_
          rintro e w1 ⟨rfl, hc1, hd1⟩
          rw [HS.out]
          have HC1 := Lib.hid hc1
          have HD1 := Lib.hid hd1
          clear hc1 hd1 h1
          go_wp2
          go_ret
          exact ⟨rfl, .same HC1.out HD1.out⟩
        | false =>
          have hbe : badB D k = (D.secs[k]'hk).2 := by unfold badB; rw [Int.toNat_natCast, List.getElem?_eq_getElem hk]; rfl
          have HS := Lib.hid hst
          cases hbb : (D.secs[k]'hk).2 with
          | true =>
            have e1 : D.writeE k s = 7 := by unfold Dv.writeE; rw [← hr, h0, hh, hst, hbe, hbb]; simp [hsz]
            have e3 : D.writeD k s = D.blow := by unfold Dv.writeD; rw [if_neg (by rw [← hr, hh]; simp [h0, hsz]), if_pos (.inr (by rw [hbe, hbb]))]
            rw [e1, e3]
            have HB := Lib.hid hbb
            clear e1 e3 hh h0 hr h hst hrr hsz hbe hbb
            go_enter Try.func7, Try.ntmps7
            go_wp2_with fail
            refine (refusal_any _ HD.out).mono ?_
            rintro e w' ⟨rfl, rfl⟩
            rw [← HR.out, HZ.out]
            go_wp2_with fail
            refine (has_any k _ HD.out).mono ?_
            rintro e w' ⟨rfl, rfl⟩
            rw [HH.out]
            go_wp2_with fail
            refine (blows_any _ HD.out).mono ?_
            rintro e w1 ⟨rfl, hc1, hd1⟩
            rw [HS.out]
            have HC1 := Lib.hid hc1
            have HD1 := Lib.hid hd1
            have h2 : w1.cell? ⟨p, 2, none⟩ = some (.slice (some ⟨sb, 0, none⟩) D.n D.n) := hd1.c2
            have hb : w1.cell? ⟨sb, k * 2 + 1, none⟩ = some (.bool true) := by rw [← HB.out]; exact hd1.bad k hk
            clear hc1 hd1 h1
            go_wp2
            go_ret
            exact ⟨rfl, .same HC1.out HD1.out⟩
          | false =>
            have e1 : D.writeE k s = 0 := by unfold Dv.writeE; rw [← hr, h0, hh, hst, hbe, hbb]; simp [hsz]
            have e3 : D.writeD k s = if goes D.blow.counted k then D.blow.counted.struck.push (dest D.blow.counted k) s else D.blow.counted.struck := by
              unfold Dv.writeD; rw [if_neg (by rw [← hr, hh]; simp [h0, hsz]), if_neg (by rw [hst, hbe, hbb]; simp)]
            rw [e1]
            have HB := Lib.hid hbb
            have HW := Lib.hid e3
            clear e1 e3 hh h0 hr h hst hrr hsz hbe hbb
            go_enter Try.func7, Try.ntmps7
            go_wp2_with fail
            refine (refusal_any _ HD.out).mono ?_
            rintro e w' ⟨rfl, rfl⟩
            rw [← HR.out, HZ.out]
            go_wp2_with fail
            refine (has_any k _ HD.out).mono ?_
            rintro e w' ⟨rfl, rfl⟩
            rw [HH.out]
            go_wp2_with fail
            refine (blows_any _ HD.out).mono ?_
            rintro e w1 ⟨rfl, hc1, hd1⟩
            rw [HS.out]
            have h2 : w1.cell? ⟨p, 2, none⟩ = some (.slice (some ⟨sb, 0, none⟩) D.n D.n) := hd1.c2
            have hb : w1.cell? ⟨sb, k * 2 + 1, none⟩ = some (.bool false) := by rw [← HB.out]; exact hd1.bad k hk
            have h11 : w1.cell? ⟨p, 11, none⟩ = some (.int .i64 D.nw) := hd1.c11
            have hf11 := hd1.fz 11
            have HC1 := Lib.hid hc1
            have HD1 := Lib.hid (hd1.set 11 (.int .i64 (bump D.nw)) D.blow.counted rfl rfl rfl ⟨hd1.ok.n8, hd1.ok.n4096, hd1.ok.s128, hd1.ok.s1024, hd1.ok.media, hd1.ok.text, hd1.ok.sector, hd1.ok.fuse, hd1.ok.lose, hd1.ok.stray⟩)
            clear hc1 hd1 h1
            go_wp2
            refine Reg.still_tail 9 (by kernel_rfl) (by kernel_rfl) ?_
            simp only [List.take_succ_cons, List.take_zero, List.drop_succ_cons, List.drop_zero]
            repeat still_step
            try refine wpStill_nil ?_
            go_wp2_with fail
            refine (target_any k _ (HD1.out.drewN 1)).mono ?_
            rintro e w2 ⟨rfl, hc2, hd2⟩
            have hc2' : Chg (foot p sb cv) w w2 := (((HC1.out.setCell (fun _ => .inl rfl) _).drewN 1)).trans hc2 (fun _ _ h => h)
            clear hc2 h2 hb h11 hf11
            cases hg : goes D.blow.counted k with
            | false =>
              have HC2 := Lib.hid hc2'
              have HD2 := Lib.hid hd2
              have HG := Lib.hid hg
              clear hc2' hd2 hg
              go_wp2
              go_ret
              exact ⟨rfl, .same HC2.out (by rw [HW.out, HG.out]; exact HD2.out)⟩
            | true =>
              have hgo : 0 ≤ dest D.blow.counted k ∧ dest D.blow.counted k < D.n := by
                unfold goes hasB at hg
                simp only [Bool.and_eq_true, decide_eq_true_eq] at hg
                exact hg.2.1
              obtain ⟨q, hq⟩ := Int.eq_ofNat_of_zero_le hgo.1
              have hqn : q < D.n := by omega
              rw [hq]
              have HG := Lib.hid (show D.writeD k s = D.blow.counted.struck.push (q : Nat) s by rw [HW.out, hg, hq]; rfl)
              have HC2 := Lib.hid hc2'
              have HD2 := Lib.hid hd2
              have h3 : w2.cell? ⟨p, 3, none⟩ = some cv := hd2.c3
              have hrow := hd2.cache.alloc (.cells #[.int .i64 (q : Nat), .string s] 76)
              have hp2 := hd2.main.lt
              have HLEN := Lib.hid (show D.blow.counted.struck.cache.length = D.cache.length from rfl)
              have HCP := Lib.hid hd2.cp
              have HSZ2 := Lib.hid (show s.size = D.blow.counted.struck.size from HSZ.out)
              have HQ := Lib.hid (show q < D.blow.counted.struck.n from hqn)
              have hfz3 := hd2.fz 3
              clear hc2' hd2 hg hgo hq
              obtain ⟨i0, hi, hz0, hz1, hz2⟩ := info_parts info_write
              go_wp2_with (at_builtin; refine wpList_append_own_at _ rfl _ _ 66 rfl 0 76 i0 (.agg #[.int .i64 0, .string ⟨#[]⟩]) 2 24 Try.underlying66 hi hz0 hz1 hz2 rfl (by decide) _ _ _ rfl hrow ⟨w2.heap.size, 0, none⟩ 1 1 [.int .i64 (q : Nat), .string s] rfl rfl ?c1 ?c2 ?c3 ?c4 ?c5 ?_)
              case c1 =>
                intro j u hj
                match j, hj with
                | 0, hj => simp at hj; subst hj; simp [Addr.add]
                | 1, hj => simp at hj; subst hj; simp [Addr.add]
              case c2 => intro u hu; simp at hu; rcases hu with rfl | rfl <;> rfl
              case c3 => rw [HLEN.out]; unfold maxLen; omega
              case c4 => rw [HLEN.out]; omega
              case c5 => simp
              intro v' w3 hown' hgrow _ hat
              obtain ⟨g', cap', rfl⟩ := ownsRow_succ hown'
              have HN := Lib.hid (HD2.out.append _ q s HQ.out HSZ2.out hown' hgrow (by rw [World.size_alloc]; exact hat))
              have hc3 : w3.cell? ⟨p, 3, none⟩ = some cv := (World.cell?_of_block (hgrow.block p (by simp; omega) (fun e => HCP.out e.symm))).trans ((World.cell?_alloc_lt w2 _ _ hp2).trans h3)
              have hf3 : w3.frozen? ⟨p, 3, none⟩ = false := (World.frozen?_of_block (hgrow.block p (by simp; omega) (fun e => HCP.out e.symm))).trans ((World.frozen?_of_block (Below.heap_alloc _ _ _ hp2)).trans hfz3)
              clear hown' hgrow hat h3 hrow hfz3
              go_wp2
              go_ret
              exact ⟨rfl, by rw [HG.out]; exact Now.trans HC2.out HN.out⟩
      · have hne : ((s.size : Int) != (D.size : Int)) = true := by simp; omega
        have e1 : D.writeE k s = 2 := by unfold Dv.writeE; rw [← hr, h0, hh]; simp [hsz]
        have e3 : D.writeD k s = D := by unfold Dv.writeD; rw [if_pos (.inr (.inr hsz))]
        rw [e1, e3]
        clear e1 e3 hh h0 hr h hrr hsz
        go_enter Try.func7, Try.ntmps7
        go_wp2_with fail
        refine (refusal_any _ HD.out).mono ?_
        rintro e w' ⟨rfl, rfl⟩
        rw [← HR.out, HZ.out]
        go_wp2_with fail
        refine (has_any k _ HD.out).mono ?_
        rintro e w' ⟨rfl, rfl⟩
        rw [HH.out]
        go_wp2
        go_ret
        exact ⟨rfl, .same (Chg.refl _ _) HD.out⟩
  · have e1 : D.writeE i s = r := by unfold Dv.writeE; rw [← hr, if_pos h0]
    have e3 : D.writeD i s = D := by unfold Dv.writeD; rw [if_pos (.inl (by rw [← hr]; exact h0))]
    rw [e1, e3]
    have hb : (r != 0) = true := by simpa using h0
    have HD := Lib.hid h
    clear e1 e3 h0 hr h
    go_enter Try.func7, Try.ntmps7
    go_wp2_with fail
    refine (refusal_any _ HD.out).mono ?_
    rintro e w' ⟨rfl, rfl⟩
    rw [← HR.out]
    go_wp2
    go_ret
    exact ⟨rfl, .same (Chg.refl _ _) HD.out⟩
end Go.Proofs.Ytlnocdmechidfaa.Dev
