/- Contracts of the reference of layer 3: WriteTo. -/
import Derived.Deep.DeepCutAuto
import Derived.Deep.RegionWith
import Derived.Test.YtlnocdmechidfaaRefDevF
import Derived.Test.YtlnocdmechidfaaRefDevS
namespace Go.Proofs.Ytlnocdmechidfaa.Dev
open Go Go.RowKit Go.Proofs.Ytlnocdmechidfaa
set_option linter.unusedVariables false

theorem RefAt.append {w w1 : World} {p : Nat} {B : RB} {cv v' : Value} {D : Dv} (h : RefAt w p B cv D) (o : Obj) (i : Nat) (s : ByteArray) (hi : i < D.n) (hs : s.size = D.size)
    (hown : w1.ownsRow 0 79 2 v' (D.cache.length + 1) (flatW D.cache ++ [.int .i64 (i : Nat), .string s])) (hg : (w.alloc o).grownBy w1 cv.ownBlock) (hat : v'.ownBlock = cv.ownBlock ∨ v'.ownBlock = some (w.alloc o).heap.size) :
    RNow p B cv w (D.push i s) (w1.setCell ⟨p, 3, none⟩ v') := by
  have hp := h.main.lt
  have hmb := h.meds.lt
  have hbb := h.bads.lt
  have far : ∀ k, k < w.heap.size → cv.ownBlock ≠ some k → v'.ownBlock ≠ some k := by
    intro k hk hne
    rcases hat with e | e
    · rw [e]; exact hne
    · rw [e]; simp; omega
  have hvp := far p hp h.cp
  have hm1 : Has w1 p 52 (D.rcells B cv) := (h.main.alloc o).same (hg.block p (by simp; omega) (fun e => h.cp e.symm))
  have hs1 : Has w1 B.mb 9 (medS D.secs ++ B.mt) := (h.meds.alloc o).same (hg.block B.mb (by simp; omega) (fun e => h.cm e.symm))
  have hb1 : Has w1 B.bb 4 (badS D.secs ++ B.bt) := (h.bads.alloc o).same (hg.block B.bb (by simp; omega) (fun e => h.cb e.symm))
  have hlen : (D.cache ++ [(i, s)]).length = D.cache.length + 1 := by simp
  have e0 : (D.push i s) = { D with cache := D.cache ++ [(i, s)] } := by unfold Dv.push; rw [Int.toNat_natCast]
  rw [e0]
  refine ⟨v', ?_, ⟨?_, hs1.setOther h.pm _, hb1.setOther h.pb _, ?_, h.pm, h.pb, h.mb, hvp, far _ hmb h.cm, far _ hbb h.cb, ?_⟩, ?_⟩
  · exact (((Chg.refl _ w).alloc o).grown hg (fun k _ e => .inr (.inr (.inr e)))).setCell (fun _ => .inl rfl) _
  · exact hm1.set 3 v'
  · rw [show ({ D with cache := D.cache ++ [(i, s)] } : Dv).cache = D.cache ++ [(i, s)] from rfl, hlen, flatW_snoc]
    exact owns_same hown fun k e => Below.heap_setCell _ _ _ _ (fun e' => hvp (by rw [e]; exact congrArg some e'))
  · refine ⟨h.ok.n8, h.ok.n4096, h.ok.s128, h.ok.s1024, h.ok.media, ?_, ?_, h.ok.fuse, h.ok.lose, h.ok.stray⟩
    · intro x hx
      rcases List.mem_append.1 hx with hx | hx
      · exact h.ok.text x hx
      · rw [List.mem_singleton.1 hx]; exact hs
    · intro x hx
      rcases List.mem_append.1 hx with hx | hx
      · exact h.ok.sector x hx
      · rw [List.mem_singleton.1 hx]; exact hi
  · rintro k (rfl | rfl | rfl | e)
    · exact .inl (.inl rfl)
    · exact .inl (.inr (.inl rfl))
    · exact .inl (.inr (.inr (.inl rfl)))
    · rcases hat with e' | e'
      · exact .inl (.inr (.inr (.inr (by rw [← e']; exact e))))
      · rw [e'] at e; simp at e; exact .inr (by omega)
theorem RNow.trans {p : Nat} {B : RB} {cv : Value} {w w1 w2 : World} {D2 : Dv} (h1 : Chg (rfoot p B cv) w w1) (h2 : RNow p B cv w1 D2 w2) : RNow p B cv w D2 w2 := by
  obtain ⟨cv', hc, hd, hf⟩ := h2
  refine ⟨cv', h1.trans hc (fun _ _ h => h), hd, fun k hk => ?_⟩
  rcases hf k hk with h | h
  · exact .inl h
  · exact .inr (Nat.le_trans h1.size h)
theorem struck_lose (D : Dv) : ({ D.struck with stray := D.stray } : Dv) = { D with lose := D.lose - 1 } := rfl

set_option maxRecDepth 100000 in
set_option maxHeartbeats 4000000 in
theorem refwrite_any {p : Nat} {B : RB} {cv : Value} {D : Dv} (i : Int) (s : ByteArray) (w : World) (h : RefAt w p B cv D) (hl : D.cache.length ≤ 1000000000) (hsm : s.size ≤ 1000000000) :
    Calls Try.prog 9 #[.pointer (some ⟨p, 0, none⟩), .int .i64 i, .string s] w fun e w' => e = .returned (.int .i64 (D.writeE i s)) ∧ RNow p B cv w (D.writeD i s) w' := by
  obtain ⟨r, hr⟩ : ∃ r, r = refuse D := ⟨_, rfl⟩
  have HR := Lib.hid hr
  have hn4 := h.ok.n4096
  have c1 := h.c1
  have HD := Lib.hid h
  by_cases h0 : r = 0
  · have HZ := Lib.hid h0
    cases hh : hasB D i with
    | false =>
      have e1 : D.writeE i s = 3 := by unfold Dv.writeE; rw [← hr, h0, hh]; rfl
      have e3 : D.writeD i s = D := by unfold Dv.writeD; rw [if_pos (.inr (.inl hh))]
      rw [e1, e3]
      have hrr : ¬ (0 ≤ i ∧ i < D.n) := by unfold hasB at hh; simpa using hh
      clear e1 e3 hh h0 hr h
      by_cases hneg : i < 0
      · clear hrr
        go_enter Try.func9, Try.ntmps9
        go_wp2_with fail
        refine (ready_any _ HD.out).mono ?_
        rintro e w' ⟨rfl, rfl⟩
        rw [← HR.out, HZ.out]
        go_wp2
        go_ret
        exact ⟨rfl, .same (Chg.refl _ _) HD.out⟩
      · have hge : (D.n : Int) ≤ i := by omega
        clear hrr
        go_enter Try.func9, Try.ntmps9
        go_wp2_with fail
        refine (ready_any _ HD.out).mono ?_
        rintro e w' ⟨rfl, rfl⟩
        rw [← HR.out, HZ.out]
        go_wp2
        go_ret
        exact ⟨rfl, .same (Chg.refl _ _) HD.out⟩
    | true =>
      have hrr : 0 ≤ i ∧ i < D.n := by unfold hasB at hh; simpa using hh
      obtain ⟨k, rfl⟩ := Int.eq_ofNat_of_zero_le hrr.1
      have hk : k < D.n := by omega
      have hki : (k : Int) < (D.n : Int) := hrr.2
      have c0 := h.c0
      by_cases hsz : s.size = D.size
      · have hne : ((s.size : Int) != (D.size : Int)) = false := by simp; omega
        have HSZ := Lib.hid hsz
        have HOFF := Lib.hid (refuse_off (hr.symm.trans h0))
        cases hst : stk D.fuse with
        | true =>
          have e1 : D.writeE k s = 6 := by unfold Dv.writeE; rw [← hr, h0, hh, hst]; simp [hsz]
          have e3 : D.writeD k s = D.blow := by unfold Dv.writeD; rw [if_neg (by rw [← hr, hh]; simp [h0, hsz]), if_pos (.inl hst)]
          rw [e1, e3]
          have HS := Lib.hid hst
          clear e1 e3 hh h0 hr h hst hrr hsz
          go_enter Try.func9, Try.ntmps9
          go_wp2_with fail
          refine (ready_any _ HD.out).mono ?_
          rintro e w' ⟨rfl, rfl⟩
          rw [← HR.out, HZ.out]
          go_wp2_with fail
          refine (burn_any _ HD.out HOFF.out).mono ?_
          rintro e w1 ⟨rfl, hc1, hd1⟩
          rw [HS.out]
          have HC1 := Lib.hid hc1
          have HD1 := Lib.hid hd1
          clear hc1 hd1 c1 c0
          go_wp2
          go_ret
          exact ⟨rfl, .same HC1.out HD1.out⟩
        | false =>
          have hbe : badB D k = (D.secs[k]'hk).2 := by unfold badB; rw [Int.toNat_natCast, List.getElem?_eq_getElem hk]; rfl
          have HS := Lib.hid hst
          cases hbb : (D.secs[k]'hk).2 with
          | true =>
            have e1 : D.writeE k s = 7 := by unfold Dv.writeE; rw [← hr, h0, hh, hst, hbe, hbb]; simp [hsz]
            have e3 : D.writeD k s = D.blow := by unfold Dv.writeD; rw [if_neg (by rw [← hr, hh]; simp [h0, hsz]), if_pos (.inr (by rw [hbe, hbb]))]
            rw [e1, e3]
            have HB := Lib.hid hbb
            clear e1 e3 hh h0 hr h hst hrr hsz hbe hbb
            go_enter Try.func9, Try.ntmps9
            go_wp2_with fail
            refine (ready_any _ HD.out).mono ?_
            rintro e w' ⟨rfl, rfl⟩
            rw [← HR.out, HZ.out]
            go_wp2_with fail
            refine (burn_any _ HD.out HOFF.out).mono ?_
            rintro e w1 ⟨rfl, hc1, hd1⟩
            rw [HS.out]
            have HC1 := Lib.hid hc1
            have HD1 := Lib.hid hd1
            have h2 : w1.cell? ⟨p, 2, none⟩ = some (.slice (some ⟨B.bb, 0, none⟩) D.n B.bc) := hd1.c2
            have hb : w1.cell? ⟨B.bb, k, none⟩ = some (.bool true) := by rw [← HB.out]; exact hd1.bad k hk
            clear hc1 hd1 c1 c0
            go_wp2
            go_ret
            exact ⟨rfl, .same HC1.out HD1.out⟩
          | false =>
            have e1 : D.writeE k s = 0 := by unfold Dv.writeE; rw [← hr, h0, hh, hst, hbe, hbb]; simp [hsz]
            have e3 : D.writeD k s = if goes D.blow.counted k then D.blow.counted.struck.push (dest D.blow.counted k) s else D.blow.counted.struck := by
              unfold Dv.writeD; rw [if_neg (by rw [← hr, hh]; simp [h0, hsz]), if_neg (by rw [hst, hbe, hbb]; simp)]
            rw [e1]
            have HB := Lib.hid hbb
            have HW := Lib.hid e3
            have HH := Lib.hid (show hasB D.blow.counted k = true from hh)
            have HBE := Lib.hid (show badB D.blow.counted k = false from hbe.trans hbb)
            clear e1 e3 hh h0 hr h hst hrr hsz hbe hbb
            go_enter Try.func9, Try.ntmps9
            go_wp2_with fail
            refine (ready_any _ HD.out).mono ?_
            rintro e w' ⟨rfl, rfl⟩
            rw [← HR.out, HZ.out]
            go_wp2_with fail
            refine (burn_any _ HD.out HOFF.out).mono ?_
            rintro e w1 ⟨rfl, hc1, hd1⟩
            rw [HS.out]
            have h2 : w1.cell? ⟨p, 2, none⟩ = some (.slice (some ⟨B.bb, 0, none⟩) D.n B.bc) := hd1.c2
            have hb : w1.cell? ⟨B.bb, k, none⟩ = some (.bool false) := by rw [← HB.out]; exact hd1.bad k hk
            have h11 : w1.cell? ⟨p, 11, none⟩ = some (.int .i64 D.nw) := hd1.c11
            have hf11 := hd1.fz 11
            obtain ⟨W2, hW2⟩ : ∃ W2, W2 = w1.setCell ⟨p, 11, none⟩ (.int .i64 (wrap64 (D.nw + 1))) := ⟨_, rfl⟩
            have hd2 : RefAt W2 p B cv D.blow.counted := by rw [hW2]; exact hd1.set 11 (.int .i64 (bump D.nw)) D.blow.counted rfl rfl rfl ⟨hd1.ok.n8, hd1.ok.n4096, hd1.ok.s128, hd1.ok.s1024, hd1.ok.media, hd1.ok.text, hd1.ok.sector, hd1.ok.fuse, hd1.ok.lose, hd1.ok.stray⟩
            have c5 : w1.cell? ⟨p, 5, none⟩ = some (.int .i64 (D.lose : Int)) := hd1.c5
            have HD2 := Lib.hid hd2
            have HC2 := Lib.hid (show Chg (rfoot p B cv) w W2 by rw [hW2]; exact hc1.setCell (p := ⟨p, 11, none⟩) (fun _ => .inl rfl) _)
            have HW2 := Lib.hid hW2
            clear hc1 hd1 hd2 c1 c0 hW2
            have hlz : D.lose ≤ 9223372036854775807 := HD2.out.ok.lose
            have hsy : D.stray ≤ 9223372036854775807 := HD2.out.ok.stray
            go_upto_if 54 with fail
            rw [← HW2.out]
            clear c5 h11 hf11 hb h2
            go_cut [9] (fun x wx => x = .bool (stk D.lose) ∧ Chg (rfoot p B cv) w wx ∧ RefAt wx p B cv { D.blow.counted with lose := D.lose - 1 })
            case first =>
              by_cases hlo : D.lose = 0
              · have HL := Lib.hid hlo
                have HE := Lib.hid (show ({ D.blow.counted with lose := D.lose - 1 } : Dv) = D.blow.counted by
                  have e : D.lose - 1 = D.lose := by omega
                  rw [e]; rfl)
                rw [hlo]
                clear hlo
                have h00 : ((0 : Nat) : Int) = 0 := rfl
                rw [h00]
                go_wp2_with fail
                go_meet
                exact ⟨by rw [HL.out]; rfl, HC2.out, by rw [HE.out]; exact HD2.out⟩
              · obtain ⟨m, hm⟩ : ∃ m, D.lose = m + 1 := ⟨D.lose - 1, by omega⟩
                have hd2 := HD2.out
                have h5 : W2.cell? ⟨p, 5, none⟩ = some (.int .i64 ((m : Int) + 1)) := by rw [hd2.c5]; show some (Value.int .i64 (D.lose : Int)) = _; rw [hm]; rfl
                have f5 := hd2.fz 5
                have hpos : (0 : Int) < (m : Int) + 1 := by omega
                have hcast : ((D.lose : Nat) : Int) = (m : Int) + 1 := by omega
                have hwm : wrap64 (m : Int) = (m : Int) := IntWalk.wrap64_in _ (by omega)
                have hm0 : ((m : Int) == 0) = stk D.lose := by unfold stk; rw [hm, Bool.eq_iff_iff]; simp
                have hd3 : RefAt (W2.setCell ⟨p, 5, none⟩ (.int .i64 (m : Int))) p B cv { D.blow.counted with lose := D.lose - 1 } := hd2.set 5 (.int .i64 (m : Int)) _ (by unfold Dv.rcells; simp [hm]; rfl) rfl rfl ⟨hd2.ok.n8, hd2.ok.n4096, hd2.ok.s128, hd2.ok.s1024, hd2.ok.media, hd2.ok.text, hd2.ok.sector, hd2.ok.fuse, (by show D.lose - 1 ≤ _; omega), hd2.ok.stray⟩
                have HD3 := Lib.hid hd3
                have HC3 := Lib.hid (HC2.out.setCell (p := ⟨p, 5, none⟩) (fun _ => .inl rfl) (.int .i64 (m : Int)))
                have HM := Lib.hid hm0
                have hpb : decide (0 < D.lose) = true := decide_eq_true (by omega)
                rw [hpb, hcast]
                clear hd2 hd3 hlo hm0 hm hcast hlz hpb
                go_wp2_with fail
                rw [HM.out]
                go_meet
                exact ⟨rfl, HC3.out, HD3.out⟩
            case rest =>
              obtain ⟨rfl, hc3, hd3⟩ := hcut
              have c6 : wc.cell? ⟨p, 6, none⟩ = some (.int .i64 (D.stray : Int)) := hd3.c6
              have HC3 := Lib.hid hc3
              have HD3 := Lib.hid hd3
              clear hc3 hd3
              go_upto_if 71 with fail
              clear c6
              go_cut [1, 9] (fun x y wx => x = .int .i64 (dest D.blow.counted k) ∧ y = .bool (!goes D.blow.counted k) ∧ Chg (rfoot p B cv) w wx ∧ RefAt wx p B cv D.blow.counted.struck)
              case first =>
                have hgs : stk D.stray = false → dest D.blow.counted k = (k : Int) ∧ (!goes D.blow.counted k) = stk D.lose := by
                  intro hs
                  have e : dest D.blow.counted k = (k : Int) := by unfold dest; rw [show D.blow.counted.stray = D.stray from rfl, hs]; rfl
                  refine ⟨e, ?_⟩
                  unfold goes; rw [e, HH.out, HBE.out, show D.blow.counted.lose = D.lose from rfl]; simp
                have HGS := Lib.hid hgs
                clear hgs
                have hd3 := HD3.out
                by_cases hs0 : D.stray = 0
                · have HS0 := Lib.hid hs0
                  have HE := Lib.hid (show D.blow.counted.struck = ({ D.blow.counted with lose := D.lose - 1 } : Dv) by
                    have e : D.stray - 1 = D.stray := by omega
                    show ({ D.blow.counted with lose := D.lose - 1, stray := D.stray - 1 } : Dv) = _
                    rw [e]; rfl)
                  have h00 : ((0 : Nat) : Int) = 0 := rfl
                  rw [hs0]
                  clear hs0 hd3
                  try rw [h00]
                  go_wp2_with fail
                  go_meet
                  obtain ⟨g1, g2⟩ := HGS.out (by rw [HS0.out]; rfl)
                  exact ⟨by rw [g1], by rw [g2], HC3.out, by rw [HE.out]; exact HD3.out⟩
                · obtain ⟨m, hm⟩ : ∃ m, D.stray = m + 1 := ⟨D.stray - 1, by omega⟩
                  have h6 : wc.cell? ⟨p, 6, none⟩ = some (.int .i64 ((m : Int) + 1)) := by rw [hd3.c6]; show some (Value.int .i64 (D.stray : Int)) = _; rw [hm]; rfl
                  have f6 := hd3.fz 6
                  have hcast : ((D.stray : Nat) : Int) = (m : Int) + 1 := by omega
                  have hwm : wrap64 (m : Int) = (m : Int) := IntWalk.wrap64_in _ (by omega)
                  have hpb : decide (0 < D.stray) = true := decide_eq_true (by omega)
                  have hd4 : RefAt (wc.setCell ⟨p, 6, none⟩ (.int .i64 (m : Int))) p B cv D.blow.counted.struck := hd3.set 6 (.int .i64 (m : Int)) _ (by unfold Dv.rcells Dv.struck; simp [Dv.counted, Dv.blow, hm]; rfl) rfl rfl ⟨hd3.ok.n8, hd3.ok.n4096, hd3.ok.s128, hd3.ok.s1024, hd3.ok.media, hd3.ok.text, hd3.ok.sector, hd3.ok.fuse, hd3.ok.lose, (by show D.stray - 1 ≤ _; omega)⟩
                  have HD4 := Lib.hid hd4
                  have HC4 := Lib.hid (HC3.out.setCell (p := ⟨p, 6, none⟩) (fun _ => .inl rfl) (.int .i64 (m : Int)))
                  by_cases hm1 : m = 0
                  · subst hm1
                    have h7 : wc.cell? ⟨p, 7, none⟩ = some (.int .i64 D.tgt) := hd3.c7
                    have h1 : wc.cell? ⟨p, 1, none⟩ = some (.slice (some ⟨B.mb, 0, none⟩) D.n B.mc) := hd3.c1
                    have h2 : wc.cell? ⟨p, 2, none⟩ = some (.slice (some ⟨B.bb, 0, none⟩) D.n B.bc) := hd3.c2
                    have HST := Lib.hid (show stk D.stray = true by rw [hm]; rfl)
                    have HDT := Lib.hid (show dest D.blow.counted k = D.tgt by unfold dest; rw [show D.blow.counted.stray = D.stray from rfl, HST.out]; rfl)
                    have HGO := Lib.hid (show goes D.blow.counted k = (!stk D.lose && (hasB D D.tgt && !badB D D.tgt)) by unfold goes; rw [HDT.out]; rfl)
                    have hbq := fun q hq => hd3.bad q hq
                    rw [hpb]
                    obtain ⟨tg, htg⟩ : ∃ tg, tg = D.tgt := ⟨_, rfl⟩
                    rw [← htg] at h7 HDT HGO
                    have hpb2 : ¬ p = B.bb := hd3.pb
                    by_cases ht0 : tg < 0
                    · have HHB := Lib.hid (show hasB D tg = false by unfold hasB; simp; omega)
                      clear hd3 hd4 hbq hm hcast hlz hsy hpb hs0 htg
                      go_wp2_with fail
                      go_meet
                      exact ⟨by rw [HDT.out], by rw [HGO.out, HHB.out]; simp, HC4.out, HD4.out⟩
                    · by_cases ht1 : (D.n : Int) ≤ tg
                      · have HHB := Lib.hid (show hasB D tg = false by unfold hasB; simp; omega)
                        clear hd3 hd4 hbq hm hcast hlz hsy hpb hs0 htg
                        go_wp2_with fail
                        go_meet
                        exact ⟨by rw [HDT.out], by rw [HGO.out, HHB.out]; simp, HC4.out, HD4.out⟩
                      · obtain ⟨q, rfl⟩ := Int.eq_ofNat_of_zero_le (show 0 ≤ tg by omega)
                        have hq : q < D.n := by omega
                        have hqi : (q : Int) < (D.n : Int) := by omega
                        have hqb : wc.cell? ⟨B.bb, q, none⟩ = some (.bool (D.secs[q]'hq).2) := hbq q hq
                        have HHB := Lib.hid (show hasB D (q : Int) = true by unfold hasB; simp; omega)
                        have HBB := Lib.hid (show badB D (q : Int) = (D.secs[q]'hq).2 by unfold badB; rw [Int.toNat_natCast, List.getElem?_eq_getElem hq]; rfl)
                        generalize (D.secs[q]'hq).2 = bq at hqb HBB
                        clear hd3 hd4 hbq hm hcast hlz hsy hpb hs0 htg
                        cases bq
                        · go_wp2_with fail
                          go_meet
                          exact ⟨by rw [HDT.out], by rw [HGO.out, HHB.out, HBB.out]; simp, HC4.out, HD4.out⟩
                        · go_wp2_with fail
                          go_meet
                          exact ⟨by rw [HDT.out], by rw [HGO.out, HHB.out, HBB.out]; simp, HC4.out, HD4.out⟩
                  · have q1 : ((m : Int) == 0) = false := by simpa using hm1
                    have HSF := Lib.hid (show stk D.stray = false by unfold stk; simp; omega)
                    rw [hpb]
                    clear hd3 hd4 hm hcast hlz hsy hpb hs0
                    go_wp2_with fail
                    go_meet
                    obtain ⟨g1, g2⟩ := HGS.out HSF.out
                    exact ⟨by rw [g1], by rw [g2], HC4.out, HD4.out⟩
              case rest =>
                obtain ⟨rfl, rfl, hc4, hd4⟩ := hcut
                cases hg : goes D.blow.counted k with
                | false =>
                  have HC2 := Lib.hid hc4
                  have HD2 := Lib.hid hd4
                  have HG := Lib.hid hg
                  clear hc4 hd4 hg HC3 HD3
                  go_wp2
                  go_ret
                  exact ⟨rfl, .same HC2.out (by rw [HW.out, HG.out]; exact HD2.out)⟩
                | true =>
                  have hgo : 0 ≤ dest D.blow.counted k ∧ dest D.blow.counted k < D.n := by
                    unfold goes hasB at hg
                    simp only [Bool.and_eq_true, decide_eq_true_eq] at hg
                    exact hg.2.1
                  obtain ⟨q, hq⟩ := Int.eq_ofNat_of_zero_le hgo.1
                  have hqn : q < D.n := by omega
                  rw [hq]
                  have HG := Lib.hid (show D.writeD k s = D.blow.counted.struck.push (q : Nat) s by rw [HW.out, hg, hq]; rfl)
                  have HC2 := Lib.hid hc4
                  have HD2 := Lib.hid hd4
                  have h3 : wc.cell? ⟨p, 3, none⟩ = some cv := hd4.c3
                  have hrow := hd4.cache.alloc (.cells #[.int .i64 (q : Nat), .string s] 79)
                  have hp2 := hd4.main.lt
                  have HLEN := Lib.hid (show D.blow.counted.struck.cache.length = D.cache.length from rfl)
                  have HCP := Lib.hid hd4.cp
                  have HSZ2 := Lib.hid (show s.size = D.blow.counted.struck.size from HSZ.out)
                  have HQ := Lib.hid (show q < D.blow.counted.struck.n from hqn)
                  have hfz3 := hd4.fz 3
                  clear hc4 hd4 hg hgo hq HC3 HD3
                  obtain ⟨i0, hi, hz0, hz1, hz2⟩ := info_parts info_rwrite
                  go_wp2_with (at_builtin; refine wpList_append_own_at _ rfl _ _ 50 rfl 0 79 i0 (.agg #[.int .i64 0, .string ⟨#[]⟩]) 2 24 Try.underlying50 hi hz0 hz1 hz2 rfl (by decide) _ _ _ rfl hrow ⟨wc.heap.size, 0, none⟩ 1 1 [.int .i64 (q : Nat), .string s] rfl rfl ?c1 ?c2 ?c3 ?c4 ?c5 ?_)
                  case c1 =>
                    intro j u hj
                    match j, hj with
                    | 0, hj => simp at hj; subst hj; simp [Addr.add]
                    | 1, hj => simp at hj; subst hj; simp [Addr.add]
                  case c2 => intro u hu; simp at hu; rcases hu with rfl | rfl <;> rfl
                  case c3 => rw [HLEN.out]; unfold maxLen; omega
                  case c4 => rw [HLEN.out]; omega
                  case c5 => simp
                  intro v' w3 hown' hgrow _ hat
                  obtain ⟨g', cap', rfl⟩ := ownsRow_succ hown'
                  have HN := Lib.hid (HD2.out.append _ q s HQ.out HSZ2.out hown' hgrow (by rw [World.size_alloc]; exact hat))
                  have hf3 : w3.frozen? ⟨p, 3, none⟩ = false := (World.frozen?_of_block (hgrow.block p (by simp; omega) (fun e => HCP.out e.symm))).trans ((World.frozen?_of_block (Below.heap_alloc _ _ _ hp2)).trans hfz3)
                  have hc3 : w3.cell? ⟨p, 3, none⟩ = some cv := (World.cell?_of_block (hgrow.block p (by simp; omega) (fun e => HCP.out e.symm))).trans ((World.cell?_alloc_lt wc _ _ hp2).trans h3)
                  clear hown' hgrow hat h3 hrow hfz3
                  go_wp2
                  go_ret
                  exact ⟨rfl, by rw [HG.out]; exact RNow.trans HC2.out HN.out⟩
      · have hne : ((s.size : Int) != (D.size : Int)) = true := by simp; omega
        have e1 : D.writeE k s = 2 := by unfold Dv.writeE; rw [← hr, h0, hh]; simp [hsz]
        have e3 : D.writeD k s = D := by unfold Dv.writeD; rw [if_pos (.inr (.inr hsz))]
        rw [e1, e3]
        clear e1 e3 hh h0 hr h hrr hsz
        go_enter Try.func9, Try.ntmps9
        go_wp2_with fail
        refine (ready_any _ HD.out).mono ?_
        rintro e w' ⟨rfl, rfl⟩
        rw [← HR.out, HZ.out]
        go_wp2
        go_ret
        exact ⟨rfl, .same (Chg.refl _ _) HD.out⟩
  · have e1 : D.writeE i s = r := by unfold Dv.writeE; rw [← hr, if_pos h0]
    have e3 : D.writeD i s = D := by unfold Dv.writeD; rw [if_pos (.inl (by rw [← hr]; exact h0))]
    rw [e1, e3]
    have hb : (r != 0) = true := by simpa using h0
    clear e1 e3 h0 hr h c1
    go_enter Try.func9, Try.ntmps9
    go_wp2_with fail
    refine (ready_any _ HD.out).mono ?_
    rintro e w' ⟨rfl, rfl⟩
    rw [← HR.out]
    go_wp2
    go_ret
    exact ⟨rfl, .same (Chg.refl _ _) HD.out⟩
end Go.Proofs.Ytlnocdmechidfaa.Dev
