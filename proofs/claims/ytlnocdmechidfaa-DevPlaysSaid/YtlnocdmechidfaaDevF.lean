/- Contracts of layer 3 (dev): Flush, Crash. -/
import Derived.Deep.DeepCutAuto
import Derived.Deep.RegionWith
import Derived.Test.YtlnocdmechidfaaDevD
import Derived.Test.YtlnocdmechidfaaDevMathB
import Derived.Test.YtlnocdmechidfaaBase
namespace Go.Proofs.Ytlnocdmechidfaa.Dev
open Go.RowKit Go.Proofs.Ytlnocdmechidfaa
set_option linter.unusedVariables false

theorem flush_nil (w : World) :
    Calls Try.prog 10 #[.pointer none] w fun e w' => e = .returned (.int .i64 1) ∧ w = w' := by
  go_enter Try.func10, Try.ntmps10
  go_wp2_with fail
  refine (refusal_nil _).mono ?_
  rintro e w' ⟨rfl, rfl⟩
  go_wp2
  go_ret
  exact ⟨rfl, rfl⟩

set_option maxRecDepth 100000 in
set_option maxHeartbeats 4000000 in
theorem flush_any {p sb : Nat} {cv : Value} {D : Dv} (w : World) (h : DevAt w p sb cv D) (hl : D.cache.length ≤ 1000000000) :
    Calls Try.prog 10 #[.pointer (some ⟨p, 0, none⟩)] w fun e w' => e = .returned (.int .i64 D.flushE) ∧ Now p sb cv w D.flushD w' := by
  obtain ⟨r, hr⟩ : ∃ r, r = refuse D := ⟨_, rfl⟩
  have HR := Lib.hid hr
  by_cases h0 : r = 0
  · have HZ := Lib.hid h0
    have HD := Lib.hid h
    cases hst : stk D.fuse with
    | true =>
      have e1 : D.flushE = 6 := by unfold Dv.flushE; rw [← hr, h0, hst]; rfl
      have e3 : D.flushD = D.blow := by unfold Dv.flushD; rw [if_neg (by rw [← hr]; simp [h0]), if_pos hst]
      rw [e1, e3]
      have HS := Lib.hid hst
      clear e1 e3 h0 hr h hst
      go_enter Try.func10, Try.ntmps10
      go_wp2_with fail
      refine (refusal_any _ HD.out).mono ?_
      rintro e w' ⟨rfl, rfl⟩
      rw [← HR.out, HZ.out]
      go_wp2_with fail
      refine (blows_any _ HD.out).mono ?_
      rintro e w1 ⟨rfl, hc1, hd1⟩
      rw [HS.out]
      have HC1 := Lib.hid hc1
      have HD1 := Lib.hid hd1
      clear hc1 hd1
      go_wp2
      go_ret
      exact ⟨rfl, .same HC1.out HD1.out⟩
    | false =>
      have e1 : D.flushE = 0 := by unfold Dv.flushE; rw [← hr, h0, hst]; rfl
      have e3 : D.flushD = ((D.blow.flushed).puts (whole D)).emptied := by unfold Dv.flushD; rw [if_neg (by rw [← hr]; simp [h0]), if_neg (by rw [hst]; simp)]
      rw [e1, e3]
      have HS := Lib.hid hst
      obtain ⟨sa, cap, hcv, hsa⟩ := h.cv_slice
      subst hcv
      obtain ⟨n, hn⟩ : ∃ n, n = D.cache.length := ⟨_, rfl⟩
      rw [← hn] at HD h hl hsa ⊢
      have HN := Lib.hid hn
      clear e1 e3 h0 hr h hst hn
      go_enter Try.func10, Try.ntmps10
      go_wp2_with fail
      refine (refusal_any _ HD.out).mono ?_
      rintro e w' ⟨rfl, rfl⟩
      rw [← HR.out, HZ.out]
      go_wp2_with fail
      refine (blows_any _ HD.out).mono ?_
      rintro e w1 ⟨rfl, hc1, hd1⟩
      rw [HS.out]
      have h12 : w1.cell? ⟨p, 12, none⟩ = some (.int .i64 D.nf) := hd1.c12
      have hf12 := hd1.fz 12
      have hd2 := hd1.set 12 (.int .i64 (bump D.nf)) D.blow.flushed rfl rfl rfl ⟨hd1.ok.n8, hd1.ok.n4096, hd1.ok.s128, hd1.ok.s1024, hd1.ok.media, hd1.ok.text, hd1.ok.sector, hd1.ok.fuse, hd1.ok.lose, hd1.ok.stray⟩
      have hc2 : Chg (foot p sb (.slice sa n cap)) w (w1.setCell ⟨p, 12, none⟩ (.int .i64 (bump D.nf))) := hc1.setCell (fun _ => .inl rfl) _
      have h3 : w1.cell? ⟨p, 3, none⟩ = some (.slice sa n cap) := hd1.c3
      have HC2 := Lib.hid hc2
      have HD2 := Lib.hid hd2
      clear hc1 hd1 hc2 hd2
      go_wp2
      refine Reg.still_tail 9 (by kernel_rfl) (by kernel_rfl) ?_
      simp only [List.take_succ_cons, List.take_zero, List.drop_succ_cons, List.drop_zero]
      repeat still_step
      try refine wpStill_nil ?_
      go_wp2_with fail
      clear h12 hf12 h3
      go_loopw [27] (fun i wr => ∃ k : Nat, k ≤ n ∧ i = .int .i64 k ∧ Chg (foot p sb (.slice sa n cap)) w wr ∧ DevAt wr p sb (.slice sa n cap) (D.blow.flushed.puts ((whole D).take k))) (fun i _ => n - (intOf i).toNat)
      case atStart => exact ⟨0, Nat.zero_le _, rfl, HC2.out.drewN 1, HD2.out.drewN 1⟩
      case round =>
        obtain ⟨k, hk, rfl, hc, hd⟩ := hrel
        clear HC2 HD2
        by_cases hlt : k < n
        · obtain ⟨g, rfl⟩ := hsa (by omega)
          have hk' : k < D.cache.length := by rw [← HN.out]; exact hlt
          obtain ⟨⟨si, st⟩, hx⟩ : ∃ x, D.cache[k]? = some x := ⟨_, List.getElem?_eq_getElem hk'⟩
          have hcache : (D.blow.flushed.puts ((whole D).take k)).cache = D.cache := Dv.puts_cache _ _
          have hki : (k : Int) < (n : Int) := by omega
          obtain ⟨hx0, hx1⟩ := hd.cw0x (by rw [hcache]; exact HN.out) k (by rw [hcache]; exact hx)
          simp only at hx0 hx1
          have hsize : (D.blow.flushed.puts ((whole D).take k)).size = D.size := Dv.puts_size _ _
          have h1 := hd.c1
          rw [hsize] at h1
          have hok := hd.ok.text (si, st) (by rw [hcache]; exact List.mem_of_getElem? hx)
          have hse := hd.ok.sector (si, st) (by rw [hcache]; exact List.mem_of_getElem? hx)
          have hp1 := hd.main.lt
          have HPUT := Lib.hid (show D.blow.flushed.puts ((whole D).take (k + 1)) = (D.blow.flushed.puts ((whole D).take k)).put si st D.size by rw [whole_takex D k _ hx, Dv.puts_snoc])
          have HC := Lib.hid hc
          have HDD := Lib.hid hd
          have HOK := Lib.hid hok
          have HSE := Lib.hid hse
          have HSIZE := Lib.hid hsize
          clear hc hd hok hse hsize hcache hx
          go_wp2
          refine Reg.still_tail 7 (by kernel_rfl) (by kernel_rfl) ?_
          simp only [List.take_succ_cons, List.take_zero, List.drop_succ_cons, List.drop_zero]
          repeat still_step
          try refine wpStill_nil ?_
          go_wp2_with fail
          refine (lasts_any si D.size st _ ((HDD.out.alloc _).drewN 1) HSE.out HOK.out (by rw [HSIZE.out]; exact Nat.le_refl _)).mono ?_
          rintro e w5 ⟨rfl, hc5, hd5⟩
          have hc6 := HC.out.trans ((((Chg.refl (foot p sb (.slice (some ⟨g, 0, none⟩) n cap)) wr).alloc _).drewN 1).trans hc5 (fun _ _ h => h)) (fun _ _ h => h)
          have HC6 := Lib.hid hc6
          have HD6 := Lib.hid hd5
          clear hc5 hd5 hc6 hx0 hx1 h1
          go_wp2_with fail
          go_roundw
          case rel => exact ⟨k + 1, by omega, by go_num, HC6.out, by rw [HPUT.out]; exact HD6.out⟩
          case measure => simp [intOf]; omega
        · obtain rfl : k = n := by omega
          have hwh : (whole D).take k = whole D := List.take_of_length_le (by unfold whole; rw [List.length_map, ← HN.out]; exact Nat.le_refl _)
          rw [hwh] at hd
          have h3 := hd.c3
          have hf3 := hd.fz 3
          have HE := Lib.hid hd.empty
          have HC := Lib.hid (hc.setCell (p := ⟨p, 3, none⟩) (fun _ => .inl rfl) (.slice none 0 0))
          clear hc hd hwh
          go_wp2
          go_ret
          exact ⟨rfl, Now.empty HC.out HE.out⟩
  · have e1 : D.flushE = r := by unfold Dv.flushE; rw [← hr, if_pos h0]
    have e3 : D.flushD = D := by unfold Dv.flushD; rw [if_pos (by rw [← hr]; exact h0)]
    rw [e1, e3]
    have hb : (r != 0) = true := by simpa using h0
    have HD := Lib.hid h
    clear e1 e3 h0 hr h
    go_enter Try.func10, Try.ntmps10
    go_wp2_with fail
    refine (refusal_any _ HD.out).mono ?_
    rintro e w' ⟨rfl, rfl⟩
    rw [← HR.out]
    go_wp2
    go_ret
    exact ⟨rfl, .same (Chg.refl _ _) HD.out⟩
end Go.Proofs.Ytlnocdmechidfaa.Dev
