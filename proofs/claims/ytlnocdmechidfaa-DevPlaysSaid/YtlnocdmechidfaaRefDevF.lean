/- Contracts of the reference of layer 3: Flush. -/
import Derived.Deep.DeepCutAuto
import Derived.Deep.RegionWith
import Derived.Test.YtlnocdmechidfaaRegionW
import Derived.Test.YtlnocdmechidfaaRefDevR
namespace Go.Proofs.Ytlnocdmechidfaa.Dev
open Go Go.RowKit Go.Proofs.Ytlnocdmechidfaa
set_option linter.unusedVariables false

theorem put_flushed (D : Dv) (i : Nat) (t : ByteArray) (k : Nat) : D.flushed.put i t k = (D.put i t k).flushed := by
  unfold Dv.put Dv.flushed
  simp only
  split <;> rfl
theorem puts_flushed (l : List ((Nat × ByteArray) × Nat)) : ∀ D : Dv, D.flushed.puts l = (D.puts l).flushed := by
  induction l with
  | nil => intro D; rfl
  | cons x l ih => intro D; show (D.flushed.put _ _ _).puts l = _; rw [put_flushed, ih]; rfl
theorem puts_nf (l : List ((Nat × ByteArray) × Nat)) : ∀ D : Dv, (D.puts l).nf = D.nf := by
  induction l with
  | nil => intro D; rfl
  | cons x l ih =>
    intro D
    show ((D.put _ _ _).puts l).nf = _
    rw [ih]
    unfold Dv.put
    split <;> rfl
theorem refuse_off {D : Dv} (h : refuse D = 0) : D.off = false := by
  unfold refuse at h
  cases ho : D.off
  · rfl
  · rw [ho] at h; simp at h
section
variable {w w' : World} {p : Nat} {B : RB} {cv : Value} {D : Dv}
theorem RefAt.empty (h : RefAt w p B cv D) : RefAt (w.setCell ⟨p, 3, none⟩ (.slice none 0 0)) p B (.slice none 0 0) D.emptied :=
  ⟨h.main.set 3 _, h.meds.setOther h.pm _, h.bads.setOther h.pb _, World.ownsRow_nil _ _ _ _, h.pm, h.pb, h.mb, by simp [Value.ownBlock], by simp [Value.ownBlock], by simp [Value.ownBlock],
   ⟨h.ok.n8, h.ok.n4096, h.ok.s128, h.ok.s1024, h.ok.media, fun x hx => (by cases hx), fun x hx => (by cases hx), h.ok.fuse, h.ok.lose, h.ok.stray⟩⟩
theorem rfoot_nil (k : Nat) (h : rfoot p B (.slice none 0 0) k) : rfoot p B cv k := by
  rcases h with rfl | rfl | rfl | h
  · exact .inl rfl
  · exact .inr (.inl rfl)
  · exact .inr (.inr (.inl rfl))
  · cases h
theorem RNow.empty (hc : Chg (rfoot p B cv) w w') (h : RefAt w' p B (.slice none 0 0) D) : RNow p B cv w D w' := ⟨_, hc, h, fun k hk => .inl (rfoot_nil k hk)⟩
/-- a whole text is put into the media -/
theorem RefAt.putWhole (h : RefAt w p B cv D) (i : Nat) (hi : i < D.n) (t : ByteArray) (ht : t.size = D.size) : RefAt (w.setCell ⟨B.mb, i, none⟩ (.string t)) p B cv (D.put i t D.size) := by
  refine h.setMedia i hi t _ ?_ (D.put_ok h.ok i t D.size hi ht (Nat.le_refl _))
  rw [D.put_eq i t _ hi, mixB_whole _ _ _ ht (h.ok.media _ (List.getElem_mem hi))]
end
set_option maxRecDepth 100000 in
set_option maxHeartbeats 4000000 in
theorem refflush_any {p : Nat} {B : RB} {cv : Value} {D : Dv} (w : World) (h : RefAt w p B cv D) (hl : D.cache.length ≤ 1000000000) :
    Calls Try.prog 11 #[.pointer (some ⟨p, 0, none⟩)] w fun e w' => e = .returned (.int .i64 D.flushE) ∧ RNow p B cv w D.flushD w' := by
  obtain ⟨r, hr⟩ : ∃ r, r = refuse D := ⟨_, rfl⟩
  have HR := Lib.hid hr
  by_cases h0 : r = 0
  · have HZ := Lib.hid h0
    have HD := Lib.hid h
    have HOFF := Lib.hid (refuse_off (hr.symm.trans h0))
    cases hst : stk D.fuse with
    | true =>
      have e1 : D.flushE = 6 := by unfold Dv.flushE; rw [← hr, h0, hst]; rfl
      have e3 : D.flushD = D.blow := by unfold Dv.flushD; rw [if_neg (by rw [← hr]; simp [h0]), if_pos hst]
      rw [e1, e3]
      have HS := Lib.hid hst
      clear e1 e3 h0 hr h hst
      go_enter Try.func11, Try.ntmps11
      go_wp2_with fail
      refine (ready_any _ HD.out).mono ?_
      rintro e w' ⟨rfl, rfl⟩
      rw [← HR.out, HZ.out]
      go_wp2_with fail
      refine (burn_any _ HD.out HOFF.out).mono ?_
      rintro e w1 ⟨rfl, hc1, hd1⟩
      rw [HS.out]
      have HC1 := Lib.hid hc1
      have HD1 := Lib.hid hd1
      clear hc1 hd1
      go_wp2
      go_ret
      exact ⟨rfl, .same HC1.out HD1.out⟩
    | false =>
      have e1 : D.flushE = 0 := by unfold Dv.flushE; rw [← hr, h0, hst]; rfl
      have e3 : D.flushD = ((D.blow.puts (whole D)).emptied).flushed := by unfold Dv.flushD; rw [if_neg (by rw [← hr]; simp [h0]), if_neg (by rw [hst]; simp), puts_flushed]; rfl
      rw [e1, e3]
      have HS := Lib.hid hst
      obtain ⟨sa, cap, hcv, hsa⟩ := h.cv_slice
      subst hcv
      obtain ⟨n, hn⟩ : ∃ n, n = D.cache.length := ⟨_, rfl⟩
      rw [← hn] at HD h hl hsa ⊢
      have HN := Lib.hid hn
      clear e1 e3 h0 hr h hst hn
      go_enter Try.func11, Try.ntmps11
      go_wp2_with fail
      refine (ready_any _ HD.out).mono ?_
      rintro e w' ⟨rfl, rfl⟩
      rw [← HR.out, HZ.out]
      go_wp2_with fail
      refine (burn_any _ HD.out HOFF.out).mono ?_
      rintro e w1 ⟨rfl, hc1, hd1⟩
      rw [HS.out]
      have HC1 := Lib.hid hc1
      have HD1 := Lib.hid hd1
      clear hc1 hd1
      go_wp2_with fail
      go_loopw [5] (fun i wr => ∃ k : Nat, k ≤ n ∧ i = .int .i64 k ∧ Chg (rfoot p B (.slice sa n cap)) w wr ∧ RefAt wr p B (.slice sa n cap) (D.blow.puts ((whole D).take k))) (fun i _ => n - (intOf i).toNat)
      case atStart => exact ⟨0, Nat.zero_le _, rfl, HC1.out, HD1.out⟩
      case round =>
        obtain ⟨k, hk, rfl, hc, hd⟩ := hrel
        clear HC1 HD1
        have h3 := hd.c3
        by_cases hlt : k < n
        · obtain ⟨g, rfl⟩ := hsa (by omega)
          have hk' : k < D.cache.length := by rw [← HN.out]; exact hlt
          obtain ⟨⟨si, st⟩, hx⟩ : ∃ x, D.cache[k]? = some x := ⟨_, List.getElem?_eq_getElem hk'⟩
          have hcache : (D.blow.puts ((whole D).take k)).cache = D.cache := Dv.puts_cache _ _
          have hki : (k : Int) < (n : Int) := by omega
          obtain ⟨hx0, hx1⟩ := hd.cw (by rw [hcache]; exact HN.out) k (by rw [hcache]; exact hx)
          simp only at hx0 hx1
          have hsize : (D.blow.puts ((whole D).take k)).size = D.size := Dv.puts_size _ _
          have hnn : (D.blow.puts ((whole D).take k)).n = D.n := Dv.puts_n _ _
          have hok := hd.ok.text (si, st) (by rw [hcache]; exact List.mem_of_getElem? hx)
          have hse := hd.ok.sector (si, st) (by rw [hcache]; exact List.mem_of_getElem? hx)
          simp only at hok hse
          have hsi : (si : Int) < ((D.blow.puts ((whole D).take k)).n : Int) := by omega
          have h1 := hd.c1
          obtain ⟨mo, hme⟩ : ∃ mo, wr.cell? ⟨B.mb, si, none⟩ = some (.string mo) := ⟨_, hd.med si hse⟩
          have hmf := hd.mfz si
          have hn4 := hd.ok.n4096
          obtain ⟨nn, hnn2⟩ : ∃ nn, nn = (D.blow.puts ((whole D).take k)).n := ⟨_, rfl⟩
          rw [← hnn2] at h1 hsi hn4
          have HPUT := Lib.hid (show D.blow.puts ((whole D).take (k + 1)) = (D.blow.puts ((whole D).take k)).put si st (D.blow.puts ((whole D).take k)).size by rw [whole_takex D k _ hx, Dv.puts_snoc, hsize])
          have HNEW := Lib.hid (hd.putWhole si hse st hok)
          have HCN := Lib.hid (hc.setCell (p := ⟨B.mb, si, none⟩) (fun _ => .inr (.inl rfl)) (.string st))
          clear hc hd hok hse hsize hcache hx hnn hnn2 hk'
          go_wp2_with fail
          refine Reg.still_tail 21 (by kernel_rfl) (by kernel_rfl) ?_
          simp only [List.take_succ_cons, List.take_zero, List.drop_succ_cons, List.drop_zero]
          repeat still_step
          try refine wpStill_nil ?_
          go_wp2_with fail
          go_roundw
          case rel => exact ⟨k + 1, by omega, by go_num, HCN.out.drewN 1, by rw [HPUT.out]; exact HNEW.out.drewN 1⟩
          case measure => simp [intOf]; omega
        · obtain rfl : k = n := by omega
          have hwh : (whole D).take k = whole D := List.take_of_length_le (by unfold whole; rw [List.length_map, ← HN.out]; exact Nat.le_refl _)
          rw [hwh] at hd
          have f3 := hd.fz 3
          have h12 : wr.cell? ⟨p, 12, none⟩ = some (.int .i64 D.nf) := by
            have := hd.c12
            rw [this, puts_nf]; rfl
          have f12 := hd.fz 12
          have hE := hd.empty
          have HE := Lib.hid (hE.set 12 (.int .i64 (bump D.nf)) ((D.blow.puts (whole D)).emptied).flushed (by unfold Dv.rcells; rw [show (((D.blow.puts (whole D)).emptied).flushed).nf = bump D.nf from by show bump (D.blow.puts (whole D)).nf = _; rw [puts_nf]; rfl]; rfl) rfl rfl ⟨hE.ok.n8, hE.ok.n4096, hE.ok.s128, hE.ok.s1024, hE.ok.media, hE.ok.text, hE.ok.sector, hE.ok.fuse, hE.ok.lose, hE.ok.stray⟩)
          have HC := Lib.hid ((hc.setCell (p := ⟨p, 3, none⟩) (fun _ => .inl rfl) (.slice none 0 0)).setCell (p := ⟨p, 12, none⟩) (fun _ => .inl rfl) (.int .i64 (bump D.nf)))
          clear hc hd hwh hE
          go_wp2
          go_ret
          exact ⟨rfl, RNow.empty HC.out HE.out⟩
  · have e1 : D.flushE = r := by unfold Dv.flushE; rw [← hr, if_pos h0]
    have e3 : D.flushD = D := by unfold Dv.flushD; rw [if_pos (by rw [← hr]; exact h0)]
    rw [e1, e3]
    have hb : (r != 0) = true := by simpa using h0
    have HD := Lib.hid h
    clear e1 e3 h0 hr h
    go_enter Try.func11, Try.ntmps11
    go_wp2_with fail
    refine (ready_any _ HD.out).mono ?_
    rintro e w' ⟨rfl, rfl⟩
    rw [← HR.out]
    go_wp2
    go_ret
    exact ⟨rfl, .same (Chg.refl _ _) HD.out⟩
end Go.Proofs.Ytlnocdmechidfaa.Dev
