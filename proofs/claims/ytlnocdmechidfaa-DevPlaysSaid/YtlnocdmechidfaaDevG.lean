/- Contracts of layer 3 (dev): Crash. -/
import Derived.Test.YtlnocdmechidfaaDevF
namespace Go.Proofs.Ytlnocdmechidfaa.Dev
open Go.RowKit Go.Proofs.Ytlnocdmechidfaa
set_option linter.unusedVariables false

theorem crash_nil (v : Value) (w : World) :
    Calls Try.prog 21 #[.pointer none, v] w fun e w' => e = .returned (.tuple #[]) ∧ w = w' := by
  go_enter Try.func21, Try.ntmps21
  go_wp2
  refine bodyPost_ret (results_none rfl _ _ _) rfl ?_
  exact ⟨rfl, rfl⟩

theorem run_min2 (P : Program) (w : World) (t : TypeId) (ts : Array TypeId) (a b : Nat) : (Builtin.min_ ts t #[.int .i64 (a : Nat), .int .i64 (b : Nat)]).run P w = .ok (.int .i64 ((min a b : Nat) : Int)) w := by
  have e : ∀ a b : Nat, (if (b : Int) < a then (b : Int) else a) = ((min a b : Nat) : Int) := by intro a b; split <;> omega
  simp only [Builtin.min_, Builtin.min2, List.foldlM, Sem.run_bind, Sem.run_pure, Result.andThen]
  rw [e]

set_option maxRecDepth 100000 in
set_option maxHeartbeats 4000000 in
theorem crash_any {p sb : Nat} {cv : Value} {D : Dv} (fa : Option Addr) (fl fc : Nat) (fs : List Int) (w : World) (h : DevAt w p sb cv D) (hl : D.cache.length ≤ 1000000000) (hfl : fl ≤ 1000000000)
    (hrow : Row .i64 w fa fl fs) (hap : ∀ a, fa = some a → ¬ foot p sb cv a.block) (hfb : ∀ f ∈ fs, f ≤ 9223372036854775807) :
    Calls Try.prog 21 #[.pointer (some ⟨p, 0, none⟩), .slice fa fl fc] w fun e w' => e = .returned (.tuple #[]) ∧ Now p sb cv w (D.crashD fs) w' := by
  obtain ⟨sa, cap, hcv, hsa⟩ := h.cv_slice
  subst hcv
  obtain ⟨n, hn⟩ : ∃ n, n = D.cache.length := ⟨_, rfl⟩
  rw [← hn] at h hl hsa hap ⊢
  have HN := Lib.hid hn
  have HFL := Lib.hid hrow.len_eq
  have HAP := Lib.hid hap
  have HFB := Lib.hid hfb
  have HROW := Lib.hid hrow
  have h3 := h.c3
  have HD := Lib.hid h
  obtain ⟨m, hm⟩ : ∃ m, m = min fl n := ⟨_, rfl⟩
  have HM := Lib.hid hm
  have hml : m ≤ fl := by omega
  have hmn : m ≤ n := by omega
  have hmin : ∀ t ts, (Builtin.min_ ts t #[.int .i64 (fl : Nat), .int .i64 (n : Nat)]).run Try.prog w = .ok (.int .i64 (m : Int)) w := by
    intro t ts; rw [hm]; exact run_min2 _ _ _ _ _ _
  clear hn hap hrow hfb h hm
  go_enter Try.func21, Try.ntmps21
  go_wp2_with fail
  clear hmin
  go_loopw [4, 15] (fun j i wr => ∃ k : Nat, k ≤ m ∧ i = .int .i64 k ∧ Chg (foot p sb (.slice sa n cap)) w wr ∧ DevAt wr p sb (.slice sa n cap) (D.puts ((fated D fs).take k))) (fun _ i _ => m - (intOf i).toNat)
  case atStart => exact ⟨0, Nat.zero_le _, rfl, Chg.refl _ _, HD.out⟩
  case round =>
    obtain ⟨k, hk, rfl, hc, hd⟩ := hrel
    clear HD h3
    by_cases hlt : k < m
    · obtain ⟨g, rfl⟩ := hsa (by omega)
      obtain ⟨⟨si, st⟩, hx⟩ : ∃ x, D.cache[k]? = some x := ⟨_, List.getElem?_eq_getElem (by rw [← HN.out]; omega)⟩
      obtain ⟨f, hf⟩ : ∃ f, fs[k]? = some f := ⟨_, List.getElem?_eq_getElem (by rw [HFL.out]; omega)⟩
      obtain ⟨fb, fo, rfl, hcells⟩ := HROW.out.at_ (by omega)
      have hfcw := hcells k (by omega)
      have hfb := HFB.out f (List.mem_of_getElem? hf)
      have hfc : wr.cell? ⟨fb, fo + k, none⟩ = some (.int .i64 f) := by
        rw [World.cell?_of_block (hc.block fb (World.block_lt_of_cell? w _ hfcw) (HAP.out _ rfl)), hfcw, List.getD_eq_getElem?_getD, hf]; rfl
      have hcache : (D.puts ((fated D fs).take k)).cache = D.cache := Dv.puts_cache _ _
      have hkn : (k : Int) < (n : Int) := by omega
      have hkf : (k : Int) < (fl : Int) := by omega
      obtain ⟨hx0, hx1⟩ := hd.cw0x (by rw [hcache]; exact HN.out) k (by rw [hcache]; exact hx)
      simp only at hx0 hx1
      have hsize : (D.puts ((fated D fs).take k)).size = D.size := Dv.puts_size _ _
      have h1 := hd.c1
      have h3 := hd.c3
      rw [hsize] at h1
      have hok := hd.ok.text (si, st) (by rw [hcache]; exact List.mem_of_getElem? hx)
      have hse := hd.ok.sector (si, st) (by rw [hcache]; exact List.mem_of_getElem? hx)
      have hs1 := hd.ok.s128
      have hs2 := hd.ok.s1024
      rw [hsize] at hs1 hs2
      have HPUT := Lib.hid (show D.puts ((fated D fs).take (k + 1)) = (D.puts ((fated D fs).take k)).put si st (keptN f D.size) by rw [fated_take D fs k _ _ hx hf, Dv.puts_snoc])
      have HC := Lib.hid hc
      have HDD := Lib.hid hd
      have HOK := Lib.hid hok
      have HSE := Lib.hid hse
      have HSIZE := Lib.hid hsize
      clear hc hd hok hse hsize hcache hx hf hfcw hcells
      have HKN := Lib.hid (keptN_le f D.size)
      go_wp2
      refine Reg.still_tail 18 (by kernel_rfl) (by kernel_rfl) ?_
      simp only [List.take_succ_cons, List.take_zero, List.drop_succ_cons, List.drop_zero]
      repeat still_step
      try refine wpStill_nil ?_
      refine wpStill_step (fun K hK => ?_)
      go_simp
      refine ⟨_, (kept_any f D.size _ (by omega) hs2 hfb).mono fun e w' ⟨he, hw⟩ => ⟨he, hw.symm⟩, hK _ ?_⟩
      clear hK K
      refine wpStill_nil ?_
      go_wp2_with fail
      refine (lasts_any si (keptN f D.size) st _ HDD.out.drew HSE.out HOK.out (by rw [HSIZE.out]; exact HKN.out)).mono ?_
      rintro e w5 ⟨rfl, hc5, hd5⟩
      have HC6 := Lib.hid (HC.out.trans (((Chg.refl (foot p sb (.slice (some ⟨g, 0, none⟩) n cap)) wr).drew).trans hc5 (fun _ _ h => h)) (fun _ _ h => h))
      have HD6 := Lib.hid hd5
      clear hc5 hd5 hx0 hx1 h1 h3 hfc
      go_wp2_with fail
      go_roundw
      case rel => exact ⟨k + 1, by omega, by go_num, HC6.out, by rw [HPUT.out]; exact HD6.out⟩
      case measure => simp [intOf]; omega
    · obtain rfl : k = m := by omega
      have hwh : (fated D fs).take k = fated D fs := List.take_of_length_le (by unfold fated; rw [List.length_zipWith, ← HN.out, HFL.out, HM.out]; omega)
      rw [hwh] at hd
      have h3 := hd.c3
      have hf3 := hd.fz 3
      have he := hd.empty
      have h5 := he.c5
      have hf5 := he.fz 5
      have he2 := he.set 5 (.bool false) { (D.puts (fated D fs)).emptied with off := false } rfl rfl rfl ⟨he.ok.n8, he.ok.n4096, he.ok.s128, he.ok.s1024, he.ok.media, he.ok.text, he.ok.sector, he.ok.fuse, he.ok.lose, he.ok.stray⟩
      have h6 := he2.c6
      have hf6 := he2.fz 6
      have he3 := he2.set 6 (.int .i64 ((0 : Nat) : Int)) ((D.puts (fated D fs)).emptied.calm) rfl rfl rfl ⟨he.ok.n8, he.ok.n4096, he.ok.s128, he.ok.s1024, he.ok.media, he.ok.text, he.ok.sector, by simp [Dv.calm], he.ok.lose, he.ok.stray⟩
      have HE := Lib.hid he3
      have HC := Lib.hid (((hc.setCell (p := ⟨p, 3, none⟩) (fun _ => .inl rfl) (.slice none 0 0)).setCell (p := ⟨p, 5, none⟩) (fun _ => .inl rfl) (.bool false)).setCell (p := ⟨p, 6, none⟩) (fun _ => .inl rfl) (.int .i64 ((0 : Nat) : Int)))
      clear hc hd hwh he he2 he3
      go_wp2_with fail
      refine (set_any p 6 0 0 _ _ rfl h6 hf6).mono ?_
      rintro e w' ⟨rfl, rfl⟩
      go_wp2
      go_end0
      exact ⟨rfl, Now.empty HC.out HE.out⟩
end Go.Proofs.Ytlnocdmechidfaa.Dev
