/- Contracts of the reference of layer 3: Crash. -/
import Derived.Deep.DeepCutAuto
import Derived.Deep.RegionWith
import Derived.Test.YtlnocdmechidfaaRegionW
import Derived.Test.YtlnocdmechidfaaRefDevS
namespace Go.Proofs.Ytlnocdmechidfaa.Dev
open Go Go.RowKit Go.Proofs.Ytlnocdmechidfaa
set_option linter.unusedVariables false

theorem kept_cases (f : Int) (sz : Nat) (h : 127 ≤ sz) : (f = 1 ∧ keptN f (sz + 1) = sz + 1) ∨ (∃ c : Nat, f = (c : Int) + 2 ∧ c < sz ∧ keptN f (sz + 1) = c) ∨ (2 ≤ f ∧ (sz : Int) + 1 + 1 ≤ f ∧ keptN f (sz + 1) = sz) ∨ (f < 2 ∧ f ≠ 1 ∧ keptN f (sz + 1) = 0) := by
  unfold keptN
  by_cases h1 : f = 1
  · exact .inl ⟨h1, by rw [if_pos h1]⟩
  · by_cases h2 : 2 ≤ f
    · by_cases h3 : f < (sz : Int) + 2
      · exact .inr (.inl ⟨(f - 2).toNat, by omega, by omega, by rw [if_neg h1, if_pos h2]; omega⟩)
      · exact .inr (.inr (.inl ⟨h2, by omega, by rw [if_neg h1, if_pos h2]; omega⟩))
    · exact .inr (.inr (.inr ⟨by omega, h1, by rw [if_neg h1, if_neg h2]⟩))
set_option maxRecDepth 100000 in
set_option maxHeartbeats 4000000 in
theorem refcrash_any {p : Nat} {B : RB} {cv : Value} {D : Dv} (fa : Option Addr) (fl fc : Nat) (fs : List Int) (w : World) (h : RefAt w p B cv D) (hl : D.cache.length ≤ 1000000000) (hfl : fl ≤ 1000000000)
    (hrow : Row .i64 w fa fl fs) (hap : 0 < fl → ∀ a, fa = some a → ¬ rfoot p B cv a.block) (hfb : ∀ f ∈ fs, f ≤ 9223372036854775807) :
    Calls Try.prog 23 #[.pointer (some ⟨p, 0, none⟩), .slice fa fl fc] w fun e w' => e = .returned (.tuple #[]) ∧ RNow p B cv w (D.crashD fs) w' := by
  obtain ⟨sa, cap, hcv, hsa⟩ := h.cv_slice
  subst hcv
  obtain ⟨n, hn⟩ : ∃ n, n = D.cache.length := ⟨_, rfl⟩
  rw [← hn] at h hl hsa hap ⊢
  have HN := Lib.hid hn
  have HFL := Lib.hid hrow.len_eq
  have HAP := Lib.hid hap
  have HFB := Lib.hid hfb
  have HROW := Lib.hid hrow
  have HD := Lib.hid h
  obtain ⟨sz, hsz⟩ : ∃ sz, D.size = sz + 1 := ⟨D.size - 1, by have := h.ok.s128; omega⟩
  have HSZ := Lib.hid hsz
  have HS1 := Lib.hid (show 127 ≤ sz by have := h.ok.s128; omega)
  have hs2 : sz ≤ 1023 := by have := h.ok.s1024; omega
  clear hn hap hrow hfb h hsz
  go_enter Try.func23, Try.ntmps23
  go_wp2_with fail
  go_loopw [4] (fun i wr => ∃ k : Nat, k ≤ n ∧ k ≤ fl ∧ i = .int .i64 k ∧ Chg (rfoot p B (.slice sa n cap)) w wr ∧ RefAt wr p B (.slice sa n cap) (D.puts ((fated D fs).take k))) (fun i _ => n - (intOf i).toNat)
  case atStart => exact ⟨0, Nat.zero_le _, Nat.zero_le _, rfl, Chg.refl _ _, HD.out⟩
  case round =>
    obtain ⟨k, hk, hkl, rfl, hc, hd⟩ := hrel
    clear HD
    have h3 := hd.c3
    by_cases hlt : k < n
    · have hkn : (k : Int) < (n : Int) := by omega
      by_cases hlf : k < fl
      · have hkf : (k : Int) < (fl : Int) := by omega
        obtain ⟨g, rfl⟩ := hsa (by omega)
        obtain ⟨⟨si, st⟩, hx⟩ : ∃ x, D.cache[k]? = some x := ⟨_, List.getElem?_eq_getElem (by rw [← HN.out]; omega)⟩
        obtain ⟨f, hf⟩ : ∃ f, fs[k]? = some f := ⟨_, List.getElem?_eq_getElem (by rw [HFL.out]; omega)⟩
        obtain ⟨fb, fo, rfl, hcells⟩ := HROW.out.at_ (by omega)
        have hfcw := hcells k (by omega)
        have hfb := HFB.out f (List.mem_of_getElem? hf)
        have hfc : wr.cell? ⟨fb, fo + k, none⟩ = some (.int .i64 f) := by
          rw [World.cell?_of_block (hc.block fb (World.block_lt_of_cell? w _ hfcw) (HAP.out (by omega) _ rfl)), hfcw, List.getD_eq_getElem?_getD, hf]; rfl
        have hfbl : fb < wr.heap.size := Nat.lt_of_lt_of_le (World.block_lt_of_cell? w _ hfcw) hc.size
        have hcache : (D.puts ((fated D fs).take k)).cache = D.cache := Dv.puts_cache _ _
        obtain ⟨hx0, hx1⟩ := hd.cw (by rw [hcache]; exact HN.out) k (by rw [hcache]; exact hx)
        simp only at hx0 hx1
        have hsize : (D.puts ((fated D fs).take k)).size = sz + 1 := (Dv.puts_size _ _).trans HSZ.out
        have hok := hd.ok.text (si, st) (by rw [hcache]; exact List.mem_of_getElem? hx)
        have hse := hd.ok.sector (si, st) (by rw [hcache]; exact List.mem_of_getElem? hx)
        simp only at hok hse
        rw [hsize] at hok
        have c0 : wr.cell? ⟨p, 0, none⟩ = some (.int .i64 ((sz : Int) + 1)) := by rw [hd.c0, hsize]; rfl
        have h1 := hd.c1
        have hsi : (si : Int) < ((D.puts ((fated D fs).take k)).n : Int) := by omega
        have hmo := hd.ok.media _ (List.getElem_mem hse)
        rw [hsize] at hmo
        have hmf := hd.mfz si
        have hn4 := hd.ok.n4096
        have hlp := hd.main.lt
        have hlm := hd.meds.lt
        have hlg : g < wr.heap.size := hd.lt g (.inr (.inr (.inr rfl)))
        obtain ⟨kn, hkn2⟩ : ∃ kn, kn = keptN f (sz + 1) := ⟨_, rfl⟩
        have hkle : kn ≤ sz + 1 := by rw [hkn2]; exact keptN_le _ _
        obtain ⟨W3, hW3⟩ : ∃ W3, W3 = wr.alloc (.cells #[.int .i64 (si : Nat), .string st] 79) := ⟨_, rfl⟩
        have hd3 : RefAt W3 p B (.slice (some ⟨g, 0, none⟩) n cap) (D.puts ((fated D fs).take k)) := by rw [hW3]; exact hd.alloc _
        have hc3 : Chg (rfoot p B (.slice (some ⟨g, 0, none⟩) n cap)) w W3 := by rw [hW3]; exact hc.alloc _
        have hme := hd3.med si hse
        have hput := hd3.setMedia si hse (mixB st ((D.puts ((fated D fs).take k)).secs[si]'hse).1 kn) _ (Dv.put_eq _ si st kn hse) (Dv.put_ok _ hd.ok si st kn hse (by rw [hsize]; exact hok) (by rw [hsize]; exact hkle))
        have hPUT : D.puts ((fated D fs).take (k + 1)) = (D.puts ((fated D fs).take k)).put si st kn := by rw [fated_take D fs k _ _ hx hf, Dv.puts_snoc, hkn2, HSZ.out]
        rw [← hPUT] at hput
        obtain ⟨mo, hmoe⟩ : ∃ mo, mo = ((D.puts ((fated D fs).take k)).secs[si]'hse).1 := ⟨_, rfl⟩
        rw [← hmoe] at hmo hme hput
        obtain ⟨nn, hnn⟩ : ∃ nn, nn = (D.puts ((fated D fs).take k)).n := ⟨_, rfl⟩
        rw [← hnn] at h1 hsi hn4
        have HDN := Lib.hid (show ∀ j, RefAt ((W3.setCell ⟨B.mb, si, none⟩ (.string (mixB st mo kn))).drewN j) p B (.slice (some ⟨g, 0, none⟩) n cap) (D.puts ((fated D fs).take (k + 1))) from fun j => hput.drewN j)
        have HCN := Lib.hid (show ∀ j, Chg (rfoot p B (.slice (some ⟨g, 0, none⟩) n cap)) w ((W3.setCell ⟨B.mb, si, none⟩ (.string (mixB st mo kn))).drewN j) from
          fun j => ((hc3.setCell (p := ⟨B.mb, si, none⟩) (fun _ => .inr (.inl rfl)) _).drewN j))
        have G1 := Lib.hid (show W3.cell? ⟨p, 1, none⟩ = some (.slice (some ⟨B.mb, 0, none⟩) nn B.mc) by rw [hd3.c1, ← hnn])
        have G2 := Lib.hid hme
        have G3 := Lib.hid (hd3.mfz si)
        have G4 := Lib.hid (show W3.cell? ⟨wr.heap.size, 0, none⟩ = some (.int .i64 (si : Nat)) by rw [hW3]; simp)
        have G5 := Lib.hid (show W3.cell? ⟨wr.heap.size, 1, none⟩ = some (.string st) by rw [hW3]; simp)
        clear hd3 hc3
        have hcase := kept_cases f sz HS1.out
        rw [← hkn2] at hcase
        have HCASE := Lib.hid hcase
        have hms : ¬ 9223372036854775807 < mo.size := by omega
        unfold mixB at HDN HCN
        clear hc hd hse hsize hcache hx hf hfcw hcells hput hPUT hmoe hnn hkn2
        have hsp : (0 : Int) ≤ (sz : Int) + 1 := by omega
        have c0' : W3.cell? ⟨p, 0, none⟩ = some (.int .i64 ((sz : Int) + 1)) := by rw [hW3, ((Below.refl _ _).alloc (Nat.le_refl _) _).cell hlp]; exact c0
        have hfc' : W3.cell? ⟨fb, fo + k, none⟩ = some (.int .i64 f) := by rw [hW3, ((Below.refl _ _).alloc (Nat.le_refl _) _).cell hfbl]; exact hfc
        have C0 := Lib.hid c0'
        have FC := Lib.hid hfc'
        have hszw : IntKind.i64.wrap ((sz : Int) + 1 + 1) = (sz : Int) + 1 + 1 := IntWalk.i64_in _ (by omega)
        have HW3 := Lib.hid hW3
        clear hW3
        go_upto_if 33 with fail
        rw [← HW3.out]
        clear hx0 hx1 c0 h3 hme h1 hmf hcase
        go_cut [6] (fun x wx => x = .int .i64 (if f = 1 then (sz : Int) + 1 else 0) ∧ wx = W3)
        case first =>
          by_cases hf1 : f = 1
          · subst hf1
            go_wp2_with fail
            go_meet
            exact ⟨by simp, rfl⟩
          · have q1 : (f == 1) = false := by simpa using hf1
            go_wp2_with fail
            go_meet
            exact ⟨by rw [if_neg hf1], rfl⟩
        case rest =>
          obtain ⟨rfl, rfl⟩ := hcut
          have c0' := C0.out
          have hfc' := FC.out
          obtain ⟨n1, hn1⟩ : ∃ x : Int, x = if f = 1 then (sz : Int) + 1 else 0 := ⟨_, rfl⟩
          rw [← hn1]
          have HN1 := Lib.hid hn1
          clear hn1
          go_upto_if 42 with fail
          go_cut [6] (fun x wx => x = .int .i64 (kn : Int) ∧ ∃ nq, wx = wc.drewN nq)
          case first =>
            have hszw : IntKind.i64.wrap ((sz : Int) + 1 + 1) = (sz : Int) + 1 + 1 := IntWalk.i64_in _ (by omega)
            have hszm : IntKind.i64.wrap ((sz : Int) + 1 - 1) = (sz : Int) := by rw [IntWalk.i64_in _ (by omega)]; omega
            rcases HCASE.out with ⟨rfl, hq⟩ | ⟨c, hf0, hcs, hq⟩ | ⟨hf2, hf3, hq⟩ | ⟨hf2, hf1, hq⟩
            · have e1 : n1 = (kn : Int) := by rw [HN1.out, hq]; simp
              have HQ := Lib.hid e1
              clear hq e1
              go_wp2_with fail
              go_meet
              exact ⟨int_k HQ.out, 0, rfl⟩
            · have q1 : 2 ≤ f := by omega
              have q2 : f < (sz : Int) + 1 + 1 := by omega
              have q3 : IntKind.i64.wrap (f - 2) = (kn : Int) := by rw [IntWalk.i64_in _ (by omega)]; omega
              clear hf0 hcs hq HCASE
              go_wp2_with fail
              go_quiet (fail)
              go_wp2_with fail
              go_meet
              exact ⟨rfl, _, rfl⟩
            · have q2 : ¬ f < (sz : Int) + 1 + 1 := by omega
              have HQ := Lib.hid hq
              clear hq
              go_wp2_with fail
              go_quiet (fail)
              go_wp2_with fail
              go_meet
              exact ⟨int_k (by rw [HQ.out]), _, rfl⟩
            · have e1 : n1 = (kn : Int) := by rw [HN1.out, hq, if_neg hf1]; rfl
              have q2 : ¬ 2 ≤ f := by omega
              have HQ := Lib.hid e1
              clear hq e1
              go_wp2_with fail
              go_meet
              exact ⟨int_k HQ.out, 0, rfl⟩
          case rest =>
            obtain ⟨rfl, nq, rfl⟩ := hcut
            have hkt : kn ≤ st.size := by omega
            have hkm : kn ≤ mo.size := by omega
            clear hok hmo hkle
            have g1 := G1.out
            have g2 := G2.out
            have g3 := G3.out
            have g4 := G4.out
            have g5 := G5.out
            go_upto_region 12 with fail
            refine Reg.still_tail 22 (by kernel_rfl) (by kernel_rfl) ?_
            simp only [List.take_succ_cons, List.take_zero, List.drop_succ_cons, List.drop_zero]
            repeat still_step
            try refine wpStill_nil ?_
            go_wp2_with fail
            go_roundw
            case rel => exact ⟨k + 1, by omega, by omega, by simp, HCN.out _, HDN.out _⟩
            case measure => simp [intOf]; omega
      · obtain rfl : k = fl := by omega
        have hwh : (fated D fs).take k = fated D fs := List.take_of_length_le (by unfold fated; rw [List.length_zipWith, ← HN.out, HFL.out]; omega)
        rw [hwh] at hd
        have f3 := hd.fz 3
        have he := hd.empty
        have c8 := he.c8
        have f8 := he.fz 8
        have he2 := he.set 8 (.bool false) { (D.puts (fated D fs)).emptied with off := false } rfl rfl rfl ⟨he.ok.n8, he.ok.n4096, he.ok.s128, he.ok.s1024, he.ok.media, he.ok.text, he.ok.sector, he.ok.fuse, he.ok.lose, he.ok.stray⟩
        have c4 := he2.c4
        have f4 := he2.fz 4
        have he3 := he2.set 4 (.int .i64 ((0 : Nat) : Int)) ((D.puts (fated D fs)).emptied.calm) rfl rfl rfl ⟨he.ok.n8, he.ok.n4096, he.ok.s128, he.ok.s1024, he.ok.media, he.ok.text, he.ok.sector, by simp [Dv.calm], he.ok.lose, he.ok.stray⟩
        have HE := Lib.hid he3
        have HC := Lib.hid (((hc.setCell (p := ⟨p, 3, none⟩) (fun _ => .inl rfl) (.slice none 0 0)).setCell (p := ⟨p, 8, none⟩) (fun _ => .inl rfl) (.bool false)).setCell (p := ⟨p, 4, none⟩) (fun _ => .inl rfl) (.int .i64 ((0 : Nat) : Int)))
        clear hc hd hwh he he2 he3
        go_wp2_with fail
        go_end0
        exact ⟨rfl, RNow.empty HC.out HE.out⟩
    · obtain rfl : k = n := by omega
      have hwh : (fated D fs).take k = fated D fs := List.take_of_length_le (by unfold fated; rw [List.length_zipWith, ← HN.out, HFL.out]; omega)
      rw [hwh] at hd
      have f3 := hd.fz 3
      have he := hd.empty
      have c8 := he.c8
      have f8 := he.fz 8
      have he2 := he.set 8 (.bool false) { (D.puts (fated D fs)).emptied with off := false } rfl rfl rfl ⟨he.ok.n8, he.ok.n4096, he.ok.s128, he.ok.s1024, he.ok.media, he.ok.text, he.ok.sector, he.ok.fuse, he.ok.lose, he.ok.stray⟩
      have c4 := he2.c4
      have f4 := he2.fz 4
      have he3 := he2.set 4 (.int .i64 ((0 : Nat) : Int)) ((D.puts (fated D fs)).emptied.calm) rfl rfl rfl ⟨he.ok.n8, he.ok.n4096, he.ok.s128, he.ok.s1024, he.ok.media, he.ok.text, he.ok.sector, by simp [Dv.calm], he.ok.lose, he.ok.stray⟩
      have HE := Lib.hid he3
      have HC := Lib.hid (((hc.setCell (p := ⟨p, 3, none⟩) (fun _ => .inl rfl) (.slice none 0 0)).setCell (p := ⟨p, 8, none⟩) (fun _ => .inl rfl) (.bool false)).setCell (p := ⟨p, 4, none⟩) (fun _ => .inl rfl) (.int .i64 ((0 : Nat) : Int)))
      clear hc hd hwh he he2 he3
      go_wp2_with fail
      go_end0
      exact ⟨rfl, RNow.empty HC.out HE.out⟩
end Go.Proofs.Ytlnocdmechidfaa.Dev
