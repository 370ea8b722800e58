/- Contracts of layer 6 (table): widths, Text. -/
import Derived.Test.YtonfafjacmifaaaTabN
import Derived.Test.YtonfafjacmifaaaRepeatI
import Derived.Test.YtonfafjacmifaaaLendW
import Derived.Test.YtonfafjacmifaaaLendR
import Derived.Outline
import Derived.Deep.DeepCutAuto
namespace Go.Proofs.Ytonfafjacmifaaa.Tab
open Go.RowKit Go.Proofs.Ytonfafjacmifaaa Go.Proofs.Ytonfafjacmifaaa.Lend
set_option linter.unusedVariables false

theorem owns_one (w : World) (B : Nat) (x : Int) (h : B ≤ w.heap.size) : (w.alloc (.cells #[.int .i64 x] 3)).ownsRow B 3 1 (.slice (some ⟨w.heap.size, 0, none⟩) 1 1) 1 [.int .i64 x] :=
  ⟨rfl, .inr ⟨w.heap.size, 1, #[.int .i64 x], rfl, h, by show (w.heap.push _)[w.heap.size]? = _; simp, Nat.le_refl _, by unfold maxLen; omega, rfl, rfl⟩⟩
set_option maxRecDepth 100000 in
set_option maxHeartbeats 1000000 in
theorem widths_any (n : Nat) (w : World) (hn : n ≤ 32) : Calls Try.prog 27 #[.int .i64 (n : Nat)] w fun e w' => ∃ ao cap, e = .returned (.slice ao (n + 1 : Nat) cap) ∧ Row .i64 w' ao (n + 1) (tabW n) ∧ Below w.heap.size w w' := by
  obtain ⟨i0, hi, hz0, hz1, hz2⟩ := info_parts info_int6
  have hown := owns_one w w.heap.size 8 (Nat.le_refl _)
  have hown2 := hown.alloc (.cells #[.int .i64 2] 3)
  have hb2 := Has.new (w.alloc (.cells #[.int .i64 8] 3)) [.int .i64 2] 3
  have hsz : (w.alloc (.cells #[.int .i64 8] 3)).heap.size = w.heap.size + 1 := by simp
  rw [hsz] at hb2
  have hB := Lib.hid (b_nw (b_new w (.cells #[.int .i64 8] 3)) (.cells #[.int .i64 2] 3))
  have HO := Lib.hid hown2
  have HB2 := Lib.hid hb2
  clear hown hown2 hb2 hsz
  go_enter Try.func27, Try.ntmps27
  go_wp2_with fail
  have hrep : Calls Try.prog 37 #[.slice (some ⟨w.heap.size + 1, 0, none⟩) 1 1, .int .i64 (n : Nat)] ((w.alloc (.cells #[.int .i64 8] 3)).alloc (.cells #[.int .i64 2] 3)) fun e w' => e = .returned (.slice (some ⟨w.heap.size + 2, 0, none⟩) n n) ∧ Has w' (w.heap.size + 2) 3 (Rep.reps (.int .i64 2) n) ∧ Below (w.heap.size + 2) ((w.alloc (.cells #[.int .i64 8] 3)).alloc (.cells #[.int .i64 2] 3)) w' := by
    have hs2 : ((w.alloc (.cells #[.int .i64 8] 3)).alloc (.cells #[.int .i64 2] 3)).heap.size = w.heap.size + 2 := by simp
    by_cases h0 : n = 0
    · subst h0
      refine (Rep.repeat_zero (w.heap.size + 1) 2 _ HB2.out).mono ?_
      rintro e w' ⟨rfl, h1, h2, _⟩
      rw [hs2] at h1 h2 ⊢
      exact ⟨rfl, h1, h2⟩
    · refine (Rep.repeat_any (w.heap.size + 1) n 2 _ HB2.out (by omega) (by omega)).mono ?_
      rintro e w' ⟨rfl, h1, h2, _⟩
      rw [hs2] at h1 h2 ⊢
      exact ⟨rfl, h1, h2⟩
  refine hrep.mono ?_
  clear hrep
  rintro e w2 ⟨rfl, hh, hb⟩
  have hown2 := owns_same HO.out (w' := w2) (fun k hk => hb.block k (by
    have : k = w.heap.size := by simpa [Value.ownBlock] using hk.symm
    omega))
  have hB2 := hB.out.trans (hb.mono (by omega))
  have hsz2 := hB2.size
  have HH := Lib.hid hh
  have HB3 := Lib.hid hB2
  clear hh hb hB2 HO HB2 hB
  have HC := Lib.hid (show ∀ j u, (Rep.reps (.int .i64 2) n)[j]? = some u → w2.cell? ((⟨w.heap.size + 2, 0, none⟩ : Addr).add j) = some u from fun j u hj => by
    rw [Addr.add_lit, Nat.zero_add, HH.out.cell]; exact hj)
  have HM := Lib.hid (show (Rep.reps (.int .i64 2) n).length = n * 1 by rw [Rep.reps_len, Nat.mul_one])
  go_wp2_with (at_builtin; refine wpList_append_own _ rfl _ _ 22 rfl w.heap.size 3 i0 (.int .i64 0) 1 8 Try.underlying22 hi hz0 hz1 hz2 rfl (by decide) _ _ _ rfl hown2 ⟨w.heap.size + 2, 0, none⟩ n n (Rep.reps (.int .i64 2) n) rfl HM.out HC.out ?c2 ?c3 ?c4 ?c5 ?_)
  case c2 => intro q hq; rw [Rep.reps_mem hq]; rfl
  case c3 => unfold maxLen; omega
  case c4 => omega
  case c5 => omega
  intro v' w3 hown3 hgrow _
  have hbel := HB3.out.grown hgrow hsz2 (fun q hq => (hown2.lt q hq).1)
  have HBE := Lib.hid hbel
  have e1 : Value.int .i64 8 :: Rep.reps (.int .i64 2) n = (tabW n).map (Value.int .i64) := by simp [Rep.reps, tabW, twos]
  rw [e1] at hown3
  have e2 : 1 + n = n + 1 := by omega
  rw [e2] at hown3
  obtain ⟨ao', cap', rfl, hle⟩ := own_shape hown3
  have HRW := Lib.hid (Row.own hown3)
  clear hbel hgrow hown2 hown3 e1 e2 HC HM HH HB3
  go_wp2
  go_ret
  exact ⟨_, _, rfl, HRW.out, HBE.out⟩

theorem owns_oneU (w : World) (B : Nat) (x : Int) (h : B ≤ w.heap.size) : (w.alloc (.cells #[.int .u64 x] 51)).ownsRow B 51 1 (.slice (some ⟨w.heap.size, 0, none⟩) 1 1) 1 [.int .u64 x] :=
  ⟨rfl, .inr ⟨w.heap.size, 1, #[.int .u64 x], rfl, h, by show (w.heap.push _)[w.heap.size]? = _; simp, Nat.le_refl _, by unfold maxLen; omega, rfl, rfl⟩⟩
set_option maxRecDepth 100000 in
set_option maxHeartbeats 2000000 in
theorem text_any (n k : Int) (m : List Int) (w : World) (hg : Good n k m) : Calls Try.prog 17 #[.agg (ta n k m)] w fun e w' => e = .returned (.string (txS m)) ∧ Below w.heap.size w w' := by
  obtain ⟨g1, g2, g3, g4, g5⟩ := hg.bd
  obtain ⟨i0, hi, hz0, hz1, hz2⟩ := info_parts info_u64
  obtain ⟨hwb, hws⟩ := tab_wr hg
  have HW := Lib.hid (And.intro hwb hws)
  have HG := Lib.hid hg
  have hT := TAt.made w n k m
  have e0 := hT.ld
  obtain ⟨W1, hW1⟩ : ∃ W1, W1 = w.alloc (.cells (ta n k m) 25) := ⟨_, rfl⟩
  have hsz : W1.heap.size = w.heap.size + 1 := by rw [hW1]; simp
  have hB := b_new w (.cells (ta n k m) 25)
  rw [← hW1] at hT hB
  have HT := Lib.hid hT
  have HB := Lib.hid hB
  obtain ⟨u, hu⟩ : ∃ u, u = m.length := ⟨_, rfl⟩
  have HU := Lib.hid hu
  have hu5 : u ≤ 32 := by omega
  have hsl := slice_sp w.heap.size u hu5
  clear hT hB hwb hws hg
  go_enter Try.func17, Try.ntmps17
  go_wp2_with fail
  rw [← hW1]
  refine (gen_any n k m _ g5).mono ?_
  rintro e w1 ⟨rfl, hb⟩
  rw [← hu]
  have hb1 : Below (w.heap.size + 1) W1 w1 := by rw [← hsz]; exact hb
  have HB1 := Lib.hid (hb1.alloc (by have := hb1.size; omega) (.cells #[.int .u64 u] 51))
  have hT2 := (HT.out.on hb).new (.cells #[.int .u64 u] 51)
  have HT2 := Lib.hid hT2
  have hown := Lib.hid (owns_oneU w1 (w.heap.size + 1) u (by have := hb1.size; omega))
  have e2 := hT2.c2
  rw [← hu] at e2
  clear hb hb1 e0 hT2 hW1 hu g5
  go_wp2_with fail
  go_loopw [3, 16] (fun v i wr => ∃ c : Nat, c ≤ u ∧ i = .int .i64 c ∧ wr.ownsRow (w.heap.size + 1) 51 1 v (c + 1) ((((u : Int) :: m.take c)).map (Value.int .u64)) ∧ Below (w.heap.size + 1) W1 wr) (fun _ i _ => u - (intOf i).toNat)
  case atStart => exact ⟨0, Nat.zero_le _, rfl, hown.out, HB1.out⟩
  case round =>
    obtain ⟨c, hc, rfl, hownr, hbr⟩ := hrel
    have hszr := hbr.size
    have hTr : TAt wr w.heap.size n k m := Has.below HT.out hbr (by omega)
    have HTr := Lib.hid hTr
    clear hown HB1 HT2 e2
    by_cases hlt : c < u
    · have ec := hTr.cm c (by omega)
      have hx := HG.out.getD c (by rw [← HU.out]; exact hlt)
      have htk : m.take (c + 1) = m.take c ++ [m.getD c 0] := take_snoc' m c (by rw [← HU.out]; exact hlt)
      obtain ⟨x, hxx⟩ : ∃ x, x = m.getD c 0 := ⟨_, rfl⟩
      rw [← hxx] at ec hx htk
      obtain ⟨hx0, hx1⟩ := hx
      have hwx : IntKind.u64.wrap x = x := by rw [wrap_u64]; omega
      have HTK := Lib.hid htk
      clear hTr htk hxx
      go_wp2_with (at_builtin; refine wpList_append_own _ rfl _ _ 57 rfl (w.heap.size + 1) 51 i0 (.int .u64 0) 1 8 Try.underlying57 hi hz0 hz1 hz2 rfl (by decide) _ _ _ rfl (hownr.alloc _) ⟨wr.heap.size, 0, none⟩ 1 1 [.int .u64 x] rfl rfl ?c1 ?c2 ?c3 ?c4 ?c5 ?_)
      case c1 =>
        intro j q hj
        match j, hj with
        | 0, hj => simp at hj; subst hj; simp [Addr.add]
      case c2 => intro q hq; simp at hq; subst hq; rfl
      case c3 => unfold maxLen; omega
      case c4 => omega
      case c5 => simp; omega
      intro v' w2 hown' hgrow _
      have hbel : Below (w.heap.size + 1) W1 w2 := (hbr.alloc (by omega) _).grown hgrow (by simp; omega) (fun q hq => (hownr.lt q hq).1)
      have e1 : Value.int .u64 (u : Int) :: (List.take c (m.map (Value.int .u64)) ++ [.int .u64 x]) = (((u : Int) :: m.take (c + 1)).map (Value.int .u64)) := by rw [HTK.out]; simp
      rw [e1] at hown'
      clear hgrow hownr e1
      go_wp2
      go_roundw
      case rel => exact ⟨c + 1, by omega, by go_num, hown', hbel⟩
      case measure => simp [intOf]; omega
    · obtain rfl : c = u := by omega
      have e2 := hTr.c2
      rw [← HU.out] at e2
      have htk : m.take c = m := List.take_of_length_le (by rw [HU.out]; exact Nat.le_refl _)
      rw [htk] at hownr
      obtain ⟨ao, cap, rfl, _⟩ := own_shape hownr
      have HR := Lib.hid (Row.own hownr)
      have HBR := Lib.hid hbr
      clear hTr htk hownr hbr
      go_wp2_with fail
      refine (widths_any c wr hu5).mono ?_
      rintro e w2 ⟨bo, cb, rfl, hrow, hb2⟩
      have HR2 := Lib.hid (HR.out.below hb2 (Nat.le_refl _))
      have HRW := Lib.hid hrow
      have HB2 := Lib.hid (HBR.out.trans (hb2.mono (by omega)))
      clear hrow hb2 e2
      go_wp2_with fail
      refine (write_any _ _ _ _ _ _ _ _ w2 HRW.out HR2.out (by omega) (by omega) (fun z hz => ?_)).mono ?_
      · rcases List.mem_cons.1 hz with rfl | hz
        · omega
        · have := HG.out.mem z hz; omega
      rintro e w3 ⟨rfl, hb3⟩
      have HB3 := Lib.hid (HB2.out.trans (hb3.mono (by have := HB2.out.size; omega)))
      have hwS : wrS (tabW c) ((c : Int) :: m) = txS m := by rw [HU.out]; exact HW.out.2
      have hwB : wrB (tabW c) ((c : Int) :: m) = true := by rw [HU.out]; exact HW.out.1
      rw [hwS, hwB]
      clear hb3 hwS hwB
      go_wp2_with fail
      go_ret
      exact ⟨rfl, HB.out.trans (HB3.out.mono (by omega))⟩
end Go.Proofs.Ytonfafjacmifaaa.Tab
