/- Layer 14 (msg): All, Join. -/
import Derived.Test.YtfmbjepjmjcgeaaMsgB
namespace Go.Proofs.Ytfmbjepjmjcgeaa.Msg
open Go Go.RowKit Go.Proofs.Ytfmbjepjmjcgeaa Go.Proofs.Ytfmbjepjmjcgeaa.Lend Go.Proofs.Ytfmbjepjmjcgeaa.Rec
set_option linter.unusedVariables false

set_option maxRecDepth 100000 in
set_option maxHeartbeats 4000000 in
theorem all_any {va : Value} {l : List Up} (s : Sv) (w : World) (h : UR w va l) (hl : l.length ≤ 1000000) (hs : s.1.length ≤ 1000000) (hu : ∀ u ∈ l, WfU u ∧ u.val.length ≤ 1000000) :
    Calls Try.prog 31 #[.string (Lend.strOf s.1), .bool s.2, va] w fun e w' => e = rtS (allU s l) ∧ Below w.heap.size w w' := by
  obtain ⟨ao, cap, rfl, hc⟩ := h.form
  have HST := Lib.hid (stays_any s w)
  have HC := Lib.hid hc
  have HU := Lib.hid hu
  have HS := Lib.hid hs
  obtain ⟨n, hn⟩ : ∃ n, n = l.length := ⟨_, rfl⟩
  have HN := Lib.hid hn
  have HA0 := Lib.hid (show allU s (l.take 0) = stU s from rfl)
  rw [← hn] at hl ⊢
  obtain ⟨T, hT⟩ : ∃ x, x = Lend.strOf s.1 := ⟨_, rfl⟩
  obtain ⟨b, hb⟩ : ∃ x, x = s.2 := ⟨_, rfl⟩
  rw [← hT, ← hb] at HST ⊢
  unfold rtS at HST
  have hst0 : ∃ t0 b0, t0 = Lend.strOf (stU s).1 ∧ b0 = (stU s).2 := ⟨_, _, rfl, rfl⟩
  obtain ⟨t0, b0, ht0, hb0⟩ := hst0
  rw [← ht0, ← hb0] at HST
  have HT0 := Lib.hid ht0
  have HB0 := Lib.hid hb0
  clear h hc hu hs hn hT hb ht0 hb0
  go_enter Try.func31, Try.ntmps31
  go_wp2_with fail
  refine HST.out.mono ?_
  rintro e w1 ⟨rfl, rfl⟩
  go_wp2_with fail
  go_loopw [0, 1, 18] (fun sv bv i wr => ∃ k : Nat, k ≤ n ∧ i = .int .i64 k ∧ sv = .string (Lend.strOf (allU s (l.take k)).1) ∧ bv = .bool (allU s (l.take k)).2 ∧ Below w.heap.size w wr) (fun _ _ i _ => n - (intOf i).toNat)
  case atStart => exact ⟨0, Nat.zero_le _, rfl, by rw [HT0.out, HA0.out], by rw [HB0.out, HA0.out], Below.refl _ _⟩
  case round =>
    obtain ⟨k, hk, rfl, rfl, rfl, hb⟩ := hrel
    have HB := Lib.hid hb
    clear hb
    by_cases hlt : k < n
    · have hke : k < l.length := by rw [← HN.out]; exact hlt
      have hki : (k : Int) < (n : Int) := by omega
      obtain ⟨g, off, rfl, hcc⟩ := HC.out (by omega)
      have hcc := hcc k hke
      have HWU := Lib.hid (HU.out _ (List.getElem_mem hke))
      have hsn : allU s (l.take (k + 1)) = onU (allU s (l.take k)) l[k] := by
        unfold allU
        rw [List.take_succ_eq_append_getElem hke, fo_snoc]
      have hln : (allU s (l.take k)).1.length ≤ 1000000 := fo_len (by omega) (st_len HS.out) (fun u hu => (HU.out u (List.mem_of_mem_take hu)).2)
      obtain ⟨u, hu⟩ : ∃ u, u = l[k] := ⟨_, rfl⟩
      rw [← hu] at hcc HWU hsn
      obtain ⟨sk, hsk⟩ : ∃ x, x = allU s (l.take k) := ⟨_, rfl⟩
      rw [← hsk] at hln hsn ⊢
      have HSN := Lib.hid hsn
      have hbc : ∀ j x, j < 4 → (encU u)[j]? = some x → wr.cell? ⟨g, off + k * 4 + j, none⟩ = some x := fun j x hj hx => by
        have h1 := (hcc j hj).trans hx
        rw [HB.out.cell (World.block_lt_of_cell? _ _ h1)]; exact h1
      have c0 : wr.cell? ⟨g, off + k * 4, none⟩ = some (.int .u8 u.kind) := hbc 0 _ (by omega) rfl
      have c1 : wr.cell? ⟨g, off + k * 4 + 1, none⟩ = some (.string (Lend.strOf u.key)) := hbc 1 _ (by omega) rfl
      have c2 : wr.cell? ⟨g, off + k * 4 + 2, none⟩ = some (.string (Lend.strOf u.val)) := hbc 2 _ (by omega) rfl
      have c3 : wr.cell? ⟨g, off + k * 4 + 3, none⟩ = some (.int .u64 u.delta) := hbc 3 _ (by omega) rfl
      have HON := Lib.hid (fun W => on_any sk u W (by omega) HWU.out.1)
      unfold agU rtS at HON
      clear hcc hbc hu hsk hsn hke
      go_wp2_with fail
      refine (HON.out _).mono ?_
      rintro e w2 ⟨rfl, hb2⟩
      have HB2 := Lib.hid (below_on (below_nw HB.out (.cells #[.int .u8 u.kind, .string (Lend.strOf u.key), .string (Lend.strOf u.val), .int .u64 u.delta] 34)) hb2)
      clear hb2 c0 c1 c2 c3
      go_wp2_with fail
      go_roundw
      case rel => exact ⟨k + 1, by omega, by go_num, by rw [HSN.out], by rw [HSN.out], HB2.out⟩
      case measure => simp [intOf]; omega
    · have hki : ¬ (k : Int) < (n : Int) := by omega
      have e1 : l.take k = l := List.take_of_length_le (by have := HN.out; omega)
      rw [e1]
      clear e1
      have HE := Lib.hid (rtS_of (s := allU s l) rfl rfl)
      generalize Lend.strOf (allU s l).1 = E at *
      generalize (allU s l).2 = E2 at *
      go_wp2_with fail
      go_ret2
      exact ⟨HE.out, HB.out⟩
theorem bel_st {w w' : World} {i : Nat} {v : Value} (h : Below w.heap.size w w') : Below w.heap.size w (w'.setCell ⟨w.heap.size, i, none⟩ v) := h.setCell (Nat.le_refl _) v
set_option maxRecDepth 100000 in
set_option maxHeartbeats 4000000 in
theorem putOf_any (K : ByteArray) (n : Int) (w : World) (h0 : 0 ≤ n) (h1 : n < 18446744073709551616) : Calls Try.prog 60 #[.string K, .int .u64 n] w fun e w' => e = .returned (.agg #[.int .u8 1, .string K, .string (Lend.strOf (encN n 8)), .int .u64 0]) ∧ Below w.heap.size w w' := by
  have HV := Lib.hid (fun W => value_any n W h0 h1)
  generalize Lend.strOf (encN n 8) = E at *
  obtain ⟨w0, hw0⟩ : ∃ x, x = w.alloc (.cells #[.int .u8 0, .string ⟨#[]⟩, .string ⟨#[]⟩, .int .u64 0] 34) := ⟨_, rfl⟩
  have HB0 := Lib.hid (show Below w.heap.size w w0 by rw [hw0]; exact below_new _ _)
  have HX := Lib.hid (show Has w0 w.heap.size 34 [.int .u8 0, .string ⟨#[]⟩, .string ⟨#[]⟩, .int .u64 0] by rw [hw0]; exact Has.new _ _ _)
  clear h0 h1
  go_enter Try.func60, Try.ntmps60
  go_wp2_with fail
  rw [← hw0]
  refine (HV.out _).mono ?_
  rintro e w1 ⟨rfl, hb1⟩
  have hx1 := HX.out.below hb1 HX.out.lt
  have HB1 := Lib.hid (below_on HB0.out hb1)
  have y0 := hx1.cell 0
  have y1 := hx1.cell 1
  have y2 := hx1.cell 2
  have y3 := hx1.cell 3
  have f0 := hx1.frozen 0
  have f1 := hx1.frozen 1
  have f2 := hx1.frozen 2
  have f3 := hx1.frozen 3
  simp only [List.getElem?_cons_zero, List.getElem?_cons_succ] at y0 y1 y2 y3
  clear hb1 hw0
  go_wp2_with fail
  exact bodyPost_ret (v := .agg #[.int .u8 1, .string K, .string E, .int .u64 0]) (by simp [results, Try.results60, go_sem, y0, y1, y2, y3]) rfl ⟨rfl, bel_st (bel_st (bel_st (bel_st HB1.out)))⟩
end Go.Proofs.Ytfmbjepjmjcgeaa.Msg
