/- Layer 12 (rec): Text. -/
import Derived.Lib.AppendStr
import Derived.Test.YtfclecbhfamomaaRecB
namespace Go.Proofs.Ytfclecbhfamomaa.Rec
open Go Go.RowKit Go.Proofs.Ytfclecbhfamomaa Go.Proofs.Ytfclecbhfamomaa.Lend
set_option linter.unusedVariables false

theorem info8 : (Try.prog.info? 5).map (fun i => (i.zero, i.size, i.bytes)) = some (some (.int .u8 0), 1, 1) := by kernel_rfl
theorem strCells_strOf (l : List UInt8) : Lib.strCells (Lend.strOf l) = l.map Lend.u8V := rfl
theorem ret_te {a b : ByteArray} {c d : Int} (h : a = b) (h' : c = d) : Ending.returned (.tuple #[.string a, .int .i64 c]) = .returned (.tuple #[.string b, .int .i64 d]) := by rw [h, h']
set_option maxRecDepth 100000 in
set_option maxHeartbeats 4000000 in
theorem Text_any {v : Value} {l : List Up} {w : World} (h : UR w v l) (hl : l.length ≤ 1000) (hwf : ∀ u ∈ l, WfU u) : Calls Try.prog 48 #[v] w fun e w' => e = .returned (.tuple #[.string (Lend.strOf (txT l)), .int .i64 (errL l)]) ∧ Below w.heap.size w w' := by
  obtain ⟨i0, hi, hz0, hz1, hz2⟩ := info_parts info8
  obtain ⟨a, cap, rfl, hcell⟩ := h.form
  obtain ⟨n, hn⟩ : ∃ n, n = l.length := ⟨_, rfl⟩
  have HN := Lib.hid hn
  have HW := Lib.hid hwf
  have HC := Lib.hid hcell
  rw [← hn] at hl ⊢
  clear hn h hwf hcell
  go_enter Try.func48, Try.ntmps48
  go_wp2_with fail
  go_loopw [4, 10] (fun v i wr => ∃ k : Nat, k ≤ n ∧ i = .int .i64 k ∧ wr.ownsRow w.heap.size 5 1 v (txL (l.take k)).length ((txL (l.take k)).map Lend.u8V) ∧ errL (l.take k) = 0 ∧ (txL (l.take k)).length ≤ 51 * k ∧ Below w.heap.size w wr) (fun _ i _ => n - (intOf i).toNat)
  case atStart => exact ⟨0, Nat.zero_le _, rfl, World.ownsRow_nil _ _ _ _, rfl, Nat.zero_le _, Below.refl _ _⟩
  case round =>
    obtain ⟨k, hk, rfl, hown, her, hln, hb⟩ := hrel
    by_cases hlt : k < n
    · have hke : k < l.length := by rw [← HN.out]; exact hlt
      have hki : (k : Int) < (n : Int) := by omega
      obtain ⟨g, off, rfl, hc⟩ := HC.out (by omega)
      have hc := fun j hj => hc k hke j hj
      have hmem := List.getElem_mem hke
      have hts := txL_step hke
      have hes := errL_step hke her
      have hat := errL_at hke her
      obtain ⟨u, hu⟩ : ∃ u, u = l[k] := ⟨_, rfl⟩
      rw [← hu] at hc hmem hts hes hat
      have hbc : ∀ j x, j < 4 → (encU u)[j]? = some x → wr.cell? ⟨g, off + k * 4 + j, none⟩ = some x := fun j x hj hx => by
        have h1 := (hc j hj).trans hx
        rw [hb.cell (World.block_lt_of_cell? _ _ h1)]; exact h1
      have c0 : wr.cell? ⟨g, off + k * 4, none⟩ = some (.int .u8 u.kind) := hbc 0 _ (by omega) rfl
      have c1 : wr.cell? ⟨g, off + k * 4 + 1, none⟩ = some (.string (Lend.strOf u.key)) := hbc 1 _ (by omega) rfl
      have c2 : wr.cell? ⟨g, off + k * 4 + 2, none⟩ = some (.string (Lend.strOf u.val)) := hbc 2 _ (by omega) rfl
      have c3 : wr.cell? ⟨g, off + k * 4 + 3, none⟩ = some (.int .u64 u.delta) := hbc 3 _ (by omega) rfl
      obtain ⟨w1, hw1⟩ : ∃ w1, w1 = wr.alloc (.cells #[.int .u8 u.kind, .string (Lend.strOf u.key), .string (Lend.strOf u.val), .int .u64 u.delta] 70) := ⟨_, rfl⟩
      have HX := Lib.hid (show Has w1 wr.heap.size 70 (encU u) by rw [hw1]; exact Has.new wr _ _)
      have HB1 := Lib.hid (show Below w.heap.size w w1 by rw [hw1]; exact hb.alloc hb.size _)
      obtain ⟨vo, vc, rfl, hvc⟩ := own_shape hown
      have HOW := Lib.hid (show w1.ownsRow w.heap.size 5 1 (.slice vo (txL (l.take k)).length vc) (txL (l.take k)).length ((txL (l.take k)).map Lend.u8V) by rw [hw1]; exact hown.alloc _)
      have HTS := Lib.hid hts
      have HES := Lib.hid hes
      have HAT := Lib.hid hat
      have HLN := Lib.hid hln
      have HU := Lib.hid (HW.out u hmem)
      clear hu hke hc hbc hmem hts hes hat hb hown her hln hvc
      go_wp2_with fail
      rw [← hw1]
      clear c0 c1 c2 c3
      refine (check_any u w1 HU.out.1 HU.out.2.1).mono ?_
      rintro e w2 ⟨rfl, hb2⟩
      have HX2 := Lib.hid (HX.out.below hb2 HX.out.lt)
      have HB2 := Lib.hid (below_on HB1.out hb2)
      have HOW2 := Lib.hid (own_bel HOW.out hb2)
      by_cases hck : chkU u = 0
      · rw [hck]
        have y0 := HX2.out.cell 0
        have y1 := HX2.out.cell 1
        have y2 := HX2.out.cell 2
        have y3 := HX2.out.cell 3
        have hxl := HX2.out.lt
        simp only [encU, List.getElem?_cons_zero, List.getElem?_cons_succ] at y0 y1 y2 y3
        have HCK := Lib.hid hck
        have HLE := Lib.hid (txU_le hck)
        have hw12 := HB2.out.size
        clear hb2 hck HX HB1 HOW hw1
        go_wp2_with fail
        refine (text_any u w2 HCK.out HU.out.2.2.1 HU.out.2.2.2).mono ?_
        rintro e w3 ⟨rfl, hb3⟩
        have HB3 := Lib.hid (below_on HB2.out hb3)
        have HOW3 := Lib.hid (own_bel HOW2.out hb3)
        clear hb3 y0 y1 y2 y3
        go_wp2_with (at_builtin; refine Lib.wpList_append_own_string _ rfl _ _ 54 9 rfl w.heap.size 5 i0 Try.underlying54 Try.underlying9 hi hz0 hz1 hz2 _ _ _ rfl HOW3.out (Lend.strOf (txU u)) rfl ?c1 ?c2 ?c3 ?_)
        case c1 => unfold maxLen; rw [ssize]; have := HLN.out; have := HLE.out; omega
        case c2 => rw [ssize]; have := HLN.out; have := HLE.out; omega
        case c3 => exact HB3.out.size
        intro v' w4 hown4 hgr _
        have HB4 := Lib.hid (HB3.out.grown hgr HB3.out.size (fun q hq => (HOW3.out.lt q hq).1))
        have HOW4 := Lib.hid (show w4.ownsRow w.heap.size 5 1 v' (txL (l.take (k + 1))).length ((txL (l.take (k + 1))).map Lend.u8V) by
          rw [HTS.out, List.map_append, List.length_append, ← ssize (txU u), ← strCells_strOf]; exact hown4)
        have HLN4 := Lib.hid (show (txL (l.take (k + 1))).length ≤ 51 * (k + 1) by rw [HTS.out, List.length_append]; have := HLN.out; have := HLE.out; omega)
        clear hown4 hgr
        go_wp2_with fail
        go_roundw
        case rel => exact ⟨k + 1, by omega, by go_num, HOW4.out, by rw [HES.out]; exact HCK.out, HLN4.out, HB4.out⟩
        case measure => simp [intOf]; omega
      · have hne : (chkU u == 0) = false := by simpa using hck
        have HF := Lib.hid (show txT l = [] ∧ errL l = chkU u from ⟨by unfold txT; rw [if_neg (by rw [HAT.out hck]; exact hck)], HAT.out hck⟩)
        clear hb2
        go_wp2_with fail
        go_ret2
        exact ⟨ret_te (by rw [HF.out.1]; rfl) HF.out.2.symm, HB2.out⟩
    · have hkn : k = n := by omega
      subst hkn
      have hki : ¬ (k : Int) < (k : Int) := by omega
      have htk : l.take k = l := List.take_of_length_le (by rw [← HN.out]; exact Nat.le_refl _)
      rw [htk] at her hln hown
      have HF := Lib.hid (show txT l = txL l from by unfold txT; rw [if_pos her])
      have HE := Lib.hid her
      have HB := Lib.hid hb
      have hcv := run_string_own wr w.heap.size _ _ _ hown
      clear hb her hln htk hown
      go_wp2
      go_ret2
      exact ⟨ret_te (by rw [HF.out]) (by rw [HE.out]), HB.out⟩
end Go.Proofs.Ytfclecbhfamomaa.Rec
