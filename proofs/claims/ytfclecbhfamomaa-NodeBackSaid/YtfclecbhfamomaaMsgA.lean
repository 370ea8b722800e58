/- Layer 14 (msg): Number, Value. -/
import Derived.Test.YtfclecbhfamomaaMsgMath
import Derived.Test.YtfclecbhfamomaaRefLendB
namespace Go.Proofs.Ytfclecbhfamomaa.Msg
open Go Go.RowKit Go.Proofs.Ytfclecbhfamomaa Go.Proofs.Ytfclecbhfamomaa.Lend Go.Proofs.Ytfclecbhfamomaa.Rec
set_option linter.unusedVariables false

theorem row_one (kd : IntKind) (w : World) (a : Int) (e : TypeId) (n : Nat) (h : n = w.heap.size) : Row kd (w.alloc (.cells #[.int kd a] e)) (some ⟨n, 0, none⟩) 1 [a] := by
  subst h
  refine ⟨rfl, fun _ => ⟨w.heap.size, 0, rfl, fun i hi => ?_⟩⟩
  match i, hi with
  | 0, _ => simp
theorem ret_str {a b : ByteArray} (h : a = b) : Ending.returned (.string a) = .returned (.string b) := by rw [h]
theorem ret_num {a b : Int} {c d : Bool} (h : a = b) (h' : c = d) : Ending.returned (.tuple #[.int .u64 a, .bool c]) = .returned (.tuple #[.int .u64 b, .bool d]) := by rw [h, h']
theorem strOf0 : Lend.strOf [] = ⟨#[]⟩ := rfl
theorem numW_any (w : World) : Calls Try.prog 75 #[] w fun e w' => ∃ b, e = .returned (.slice (some ⟨b, 0, none⟩) 1 1) ∧ Row .i64 w' (some ⟨b, 0, none⟩) 1 [8] ∧ Below w.heap.size w w' := by
  go_enter Try.func75, Try.ntmps75
  go_wp2
  go_ret
  exact ⟨_, rfl, row_one .i64 w 8 _ _ rfl, below_new _ _⟩
theorem wr8 {d : Int} (h0 : 0 ≤ d) (h1 : d < 18446744073709551616) : wrS [8] [d] = Lend.strOf (encN d 8) ∧ wrB [8] [d] = true := by
  have h := wr_ok (ws := [8]) (ns := [d]) rfl rfl (by simp [fitsL, fitsB_8 d h1])
  refine ⟨?_, h.1⟩
  rw [h.2]
  simp [encL]
set_option maxRecDepth 100000 in
set_option maxHeartbeats 4000000 in
theorem value_any (n : Int) (w : World) (h0 : 0 ≤ n) (h1 : n < 18446744073709551616) : Calls Try.prog 72 #[.int .u64 n] w fun e w' => e = .returned (.string (Lend.strOf (encN n 8))) ∧ Below w.heap.size w w' := by
  have HW := Lib.hid (wr8 h0 h1)
  have HN := Lib.hid (show ∀ x ∈ [n], 0 ≤ x ∧ x < 18446744073709551616 from fun x hx => by rw [List.mem_singleton] at hx; subst hx; exact ⟨h0, h1⟩)
  obtain ⟨D, hD⟩ : ∃ D, D = Lend.strOf (encN n 8) := ⟨_, rfl⟩
  rw [← hD] at HW ⊢
  clear hD
  go_enter Try.func72, Try.ntmps72
  go_wp2_with fail
  refine (numW_any _).mono ?_
  rintro e w1 ⟨b, rfl, hrow, hb1⟩
  have HR := Lib.hid (hrow.below (below_new w1 (.cells #[.int .u64 n] 47)) (Nat.le_refl _))
  have HB1 := Lib.hid (below_nw hb1 (.cells #[.int .u64 n] 47))
  have HR1 := Lib.hid (row_one .u64 w1 n 47 _ rfl)
  clear hrow hb1
  go_wp2_with fail
  refine (write_any _ _ 1 1 1 1 [8] [n] _ HR.out HR1.out (by decide) (by decide) HN.out).mono ?_
  rintro e w2 ⟨rfl, hb2⟩
  rw [HW.out.1, HW.out.2]
  have HB2 := Lib.hid (below_on HB1.out hb2)
  clear hb2
  go_wp2_with fail
  go_ret
  exact ⟨rfl, HB2.out⟩
set_option maxRecDepth 100000 in
set_option maxHeartbeats 4000000 in
theorem number_any (l : List UInt8) (w : World) (hs : l.length ≤ 9223372036854775807) : Calls Try.prog 71 #[.string (Lend.strOf l)] w fun e w' => e = .returned (.tuple #[.int .u64 (numN l), .bool (numB l)]) ∧ Below w.heap.size w w' := by
  have HSZ := Lib.hid (show (Lend.strOf l).size ≤ 9223372036854775807 by rw [ssize]; exact hs)
  by_cases h : 8 ≤ l.length
  · have hr := rd_ok (ws := [8]) (l := l) rfl (by show (8 : Int) ≤ _; omega)
    have HR := Lib.hid (show rdB [8] l = true ∧ rdN [8] l = [(getL (l.take 8) : Int)] ∧ rdS [8] l = l.drop 8 from ⟨hr.1, by rw [hr.2.1]; simp [rdL], by rw [hr.2.2]; simp [sumW]⟩)
    by_cases h8 : l.length = 8
    · have HN := Lib.hid (show numB l = true ∧ numN l = (getL (l.take 8) : Int) ∧ Lend.strOf (l.drop 8) = ⟨#[]⟩ from ⟨by simp [numB, h8], by rw [numN, if_pos h8, List.take_of_length_le (by omega)], by rw [List.drop_of_length_le (by omega)]; rfl⟩)
      obtain ⟨d, hd⟩ : ∃ x, x = numN l := ⟨_, rfl⟩
      rw [← hd, HN.out.1]
      rw [← HN.out.2.1, ← hd] at HR
      clear hr hd h h8 hs
      go_enter Try.func71, Try.ntmps71
      go_wp2_with fail
      refine (numW_any _).mono ?_
      rintro e w1 ⟨b, rfl, hrow, hb1⟩
      have HROW := Lib.hid hrow
      have HB1 := Lib.hid hb1
      clear hrow hb1
      go_wp2_with fail
      refine (read_any_z _ 1 1 [8] _ _ HROW.out (by decide) HSZ.out).mono ?_
      rintro e w2 ⟨bo, n, cap, rfl, hown, hb2⟩
      have HB2 := Lib.hid (below_on HB1.out hb2)
      have hr := Row.own hown
      rw [Lend.strOf_data, HR.out.2.1] at hr
      obtain rfl : 1 = n := hr.len_eq
      rw [Lend.strOf_data, HR.out.1, HR.out.2.2, HN.out.2.2]
      obtain ⟨g, off, rfl, hc⟩ := hr.at_ (by decide)
      have c0 : w2.cell? ⟨g, off, none⟩ = some (.int .u64 d) := hc 0 (by decide)
      clear hown hr hc hb2
      go_wp2_with fail
      go_ret2
      exact ⟨rfl, HB2.out⟩
    · have HN := Lib.hid (show numB l = false ∧ numN l = 0 from ⟨by simp [numB, h8], by rw [numN, if_neg h8]⟩)
      have hne : ¬ (Lend.strOf (l.drop 8)).toList = [] := str_ne (by intro e; have := congrArg List.length e; simp at this; omega)
      have hie : (Lend.strOf (l.drop 8)).toList.isEmpty = false := by rw [List.isEmpty_eq_false_iff]; exact hne
      obtain ⟨T, hT⟩ : ∃ x, x = Lend.strOf (l.drop 8) := ⟨_, rfl⟩
      have HT := Lib.hid hT
      rw [← hT] at hne hie
      rw [HN.out.1, HN.out.2]
      clear hr h h8 hs hT
      go_enter Try.func71, Try.ntmps71
      go_wp2_with fail
      refine (numW_any _).mono ?_
      rintro e w1 ⟨b, rfl, hrow, hb1⟩
      have HROW := Lib.hid hrow
      have HB1 := Lib.hid hb1
      clear hrow hb1
      go_wp2_with fail
      refine (read_any_z _ 1 1 [8] _ _ HROW.out (by decide) HSZ.out).mono ?_
      rintro e w2 ⟨bo, n, cap, rfl, hown, hb2⟩
      have HB2 := Lib.hid (below_on HB1.out hb2)
      rw [Lend.strOf_data, HR.out.1, HR.out.2.2, ← HT.out]
      clear hown hb2
      go_wp2_with fail
      go_ret2
      exact ⟨rfl, HB2.out⟩
  · have hr := rd_no (ws := [8]) (l := l) (.inr (by show ¬ (8 : Int) ≤ _; omega))
    have HR := Lib.hid hr
    have HN := Lib.hid (show numB l = false ∧ numN l = 0 from ⟨by simp [numB]; omega, by rw [numN, if_neg (by omega)]⟩)
    rw [HN.out.1, HN.out.2]
    clear hr h hs
    go_enter Try.func71, Try.ntmps71
    go_wp2_with fail
    refine (numW_any _).mono ?_
    rintro e w1 ⟨b, rfl, hrow, hb1⟩
    have HROW := Lib.hid hrow
    have HB1 := Lib.hid hb1
    clear hrow hb1
    go_wp2_with fail
    refine (read_any_z _ 1 1 [8] _ _ HROW.out (by decide) HSZ.out).mono ?_
    rintro e w2 ⟨bo, n, cap, rfl, hown, hb2⟩
    have HB2 := Lib.hid (below_on HB1.out hb2)
    rw [Lend.strOf_data, HR.out.1, HR.out.2.2]
    clear hown hb2
    go_wp2_with fail
    go_ret2
    exact ⟨rfl, HB2.out⟩
end Go.Proofs.Ytfclecbhfamomaa.Msg
