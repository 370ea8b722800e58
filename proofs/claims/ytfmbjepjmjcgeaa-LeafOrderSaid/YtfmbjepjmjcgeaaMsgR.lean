/- Layer 14 (msg): the document's own answers: On, Join. -/
import Derived.Test.YtfmbjepjmjcgeaaMsgE
namespace Go.Proofs.Ytfmbjepjmjcgeaa.Msg
open Go Go.RowKit Go.Proofs.Ytfmbjepjmjcgeaa Go.Proofs.Ytfmbjepjmjcgeaa.Lend Go.Proofs.Ytfmbjepjmjcgeaa.Rec
set_option linter.unusedVariables false

theorem put8 {n : Int} (h0 : 0 ≤ n) (h1 : n < 18446744073709551616) (w : World) : Calls Try.prog 52 #[.int .u64 n, .int .i64 8] w fun e w' => e = .returned (.tuple #[.string (Lend.strOf (encN n 8)), .bool true]) ∧ Below w.heap.size w w' := by
  have h := put_ok (n := n) (x := 8) (by decide) (by decide)
  have hr := refput_any n 8 w h0 h1
  rw [h.1, h.2, fitsB_8 n h1] at hr
  exact hr
theorem get8 (l : List UInt8) (w : World) (hs : l.length = 8) : Calls Try.prog 51 #[.string (Lend.strOf l)] w fun e w' => e = .returned (.int .u64 (numN l)) ∧ w = w' := by
  have hr := refget_any (Lend.strOf l) w (by rw [ssize]; omega)
  rw [Lend.strOf_data] at hr
  unfold numN
  rw [if_pos hs]
  exact hr
set_option maxRecDepth 100000 in
set_option maxHeartbeats 8000000 in
theorem refon_any (s : Sv) (u : Up) (w : World) (hs : s.1.length ≤ 9223372036854775807) (hu : WfU u) :
    Calls Try.prog 33 #[.string (Lend.strOf s.1), .bool s.2, agU u] w fun e w' => e = rtS (onU s u) ∧ Below w.heap.size w w' := by
  obtain ⟨hk0, hk1, hd0, hd1⟩ := hu
  have HSZ := Lib.hid (show (Lend.strOf s.1).size ≤ 9223372036854775807 by rw [ssize]; exact hs)
  unfold agU
  have ec : u.kind = 1 ∨ u.kind = 2 ∨ u.kind = 3 ∨ (¬ u.kind = 1 ∧ ¬ u.kind = 2 ∧ ¬ u.kind = 3) := by omega
  rcases ec with h | h | h | ⟨h1, h2, h3⟩
  · have H := Lib.hid (on_put s h)
    rw [H.out, h]
    obtain ⟨l, b⟩ := s
    simp only
    have HE := Lib.hid (rtS_of (s := (u.val, true)) (a := Lend.strOf u.val) (b := true) rfl rfl)
    rw [← HE.out]
    generalize Lend.strOf u.val = V at *
    generalize Lend.strOf u.key = K at *
    generalize Lend.strOf l = T at *
    generalize u.delta = D at *
    clear hs HSZ H hk0 hk1 h HE
    go_enter Try.func33, Try.ntmps33
    go_wp2_with fail
    go_ret2
    exact ⟨rfl, below_new _ _⟩
  · have H := Lib.hid (on_del s h)
    rw [H.out, h]
    obtain ⟨l, b⟩ := s
    simp only
    have HE := Lib.hid (rtS_of (s := ([], false)) (a := ⟨#[]⟩) (b := false) rfl rfl)
    rw [← HE.out]
    generalize Lend.strOf u.val = V at *
    generalize Lend.strOf u.key = K at *
    generalize Lend.strOf l = T at *
    generalize u.delta = D at *
    clear hs HSZ H hk0 hk1 h HE
    go_enter Try.func33, Try.ntmps33
    go_wp2_with fail
    go_ret2
    exact ⟨rfl, below_new _ _⟩
  · have H := Lib.hid (on_add s h)
    rw [H.out, h]
    obtain ⟨l, b⟩ := s
    cases b
    · have HE := Lib.hid (rtS_of (s := (adV (l, false) u.delta, true)) (a := Lend.strOf (encN u.delta 8)) (b := true) rfl rfl)
      rw [← HE.out]
      have HP := Lib.hid (fun W => put8 hd0 hd1 W)
      have HG := Lib.hid (fun W => refget_any ⟨#[]⟩ W (by decide))
      have HWR := Lib.hid (show IntKind.u64.wrap (((getL (⟨#[]⟩ : ByteArray).data.toList : Nat) : Int) + u.delta) = u.delta by
        rw [wrap_u64]
        show ((0 : Int) + u.delta) % 18446744073709551616 = u.delta
        omega)
      simp only
      generalize ((getL (⟨#[]⟩ : ByteArray).data.toList : Nat) : Int) = z at *
      generalize Lend.strOf (encN u.delta 8) = E at *
      generalize Lend.strOf u.val = V at *
      generalize Lend.strOf u.key = K at *
      generalize Lend.strOf l = T at *
      generalize u.delta = D at *
      clear hs HSZ H hk0 hk1 h HE
      go_enter Try.func33, Try.ntmps33
      go_wp2_with fail
      refine (HG.out _).mono ?_
      rintro e w1 ⟨rfl, rfl⟩
      go_wp2_with fail
      rw [HWR.out]
      refine (HP.out _).mono ?_
      rintro e w2 ⟨rfl, hb2⟩
      have HB2 := Lib.hid (below_on (below_new w _) hb2)
      clear hb2
      go_wp2_with fail
      go_ret2
      exact ⟨rfl, HB2.out⟩
    · by_cases h8 : l.length = 8
      · have HE := Lib.hid (rtS_of (s := (adV (l, true) u.delta, true)) (a := Lend.strOf (encN (addN (numN l) u.delta) 8)) (b := true) (by unfold adV; rw [if_pos (by rfl), if_pos h8]) rfl)
        rw [← HE.out]
        have HP := Lib.hid (fun W => put8 (addN_bd (numN l) u.delta).1 (addN_bd (numN l) u.delta).2 W)
        have HG := Lib.hid (fun W => get8 l W h8)
        have HWR := Lib.hid (u64_add (numN l) u.delta)
        have hsz : (Lend.strOf l).size = 8 := by rw [ssize]; exact h8
        simp only
        generalize Lend.strOf (encN (addN (numN l) u.delta) 8) = E at *
        generalize addN (numN l) u.delta = n at *
        generalize numN l = z at *
        generalize Lend.strOf u.val = V at *
        generalize Lend.strOf u.key = K at *
        generalize Lend.strOf l = T at *
        generalize u.delta = D at *
        clear hs HSZ H hk0 hk1 h h8 HE
        go_enter Try.func33, Try.ntmps33
        go_wp2_with fail
        refine (HG.out _).mono ?_
        rintro e w1 ⟨rfl, rfl⟩
        go_wp2_with fail
        rw [HWR.out]
        refine (HP.out _).mono ?_
        rintro e w2 ⟨rfl, hb2⟩
        have HB2 := Lib.hid (below_on (below_new w _) hb2)
        clear hb2
        go_wp2_with fail
        go_ret2
        exact ⟨rfl, HB2.out⟩
      · have HE := Lib.hid (rtS_of (s := (adV (l, true) u.delta, true)) (a := Lend.strOf l) (b := true) (by unfold adV; rw [if_pos (by rfl), if_neg h8]) rfl)
        rw [← HE.out]
        have hsz : ¬ ((Lend.strOf l).size : Int) = 8 := by rw [ssize]; omega
        have hsz' := HSZ.out
        simp only at hsz' ⊢
        generalize Lend.strOf u.val = V at *
        generalize Lend.strOf u.key = K at *
        generalize Lend.strOf l = T at *
        generalize u.delta = D at *
        clear hs HSZ H hk0 hk1 h h8 HE
        go_enter Try.func33, Try.ntmps33
        go_wp2_with fail
        go_ret2
        exact ⟨rfl, below_new _ _⟩
  · have H := Lib.hid (on_oth s h1 h2 h3)
    rw [H.out]
    obtain ⟨l, b⟩ := s
    cases b
    · have HE := Lib.hid (rtS_of (s := stU (l, false)) (a := ⟨#[]⟩) (b := false) rfl rfl)
      rw [← HE.out]
      simp only
      generalize Lend.strOf u.val = V at *
      generalize Lend.strOf u.key = K at *
      generalize Lend.strOf l = T at *
      generalize u.delta = D at *
      generalize u.kind = kd at *
      clear hs HSZ H HE
      go_enter Try.func33, Try.ntmps33
      go_wp2_with fail
      go_ret2
      exact ⟨rfl, below_new _ _⟩
    · have HE := Lib.hid (rtS_of (s := stU (l, true)) (a := Lend.strOf l) (b := true) rfl rfl)
      rw [← HE.out]
      have hsz' := HSZ.out
      simp only at hsz' ⊢
      generalize Lend.strOf u.val = V at *
      generalize Lend.strOf u.key = K at *
      generalize Lend.strOf l = T at *
      generalize u.delta = D at *
      generalize u.kind = kd at *
      clear hs HSZ H HE
      go_enter Try.func33, Try.ntmps33
      go_wp2_with fail
      go_ret2
      exact ⟨rfl, below_new _ _⟩
end Go.Proofs.Ytfmbjepjmjcgeaa.Msg
