/- Layer 14 (msg): On, All. -/
import Derived.Test.YtfmbjepjmjcgeaaMsgA
namespace Go.Proofs.Ytfmbjepjmjcgeaa.Msg
open Go Go.RowKit Go.Proofs.Ytfmbjepjmjcgeaa Go.Proofs.Ytfmbjepjmjcgeaa.Lend Go.Proofs.Ytfmbjepjmjcgeaa.Rec
set_option linter.unusedVariables false

/-- an update as a value -/
def agU (u : Up) : Value := .agg #[.int .u8 u.kind, .string (Lend.strOf u.key), .string (Lend.strOf u.val), .int .u64 u.delta]
/-- a value, and whether it is there, as an answer -/
def rtS (s : Sv) : Ending := .returned (.tuple #[.string (Lend.strOf s.1), .bool s.2])
theorem rtS_of {s : Sv} {a : ByteArray} {b : Bool} (h : Lend.strOf s.1 = a) (h' : s.2 = b) : Ending.returned (.tuple #[.string a, .bool b]) = rtS s := by rw [← h, ← h']; rfl
theorem stays_any (s : Sv) (w : World) : Calls Try.prog 50 #[.string (Lend.strOf s.1), .bool s.2] w fun e w' => e = rtS (stU s) ∧ w = w' := by
  obtain ⟨l, b⟩ := s
  cases b
  · have H := Lib.hid (show Lend.strOf (stU (l, false)).1 = ⟨#[]⟩ ∧ (stU (l, false)).2 = false from ⟨rfl, rfl⟩)
    simp only
    generalize Lend.strOf l = T
    go_enter Try.func50, Try.ntmps50
    go_wp2_with fail
    go_ret2
    exact ⟨rtS_of H.out.1 H.out.2, rfl⟩
  · have H := Lib.hid (show Lend.strOf (stU (l, true)).1 = Lend.strOf l ∧ (stU (l, true)).2 = true from ⟨rfl, rfl⟩)
    simp only
    generalize Lend.strOf l = T at *
    go_enter Try.func50, Try.ntmps50
    go_wp2_with fail
    go_ret2
    exact ⟨rtS_of H.out.1 H.out.2, rfl⟩
theorem u64_add (a b : Int) : IntKind.u64.wrap (a + b) = addN a b := by rw [wrap_u64]; rfl
set_option maxRecDepth 100000 in
set_option maxHeartbeats 4000000 in
theorem added_any (s : Sv) (d : Int) (w : World) (hs : s.1.length ≤ 9223372036854775807) (h0 : 0 ≤ d) (h1 : d < 18446744073709551616) :
    Calls Try.prog 49 #[.string (Lend.strOf s.1), .bool s.2, .int .u64 d] w fun e w' => e = .returned (.string (Lend.strOf (adV s d))) ∧ Below w.heap.size w w' := by
  obtain ⟨l, b⟩ := s
  have HNU := Lib.hid (fun W => number_any l W hs)
  cases b
  · have H := Lib.hid (show Lend.strOf (encN d 8) = Lend.strOf (adV (l, false) d) from rfl)
    rw [← H.out]
    have HV := Lib.hid (fun W => value_any d W h0 h1)
    simp only
    generalize Lend.strOf l = T at *
    generalize Lend.strOf (encN d 8) = E at *
    clear hs h0 h1
    go_enter Try.func49, Try.ntmps49
    go_wp2_with fail
    refine (HV.out _).mono ?_
    rintro e w1 ⟨rfl, hb1⟩
    go_wp2_with fail
    go_ret
    exact ⟨rfl, hb1⟩
  · by_cases h8 : l.length = 8
    · have H := Lib.hid (show Lend.strOf (encN (addN (numN l) d) 8) = Lend.strOf (adV (l, true) d) by unfold adV; rw [if_pos (by rfl), if_pos h8])
      rw [← H.out]
      have HV := Lib.hid (fun W => value_any (addN (numN l) d) W (addN_bd _ _).1 (addN_bd _ _).2)
      have HW := Lib.hid (u64_add (numN l) d)
      have HB := Lib.hid (show numB l = true by simp [numB, h8])
      simp only
      generalize Lend.strOf l = T at *
      generalize Lend.strOf (encN (addN (numN l) d) 8) = E at *
      generalize addN (numN l) d = n at *
      rw [HB.out] at HNU
      generalize numN l = k at *
      clear hs h0 h1 h8 H HB
      go_enter Try.func49, Try.ntmps49
      go_wp2_with fail
      refine (HNU.out _).mono ?_
      rintro e w1 ⟨rfl, hb1⟩
      have HB1 := Lib.hid hb1
      clear hb1
      go_wp2_with fail
      rw [HW.out]
      refine (HV.out _).mono ?_
      rintro e w2 ⟨rfl, hb2⟩
      have HB2 := Lib.hid (below_on HB1.out hb2)
      clear hb2
      go_wp2_with fail
      go_ret
      exact ⟨rfl, HB2.out⟩
    · have H := Lib.hid (show Lend.strOf l = Lend.strOf (adV (l, true) d) by unfold adV; rw [if_pos (by rfl), if_neg h8])
      rw [← H.out]
      have HB := Lib.hid (show numB l = false by simp [numB, h8])
      simp only
      generalize Lend.strOf l = T at *
      rw [HB.out] at HNU
      generalize numN l = k at *
      clear hs h0 h1 h8 H HB
      go_enter Try.func49, Try.ntmps49
      go_wp2_with fail
      refine (HNU.out _).mono ?_
      rintro e w1 ⟨rfl, hb1⟩
      have HB1 := Lib.hid hb1
      clear hb1
      go_wp2_with fail
      go_ret
      exact ⟨rfl, HB1.out⟩
set_option maxRecDepth 100000 in
set_option maxHeartbeats 4000000 in
theorem on_any (s : Sv) (u : Up) (w : World) (hs : s.1.length ≤ 9223372036854775807) (hu : WfU u) :
    Calls Try.prog 30 #[.string (Lend.strOf s.1), .bool s.2, agU u] w fun e w' => e = rtS (onU s u) ∧ Below w.heap.size w w' := by
  obtain ⟨hk0, hk1, hd0, hd1⟩ := hu
  have HAD := Lib.hid (fun W => added_any s u.delta W hs hd0 hd1)
  have HST := Lib.hid (fun W => stays_any s W)
  unfold agU
  have ec : u.kind = 1 ∨ u.kind = 2 ∨ u.kind = 3 ∨ (¬ u.kind = 1 ∧ ¬ u.kind = 2 ∧ ¬ u.kind = 3) := by omega
  rcases ec with h | h | h | ⟨h1, h2, h3⟩
  · have H := Lib.hid (on_put s h)
    rw [H.out, h]
    obtain ⟨l, b⟩ := s
    simp only
    have HE := Lib.hid (rtS_of (s := (u.val, true)) (a := Lend.strOf u.val) (b := true) rfl rfl)
    rw [← HE.out]
    generalize Lend.strOf u.val = V at *
    generalize Lend.strOf u.key = K at *
    generalize Lend.strOf l = T at *
    generalize u.delta = D at *
    clear hs HAD HST H hk0 hk1 h HE
    go_enter Try.func30, Try.ntmps30
    go_wp2_with fail
    go_ret2
    exact ⟨rfl, below_new _ _⟩
  · have H := Lib.hid (on_del s h)
    rw [H.out, h]
    obtain ⟨l, b⟩ := s
    simp only
    have HE := Lib.hid (rtS_of (s := ([], false)) (a := ⟨#[]⟩) (b := false) rfl rfl)
    rw [← HE.out]
    generalize Lend.strOf u.val = V at *
    generalize Lend.strOf u.key = K at *
    generalize Lend.strOf l = T at *
    generalize u.delta = D at *
    clear hs HAD HST H hk0 hk1 h HE
    go_enter Try.func30, Try.ntmps30
    go_wp2_with fail
    go_ret2
    exact ⟨rfl, below_new _ _⟩
  · have H := Lib.hid (on_add s h)
    rw [H.out, h]
    have HE := Lib.hid (rtS_of (s := (adV s u.delta, true)) (a := Lend.strOf (adV s u.delta)) (b := true) rfl rfl)
    rw [← HE.out]
    obtain ⟨l, b⟩ := s
    simp only at *
    generalize Lend.strOf (adV (l, b) u.delta) = E at *
    generalize Lend.strOf u.val = V at *
    generalize Lend.strOf u.key = K at *
    generalize Lend.strOf l = T at *
    generalize u.delta = D at *
    clear hs HST H hk0 hk1 h HE
    go_enter Try.func30, Try.ntmps30
    go_wp2_with fail
    refine (HAD.out _).mono ?_
    rintro e w1 ⟨rfl, hb1⟩
    have HB1 := Lib.hid (below_on (below_new w _) hb1)
    clear hb1
    go_wp2_with fail
    go_ret2
    exact ⟨rfl, HB1.out⟩
  · have H := Lib.hid (on_oth s h1 h2 h3)
    rw [H.out]
    obtain ⟨l, b⟩ := s
    unfold rtS at *
    simp only at *
    generalize Lend.strOf (stU (l, b)).1 = E at *
    generalize (stU (l, b)).2 = E2 at *
    generalize Lend.strOf u.val = V at *
    generalize Lend.strOf u.key = K at *
    generalize Lend.strOf l = T at *
    generalize u.delta = D at *
    generalize u.kind = kd at *
    clear hs HAD H
    go_enter Try.func30, Try.ntmps30
    go_wp2_with fail
    refine (HST.out _).mono ?_
    rintro e w1 ⟨rfl, rfl⟩
    go_wp2_with fail
    go_ret2
    exact ⟨rfl, below_new _ _⟩
end Go.Proofs.Ytfmbjepjmjcgeaa.Msg
