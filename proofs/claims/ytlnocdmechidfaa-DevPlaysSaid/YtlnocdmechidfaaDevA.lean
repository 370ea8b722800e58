/- Contracts of layer 3 (dev): the small functions. -/
import Derived.WalkKit
import Derived.WalkLawsBesides
import Derived.WalkSpells
import Derived.Lib.Hide
import Derived.Outline
import Derived.OpenShut
import Derived.Deep.QuietTactic
import Derived.BigQuiet
import Derived.StillTailTactics
import Derived.Test.YtlnocdmechidfaaRows
import Derived.Test.YtlnocdmechidfaaDevMath
namespace Go.Proofs.Ytlnocdmechidfaa.Dev
open Go.RowKit Go.Proofs.Ytlnocdmechidfaa
set_option linter.unusedVariables false

theorem strikes_no (b o : Nat) (w : World) (hc : w.cell? ⟨b, o, none⟩ = some (.int .i64 0)) :
    Calls Try.prog 53 #[.pointer (some ⟨b, o, none⟩)] w fun e w' => e = .returned (.bool false) ∧ w = w' := by
  go_enter Try.func53, Try.ntmps53
  go_wp2
  go_ret
  exact ⟨rfl, rfl⟩
theorem strikes_yes (b o n : Nat) (w : World) (hc : w.cell? ⟨b, o, none⟩ = some (.int .i64 (n + 1 : Nat))) (hf : w.frozen? ⟨b, o, none⟩ = false) (hn : n < 9223372036854775807) :
    Calls Try.prog 53 #[.pointer (some ⟨b, o, none⟩)] w fun e w' => e = .returned (.bool ((n : Int) == 0)) ∧ w' = w.setCell ⟨b, o, none⟩ (.int .i64 n) := by
  have h0 : (((n + 1 : Nat) : Int) == 0) = false := by simp; omega
  go_enter Try.func53, Try.ntmps53
  go_wp2
  go_ret
  exact ⟨rfl, rfl⟩
theorem strikes_any (b o n : Nat) (w : World) (hc : w.cell? ⟨b, o, none⟩ = some (.int .i64 n)) (hf : w.frozen? ⟨b, o, none⟩ = false) (hn : n ≤ 9223372036854775807) :
    Calls Try.prog 53 #[.pointer (some ⟨b, o, none⟩)] w fun e w' => e = .returned (.bool (stk n)) ∧ w' = w.setCell ⟨b, o, none⟩ (.int .i64 ((n - 1 : Nat) : Int)) := by
  match n, hc, hn with
  | 0, hc, _ => exact (strikes_no b o w hc).mono fun e w' ⟨he, hw⟩ => ⟨he, by rw [setCell_self (by simpa using hc)]; exact hw.symm⟩
  | n + 1, hc, hn =>
    refine (strikes_yes b o n w hc hf (by omega)).mono fun e w' ⟨he, hw⟩ => ⟨?_, hw⟩
    rw [he]; unfold stk
    cases n with
    | zero => rfl
    | succ n => congr 2
theorem set_any (b o : Nat) (n : Int) (m : Nat) (v : Value) (w : World) (hm : m = n.toNat) (hc : w.cell? ⟨b, o, none⟩ = some v) (hf : w.frozen? ⟨b, o, none⟩ = false) :
    Calls Try.prog 42 #[.pointer (some ⟨b, o, none⟩), .int .i64 n] w fun e w' => e = .returned (.tuple #[]) ∧ w' = w.setCell ⟨b, o, none⟩ (.int .i64 (m : Int)) := by
  have HM := Lib.hid hm
  clear hm
  go_enter Try.func42, Try.ntmps42
  go_wp2
  all_goals
    go_end0
    refine ⟨rfl, ?_⟩
    have hm := HM.out
    congr 2
    omega
theorem has_any {p sb : Nat} {cv : Value} {D : Dv} (i : Int) (w : World) (h : DevAt w p sb cv D) :
    Calls Try.prog 31 #[.pointer (some ⟨p, 0, none⟩), .int .i64 i] w fun e w' => e = .returned (.bool (hasB D i)) ∧ w = w' := by
  have h2 := h.c2
  have hn := h.ok.n4096
  have HB := Lib.hid (show hasB D i = decide (0 ≤ i ∧ i < D.n) from rfl)
  clear h
  go_enter Try.func31, Try.ntmps31
  go_wp2
  all_goals
    go_ret
    refine ⟨?_, rfl⟩
    rw [HB.out]
    congr 2
    simp
    omega
theorem has_nil (i : Int) (w : World) :
    Calls Try.prog 31 #[.pointer none, .int .i64 i] w fun e w' => e = .returned (.bool false) ∧ w = w' := by
  go_enter Try.func31, Try.ntmps31
  go_wp2
  all_goals
    go_ret
    exact ⟨rfl, rfl⟩
theorem refusal_any {p sb : Nat} {cv : Value} {D : Dv} (w : World) (h : DevAt w p sb cv D) :
    Calls Try.prog 30 #[.pointer (some ⟨p, 0, none⟩)] w fun e w' => e = .returned (.int .i64 (refuse D)) ∧ w = w' := by
  have h4 := h.c4
  have h5 := h.c5
  unfold refuse
  clear h
  generalize D.off = o at *
  generalize D.dead = d at *
  cases o <;> cases d
  all_goals
    go_enter Try.func30, Try.ntmps30
    go_wp2
    go_ret
    exact ⟨rfl, rfl⟩
theorem refusal_nil (w : World) :
    Calls Try.prog 30 #[.pointer none] w fun e w' => e = .returned (.int .i64 1) ∧ w = w' := by
  go_enter Try.func30, Try.ntmps30
  go_wp2
  go_ret
  exact ⟨rfl, rfl⟩
theorem dead_any {p sb : Nat} {cv : Value} {D : Dv} (w : World) (h : DevAt w p sb cv D) :
    Calls Try.prog 46 #[.pointer (some ⟨p, 0, none⟩)] w fun e w' => e = .returned (.bool D.dead) ∧ w = w' := by
  have h4 := h.c4
  clear h
  go_enter Try.func46, Try.ntmps46
  go_wp2
  go_ret
  exact ⟨rfl, rfl⟩
theorem dead_nil (w : World) :
    Calls Try.prog 46 #[.pointer none] w fun e w' => e = .returned (.bool false) ∧ w = w' := by
  go_enter Try.func46, Try.ntmps46
  go_wp2
  go_ret
  exact ⟨rfl, rfl⟩
theorem off_any {p sb : Nat} {cv : Value} {D : Dv} (w : World) (h : DevAt w p sb cv D) :
    Calls Try.prog 45 #[.pointer (some ⟨p, 0, none⟩)] w fun e w' => e = .returned (.bool D.off) ∧ w = w' := by
  have h4 := h.c5
  clear h
  go_enter Try.func45, Try.ntmps45
  go_wp2
  go_ret
  exact ⟨rfl, rfl⟩
theorem off_nil (w : World) :
    Calls Try.prog 45 #[.pointer none] w fun e w' => e = .returned (.bool false) ∧ w = w' := by
  go_enter Try.func45, Try.ntmps45
  go_wp2
  go_ret
  exact ⟨rfl, rfl⟩
theorem count_any {p sb : Nat} {cv : Value} {D : Dv} (w : World) (h : DevAt w p sb cv D) :
    Calls Try.prog 44 #[.pointer (some ⟨p, 0, none⟩)] w fun e w' => e = .returned (.tuple #[.int .i64 D.nr, .int .i64 D.nw, .int .i64 D.nf]) ∧ ∃ n, w' = w.drewN n := by
  have h10 := h.c10
  have h11 := h.c11
  have h12 := h.c12
  clear h
  go_enter Try.func44, Try.ntmps44
  go_wp2
  go_quiet (fail)
  go_wp2
  go_ret3
  exact ⟨rfl, _, rfl⟩
theorem count_nil (w : World) :
    Calls Try.prog 44 #[.pointer none] w fun e w' => e = .returned (.tuple #[.int .i64 0, .int .i64 0, .int .i64 0]) ∧ w = w' := by
  go_enter Try.func44, Try.ntmps44
  go_wp2
  go_ret3
  exact ⟨rfl, rfl⟩
theorem media_any {p sb : Nat} {cv : Value} {D : Dv} (i : Int) (w : World) (h : DevAt w p sb cv D) :
    Calls Try.prog 26 #[.pointer (some ⟨p, 0, none⟩), .int .i64 i] w fun e w' => e = .returned (.string (mediaN D i)) ∧ w = w' := by
  unfold mediaN
  cases hb : hasB D i with
  | false =>
    have HB := Lib.hid hb
    clear hb
    go_enter Try.func26, Try.ntmps26
    go_wp2_with fail
    refine (has_any i _ h).mono ?_
    rintro e w' ⟨rfl, rfl⟩
    rw [HB.out]
    go_wp2
    go_ret
    exact ⟨rfl, rfl⟩
  | true =>
    have HB := Lib.hid hb
    have hi : 0 ≤ i ∧ i < D.n := by unfold hasB at hb; simpa using hb
    obtain ⟨k, rfl⟩ := Int.eq_ofNat_of_zero_le hi.1
    have hk : k < D.n := by omega
    have h2 := h.c2
    have hm := h.media k hk
    have HM := Lib.hid (show ((D.secs[(k : Int).toNat]?).map (·.1)).getD ⟨#[]⟩ = (D.secs[k]'hk).1 by rw [Int.toNat_natCast, List.getElem?_eq_getElem hk]; rfl)
    have hn := h.ok.n4096
    clear hb hi
    go_enter Try.func26, Try.ntmps26
    go_wp2_with fail
    refine (has_any k _ h).mono ?_
    rintro e w' ⟨rfl, rfl⟩
    rw [HB.out]
    clear h
    go_wp2
    go_ret
    refine ⟨?_, rfl⟩
    rw [← HM.out]; rfl
theorem media_nil (i : Int) (w : World) :
    Calls Try.prog 26 #[.pointer none, .int .i64 i] w fun e w' => e = .returned (.string ⟨#[]⟩) ∧ w = w' := by
  go_enter Try.func26, Try.ntmps26
  go_wp2_with fail
  refine (has_nil i _).mono ?_
  rintro e w' ⟨rfl, rfl⟩
  go_wp2
  go_ret
  exact ⟨rfl, rfl⟩
theorem kept_any (f : Int) (size : Nat) (w : World) (h1 : 1 ≤ size) (h2 : size ≤ 1024) (hf : f ≤ 9223372036854775807) :
    Calls Try.prog 43 #[.int .i64 f, .int .i64 size] w fun e w' => e = .returned (.int .i64 (keptN f size)) ∧ w = w' := by
  have HK := Lib.hid (show keptN f size = if f = 1 then size else if 2 ≤ f then min (f - 2).toNat (size - 1) else 0 from rfl)
  by_cases ha : f = 1
  · subst ha
    go_enter Try.func43, Try.ntmps43
    go_wp2
    go_ret
    exact ⟨by rw [HK.out]; rfl, rfl⟩
  · have hb : (f == 1) = false := by simp [ha]
    by_cases hc : 2 ≤ f
    · have HA := Lib.hid ha
      clear ha
      go_enter Try.func43, Try.ntmps43
      go_wp2
      all_goals
        go_ret
        refine ⟨ret_k ?_, rfl⟩
        rw [HK.out, if_neg HA.out, if_pos hc]
        omega
    · have HA := Lib.hid ha
      clear ha
      go_enter Try.func43, Try.ntmps43
      go_wp2
      go_ret
      refine ⟨?_, rfl⟩
      rw [HK.out, if_neg HA.out, if_neg (by omega)]; rfl
theorem right_any (n s : Int) (w : World) :
    Calls Try.prog 27 #[.agg #[.int .i64 n, .int .i64 s]] w fun e w' => e = .returned (.bool (shapeR n s)) ∧ Below w.heap.size w w' := by
  have HK := Lib.hid (show shapeR n s = decide (8 ≤ n ∧ n ≤ 4096 ∧ 128 ≤ s ∧ s ≤ 1024 ∧ s % 64 = 0) from rfl)
  go_enter Try.func27, Try.ntmps27
  go_wp2
  all_goals
    go_ret
    refine ⟨ret_b ?_, (Below.refl _ _).alloc (Nat.le_refl _) _⟩
    rw [HK.out]
    rw [Bool.eq_iff_iff]
    simp
    try omega
theorem lose_any {p sb : Nat} {cv : Value} {D : Dv} (n : Int) (w : World) (h : DevAt w p sb cv D) (hn : n ≤ 9223372036854775807) :
    Calls Try.prog 18 #[.pointer (some ⟨p, 0, none⟩), .int .i64 n] w fun e w' => e = .returned (.tuple #[]) ∧ Chg (foot p sb cv) w w' ∧ DevAt w' p sb cv { D with lose := n.toNat } := by
  obtain ⟨m, hm⟩ : ∃ m, m = n.toNat := ⟨_, rfl⟩
  rw [← hm]
  have hset := h.set 7 (.int .i64 (m : Int)) { D with lose := m } rfl rfl rfl ⟨h.ok.n8, h.ok.n4096, h.ok.s128, h.ok.s1024, h.ok.media, h.ok.text, h.ok.sector, h.ok.fuse, (by simp only; omega), h.ok.stray⟩
  have HS := Lib.hid hset
  have hc := h.c7
  have hf := h.fz 7
  have HM := Lib.hid hm
  clear hset h hm
  go_enter Try.func18, Try.ntmps18
  go_wp2_with fail
  refine (set_any p 7 n m _ _ HM.out hc hf).mono ?_
  rintro e w' ⟨rfl, rfl⟩
  go_wp2
  go_end0
  exact ⟨rfl, (Chg.refl _ _).setCell (fun _ => .inl rfl) _, HS.out⟩
theorem lose_nil (n : Int) (w : World) :
    Calls Try.prog 18 #[.pointer none, .int .i64 n] w fun e w' => e = .returned (.tuple #[]) ∧ w = w' := by
  go_enter Try.func18, Try.ntmps18
  go_wp2
  go_end0
  exact ⟨rfl, rfl⟩
theorem fuse_any {p sb : Nat} {cv : Value} {D : Dv} (n : Int) (w : World) (h : DevAt w p sb cv D) (hn : n ≤ 9223372036854775807) :
    Calls Try.prog 20 #[.pointer (some ⟨p, 0, none⟩), .int .i64 n] w fun e w' => e = .returned (.tuple #[]) ∧ Chg (foot p sb cv) w w' ∧ DevAt w' p sb cv { D with fuse := n.toNat } := by
  obtain ⟨m, hm⟩ : ∃ m, m = n.toNat := ⟨_, rfl⟩
  rw [← hm]
  have hset := h.set 6 (.int .i64 (m : Int)) { D with fuse := m } rfl rfl rfl ⟨h.ok.n8, h.ok.n4096, h.ok.s128, h.ok.s1024, h.ok.media, h.ok.text, h.ok.sector, (by simp only; omega), h.ok.lose, h.ok.stray⟩
  have HS := Lib.hid hset
  have hc := h.c6
  have hf := h.fz 6
  have HM := Lib.hid hm
  clear hset h hm
  go_enter Try.func20, Try.ntmps20
  go_wp2_with fail
  refine (set_any p 6 n m _ _ HM.out hc hf).mono ?_
  rintro e w' ⟨rfl, rfl⟩
  go_wp2
  go_end0
  exact ⟨rfl, (Chg.refl _ _).setCell (fun _ => .inl rfl) _, HS.out⟩
theorem fuse_nil (n : Int) (w : World) :
    Calls Try.prog 20 #[.pointer none, .int .i64 n] w fun e w' => e = .returned (.tuple #[]) ∧ w = w' := by
  go_enter Try.func20, Try.ntmps20
  go_wp2
  go_end0
  exact ⟨rfl, rfl⟩
theorem stray_any {p sb : Nat} {cv : Value} {D : Dv} (n tgt : Int) (w : World) (h : DevAt w p sb cv D) (hn : n ≤ 9223372036854775807) :
    Calls Try.prog 19 #[.pointer (some ⟨p, 0, none⟩), .int .i64 n, .int .i64 tgt] w fun e w' => e = .returned (.tuple #[]) ∧ Chg (foot p sb cv) w w' ∧ DevAt w' p sb cv { D with stray := n.toNat, tgt := tgt } := by
  obtain ⟨m, hm⟩ : ∃ m, m = n.toNat := ⟨_, rfl⟩
  rw [← hm]
  have hs1 := h.set 8 (.int .i64 (m : Int)) { D with stray := m } rfl rfl rfl ⟨h.ok.n8, h.ok.n4096, h.ok.s128, h.ok.s1024, h.ok.media, h.ok.text, h.ok.sector, h.ok.fuse, h.ok.lose, (by simp only; omega)⟩
  have hs2 := hs1.set 9 (.int .i64 tgt) { D with stray := m, tgt := tgt } rfl rfl rfl ⟨h.ok.n8, h.ok.n4096, h.ok.s128, h.ok.s1024, h.ok.media, h.ok.text, h.ok.sector, h.ok.fuse, h.ok.lose, (by simp only; omega)⟩
  have HS := Lib.hid hs2
  have hc := h.c8
  have hf := h.fz 8
  have hc2 := hs1.c9
  have hf2 := hs1.fz 9
  have HM := Lib.hid hm
  clear hs1 hs2 h hm
  go_enter Try.func19, Try.ntmps19
  go_wp2_with fail
  refine (set_any p 8 n m _ _ HM.out hc hf).mono ?_
  rintro e w' ⟨rfl, rfl⟩
  go_wp2
  go_end0
  exact ⟨rfl, (((Chg.refl _ _).setCell (fun _ => .inl rfl) _).setCell (fun _ => .inl rfl) _), HS.out⟩
theorem stray_nil (n tgt : Int) (w : World) :
    Calls Try.prog 19 #[.pointer none, .int .i64 n, .int .i64 tgt] w fun e w' => e = .returned (.tuple #[]) ∧ w = w' := by
  go_enter Try.func19, Try.ntmps19
  go_wp2
  go_end0
  exact ⟨rfl, rfl⟩
theorem kill_any {p sb : Nat} {cv : Value} {D : Dv} (w : World) (h : DevAt w p sb cv D) :
    Calls Try.prog 24 #[.pointer (some ⟨p, 0, none⟩)] w fun e w' => e = .returned (.tuple #[]) ∧ Chg (foot p sb cv) w w' ∧ DevAt w' p sb cv { D with dead := true } := by
  have HS := Lib.hid (h.set 4 (.bool true) { D with dead := true } rfl rfl rfl ⟨h.ok.n8, h.ok.n4096, h.ok.s128, h.ok.s1024, h.ok.media, h.ok.text, h.ok.sector, h.ok.fuse, h.ok.lose, h.ok.stray⟩)
  have hc := h.c4
  have hf := h.fz 4
  clear h
  go_enter Try.func24, Try.ntmps24
  go_wp2
  go_end0
  exact ⟨rfl, (Chg.refl _ _).setCell (fun _ => .inl rfl) _, HS.out⟩
theorem kill_nil (w : World) :
    Calls Try.prog 24 #[.pointer none] w fun e w' => e = .returned (.tuple #[]) ∧ w = w' := by
  go_enter Try.func24, Try.ntmps24
  go_wp2
  go_end0
  exact ⟨rfl, rfl⟩
end Go.Proofs.Ytlnocdmechidfaa.Dev
