/- Layer 11 (cache): container/heap's up and down at the slots' row. -/
import Derived.Test.YtbdiadbaapfdgaaCaH
namespace Go.Proofs.Ytbdiadbaapfdgaa.Ca
open Go Go.RowKit Go.Proofs.Ytbdiadbaapfdgaa
set_option linter.unusedVariables false
section
variable {w : World} {p : Nat} {C : Hd} {v : Value} {H : List Sl}
abbrev hp (p : Nat) : Value := .iface 68 (.pointer (some ⟨p, 2, none⟩))
set_option maxRecDepth 100000 in
theorem m_less0 (w : World) (p : Nat) : (method 220 68 (.pointer (some ⟨p, 2, none⟩)) "Less").run Try.prog w = ((load ⟨p, 2, none⟩ >>= fun r => pure (66, r) : Sem (FuncId × Value))).run Try.prog w := by kernel_rfl
set_option maxRecDepth 100000 in
theorem m_len0 (w : World) (p : Nat) : (method 220 68 (.pointer (some ⟨p, 2, none⟩)) "Len").run Try.prog w = ((load ⟨p, 2, none⟩ >>= fun r => pure (65, r) : Sem (FuncId × Value))).run Try.prog w := by kernel_rfl
set_option maxRecDepth 100000 in
theorem m_swap0 (w : World) (p : Nat) : (method 220 68 (.pointer (some ⟨p, 2, none⟩)) "Swap").run Try.prog w = ((load ⟨p, 2, none⟩ >>= fun r => pure (67, r) : Sem (FuncId × Value))).run Try.prog w := by kernel_rfl
set_option maxRecDepth 100000 in
theorem m_push (w : World) (p : Nat) : (method 220 68 (.pointer (some ⟨p, 2, none⟩)) "Push").run Try.prog w = .ok (69, .pointer (some ⟨p, 2, none⟩)) w := by kernel_rfl
set_option maxRecDepth 100000 in
theorem m_pop (w : World) (p : Nat) : (method 220 68 (.pointer (some ⟨p, 2, none⟩)) "Pop").run Try.prog w = .ok (68, .pointer (some ⟨p, 2, none⟩)) w := by kernel_rfl
theorem m_less (h : w.cell? ⟨p, 2, none⟩ = some v) : (method 220 68 (.pointer (some ⟨p, 2, none⟩)) "Less").run Try.prog w = .ok (66, v) w := by
  rw [m_less0]; simp [h]
theorem m_len (h : w.cell? ⟨p, 2, none⟩ = some v) : (method 220 68 (.pointer (some ⟨p, 2, none⟩)) "Len").run Try.prog w = .ok (65, v) w := by
  rw [m_len0]; simp [h]
theorem m_swap (h : w.cell? ⟨p, 2, none⟩ = some v) : (method 220 68 (.pointer (some ⟨p, 2, none⟩)) "Swap").run Try.prog w = .ok (67, v) w := by
  rw [m_swap0]; simp [h]
theorem ft_perm {H1 : List Sl} (hp : H1.Perm H) {k : Nat} (h : ft v H1 k) : ft v H k := by
  rcases h with h | ⟨i, hi, rfl⟩
  · exact .inl h
  · obtain ⟨j, hj, e⟩ := mem_sg (hp.mem_iff.1 (sg_mem hi))
    exact .inr ⟨j, hj, by rw [e]⟩
/-- what up and down keep: the row H, in another order, from n on the same -/
structure Mv (w : World) (p : Nat) (C : Hd) (v : Value) (H : List Sl) (n : Nat) (H1 : List Sl) (wr : World) : Prop where
  hp : Hp wr p C v H1
  perm : H1.Perm H
  off : ∀ x, n ≤ x → sg H1 x = sg H x
  chg : Chg (ft v H) w wr
section
variable {n : Nat} {H1 : List Sl} {wr wr' : World}
theorem Mv.len (h : Mv w p C v H n H1 wr) : H1.length = H.length := h.perm.length_eq
theorem Mv.start (h : Hp w p C v H) : Mv w p C v H n H w := ⟨h, List.Perm.refl _, fun _ _ => rfl, Chg.refl _ w⟩
theorem Mv.drewN (h : Mv w p C v H n H1 wr) (k : Nat) : Mv w p C v H n H1 (wr.drewN k) := ⟨h.hp.drewN k, h.perm, h.off, h.chg.drewN k⟩
theorem Mv.swap (h : Mv w p C v H n H1 wr) {i j : Nat} (hi : i < n) (hj : j < n) (hn : n ≤ H.length) (h1 : Hp wr' p C v (swpL H1 i j)) (h2 : Chg (ft v H1) wr wr') : Mv w p C v H n (swpL H1 i j) wr' := by
  have hl := h.len
  refine ⟨h1, (swpL_perm (by omega) (by omega)).trans h.perm, fun x hx => ?_, h.chg.trans h2 fun k _ hk => ft_perm h.perm hk⟩
  rw [swpL_get (by omega) (by omega), if_neg (by omega), if_neg (by omega)]; exact h.off x hx
end
theorem quo2 (m : Nat) : Int.tdiv ((m : Int) - 1) 2 = ((m - 1) / 2 : Nat) := by
  rcases Nat.eq_zero_or_pos m with rfl | h
  · rfl
  · obtain ⟨k, rfl⟩ : ∃ k, m = k + 1 := ⟨m - 1, by omega⟩
    have : ((k + 1 : Nat) : Int) - 1 = (k : Nat) := by omega
    rw [this]
    simp
set_option maxRecDepth 100000 in
set_option maxHeartbeats 2000000 in
theorem up_any (h : Hp w p C v H) (n j : Nat) (hn : n ≤ H.length) (hj : j < n) (hu : UpAt n (useK H) j) : Calls Try.prog 26 #[hp p, .int .i64 j] w fun e w' => e = .returned (.tuple #[]) ∧ ∃ H', Mv w p C v H n H' w' ∧ IsH n (useK H') := by
  have HM := Lib.hid (Mv.start (n := n) h)
  have HU := Lib.hid hu
  have hfew : n ≤ 4096 := Nat.le_trans hn h.few
  clear hu h
  go_enter Try.func26, Try.ntmps26
  go_wp2_with fail
  go_loopw [1] (fun x wr => ∃ (m : Nat) (H1 : List Sl), x = .int .i64 m ∧ m < n ∧ Mv w p C v H n H1 wr ∧ UpAt n (useK H1) m) (fun x _ => (intOf x).toNat)
  case atStart => exact ⟨j, H, rfl, hj, HM.out, HU.out⟩
  case round =>
    obtain ⟨m, H1, rfl, hm, hmv, hup⟩ := hrel
    have hq := quo2 m
    have hl := hmv.len
    have hm1 := m_less hmv.hp.ord
    have HMV := Lib.hid hmv
    have HUP := Lib.hid hup
    clear hmv hup
    rcases Nat.eq_zero_or_pos m with rfl | h0
    · clear hq
      go_wp2
      go_end0
      exact ⟨rfl, H1, HMV.out, HUP.out.heap (fun c => by omega)⟩
    · obtain ⟨k, hk⟩ : ∃ k, k = (m - 1) / 2 := ⟨_, rfl⟩
      clear hq
      have HQ := Lib.hid (show (((m : Int) - 1) / 2) = (k : Int) by omega)
      have hkm : k < m := by omega
      have hne : (((m : Int) - 1) / 2 == (m : Int)) = false := by simp; omega
      have hki : k < n := by omega
      have hmh : m < H1.length := by omega
      have hkh : k < H1.length := by omega
      have hkne : k ≠ m := by omega
      have HK := Lib.hid hk
      clear hk
      go_wp2_with fail
      rw [HQ.out]
      refine (less_any HMV.out.hp m k hmh hkh).mono ?_
      rintro e w1 ⟨rfl, q, rfl⟩
      by_cases hlt : (sg H1 m).use < (sg H1 k).use
      · rw [decide_eq_true hlt]
        have hm2 := m_swap (HMV.out.hp.drewN q).ord
        have HST := Lib.hid (HUP.out.step h0 hm (by rw [← HK.out]; exact hlt))
        clear hm1
        clear HQ hne
        go_wp2_with fail
        refine (swap_any (HMV.out.hp.drewN q) k m hkh hmh hkne).mono ?_
        rintro e w2 ⟨rfl, h1, h2⟩
        have HMV2 := Lib.hid ((HMV.out.drewN q).swap hki hm hn h1 h2)
        clear h1 h2 hm2
        go_wp2_with fail
        go_roundw
        case rel =>
          refine ⟨k, _, rfl, hki, HMV2.out, ?_⟩
          rw [swpL_use (by omega) (by omega), HK.out]; exact HST.out
        case measure => simp [intOf]; omega
      · rw [decide_eq_false hlt]
        clear hm1
        go_wp2_with fail
        go_end0
        exact ⟨rfl, H1, HMV.out.drewN q, HUP.out.heap (fun _ => by rw [← HK.out]; exact Nat.le_of_not_lt hlt)⟩
end
end Go.Proofs.Ytbdiadbaapfdgaa.Ca
