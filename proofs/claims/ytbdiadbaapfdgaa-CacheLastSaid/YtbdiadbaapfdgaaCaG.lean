/- Layer 11 (cache): container/heap's Push and Remove at the slots' row. -/
import Derived.Test.YtbdiadbaapfdgaaCaF
namespace Go.Proofs.Ytbdiadbaapfdgaa.Ca
open Go Go.RowKit Go.Proofs.Ytbdiadbaapfdgaa
set_option linter.unusedVariables false
section
variable {w : World} {p : Nat} {C : Hd} {v : Value} {H : List Sl}
/-- heap.Push's answer -/
def PhP (w : World) (p : Nat) (C : Hd) (v : Value) (H : List Sl) (s : Sl) (w' : World) : Prop := ∃ v' H', Hp w' p C v' H' ∧ H'.Perm (H ++ [s]) ∧ IsH H'.length (useK H') ∧ (v'.ownBlock = v.ownBlock ∨ ∀ k, v'.ownBlock = some k → w.heap.size ≤ k) ∧ Chg (fx p v H s) w w'
set_option maxRecDepth 100000 in
set_option maxHeartbeats 1000000 in
theorem push_any (h : Hp w p C v H) (s : Sl) (k : Nat) (hs : Has w s.blk 64 (sc s k)) (hf : ∀ i, i < H.length → (sg H i).blk ≠ s.blk) (hl : H.length < 4096) (hih : IsH H.length (useK H)) : Calls Try.prog 19 #[hp p, .iface 65 (ptr s)] w fun e w' => e = .returned (.tuple #[]) ∧ PhP w p C v H s w' := by
  have hm0 := m_push w p
  have HC := Lib.hid (push_m h s k hs hf hl)
  have HIH := Lib.hid hih
  clear h hs hf hih
  go_enter Try.func19, Try.ntmps19
  go_wp2_with fail
  refine HC.out.mono ?_
  rintro e w1 ⟨rfl, v1, hp1, hv1, hc1⟩
  have hml := m_len hp1.ord
  have HP1 := Lib.hid hp1
  have HV1 := Lib.hid hv1
  have HC1 := Lib.hid hc1
  have hlen : (H ++ [s]).length = H.length + 1 := by simp
  clear hp1 hv1 hc1 HC hm0
  go_wp2_with fail
  refine (len_any HP1.out).mono ?_
  rintro e w2 ⟨rfl, rfl⟩
  rw [hlen]
  clear hml
  go_wp2_with fail
  refine (up_any HP1.out (H.length + 1) H.length (by omega) (by omega) ?_).mono ?_
  · exact HIH.out.push fun x hx => by show (sg (H ++ [s]) x).use = _; rw [sg_app hx]
  rintro e w3 ⟨rfl, H2, hmv, hih2⟩
  have HR := Lib.hid (show PhP w p C v H s w3 from by
    refine ⟨v1, H2, hmv.hp, hmv.perm, by rw [hmv.len, hlen]; exact hih2, HV1.out, HC1.out.trans hmv.chg fun k hk hk2 => ?_⟩
    rcases hk2 with hk2 | ⟨i, hi, rfl⟩
    · rcases HV1.out with e | e
      · exact .inr (.inl (.inl (e ▸ hk2)))
      · have := e k hk2; omega
    · by_cases e : i < H.length
      · rw [sg_app e]; exact .inr (.inl (.inr ⟨i, e, rfl⟩))
      · have : i = H.length := by omega
        subst this
        rw [sg_last]; exact .inr (.inr rfl))
  clear hmv hih2
  go_wp2_with fail
  go_end0
  exact ⟨rfl, HR.out⟩
/-- heap.Remove's answer -/
def ReP (w : World) (p : Nat) (C : Hd) (v : Value) (H : List Sl) (i : Nat) (w' : World) : Prop := ∃ v' H', Hp w' p C v' H' ∧ (sg H i :: H').Perm H ∧ IsH H'.length (useK H') ∧ v'.ownBlock = v.ownBlock ∧ Chg (fun k => k = p ∨ ft v H k) w w'
theorem re_of {w1 w2 : World} {H1 : List Sl} {i n : Nat} (hn : H.length = n + 1) (hi : i < H.length) (hm : Mv w p C v H n H1 w1 ∨ (Hp w1 p C v H1 ∧ H1.Perm H ∧ Chg (ft v H) w w1)) (hl : sg H1 n = sg H i) (hh : IsH n (useK H1)) (hp : PoP w1 p C v H1 w2) : ReP w p C v H i w2 := by
  have hm : Hp w1 p C v H1 ∧ H1.Perm H ∧ Chg (ft v H) w w1 := by
    rcases hm with h | h
    · exact ⟨h.hp, h.perm, h.chg⟩
    · exact h
  obtain ⟨h1, h2, h3⟩ := hm
  have hl1 : H1.length = n + 1 := by rw [h2.length_eq, hn]
  obtain ⟨v', q1, q2, q3⟩ := hp
  have e1 : H1.length - 1 = n := by omega
  rw [e1] at q1
  have e2 : (H1.take n).length = n := by rw [List.length_take]; omega
  refine ⟨v', H1.take n, q1, ?_, ?_, q2, ?_⟩
  · have e3 : H1 = H1.take n ++ [sg H1 n] := by
      have := List.take_append_drop n H1
      have e4 : H1.drop n = [sg H1 n] := by
        rw [List.drop_eq_getElem_cons (by omega), sg_eq (by omega), List.drop_eq_nil_of_le (by omega)]
      rw [← e4, this]
    rw [← hl]
    refine List.Perm.trans ?_ h2
    conv => rhs; rw [e3]
    exact (List.perm_append_singleton _ _).symm
  · rw [e2]
    exact hh.ext fun x hx => by show (sg (H1.take n) x).use = _; rw [sg_take hx]
  · refine h3.mono (fun k _ hk => .inr hk) |>.trans q3 fun k _ hk => ?_
    rcases hk with hk | hk
    · exact .inl hk
    · exact .inr (.inl hk)
set_option maxRecDepth 100000 in
set_option maxHeartbeats 1000000 in
theorem remove_any (h : Hp w p C v H) (hih : IsH H.length (useK H)) (i : Nat) (hi : i < H.length) : Calls Try.prog 21 #[hp p, .int .i64 i] w fun e w' => e = .returned (.iface 65 (ptr (sg H i))) ∧ ReP w p C v H i w' := by
  obtain ⟨n, hn⟩ : ∃ n, H.length = n + 1 := ⟨H.length - 1, by omega⟩
  have hm0 := m_len h.ord
  have hfew := h.few
  have HH := Lib.hid h
  have HIH := Lib.hid hih
  have HI := Lib.hid hi
  obtain ⟨P, hP⟩ : ∃ P, P = ptr (sg H i) := ⟨_, rfl⟩
  rw [← hP]
  have HQ := Lib.hid hP
  clear hP
  clear h hih
  go_enter Try.func21, Try.ntmps21
  go_wp2_with fail
  refine (len_any HH.out).mono ?_
  rintro e w1 ⟨rfl, rfl⟩
  rw [hn]
  clear hm0
  by_cases e : i = n
  · subst e
    have hmp := m_pop w1 p
    go_wp2_with fail
    refine (pop_any HH.out i hn).mono ?_
    rintro e w2 ⟨rfl, hp⟩
    rw [← HQ.out]
    have HR := Lib.hid (re_of hn HI.out (.inr ⟨HH.out, List.Perm.refl _, Chg.refl _ w1⟩) rfl (HIH.out.cut (by omega)) hp)
    clear hp hmp
    go_wp2_with fail
    go_ret
    exact ⟨rfl, HR.out⟩
  · have hin : i < n := by have := HI.out; omega
    have hms := m_swap HH.out.ord
    have hne : ((n : Int) == (i : Int)) = false := by simp; omega
    go_wp2_with fail
    refine (swap_any HH.out i n HI.out (by omega) e).mono ?_
    rintro e w2 ⟨rfl, h1, h2⟩
    have hD : DnAt n (useK (swpL H i n)) i := by
      rw [swpL_use HI.out (by omega)]
      exact (HIH.out.cut (by omega)).dn (fun x hx hxi => by unfold swpK; rw [if_neg hxi, if_neg (by omega)]) hin
    have HS := Lib.hid (⟨h1, swpL_perm HI.out (by omega), h2⟩ : Hp w2 p C v (swpL H i n) ∧ (swpL H i n).Perm H ∧ Chg (ft v H) w1 w2)
    have HD := Lib.hid hD
    have HLS := Lib.hid (show (swpL H i n).length = n + 1 by rw [swpL_length, hn])
    have HLN := Lib.hid (show sg (swpL H i n) n = sg H i by rw [swpL_get HI.out (by omega), if_neg (by omega), if_pos rfl])
    clear h1 h2 hD hms
    go_wp2_with fail
    refine (down_any HS.out.1 n i (by rw [HLS.out]; omega) hin HD.out).mono ?_
    rintro e w3 ⟨H1, b, rfl, hmv, hb⟩
    have HMV := Lib.hid hmv
    have HB := Lib.hid hb
    clear hmv hb
    cases b with
    | true =>
      have hmp := m_pop w3 p
      go_wp2_with fail
      refine (pop_any HMV.out.hp n (by rw [HMV.out.len, HLS.out])).mono ?_
      rintro e w4 ⟨rfl, hp⟩
      rw [(HMV.out.off n (Nat.le_refl _)).trans HLN.out, ← HQ.out]
      have HR := Lib.hid (show ReP w1 p C v H i w4 from re_of hn HI.out (.inr ⟨HMV.out.hp, HMV.out.perm.trans HS.out.2.1, HS.out.2.2.trans HMV.out.chg fun k _ hk => ft_perm HS.out.2.1 hk⟩) ((HMV.out.off n (Nat.le_refl _)).trans HLN.out) HB.out hp)
      clear hp hmp
      go_wp2_with fail
      go_ret
      exact ⟨rfl, HR.out⟩
    | false =>
      go_wp2_with fail
      refine (up_any HMV.out.hp n i (by rw [HMV.out.len, HLS.out]; omega) hin HB.out).mono ?_
      rintro e w4 ⟨rfl, H2, hmv2, hih2⟩
      have HMV2 := Lib.hid hmv2
      have HIH2 := Lib.hid hih2
      have hmp := m_pop w4 p
      clear hmv2 hih2
      go_wp2_with fail
      refine (pop_any HMV2.out.hp n (by rw [HMV2.out.len, HMV.out.len, HLS.out])).mono ?_
      rintro e w5 ⟨rfl, hp⟩
      rw [((HMV2.out.off n (Nat.le_refl _)).trans (HMV.out.off n (Nat.le_refl _))).trans HLN.out, ← HQ.out]
      have HR := Lib.hid (show ReP w1 p C v H i w5 from re_of hn HI.out (.inr ⟨HMV2.out.hp, HMV2.out.perm.trans (HMV.out.perm.trans HS.out.2.1), (HS.out.2.2.trans HMV.out.chg fun k _ hk => ft_perm HS.out.2.1 hk).trans HMV2.out.chg fun k _ hk => ft_perm (HMV.out.perm.trans HS.out.2.1) hk⟩) (((HMV2.out.off n (Nat.le_refl _)).trans (HMV.out.off n (Nat.le_refl _))).trans HLN.out) HIH2.out hp)
      clear hp hmp
      go_wp2_with fail
      go_ret
      exact ⟨rfl, HR.out⟩
end
end Go.Proofs.Ytbdiadbaapfdgaa.Ca
