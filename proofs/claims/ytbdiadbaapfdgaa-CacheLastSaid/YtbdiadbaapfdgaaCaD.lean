/- Layer 11 (cache): container/heap's down at the slots' row. -/
import Derived.Test.YtbdiadbaapfdgaaCaU
namespace Go.Proofs.Ytbdiadbaapfdgaa.Ca
open Go Go.RowKit Go.Proofs.Ytbdiadbaapfdgaa
set_option linter.unusedVariables false
section
variable {w : World} {p : Nat} {C : Hd} {v : Value} {H : List Sl}
/-- what down tells: whether anything was moved; if so, there is a heap -/
def DnP (w : World) (p : Nat) (C : Hd) (v : Value) (H : List Sl) (n i0 : Nat) (e : Ending) (w' : World) : Prop := ∃ H' b, e = .returned (.bool b) ∧ Mv w p C v H n H' w' ∧ (bif b then IsH n (useK H') else UpAt n (useK H') i0)
theorem DnP.mk {n i0 : Nat} {e : Ending} {w' : World} (H' : List Sl) (b : Bool) (he : e = .returned (.bool b)) (hm : Mv w p C v H n H' w') (hb : bif b then IsH n (useK H') else UpAt n (useK H') i0) : DnP w p C v H n i0 e w' := ⟨H', b, he, hm, hb⟩
set_option maxRecDepth 100000 in
set_option maxHeartbeats 4000000 in
theorem down_any (h : Hp w p C v H) (n i0 : Nat) (hn : n ≤ H.length) (hi0 : i0 < n) (hd : DnAt n (useK H) i0) : Calls Try.prog 27 #[hp p, .int .i64 i0, .int .i64 n] w (DnP w p C v H n i0) := by
  have HM := Lib.hid (Mv.start (n := n) h)
  have HD := Lib.hid hd
  have hfew : n ≤ 4096 := Nat.le_trans hn h.few
  clear hd h
  go_enter Try.func27, Try.ntmps27
  go_wp2_with fail
  go_loopw [7] (fun x wr => ∃ (m : Nat) (H1 : List Sl), x = .int .i64 m ∧ i0 ≤ m ∧ m < n ∧ Mv w p C v H n H1 wr ∧ DnAt n (useK H1) m ∧ (i0 < m → useK H1 ((m - 1) / 2) ≤ useK H1 m)) (fun x _ => n - (intOf x).toNat)
  case atStart => exact ⟨i0, H, rfl, Nat.le_refl _, hi0, HM.out, HD.out, fun c => by omega⟩
  case round =>
    obtain ⟨m, H1, rfl, him, hm, hmv, hdn, hpa⟩ := hrel
    have hl := hmv.len
    have hm1 := m_less hmv.hp.ord
    have HMV := Lib.hid hmv
    have HDN := Lib.hid hdn
    have HPA := Lib.hid hpa
    clear hmv hdn hpa HM HD
    have hmh : m < H1.length := by omega
    by_cases hj1 : 2 * m + 1 < n
    · obtain ⟨j1, hJ1⟩ : ∃ j, j = 2 * m + 1 := ⟨_, rfl⟩
      have HQ1 := Lib.hid (show 2 * (m : Int) + 1 = (j1 : Int) by omega)
      have hj1n : j1 < n := by omega
      have hj1h : j1 < H1.length := by omega
      have hmj1 : m < j1 := by omega
      have HP1 := Lib.hid (show 0 < j1 ∧ (j1 - 1) / 2 = m by omega)
      by_cases hj2 : 2 * m + 2 < n
      · obtain ⟨j2, hJ2⟩ : ∃ j, j = 2 * m + 2 := ⟨_, rfl⟩
        have HQ2 := Lib.hid (show (j1 : Int) + 1 = (j2 : Int) by omega)
        have hj2n : j2 < n := by omega
        have hj2h : j2 < H1.length := by omega
        have hmj2 : m < j2 := by omega
        have HP2 := Lib.hid (show 0 < j2 ∧ (j2 - 1) / 2 = m by omega)
        have HCH := Lib.hid (fun (c : Nat) (c0 : 0 < c) (c1 : c < n) (c2 : (c - 1) / 2 = m) => (by omega : c = j1 ∨ c = j2))
        clear hJ1 hJ2
        go_wp2_with fail
        simp only [HQ2.out, HQ1.out]
        refine (less_any HMV.out.hp j2 j1 hj2h hj1h).mono ?_
        rintro e w1 ⟨rfl, q0, hw⟩
        have HMW := Lib.hid (show Mv w p C v H n H1 w1 from by rw [hw]; exact HMV.out.drewN q0)
        clear hw
        have hm2 := m_less HMW.out.hp.ord
        clear hm1
        by_cases h21 : (sg H1 j2).use < (sg H1 j1).use
        · rw [decide_eq_true h21]
          have HSM := Lib.hid (show ∀ c, 0 < c → c < n → (c - 1) / 2 = m → useK H1 j2 ≤ useK H1 c from fun c c0 c1 c2 => by
            rcases HCH.out c c0 c1 c2 with rfl | rfl
            · exact Nat.le_of_lt h21
            · exact Nat.le_refl _)
          go_wp2_with fail
          refine (less_any (HMW.out).hp j2 m hj2h hmh).mono ?_
          rintro e w3 ⟨rfl, q, hw⟩
          have HMX := Lib.hid (show Mv w p C v H n H1 w3 from by rw [hw]; exact (HMW.out).drewN q)
          clear hw
          by_cases hlt : (sg H1 j2).use < (sg H1 m).use
          · rw [decide_eq_true hlt]
            have hms := m_swap HMX.out.hp.ord
            have HST := Lib.hid (HDN.out.step HP2.out.1 hj2n HP2.out.2 HSM.out hlt)
            go_wp2_with fail
            refine (swap_any HMX.out.hp m j2 hmh hj2h (by omega)).mono ?_
            rintro e w2 ⟨rfl, h1, h2⟩
            have HMV2 := Lib.hid (HMX.out.swap hm hj2n hn h1 h2)
            clear h1 h2 hms
            go_wp2_with fail
            go_roundw
            case rel =>
              refine ⟨j2, _, rfl, by omega, hj2n, HMV2.out, ?_⟩
              rw [swpL_use hmh hj2h]
              exact ⟨HST.out.1, fun _ => HST.out.2⟩
            case measure => simp [intOf]; omega
          · rw [decide_eq_false hlt]
            by_cases hi : i0 < m
            · go_wp2
              go_ret
              exact DnP.mk H1 true rfl HMX.out ((HDN.out.up (fun c c0 c1 c2 => Nat.le_trans (Nat.le_of_not_lt hlt) (HSM.out c c0 c1 c2))).heap (fun _ => HPA.out hi))
            · have hi : m = i0 := by omega
              subst hi
              go_wp2
              go_ret
              exact DnP.mk H1 false rfl HMX.out (HDN.out.up (fun c c0 c1 c2 => Nat.le_trans (Nat.le_of_not_lt hlt) (HSM.out c c0 c1 c2)))
        · rw [decide_eq_false h21]
          have HSM := Lib.hid (show ∀ c, 0 < c → c < n → (c - 1) / 2 = m → useK H1 j1 ≤ useK H1 c from fun c c0 c1 c2 => by
            rcases HCH.out c c0 c1 c2 with rfl | rfl
            · exact Nat.le_refl _
            · exact Nat.le_of_not_lt h21)
          go_wp2_with fail
          refine (less_any (HMW.out).hp j1 m hj1h hmh).mono ?_
          rintro e w3 ⟨rfl, q, hw⟩
          have HMX := Lib.hid (show Mv w p C v H n H1 w3 from by rw [hw]; exact (HMW.out).drewN q)
          clear hw
          by_cases hlt : (sg H1 j1).use < (sg H1 m).use
          · rw [decide_eq_true hlt]
            have hms := m_swap HMX.out.hp.ord
            have HST := Lib.hid (HDN.out.step HP1.out.1 hj1n HP1.out.2 HSM.out hlt)
            go_wp2_with fail
            refine (swap_any HMX.out.hp m j1 hmh hj1h (by omega)).mono ?_
            rintro e w2 ⟨rfl, h1, h2⟩
            have HMV2 := Lib.hid (HMX.out.swap hm hj1n hn h1 h2)
            clear h1 h2 hms
            go_wp2_with fail
            go_roundw
            case rel =>
              refine ⟨j1, _, rfl, by omega, hj1n, HMV2.out, ?_⟩
              rw [swpL_use hmh hj1h]
              exact ⟨HST.out.1, fun _ => HST.out.2⟩
            case measure => simp [intOf]; omega
          · rw [decide_eq_false hlt]
            by_cases hi : i0 < m
            · go_wp2
              go_ret
              exact DnP.mk H1 true rfl HMX.out ((HDN.out.up (fun c c0 c1 c2 => Nat.le_trans (Nat.le_of_not_lt hlt) (HSM.out c c0 c1 c2))).heap (fun _ => HPA.out hi))
            · have hi : m = i0 := by omega
              subst hi
              go_wp2
              go_ret
              exact DnP.mk H1 false rfl HMX.out (HDN.out.up (fun c c0 c1 c2 => Nat.le_trans (Nat.le_of_not_lt hlt) (HSM.out c c0 c1 c2)))
      · have HSM := Lib.hid (show ∀ c, 0 < c → c < n → (c - 1) / 2 = m → useK H1 j1 ≤ useK H1 c from fun c c0 c1 c2 => by
          have : c = j1 := by omega
          subst this
          exact Nat.le_refl _)
        clear hJ1
        go_wp2_with fail
        simp only [HQ1.out]
        refine (less_any (HMV.out).hp j1 m hj1h hmh).mono ?_
        rintro e w3 ⟨rfl, q, hw⟩
        have HMX := Lib.hid (show Mv w p C v H n H1 w3 from by rw [hw]; exact (HMV.out).drewN q)
        clear hw
        by_cases hlt : (sg H1 j1).use < (sg H1 m).use
        · rw [decide_eq_true hlt]
          have hms := m_swap HMX.out.hp.ord
          have HST := Lib.hid (HDN.out.step HP1.out.1 hj1n HP1.out.2 HSM.out hlt)
          go_wp2_with fail
          refine (swap_any HMX.out.hp m j1 hmh hj1h (by omega)).mono ?_
          rintro e w2 ⟨rfl, h1, h2⟩
          have HMV2 := Lib.hid (HMX.out.swap hm hj1n hn h1 h2)
          clear h1 h2 hms
          go_wp2_with fail
          go_roundw
          case rel =>
            refine ⟨j1, _, rfl, by omega, hj1n, HMV2.out, ?_⟩
            rw [swpL_use hmh hj1h]
            exact ⟨HST.out.1, fun _ => HST.out.2⟩
          case measure => simp [intOf]; omega
        · rw [decide_eq_false hlt]
          by_cases hi : i0 < m
          · go_wp2
            go_ret
            exact DnP.mk H1 true rfl HMX.out ((HDN.out.up (fun c c0 c1 c2 => Nat.le_trans (Nat.le_of_not_lt hlt) (HSM.out c c0 c1 c2))).heap (fun _ => HPA.out hi))
          · have hi : m = i0 := by omega
            subst hi
            go_wp2
            go_ret
            exact DnP.mk H1 false rfl HMX.out (HDN.out.up (fun c c0 c1 c2 => Nat.le_trans (Nat.le_of_not_lt hlt) (HSM.out c c0 c1 c2)))
    · by_cases hi : i0 < m
      · go_wp2
        go_ret
        exact DnP.mk H1 true rfl HMV.out ((HDN.out.up (fun c c0 c1 c2 => by omega)).heap (fun _ => HPA.out hi))
      · have hi : m = i0 := by omega
        subst hi
        go_wp2
        go_ret
        exact DnP.mk H1 false rfl HMV.out (HDN.out.up (fun c c0 c1 c2 => by omega))
end
end Go.Proofs.Ytbdiadbaapfdgaa.Ca
