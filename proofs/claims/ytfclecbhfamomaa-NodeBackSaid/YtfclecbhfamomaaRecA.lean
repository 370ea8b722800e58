/- Layer 12 (rec): what Check answers. -/
import Derived.Test.YtfclecbhfamomaaRefRec
namespace Go.Proofs.Ytfclecbhfamomaa.Rec
open Go Go.RowKit Go.Proofs.Ytfclecbhfamomaa Go.Proofs.Ytfclecbhfamomaa.Lend
set_option linter.unusedVariables false

theorem str_ne' {l : List UInt8} (h : l ≠ []) : (Lend.strOf l).toList.isEmpty = false := by
  have := str_ne h
  cases e : (Lend.strOf l).toList with
  | nil => exact absurd e this
  | cons => rfl
set_option maxRecDepth 100000 in
set_option maxHeartbeats 2000000 in
theorem check_any (u : Up) (w : World) (hk0 : 0 ≤ u.kind) (hk1 : u.kind ≤ 255) : Calls Try.prog 65 #[.agg #[.int .u8 u.kind, .string (Lend.strOf u.key), .string (Lend.strOf u.val), .int .u64 u.delta]] w fun e w' => e = .returned (.int .i64 (chkU u)) ∧ Below w.heap.size w w' := by
  obtain ⟨kind, key, val, delta⟩ := u
  simp only at hk0 hk1 ⊢
  obtain ⟨c, hc⟩ : ∃ c, c = chkU ⟨kind, key, val, delta⟩ := ⟨_, rfl⟩
  rw [← hc]
  unfold chkU at hc
  simp only at hc
  have hks : (Lend.strOf key).size = key.length := by simp [Lend.strOf, ByteArray.size]
  have hvs : (Lend.strOf val).size = val.length := by simp [Lend.strOf, ByteArray.size]
  have HB := Lib.hid (((Chg.refl (fun _ => False) w).alloc (.cells #[.int .u8 kind, .string (Lend.strOf key), .string (Lend.strOf val), .int .u64 delta] 70)).below (Nat.le_refl _) (fun _ h => h.elim))
  by_cases h1 : key.length < 1 ∨ 16 < key.length ∨ 32 < val.length
  · rw [if_pos h1] at hc
    subst hc
    have h1' : key = [] ∨ (key ≠ [] ∧ 16 < key.length) ∨ (key ≠ [] ∧ ¬ 16 < key.length ∧ 32 < val.length) := by
      by_cases e : key = []
      · exact .inl e
      · have := List.length_pos_iff.2 e
        rcases h1 with h | h | h
        · omega
        · exact .inr (.inl ⟨e, h⟩)
        · by_cases h6 : 16 < key.length
          · exact .inr (.inl ⟨e, h6⟩)
          · exact .inr (.inr ⟨e, h6, h⟩)
    rw [← hks, ← hvs] at h1'
    clear h1 hvs
    rcases h1' with h | ⟨h, h'⟩ | ⟨h, h', h''⟩
    · subst h
      clear hks
      generalize Lend.strOf val = V at *
      obtain ⟨K, hK, hK2⟩ : ∃ x, x = Lend.strOf [] ∧ x = ⟨#[]⟩ := ⟨_, rfl, rfl⟩
      rw [← hK, hK2] at HB ⊢
      clear hK
      go_enter Try.func65, Try.ntmps65
      go_wp2
      go_ret
      exact ⟨rfl, HB.out⟩
    · have a0 := str_ne h
      have a0' := str_ne' h
      clear h hks
      generalize Lend.strOf key = K at *
      generalize Lend.strOf val = V at *
      have a2 : 16 < (K.size : Int) := by omega
      go_enter Try.func65, Try.ntmps65
      go_wp2
      go_ret
      exact ⟨rfl, HB.out⟩
    · have a0 := str_ne h
      have a0' := str_ne' h
      clear h hks
      generalize Lend.strOf key = K at *
      generalize Lend.strOf val = V at *
      have a2 : ¬ 16 < (K.size : Int) := by omega
      have a3 : 32 < (V.size : Int) := by omega
      go_enter Try.func65, Try.ntmps65
      go_wp2
      go_ret
      exact ⟨rfl, HB.out⟩
  · rw [if_neg h1] at hc
    have a0 := str_ne (l := key) (fun e => by subst e; exact h1 (.inl (by decide)))
    have a0' := str_ne' (l := key) (fun e => by subst e; exact h1 (.inl (by decide)))
    have a2 : ¬ 16 < ((Lend.strOf key).size : Int) := by omega
    have a3 : ¬ 32 < ((Lend.strOf val).size : Int) := by omega
    clear h1 hks hvs
    generalize Lend.strOf key = K at *
    by_cases h4 : kind < 1
    · rw [if_pos (.inl h4)] at hc
      subst hc
      generalize Lend.strOf val = V at *
      go_enter Try.func65, Try.ntmps65
      go_wp2
      go_ret
      exact ⟨rfl, HB.out⟩
    · by_cases h5 : 3 < kind
      · rw [if_pos (.inr (.inl h5))] at hc
        subst hc
        generalize Lend.strOf val = V at *
        go_enter Try.func65, Try.ntmps65
        go_wp2
        go_ret
        exact ⟨rfl, HB.out⟩
      · have h6 : kind = 1 ∨ kind = 2 ∨ kind = 3 := by omega
        have hcs : (∃ x, x = (Lend.strOf val) ∧ val = [] ∧ x = ⟨#[]⟩) ∨ (val ≠ [] ∧ ¬ (Lend.strOf val).toList = []) := by
          by_cases e : val = []
          · exact .inl ⟨_, rfl, e, by rw [e]; rfl⟩
          · exact .inr ⟨e, str_ne e⟩
        clear h4 h5 hk0 hk1
        by_cases hd : delta = 0
        · subst hd
          rcases hcs with ⟨x, hx, hv, hx2⟩ | ⟨hv, hx⟩
          · subst hv
            rw [← hx, hx2] at a3 HB ⊢
            clear hx
            rcases h6 with rfl | rfl | rfl
            all_goals
              simp at hc
              subst hc
              go_enter Try.func65, Try.ntmps65
              go_wp2
              go_ret
              exact ⟨rfl, HB.out⟩
          · generalize Lend.strOf val = V at *
            rcases h6 with rfl | rfl | rfl
            all_goals
              simp [hv] at hc
              subst hc
              go_enter Try.func65, Try.ntmps65
              go_wp2
              go_ret
              exact ⟨rfl, HB.out⟩
        · rcases hcs with ⟨x, hx, hv, hx2⟩ | ⟨hv, hx⟩
          · subst hv
            rw [← hx, hx2] at a3 HB ⊢
            clear hx
            rcases h6 with rfl | rfl | rfl
            all_goals
              simp [hd] at hc
              subst hc
              go_enter Try.func65, Try.ntmps65
              go_wp2
              go_ret
              exact ⟨rfl, HB.out⟩
          · generalize Lend.strOf val = V at *
            rcases h6 with rfl | rfl | rfl
            all_goals
              simp [hv, hd] at hc
              subst hc
              go_enter Try.func65, Try.ntmps65
              go_wp2
              go_ret
              exact ⟨rfl, HB.out⟩
end Go.Proofs.Ytfclecbhfamomaa.Rec
