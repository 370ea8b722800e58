/- Contracts of layer 4 (env): rightSize, Room, rightAddr, right, the widths, ahead, checkOf. -/
import Derived.RegionTactic
import Derived.Deep.RegionHeld3
import Derived.Test.YtimdemdopnmijaaDoorRefLendB
import Derived.Test.YtimdemdopnmijaaDoorSumR
import Derived.Test.YtimdemdopnmijaaDoorEnvMathB
namespace Go.Proofs.YtimdemdopnmijaaDoor
open Go.RowKit
theorem Row.three (kd : IntKind) (w : World) (a b c : Int) (e : TypeId) : Row kd (w.alloc (.cells #[.int kd a, .int kd b, .int kd c] e)) (some ⟨w.heap.size, 0, none⟩) 3 [a, b, c] := by
  refine ⟨rfl, fun _ => ⟨w.heap.size, 0, rfl, fun i hi => ?_⟩⟩
  match i, hi with
  | 0, _ => simp
  | 1, _ => simp
  | 2, _ => simp
theorem Row.six (kd : IntKind) (w : World) (a b c d f g : Int) (e : TypeId) : Row kd (w.alloc (.cells #[.int kd a, .int kd b, .int kd c, .int kd d, .int kd f, .int kd g] e)) (some ⟨w.heap.size, 0, none⟩) 6 [a, b, c, d, f, g] := by
  refine ⟨rfl, fun _ => ⟨w.heap.size, 0, rfl, fun i hi => ?_⟩⟩
  match i, hi with
  | 0, _ => simp
  | 1, _ => simp
  | 2, _ => simp
  | 3, _ => simp
  | 4, _ => simp
  | 5, _ => simp
theorem Row.sixAt (kd : IntKind) (w : World) (a b c d f g : Int) (e : TypeId) (n : Nat) (h : n = w.heap.size) : Row kd (w.alloc (.cells #[.int kd a, .int kd b, .int kd c, .int kd d, .int kd f, .int kd g] e)) (some ⟨n, 0, none⟩) 6 [a, b, c, d, f, g] := by subst h; exact Row.six kd w a b c d f g e
theorem Row.threeAt (kd : IntKind) (w : World) (a b c : Int) (e : TypeId) (n : Nat) (h : n = w.heap.size) : Row kd (w.alloc (.cells #[.int kd a, .int kd b, .int kd c] e)) (some ⟨n, 0, none⟩) 3 [a, b, c] := by subst h; exact Row.three kd w a b c e
theorem Row.later {kd : IntKind} {w w' : World} {ao : Option Addr} {len : Nat} {xs : List Int} (h : Row kd w ao len xs) (hb : Below w.heap.size w w') : Row kd w' ao len xs := h.below hb (Nat.le_refl _)
theorem Row.new {kd : IntKind} {w : World} {ao : Option Addr} {len : Nat} {xs : List Int} (h : Row kd w ao len xs) (o : Obj) : Row kd (w.alloc o) ao len xs := h.later ((Below.refl _ _).alloc (Nat.le_refl _) _)
theorem Row.drw {kd : IntKind} {w : World} {ao : Option Addr} {len : Nat} {xs : List Int} (h : Row kd w ao len xs) : Row kd w.drew ao len xs := ⟨h.1, h.2⟩
end Go.Proofs.YtimdemdopnmijaaDoor
namespace Go.Proofs.YtimdemdopnmijaaDoor.Env
open Go.RowKit Go.Proofs.YtimdemdopnmijaaDoor Go.Proofs.YtimdemdopnmijaaDoor.Lend
set_option linter.unusedVariables false

theorem ret_bool {a b : Bool} (h : a = b) : Ending.returned (.bool a) = .returned (.bool b) := by rw [h]
theorem szB_yes {n : Int} (h1 : 128 ≤ n) (h2 : n ≤ 1024) : szB n = true := by simp [szB, h1, h2]
theorem szB_no {n : Int} (h : n < 128 ∨ 1024 < n) : szB n = false := by simp only [szB, Bool.and_eq_false_iff, decide_eq_false_iff_not]; omega
theorem rightSize_any (n : Int) (w : World) : Calls Tryd.prog 33 #[.int .i64 n] w fun e w' => e = .returned (.bool (szB n)) ∧ w = w' := by
  by_cases h1 : 128 ≤ n
  · by_cases h2 : n ≤ 1024
    · have HS := Lib.hid (szB_yes h1 h2)
      go_enter Tryd.func33, Tryd.ntmps33
      go_wp2
      go_ret
      exact ⟨ret_bool HS.out.symm, rfl⟩
    · have HS := Lib.hid (szB_no (n := n) (.inr (by omega)))
      have h2' : 1024 < n := by omega
      clear h2
      go_enter Tryd.func33, Tryd.ntmps33
      go_wp2
      go_ret
      exact ⟨ret_bool (by rw [HS.out]; simp; omega), rfl⟩
  · have HS := Lib.hid (szB_no (n := n) (.inl (by omega)))
    have h1' : n < 128 := by omega
    clear h1
    go_enter Tryd.func33, Tryd.ntmps33
    go_wp2
    go_ret
    exact ⟨ret_bool HS.out.symm, rfl⟩
theorem roomN_yes {n : Int} (h : szB n = true) : roomN n = n - 24 ∧ 104 ≤ roomN n ∧ roomN n ≤ 1000 := by
  have e : roomN n = n - 24 := by rw [roomN, if_pos h]
  simp only [szB, Bool.and_eq_true, decide_eq_true_eq] at h
  exact ⟨e, by omega, by omega⟩
theorem roomN_no {n : Int} (h : szB n = false) : roomN n = 0 := by rw [roomN, if_neg (by rw [h]; decide)]
theorem ret_i64 {a b : Int} (h : a = b) : Ending.returned (.int .i64 a) = .returned (.int .i64 b) := by rw [h]
theorem room_any (n : Int) (w : World) : Calls Tryd.prog 35 #[.int .i64 n] w fun e w' => e = .returned (.int .i64 (roomN n)) ∧ w = w' := by
  cases h : szB n with
  | true =>
    have HR := Lib.hid (roomN_yes h)
    have HH := Lib.hid h
    have h1 : 128 ≤ n ∧ n ≤ 1024 := by simpa [szB] using h
    obtain ⟨h1, h2⟩ := h1
    clear h
    go_enter Tryd.func35, Tryd.ntmps35
    go_wp2_with (go_at_call 33; refine (rightSize_any n _).mono ?_; rintro e w' ⟨rfl, rfl⟩; rw [HH.out])
    go_ret
    exact ⟨ret_i64 HR.out.1.symm, rfl⟩
  | false =>
    have HR := Lib.hid (roomN_no h)
    have HH := Lib.hid h
    clear h
    go_enter Tryd.func35, Tryd.ntmps35
    go_wp2_with (go_at_call 33; refine (rightSize_any n _).mono ?_; rintro e w' ⟨rfl, rfl⟩; rw [HH.out])
    go_ret
    exact ⟨ret_i64 HR.out.symm, rfl⟩
theorem adB_yes {a : Int} (h1 : 0 ≤ a) (h2 : a ≤ 2147483647) : adB a = true := by simp [adB, h1, h2]
theorem adB_no {a : Int} (h : a < 0 ∨ 2147483647 < a) : adB a = false := by simp only [adB, Bool.and_eq_false_iff, decide_eq_false_iff_not]; omega
theorem rightAddr_any (n : Int) (w : World) : Calls Tryd.prog 50 #[.int .i64 n] w fun e w' => e = .returned (.bool (adB n)) ∧ w = w' := by
  by_cases h1 : 0 ≤ n
  · by_cases h2 : n ≤ 2147483647
    · have HS := Lib.hid (adB_yes h1 h2)
      go_enter Tryd.func50, Tryd.ntmps50
      go_wp2
      go_ret
      exact ⟨ret_bool HS.out.symm, rfl⟩
    · have HS := Lib.hid (adB_no (a := n) (.inr (by omega)))
      have h2' : 2147483647 < n := by omega
      clear h2
      go_enter Tryd.func50, Tryd.ntmps50
      go_wp2
      go_ret
      exact ⟨ret_bool (by rw [HS.out]; simp; omega), rfl⟩
  · have HS := Lib.hid (adB_no (a := n) (.inl (by omega)))
    have h1' : n < 0 := by omega
    clear h1
    go_enter Tryd.func50, Tryd.ntmps50
    go_wp2
    go_ret
    exact ⟨ret_bool HS.out.symm, rfl⟩
theorem hdB_1 {k a : Int} (h1 : 1 ≤ k) (h2 : k ≤ 5) : hdB k a = adB a := by simp [hdB, h1, h2]
theorem hdB_0 {k a : Int} (h : k < 1 ∨ 5 < k) : hdB k a = false := by
  simp only [hdB, Bool.and_eq_false_iff, decide_eq_false_iff_not]; omega
/-- a head, as it is handed over -/
def hdV (k a g : Int) : Value := .agg #[.int .u8 k, .int .i64 a, .int .u64 g]
theorem headRight_any (k a g : Int) (w : World) : Calls Tryd.prog 34 #[.agg #[.int .u8 k, .int .i64 a, .int .u64 g]] w fun e w' => e = .returned (.bool (hdB k a)) ∧ Below w.heap.size w w' := by
  by_cases h1 : 1 ≤ k
  · by_cases h2 : k ≤ 5
    · have HS := Lib.hid (hdB_1 (a := a) h1 h2)
      go_enter Tryd.func34, Tryd.ntmps34
      go_wp2_with (go_at_call 50; refine (rightAddr_any a _).mono ?_; rintro e w' ⟨rfl, rfl⟩)
      go_ret
      exact ⟨ret_bool HS.out.symm, (Below.refl _ _).alloc (Nat.le_refl _) _⟩
    · have HS := Lib.hid (hdB_0 (k := k) (a := a) (.inr (by omega)))
      have h2' : 5 < k := by omega
      clear h2
      go_enter Tryd.func34, Tryd.ntmps34
      go_wp2
      go_ret
      exact ⟨ret_bool HS.out.symm, (Below.refl _ _).alloc (Nat.le_refl _) _⟩
  · have HS := Lib.hid (hdB_0 (k := k) (a := a) (.inl (by omega)))
    have h1' : k < 1 := by omega
    clear h1
    go_enter Tryd.func34, Tryd.ntmps34
    go_wp2
    go_ret
    exact ⟨ret_bool HS.out.symm, (Below.refl _ _).alloc (Nat.le_refl _) _⟩

theorem envW_any (w : World) : Calls Tryd.prog 58 #[] w fun e w' => ∃ b, e = .returned (.slice (some ⟨b, 0, none⟩) 6 6) ∧ Row .i64 w' (some ⟨b, 0, none⟩) 6 envW ∧ Below w.heap.size w w' := by
  go_enter Tryd.func58, Tryd.ntmps58
  go_wp2
  go_ret
  exact ⟨_, rfl, Row.six .i64 w 1 1 2 4 8 4 _, (Below.refl _ _).alloc (Nat.le_refl _) _⟩
theorem ptrW_any (w : World) : Calls Tryd.prog 59 #[] w fun e w' => ∃ b, e = .returned (.slice (some ⟨b, 0, none⟩) 3 3) ∧ Row .i64 w' (some ⟨b, 0, none⟩) 3 ptrW ∧ Below w.heap.size w w' := by
  go_enter Tryd.func59, Tryd.ntmps59
  go_wp2
  go_ret
  exact ⟨_, rfl, Row.three .i64 w 4 8 4 _, (Below.refl _ _).alloc (Nat.le_refl _) _⟩
end Go.Proofs.YtimdemdopnmijaaDoor.Env
