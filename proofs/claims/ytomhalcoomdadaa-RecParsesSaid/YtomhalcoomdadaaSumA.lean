/- Contracts of layer 2 (sum): step, stepped, Make. -/
import Derived.WalkKit
import Derived.WalkLawsBesides
import Derived.WalkSpells
import Derived.Lib.Hide
import Derived.Outline
import Derived.Deep.DeepCutAuto
import Derived.Deep.RegionWith
import Derived.OpenShut
import Derived.Deep.QuietTactic
import Derived.BigQuiet
import Derived.Laws.BitsAllLaws
import Derived.Test.YtomhalcoomdadaaRows
import Derived.Test.YtomhalcoomdadaaBase
import Derived.Test.YtomhalcoomdadaaSumMath
namespace Go.Proofs.Ytomhalcoomdadaa.Sum
open Go.RowKit Go.Proofs.Ytomhalcoomdadaa
set_option linter.unusedVariables false

theorem ret_k {k : IntKind} {a b : Int} (h : a = b) : Ending.returned (.int k a) = .returned (.int k b) := by rw [h]

theorem and_one (r : Nat) (h : Reg r) : bits .and .u32 (r : Int) 1 = ((r % 2 : Nat) : Int) := by
  have := u32_and_nat r 1 h (by decide)
  rw [Nat.and_one_is_mod] at this; exact this
theorem xor_pat (r : Nat) (h : Reg r) : bits .xor .u32 ((r : Int) / 2) 2197175160 = ((r / 2 ^^^ pat : Nat) : Int) := by
  have := u32_xor_nat (r / 2) pat (by unfold Reg at h; omega) (by unfold pat; decide)
  rw [← this]; rfl

theorem step_any (r : Nat) (w : World) (h : Reg r) :
    Calls Try.prog 48 #[.int .u32 r] w fun e w' => e = .returned (.int .u32 (stp r)) ∧ w = w' := by
  have HA := Lib.hid (and_one r h)
  have HX := Lib.hid (xor_pat r h)
  by_cases h1 : r % 2 = 1
  · have ht : (bits .and .u32 (r : Int) 1 == 1) = true := by rw [HA.out, h1]; rfl
    have HS := Lib.hid (show stp r = r / 2 ^^^ pat by unfold stp; rw [if_pos h1])
    clear h h1
    go_enter Try.func48, Try.ntmps48
    go_wp2
    go_ret
    exact ⟨ret_k (by rw [HS.out]; exact HX.out), rfl⟩
  · have ht : (bits .and .u32 (r : Int) 1 == 1) = false := by rw [HA.out, show r % 2 = 0 by omega]; rfl
    have HS := Lib.hid (show stp r = r / 2 by unfold stp; rw [if_neg h1])
    clear h h1
    go_enter Try.func48, Try.ntmps48
    go_wp2
    go_ret
    exact ⟨ret_k (by rw [HS.out]; simp), rfl⟩

theorem stepped_any (r : Nat) (w : World) (h : Reg r) :
    Calls Try.prog 37 #[.int .u32 r] w fun e w' => e = .returned (.int .u32 (stps 8 r)) ∧ w = w' := by
  have HR := Lib.hid h
  clear h
  go_enter Try.func37, Try.ntmps37
  go_wp2
  go_loop [0, 3] (fun a i => ∃ k : Nat, k ≤ 8 ∧ i = .int .i64 k ∧ a = .int .u32 (stps k r)) (fun _ i => 8 - (intOf i).toNat)
  case atStart => exact ⟨0, by omega, rfl, rfl⟩
  case round =>
    obtain ⟨k, hk, rfl, rfl⟩ := hrel
    have HK := Lib.hid (stps_lt k r HR.out)
    obtain ⟨x, hx⟩ : ∃ x, x = stps k r := ⟨_, rfl⟩
    rw [← hx] at HK ⊢
    have HX := Lib.hid hx
    clear hx
    by_cases hlt : k < 8
    · go_wp2_with (go_at_call 48; refine (step_any x _ HK.out).mono ?_; rintro e w' ⟨rfl, rfl⟩)
      go_round
      case rel => exact ⟨k + 1, by omega, by go_num, by rw [HX.out]; rfl⟩
      case measure => simp [intOf]; omega
    · obtain rfl : k = 8 := by omega
      go_wp2
      go_ret
      exact ⟨ret_k (by rw [HX.out]), rfl⟩
/-- the table as it is being filled -/
def tabA (k : Nat) : Array Value := Array.ofFn (n := 256) fun j => .int .u32 (if j.val < k then tab j.val else 0)
theorem tabA_set (k : Nat) (v : Value) (hv : v = .int .u32 (tab k)) : (tabA k).setIfInBounds k v = tabA (k + 1) := by
  subst hv
  apply Array.ext
  · simp [tabA]
  · intro i h1 h2
    simp only [tabA, Array.size_setIfInBounds, Array.size_ofFn] at h1 h2
    rw [Array.getElem_setIfInBounds (by simpa [tabA] using h1)]
    simp only [tabA, Array.getElem_ofFn]
    by_cases e : k = i
    · subst e; simp
    · rw [if_neg e]
      by_cases h3 : i < k
      · simp [h3, show i < k + 1 by omega]
      · simp [h3, show ¬ i < k + 1 by omega]
theorem zero_tab (w : World) : (zeroValue 92).run Try.prog w = .ok (.agg (tabA 0)) w := by
  have h : (zeroValue 92).run Try.prog w = .ok (.agg (Array.replicate 256 (.int .u32 0))) w := by kernel_rfl
  rw [h]
  have : Array.replicate 256 (.int .u32 0) = tabA 0 := by
    apply Array.ext
    · simp [tabA]
    · intro i h1 h2; simp [tabA]
  rw [this]
theorem tabA_size (k : Nat) : (tabA k).size = 256 := by simp [tabA]
theorem tabA_get (k j : Nat) (h : j < 256) : (tabA k)[j]? = some (.int .u32 (if j < k then tab j else 0)) := by
  simp [tabA, h]
/-- the table stands at a -/
def IsTab (w : World) (b : Nat) : Prop := ∀ j, j < 256 → w.cell? ⟨b, j, none⟩ = some (.int .u32 (tab j))
theorem IsTab.below {w w' : World} {b B : Nat} (h : IsTab w b) (hb : Below B w w') (hB : w.heap.size ≤ B) : IsTab w' b := by
  intro j hj
  have := h j hj
  have hlt := World.block_lt_of_cell? w _ this
  rw [hb.cell (by simp at hlt ⊢; omega)]
  exact this
theorem isTab_alloc (w : World) (t : TypeId) : IsTab (w.alloc (.cells (tabA 256) t)) w.heap.size := by
  intro j hj
  have := tabA_get 256 j hj
  rw [if_pos hj] at this
  simpa using this

set_option maxRecDepth 100000 in
theorem make_any (w : World) :
    Calls Try.prog 23 #[] w fun e w' => ∃ b, e = .returned (.pointer (some ⟨b, 0, none⟩)) ∧ w.heap.size ≤ b ∧ IsTab w' b ∧ Below w.heap.size w w' := by
  have hz := zero_tab
  go_enter Try.func23, Try.ntmps23
  go_wp2
  clear hz
  go_loopw [3] (fun i wr => ∃ k : Nat, k ≤ 256 ∧ i = .int .i64 k ∧ wr = w.alloc (.cells (tabA k) 92)) (fun i _ => 256 - (intOf i).toNat)
  case atStart => exact ⟨0, by omega, rfl, rfl⟩
  case round =>
    obtain ⟨k, hk, rfl, rfl⟩ := hrel
    by_cases hlt : k < 256
    · have HK := Lib.hid (show Reg k by unfold Reg; omega)
      go_wp2_with fail
      refine (stepped_any k _ HK.out).mono ?_
      rintro e w' ⟨rfl, rfl⟩
      have hsz := tabA_size k
      have h3 : (tabA k)[k]? = some (.int .u32 0) := by rw [tabA_get k k hlt, if_neg (by omega)]
      go_wp2_with fail
      go_roundw
      case rel => exact ⟨k + 1, by omega, by go_num, by rw [← tabA_set k (.int .u32 (stps 8 k)) rfl]⟩
      case measure => simp [intOf]; omega
    · obtain rfl : k = 256 := by omega
      go_wp2
      go_ret
      exact ⟨_, rfl, Nat.le_refl _, isTab_alloc _ _, (Below.refl _ _).alloc (Nat.le_refl _) _⟩
end Go.Proofs.Ytomhalcoomdadaa.Sum
