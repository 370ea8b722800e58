/- Contracts of layer 2 (sum): On. -/
import Derived.BigQuiet
import Derived.Deep.QuietTactic
import Derived.Test.YtomhalcoomdadaaSumA
namespace Go.Proofs.Ytomhalcoomdadaa.Sum
open Go.RowKit Go.Proofs.Ytomhalcoomdadaa
set_option linter.unusedVariables false

theorem not_reg (c : Nat) (h : Reg c) : bits .xor .u32 IntKind.u32.max (c : Int) = ((full - c : Nat) : Int) := by
  rw [full_sub c h, ← u32_xor_nat full c (by unfold full; decide) h]; rfl

theorem on_index (r : Nat) (b : UInt8) : bits .xor .u8 ((r : Int) % 256) (b.toNat : Int) = ((r % 256 ^^^ b.toNat : Nat) : Int) := by
  rw [← u8_xor_nat (r % 256) b.toNat (by omega) (u8_lt b)]; rfl
theorem index_lt (r : Nat) (b : UInt8) : r % 256 ^^^ b.toNat < 256 := Nat.xor_lt_two_pow (n := 8) (by omega) (u8_lt b)
theorem on_step (r : Nat) (b : UInt8) (h : Reg r) : bits .xor .u32 ((r : Int) / 256) ((tab (r % 256 ^^^ b.toNat) : Nat) : Int) = ((stps 8 (r ^^^ b.toNat) : Nat) : Int) := by
  have ht : Reg (tab (r % 256 ^^^ b.toNat)) := stps_lt 8 _ (by have := index_lt r b; unfold Reg; omega)
  rw [← tab_step, ← u32_xor_nat (r / 256) _ (by unfold Reg at h; omega) ht]; rfl
theorem take_snoc (s : ByteArray) (k : Nat) (h : k < s.size) : s.data.toList.take (k + 1) = s.data.toList.take k ++ [s[k]] := by
  rw [List.take_succ_eq_append_getElem (by simpa using h)]; rfl

theorem on_nil (c : Nat) (s : ByteArray) (w : World) :
    Calls Try.prog 47 #[.pointer none, .int .u32 c, .string s] w fun e w' => e = .returned (.int .u32 0) ∧ w = w' := by
  go_enter Try.func47, Try.ntmps47
  go_wp2
  go_ret
  exact ⟨rfl, rfl⟩

theorem on_any (b c : Nat) (s : ByteArray) (w : World) (ht : IsTab w b) (hc : Reg c) (hs : s.size ≤ 1000000) :
    Calls Try.prog 47 #[.pointer (some ⟨b, 0, none⟩), .int .u32 c, .string s] w fun e w' => e = .returned (.int .u32 (chk c s.data.toList)) ∧ ∃ n, w' = w.drewN n := by
  have HT := Lib.hid ht
  have HC := Lib.hid hc
  clear ht hc
  go_enter Try.func47, Try.ntmps47
  go_wp2
  go_loopw [7, 15] (fun a i wr => ∃ k n : Nat, k ≤ s.size ∧ i = .int .i64 k ∧ a = .int .u32 (rgs (full - c) (s.data.toList.take k)) ∧ wr = w.drewN n) (fun _ i _ => s.size - (intOf i).toNat)
  case atStart => exact ⟨0, 0, by omega, rfl, by rw [not_reg c HC.out]; rfl, rfl⟩
  case round =>
    obtain ⟨k, n, hk, rfl, rfl, rfl⟩ := hrel
    have HK := Lib.hid (rgs_lt (full - c) (s.data.toList.take k) (full_lt _))
    obtain ⟨x, hx⟩ : ∃ x, x = rgs (full - c) (s.data.toList.take k) := ⟨_, rfl⟩
    rw [← hx] at HK ⊢
    have HX := Lib.hid hx
    clear hx
    by_cases hlt : k < s.size
    · have HS := Lib.hid (on_step x s[k] HK.out)
      have HTS := Lib.hid (take_snoc s k hlt)
      have hidx := on_index x s[k]
      obtain ⟨j, hj⟩ : ∃ j, j = x % 256 ^^^ s[k].toNat := ⟨_, rfl⟩
      have hj1 : j < 256 := by rw [hj]; exact index_lt _ _
      rw [← hj] at hidx
      have HJ := Lib.hid hj
      clear hj
      have hcell := HT.out j hj1
      go_wp2
      go_quiet (fail)
      go_wp2
      go_roundw
      case rel =>
        refine ⟨k + 1, n + nq, by omega, by go_num, ?_, rfl⟩
        rw [HTS.out, rgs_snoc, ← HX.out, ← HS.out, ← HJ.out]
      case measure => simp [intOf]; omega
    · obtain rfl : k = s.size := by omega
      go_wp2
      go_ret
      refine ⟨ret_k ?_, n, rfl⟩
      rw [not_reg x HK.out, HX.out, List.take_of_length_le (by simp)]; rfl

theorem IsTab.drewN {w : World} {b : Nat} (h : IsTab w b) (n : Nat) : IsTab (w.drewN n) b := fun j hj => h j hj

/-- A slice value of 'len' elements at 'ao' reads as the texts ss. -/
structure StrRow (w : World) (ao : Option Addr) (len : Nat) (ss : List ByteArray) : Prop where
  len_eq : ss.length = len
  at_ : 0 < len → ∃ b off, ao = some ⟨b, off, none⟩ ∧ ∀ i, i < len → w.cell? ⟨b, off + i, none⟩ = some (.string (ss.getD i ByteArray.empty))
theorem StrRow.below {w w' : World} {ao : Option Addr} {len : Nat} {ss : List ByteArray} (h : StrRow w ao len ss) {B : Nat} (hb : Below B w w') (hB : w.heap.size ≤ B) : StrRow w' ao len ss := by
  refine ⟨h.len_eq, fun hl => ?_⟩
  obtain ⟨b, off, rfl, hc⟩ := h.at_ hl
  refine ⟨b, off, rfl, fun i hi => ?_⟩
  have := hc i hi
  have hlt := World.block_lt_of_cell? w _ this
  rw [hb.cell (by simp at hlt ⊢; omega)]
  exact this
theorem StrRow.none (w : World) (ao : Option Addr) : StrRow w ao 0 [] := ⟨rfl, fun h => absurd h (by decide)⟩
theorem StrRow.one (w : World) (s : ByteArray) (e : TypeId) : StrRow (w.alloc (.cells #[.string s] e)) (some ⟨w.heap.size, 0, Option.none⟩) 1 [s] := by
  refine ⟨rfl, fun _ => ⟨w.heap.size, 0, rfl, fun i hi => ?_⟩⟩
  match i, hi with
  | 0, _ => simp
theorem StrRow.two (w : World) (s t : ByteArray) (e : TypeId) : StrRow (w.alloc (.cells #[.string s, .string t] e)) (some ⟨w.heap.size, 0, Option.none⟩) 2 [s, t] := by
  refine ⟨rfl, fun _ => ⟨w.heap.size, 0, rfl, fun i hi => ?_⟩⟩
  match i, hi with
  | 0, _ => simp
  | 1, _ => simp
theorem StrRow.four (w : World) (s t u v : ByteArray) (e : TypeId) : StrRow (w.alloc (.cells #[.string s, .string t, .string u, .string v] e)) (some ⟨w.heap.size, 0, Option.none⟩) 4 [s, t, u, v] := by
  refine ⟨rfl, fun _ => ⟨w.heap.size, 0, rfl, fun i hi => ?_⟩⟩
  match i, hi with
  | 0, _ => simp
  | 1, _ => simp
  | 2, _ => simp
  | 3, _ => simp

def cat (ss : List ByteArray) : List UInt8 := ss.flatMap fun s => s.data.toList
theorem cat_take (ss : List ByteArray) (k : Nat) (h : k < ss.length) : cat (ss.take (k + 1)) = cat (ss.take k) ++ (ss.getD k ByteArray.empty).data.toList := by
  rw [List.take_succ_eq_append_getElem h, List.getD_eq_getElem?_getD, List.getElem?_eq_getElem h]
  unfold cat
  rw [List.flatMap_append, List.flatMap_cons, List.flatMap_nil, List.append_nil]; rfl
theorem chk_start : chk 0 (cat []) = 0 := chk_nil 0 (by unfold Reg; decide)
theorem getD_mem (ss : List ByteArray) (k : Nat) (h : k < ss.length) : ss.getD k ByteArray.empty ∈ ss := by
  rw [List.getD_eq_getElem?_getD, List.getElem?_eq_getElem h]; exact List.getElem_mem h

theorem of_nil (ao : Option Addr) (len cap : Nat) (ss : List ByteArray) (w : World) (hr : StrRow w ao len ss) (hl : len ≤ 1000) :
    Calls Try.prog 36 #[.pointer none, .slice ao len cap] w fun e w' => e = .returned (.int .u32 0) ∧ w = w' := by
  have HR := Lib.hid hr
  clear hr
  go_enter Try.func36, Try.ntmps36
  go_wp2
  go_loop [5, 10] (fun a i => ∃ k : Nat, k ≤ len ∧ i = .int .i64 k ∧ a = .int .u32 0) (fun _ i => len - (intOf i).toNat)
  case atStart => exact ⟨0, by omega, rfl, rfl⟩
  case round =>
    obtain ⟨k, hk, rfl, rfl⟩ := hrel
    by_cases hlt : k < len
    · obtain ⟨b, off, rfl, hc⟩ := HR.out.at_ (by omega)
      have hck := hc k hlt
      obtain ⟨s, hs⟩ : ∃ s, s = ss.getD k ByteArray.empty := ⟨_, rfl⟩
      rw [← hs] at hck
      clear hc hs
      go_wp2_with (go_at_call 47; refine (on_nil 0 _ _).mono ?_; rintro e w' ⟨rfl, rfl⟩)
      go_round
      case rel => exact ⟨k + 1, by omega, by go_num, rfl⟩
      case measure => simp [intOf]; omega
    · obtain rfl : k = len := by omega
      go_wp2
      go_ret
      exact ⟨rfl, rfl⟩

theorem of_any (b : Nat) (ao : Option Addr) (len cap : Nat) (ss : List ByteArray) (w : World) (ht : IsTab w b) (hr : StrRow w ao len ss) (hl : len ≤ 1000) (hs : ∀ s ∈ ss, s.size ≤ 1000000) :
    Calls Try.prog 36 #[.pointer (some ⟨b, 0, none⟩), .slice ao len cap] w fun e w' => e = .returned (.int .u32 (chk 0 (cat ss))) ∧ ∃ n, w' = w.drewN n := by
  have HT := Lib.hid ht
  have HR := Lib.hid hr
  have HS := Lib.hid hs
  have HL := Lib.hid hr.len_eq
  clear hr ht hs
  go_enter Try.func36, Try.ntmps36
  go_wp2
  go_loopw [5, 10] (fun a i wr => ∃ k n : Nat, k ≤ len ∧ i = .int .i64 k ∧ a = .int .u32 (chk 0 (cat (ss.take k))) ∧ wr = w.drewN n) (fun _ i _ => len - (intOf i).toNat)
  case atStart => exact ⟨0, 0, by omega, rfl, by rw [List.take_zero, chk_start]; rfl, rfl⟩
  case round =>
    obtain ⟨k, n, hk, rfl, rfl, rfl⟩ := hrel
    have HK := Lib.hid (chk_lt 0 (cat (ss.take k)))
    have HT2 : Hid (IsTab (w.drewN n) b) := Lib.hid (show IsTab (w.drewN n) b from fun j hj => HT.out j hj)
    obtain ⟨x, hx⟩ : ∃ x, x = chk 0 (cat (ss.take k)) := ⟨_, rfl⟩
    rw [← hx] at HK ⊢
    have HX := Lib.hid hx
    clear hx
    by_cases hlt : k < len
    · obtain ⟨b', off, rfl, hc⟩ := HR.out.at_ (by omega)
      have hck := hc k hlt
      obtain ⟨s, hs⟩ : ∃ s, s = ss.getD k ByteArray.empty := ⟨_, rfl⟩
      rw [← hs] at hck
      have hsb : s.size ≤ 1000000 := HS.out _ (by rw [hs]; exact getD_mem _ _ (by have := HL.out; omega))
      have HSD := Lib.hid hs
      clear hc hs
      go_wp2_with (go_at_call 47; refine (on_any b x s _ HT2.out HK.out hsb).mono ?_; rintro e w' ⟨rfl, nq, rfl⟩)
      go_roundw
      case rel =>
        refine ⟨k + 1, n + nq, by omega, by go_num, ?_, by simp⟩
        rw [cat_take _ _ (by have := HL.out; omega), ← chk_append, ← HX.out, ← HSD.out]
      case measure => simp [intOf]; omega
    · obtain rfl : k = len := by omega
      go_wp2
      go_ret
      exact ⟨ret_k (by rw [HX.out, List.take_of_length_le (by have := HL.out; omega)]), n, rfl⟩
end Go.Proofs.Ytomhalcoomdadaa.Sum
