/- Contracts of layer 3 and its reference: a byte of a text is another one. -/
import Derived.Deep.DeepCutAuto
import Derived.Test.YtlnocdmechidfaaRefDevS
import Derived.Test.YtlnocdmechidfaaBytes
namespace Go.Proofs.Ytlnocdmechidfaa.Dev
open Go Go.RowKit Go.Proofs.Ytlnocdmechidfaa
set_option linter.unusedVariables false

def turnB (s : ByteArray) (j : Nat) (b : UInt8) : ByteArray := strOf (s.data.toList.set j (s.data.toList.getD j 0 ^^^ b))
theorem turnB_size (s : ByteArray) (j : Nat) (b : UInt8) : (turnB s j b).size = s.size := by
  unfold turnB; rw [strOf_size, List.length_set]; simp
theorem xor_u8 (x y : UInt8) : bits .xor .u8 (x.toNat : Int) (y.toNat : Int) = ((x ^^^ y).toNat : Int) := by
  rw [u8_xor_nat _ _ x.toNat_lt y.toNat_lt, UInt8.toNat_xor]
theorem turn_any (s : ByteArray) (j : Nat) (b : UInt8) (w : World) (hj : j < s.size) (hs : s.size ≤ 1000000) :
    Calls Try.prog 41 #[.string s, .int .i64 (j : Nat), .int .u8 b.toNat] w fun e w' => e = .returned (.string (turnB s j b)) ∧ Below w.heap.size w w' := by
  have hcv := run_bytes_brow w s
  have hbr := brow_bytesWorld w s 5
  have hbl := below_bytesWorld w 5 s
  obtain ⟨wb, hwb⟩ : ∃ wb, wb = Lib.bytesWorld w 5 s := ⟨_, rfl⟩
  obtain ⟨cap, hcap⟩ : ∃ cap, cap = grownCap w s.size 0 5 := ⟨_, rfl⟩
  rw [← hwb] at hcv hbr hbl
  rw [← hcap] at hcv
  have hl : s.data.toList.length = s.size := by simp
  have hc := hbr.at_ j (by rw [hl]; exact hj)
  have hf := hbr.froz j (by rw [hl]; exact hj)
  have hji : (j : Int) < (s.size : Int) := by omega
  obtain ⟨x, hx⟩ : ∃ x, x = s.data.toList.getD j 0 := ⟨_, rfl⟩
  rw [← hx] at hc
  have hset := hbr.set j (by rw [hl]; exact hj) (x ^^^ b)
  have hcv2 := run_string_brow _ w.heap.size cap s.size _ hset (by rw [List.length_set, hl])
  rw [← xor_u8] at hcv2
  have HT := Lib.hid (show turnB s j b = strOf (s.data.toList.set j (x ^^^ b)) by rw [hx]; rfl)
  have HB := Lib.hid (show Below w.heap.size w (wb.setCell ⟨w.heap.size, j, none⟩ (.int .u8 (bits .xor .u8 (x.toNat : Int) (b.toNat : Int)))) from hbl.setCell (by simp) _)
  clear hbr hbl hwb hcap hset hx
  go_enter Try.func41, Try.ntmps41
  go_wp2_with fail
  go_ret
  exact ⟨by rw [HT.out]; rfl, HB.out⟩
theorem garbled_any (s : ByteArray) (j : Nat) (b : UInt8) (w : World) (hj : j < s.size) (hs : s.size ≤ 1000000) :
    Calls Try.prog 40 #[.string s, .int .i64 (j : Nat), .int .u8 b.toNat] w fun e w' => e = .returned (.string (turnB s j b)) ∧ Below w.heap.size w w' := by
  have hcv := run_bytes_brow w s
  have hbr := brow_bytesWorld w s 5
  have hbl := below_bytesWorld w 5 s
  obtain ⟨wb, hwb⟩ : ∃ wb, wb = Lib.bytesWorld w 5 s := ⟨_, rfl⟩
  obtain ⟨cap, hcap⟩ : ∃ cap, cap = grownCap w s.size 0 5 := ⟨_, rfl⟩
  rw [← hwb] at hcv hbr hbl
  rw [← hcap] at hcv
  have hl : s.data.toList.length = s.size := by simp
  have hc := hbr.at_ j (by rw [hl]; exact hj)
  have hf := hbr.froz j (by rw [hl]; exact hj)
  have hji : (j : Int) < (s.size : Int) := by omega
  obtain ⟨x, hx⟩ : ∃ x, x = s.data.toList.getD j 0 := ⟨_, rfl⟩
  rw [← hx] at hc
  have hset := hbr.set j (by rw [hl]; exact hj) (x ^^^ b)
  have hcv2 := run_string_brow _ w.heap.size cap s.size _ hset (by rw [List.length_set, hl])
  rw [← xor_u8] at hcv2
  have HT := Lib.hid (show turnB s j b = strOf (s.data.toList.set j (x ^^^ b)) by rw [hx]; rfl)
  have HB := Lib.hid (show Below w.heap.size w (wb.setCell ⟨w.heap.size, j, none⟩ (.int .u8 (bits .xor .u8 (x.toNat : Int) (b.toNat : Int)))) from hbl.setCell (by simp) _)
  clear hbr hbl hwb hcap hset hx
  go_enter Try.func40, Try.ntmps40
  go_wp2_with fail
  go_ret
  exact ⟨by rw [HT.out]; rfl, HB.out⟩
end Go.Proofs.Ytlnocdmechidfaa.Dev
