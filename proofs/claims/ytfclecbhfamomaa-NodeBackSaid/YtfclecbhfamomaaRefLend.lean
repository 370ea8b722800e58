/- Contracts of the document's own answers for layer 1: Split, Size. -/
import Derived.Test.YtfclecbhfamomaaLendJ
import Derived.Test.YtfclecbhfamomaaRefLendB
namespace Go.Proofs.Ytfclecbhfamomaa.Lend
open Go.RowKit Go.Proofs.Ytfclecbhfamomaa
set_option linter.unusedVariables false

set_option maxHeartbeats 1000000 in
set_option maxRecDepth 100000 in
theorem refsplit_any (s : ByteArray) (w : World) (hs : s.size ≤ 1000000) :
    Calls Try.prog 35 #[.string s] w fun e w' => e = .returned (.tuple #[.string (strOf (splT s.data.toList)), .string (strOf (splR s.data.toList)), .bool (splB s.data.toList)]) ∧ Below w.heap.size w w' := by
  by_cases h : s.size = 0
  · have hd : s.data.toList = [] := List.eq_nil_of_length_eq_zero (by rw [bytes_length]; exact h)
    have HD := Lib.hid hd
    have hlt : (s.size : Int) < 1 := by omega
    clear hd h
    go_enter Try.func35, Try.ntmps35
    go_wp2
    go_ret3
    exact ⟨ret_spl (by rw [HD.out]; rfl) (by rw [HD.out]; rfl) (by rw [HD.out]; rfl), Below.refl _ _⟩
  · have h0 : 0 < s.size := by omega
    have hb0 : (s[0].toNat : Int) ≤ 255 := by have := s[0].toNat_lt; omega
    have hcons := bytes_cons s h0
    have hlen : (s.data.toList.drop 1).length = s.size - 1 := by simp
    by_cases hle : s[0].toNat + 1 ≤ s.size
    · have hsb : splB s.data.toList = true := by rw [hcons]; simp [splB]; omega
      have ht : splT s.data.toList = (s.data.toList.drop 1).take s[0].toNat := by
        rw [hcons]; simp only [splT]; rw [if_pos (by omega)]; rfl
      have hr : splR s.data.toList = (s.data.toList.drop 1).drop s[0].toNat := by
        rw [hcons]; simp only [splR]; rw [if_pos (by omega)]; rfl
      have HSB := Lib.hid hsb
      have HT := Lib.hid ht
      have HR := Lib.hid hr
      clear hcons hlen hsb ht hr
      go_enter Try.func35, Try.ntmps35
      go_wp2
      go_quiet (fail)
      go_wp2
      go_ret3
      refine ⟨ret_spl ?_ ?_ ?_, below_drewN (Below.refl _ _) _⟩
      · rw [HT.out]
        apply strOf_ext
        rw [Lib.extract_data, Nat.add_sub_cancel_left]
      · rw [HR.out]
        apply strOf_ext
        rw [Lib.extract_to_end, List.drop_drop]
      · rw [HSB.out]
    · have hle' : s.size < s[0].toNat + 1 := by omega
      have hsb : splB s.data.toList = false := by rw [hcons]; simp [splB]; omega
      have hno := spl_no hsb
      have HSB := Lib.hid hsb
      have HN := Lib.hid hno
      clear hcons hlen hsb hno
      go_enter Try.func35, Try.ntmps35
      go_wp2
      go_ret3
      exact ⟨ret_spl (by rw [HN.out.1]; rfl) (by rw [HN.out.2]; rfl) HSB.out.symm, Below.refl _ _⟩

theorem ret_int {a b : Int} (h : a = b) : Ending.returned (.int .i64 a) = .returned (.int .i64 b) := by rw [h]
end Go.Proofs.Ytfclecbhfamomaa.Lend
