/- Contracts of layer 1 (lend): Join; and the statements' own sign of life. -/
import Derived.Test.YtfclecbhfamomaaLendR
import Derived.Test.YtfclecbhfamomaaLendK
namespace Go.Proofs.Ytfclecbhfamomaa.Lend
open Go.RowKit Go.Proofs.Ytfclecbhfamomaa
set_option linter.unusedVariables false

def jnB (l : List UInt8) : Bool := decide (l.length ≤ 255)
def jnS (l : List UInt8) : List UInt8 := if l.length ≤ 255 then UInt8.ofNat l.length :: l else []

set_option maxRecDepth 100000 in
theorem join_any (s : ByteArray) (w : World) (hs : s.size ≤ 1000000) :
    Calls Try.prog 46 #[.string s] w fun e w' => e = .returned (.tuple #[.string (strOf (jnS s.data.toList)), .bool (jnB s.data.toList)]) ∧ Below w.heap.size w w' := by
  by_cases h : s.size ≤ 255
  · have hcv := run_string_one w s.size
    have hsz : (strOf [UInt8.ofNat s.size]).size ≤ 1 := Nat.le_refl _
    go_enter Try.func46, Try.ntmps46
    go_wp2
    go_ret2
    refine ⟨ret_wr (strOf_ext ?_) ?_, (Below.refl _ _).alloc (Nat.le_refl _) _⟩
    · rw [jnS, if_pos (by rw [bytes_length]; exact h), bytes_length]
      simp [strOf]
    · simp [jnB, h]
  · go_enter Try.func46, Try.ntmps46
    go_wp2
    go_ret2
    exact ⟨ret_wr (by rw [jnS, if_neg (by rw [bytes_length]; exact h)]; rfl) (by simp [jnB]; omega), Below.refl _ _⟩

theorem strOf_self (s : ByteArray) : strOf s.data.toList = s := (strOf_ext rfl).symm
/-- what there is to know of a text that is short enough, with its length ahead -/
theorem jn_yes (s v : ByteArray) (h : s.size ≤ 255) : jnB s.data.toList = true ∧ (strOf (jnS s.data.toList)).size = s.size + 1 ∧
    splB (strOf (jnS s.data.toList) ++ v).data.toList = true ∧ strOf (splT (strOf (jnS s.data.toList) ++ v).data.toList) = s ∧ strOf (splR (strOf (jnS s.data.toList) ++ v).data.toList) = v := by
  have hl : s.data.toList.length = s.size := bytes_length s
  have e : jnS s.data.toList = UInt8.ofNat s.data.toList.length :: s.data.toList := by rw [jnS, if_pos (by omega)]
  have hb : (UInt8.ofNat s.data.toList.length).toNat = s.data.toList.length := by rw [UInt8.toNat_ofNat']; omega
  have e2 : (strOf (jnS s.data.toList) ++ v).data.toList = UInt8.ofNat s.data.toList.length :: (s.data.toList ++ v.data.toList) := by rw [e]; simp [strOf]
  refine ⟨by simp [jnB]; omega, ?_, ?_, ?_, ?_⟩
  · rw [e]; show (UInt8.ofNat s.data.toList.length :: s.data.toList).length = _; rw [List.length_cons, hl]
  · rw [e2]; simp only [splB, hb, List.length_append]; simp
  · rw [e2]; simp only [splT, hb, List.length_append]; rw [if_pos (by omega), List.take_left' rfl, strOf_self]
  · rw [e2]; simp only [splR, hb, List.length_append]; rw [if_pos (by omega), List.drop_left' rfl, strOf_self]
theorem jn_no (s : ByteArray) (h : 255 < s.size) : jnB s.data.toList = false ∧ strOf (jnS s.data.toList) = ⟨#[]⟩ := by
  have hl : s.data.toList.length = s.size := bytes_length s
  refine ⟨by simp [jnB]; omega, ?_⟩
  rw [jnS, if_neg (by omega)]; rfl
theorem wake_facts : wrS [2, 1] [2, 1] = ⟨#[2, 0, 1]⟩ ∧ wrB [2, 1] [2, 1] = true ∧ rdB [2, 1] (⟨#[2, 0, 1, 122]⟩ : ByteArray).data.toList = true ∧ rdN [2, 1] (⟨#[2, 0, 1, 122]⟩ : ByteArray).data.toList = [2, 1] ∧ rdS [2, 1] (⟨#[2, 0, 1, 122]⟩ : ByteArray).data.toList = [122] ∧
    splB (⟨#[2, 97, 98, 99]⟩ : ByteArray).data.toList = true ∧ splT (⟨#[2, 97, 98, 99]⟩ : ByteArray).data.toList = [97, 98] ∧ splR (⟨#[2, 97, 98, 99]⟩ : ByteArray).data.toList = [99] ∧ measN [8, 1] = 9 := by
  refine ⟨?_, ?_, ?_, ?_, ?_, ?_, ?_, ?_, ?_⟩ <;> first | rfl | decide +kernel

end Go.Proofs.Ytfclecbhfamomaa.Lend
