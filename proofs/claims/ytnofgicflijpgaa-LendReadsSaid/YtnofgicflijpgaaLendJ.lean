/- Contracts of layer 1 (lend): Join; and the statements' own sign of life. -/
import Derived.Test.YtnofgicflijpgaaLendR
namespace Go.Proofs.Ytnofgicflijpgaa.Lend
open Go.RowKit Go.Proofs.Ytnofgicflijpgaa
set_option linter.unusedVariables false

def jnB (l : List UInt8) : Bool := decide (l.length ≤ 255)
def jnS (l : List UInt8) : List UInt8 := if l.length ≤ 255 then UInt8.ofNat l.length :: l else []

theorem run_string_one (w : World) (c : Int) :
    (convert 42 9 (.slice (some ⟨w.heap.size, 0, none⟩) 1 1)).run Try.prog (w.alloc (.cells #[.int .u8 c] 5)) = .ok (.string (strOf [UInt8.ofNat c.toNat])) (w.alloc (.cells #[.int .u8 c] 5)) := by
  rw [run_convert_bytes_string _ _ _ _ _ _ _ Try.underlying42 Try.underlying5 Try.underlying9]
  have hc := run_loadCells_list (P := Try.prog) (w := w.alloc (.cells #[.int .u8 c] 5)) ⟨w.heap.size, 0, none⟩ [.int .u8 c] (by
    intro j u hj
    match j, hj with
    | 0, hj => simp at hj; subst hj; simp [Addr.add])
  rw [run_bytesToString _ _ _ _ [c] (by simpa using hc), foldl_push]
  rfl

theorem join_any (s : ByteArray) (w : World) (hs : s.size ≤ 1000000) :
    Calls Try.prog 17 #[.string s] w fun e w' => e = .returned (.tuple #[.string (strOf (jnS s.data.toList)), .bool (jnB s.data.toList)]) ∧ Below w.heap.size w w' := by
  by_cases h : s.size ≤ 255
  · have hcv := run_string_one w s.size
    have hsz : (strOf [UInt8.ofNat s.size]).size ≤ 1 := Nat.le_refl _
    go_enter Try.func17, Try.ntmps17
    go_wp2
    go_ret2
    refine ⟨ret_wr (strOf_ext ?_) ?_, (Below.refl _ _).alloc (Nat.le_refl _) _⟩
    · rw [jnS, if_pos (by rw [bytes_length]; exact h), bytes_length]
      simp [strOf]
    · simp [jnB, h]
  · go_enter Try.func17, Try.ntmps17
    go_wp2
    go_ret2
    exact ⟨ret_wr (by rw [jnS, if_neg (by rw [bytes_length]; exact h)]; rfl) (by simp [jnB]; omega), Below.refl _ _⟩

theorem strOf_self (s : ByteArray) : strOf s.data.toList = s := (strOf_ext rfl).symm
/-- what there is to know of a text that is short enough, with its length ahead -/
theorem jn_yes (s v : ByteArray) (h : s.size ≤ 255) : jnB s.data.toList = true ∧ (strOf (jnS s.data.toList)).size = s.size + 1 ∧
    splB (strOf (jnS s.data.toList) ++ v).data.toList = true ∧ strOf (splT (strOf (jnS s.data.toList) ++ v).data.toList) = s ∧ strOf (splR (strOf (jnS s.data.toList) ++ v).data.toList) = v := by
  have hl : s.data.toList.length = s.size := bytes_length s
  have e : jnS s.data.toList = UInt8.ofNat s.data.toList.length :: s.data.toList := by rw [jnS, if_pos (by omega)]
  have hb : (UInt8.ofNat s.data.toList.length).toNat = s.data.toList.length := by rw [UInt8.toNat_ofNat']; omega
  have e2 : (strOf (jnS s.data.toList) ++ v).data.toList = UInt8.ofNat s.data.toList.length :: (s.data.toList ++ v.data.toList) := by rw [e]; simp [strOf]
  refine ⟨by simp [jnB]; omega, ?_, ?_, ?_, ?_⟩
  · rw [e]; show (UInt8.ofNat s.data.toList.length :: s.data.toList).length = _; rw [List.length_cons, hl]
  · rw [e2]; simp only [splB, hb, List.length_append]; simp
  · rw [e2]; simp only [splT, hb, List.length_append]; rw [if_pos (by omega), List.take_left' rfl, strOf_self]
  · rw [e2]; simp only [splR, hb, List.length_append]; rw [if_pos (by omega), List.drop_left' rfl, strOf_self]
theorem jn_no (s : ByteArray) (h : 255 < s.size) : jnB s.data.toList = false ∧ strOf (jnS s.data.toList) = ⟨#[]⟩ := by
  have hl : s.data.toList.length = s.size := bytes_length s
  refine ⟨by simp [jnB]; omega, ?_⟩
  rw [jnS, if_neg (by omega)]; rfl
theorem wake_facts : wrS [2, 1] [2, 1] = ⟨#[2, 0, 1]⟩ ∧ wrB [2, 1] [2, 1] = true ∧ rdB [2, 1] (⟨#[2, 0, 1, 122]⟩ : ByteArray).data.toList = true ∧ rdN [2, 1] (⟨#[2, 0, 1, 122]⟩ : ByteArray).data.toList = [2, 1] ∧ rdS [2, 1] (⟨#[2, 0, 1, 122]⟩ : ByteArray).data.toList = [122] ∧
    splB (⟨#[2, 97, 98, 99]⟩ : ByteArray).data.toList = true ∧ splT (⟨#[2, 97, 98, 99]⟩ : ByteArray).data.toList = [97, 98] ∧ splR (⟨#[2, 97, 98, 99]⟩ : ByteArray).data.toList = [99] ∧ measN [8, 1] = 9 := by
  refine ⟨?_, ?_, ?_, ?_, ?_, ?_, ?_, ?_, ?_⟩ <;> first | rfl | decide +kernel

set_option maxHeartbeats 1000000 in
theorem wakes_any (w : World) : Calls Try.prog 10 #[] w fun e w' => e = .returned (.bool true) ∧ Below w.heap.size w w' := by
  have F := Lib.hid wake_facts
  have r1 : Row .i64 ((w.alloc (.cells #[.int .i64 2, .int .i64 1] 3)).alloc (.cells #[.int .u64 2, .int .u64 1] 31)) (some ⟨w.heap.size, 0, none⟩) 2 [2, 1] :=
    (Row.two .i64 w 2 1 _).below ((Below.refl _ _).alloc (Nat.le_refl _) _) (Nat.le_refl _)
  have r2 : Row .u64 ((w.alloc (.cells #[.int .i64 2, .int .i64 1] 3)).alloc (.cells #[.int .u64 2, .int .u64 1] 31)) (some ⟨w.heap.size + 1, 0, none⟩) 2 [2, 1] := by
    have := Row.two .u64 (w.alloc (.cells #[.int .i64 2, .int .i64 1] 3)) 2 1 31
    rwa [World.size_alloc] at this
  have R1 := Lib.hid r1
  have R2 := Lib.hid r2
  have hb0 : Below w.heap.size w ((w.alloc (.cells #[.int .i64 2, .int .i64 1] 3)).alloc (.cells #[.int .u64 2, .int .u64 1] 31)) := ((Below.refl _ _).alloc (Nat.le_refl _) _).alloc (by simp) _
  clear r1 r2
  go_enter Try.func10, Try.ntmps10
  go_wp2_with fail
  refine (write_any _ _ 2 2 2 2 [2, 1] [2, 1] _ R1.out R2.out (by decide) (by decide) (by decide)).mono ?_
  rintro e w1 ⟨rfl, hb1⟩
  rw [F.out.1, F.out.2.1]
  have hb1 : Below w.heap.size w w1 := hb0.trans (hb1.mono (by simp; omega))
  have hs1 := hb1.size
  clear hb0 R1 R2
  have R3 := Lib.hid (Row.two .i64 w1 2 1 3)
  go_wp2_with fail
  refine (read_any _ 2 2 [2, 1] _ _ R3.out (by decide) (by decide)).mono ?_
  rintro e w2 ⟨bo, n, cap, rfl, hown, hb2⟩
  have hr := Row.own hown
  rw [F.out.2.2.2.1] at hr
  obtain rfl : 2 = n := hr.len_eq
  rw [F.out.2.2.1, F.out.2.2.2.2.1]
  have hb2 : Below w.heap.size w w2 := (hb1.alloc hs1 _).trans (hb2.mono (by simp; omega))
  have hs2 := hb2.size
  clear hb1 R3 hown
  have HR := Lib.hid hr
  clear hr
  go_wp2_with fail
  refine (split_any _ _ (by decide)).mono ?_
  rintro e w3 ⟨rfl, hb3⟩
  rw [F.out.2.2.2.2.2.1, F.out.2.2.2.2.2.2.1, F.out.2.2.2.2.2.2.2.1, show strOf [122] = ⟨#[122]⟩ from rfl, show strOf [97, 98] = ⟨#[97, 98]⟩ from rfl, show strOf [99] = ⟨#[99]⟩ from rfl]
  have hr3 := HR.out.below hb3 (Nat.le_refl _)
  have hb3 : Below w.heap.size w w3 := hb2.trans (hb3.mono hs2)
  have hs3 := hb3.size
  obtain ⟨b, off, rfl, hc⟩ := hr3.at_ (by decide)
  have c0 : w3.cell? ⟨b, off, none⟩ = some (.int .u64 2) := hc 0 (by decide)
  have c1 : w3.cell? ⟨b, off + 1, none⟩ = some (.int .u64 1) := hc 1 (by decide)
  have R4 := Lib.hid (Row.two .i64 w3 8 1 3)
  clear hr3 hc HR hb2 
  go_wp2_with fail
  refine (size_any _ 2 2 [8, 1] _ R4.out (by decide)).mono ?_
  rintro e w4 ⟨rfl, rfl⟩
  rw [F.out.2.2.2.2.2.2.2.2]
  go_wp2_with fail
  go_ret
  exact ⟨rfl, hb3.alloc hs3 _⟩
end Go.Proofs.Ytnofgicflijpgaa.Lend
