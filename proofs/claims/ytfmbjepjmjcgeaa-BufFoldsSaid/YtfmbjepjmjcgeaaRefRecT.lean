/- Layer 12 (rec), prepared: the document's own answers: Text. -/
import Derived.Test.YtfmbjepjmjcgeaaRefRec
import Derived.Test.YtfmbjepjmjcgeaaBytes
import Derived.Test.YtfmbjepjmjcgeaaRefLendB
namespace Go.Proofs.Ytfmbjepjmjcgeaa.Rec
open Go Go.RowKit Go.Proofs.Ytfmbjepjmjcgeaa Go.Proofs.Ytfmbjepjmjcgeaa.Lend
set_option linter.unusedVariables false

theorem txL_step {l : List Up} {k : Nat} (hk : k < l.length) : txL (l.take (k + 1)) = txL (l.take k) ++ txU l[k] := by
  rw [List.take_succ_eq_append_getElem hk, txL_append]
  congr 1
  unfold txL; simp
theorem errL_step {l : List Up} {k : Nat} (hk : k < l.length) (h : errL (l.take k) = 0) : errL (l.take (k + 1)) = chkU l[k] := by
  have : ∀ (a : List Up) (u : Up), errL a = 0 → errL (a ++ [u]) = chkU u := fun a u => by
    induction a with
    | nil => intro _; show (if chkU u = 0 then errL [] else chkU u) = chkU u; split <;> simp_all [errL]
    | cons x a ih =>
      intro h
      by_cases e : chkU x = 0
      · have h2 : errL a = 0 := by have : errL (x :: a) = errL a := by show (if chkU x = 0 then _ else _) = _; rw [if_pos e]
                                   rw [← this]; exact h
        show (if chkU x = 0 then errL (a ++ [u]) else chkU x) = _
        rw [if_pos e]; exact ih h2
      · have : errL (x :: a) = chkU x := by show (if chkU x = 0 then _ else _) = _; rw [if_neg e]
        rw [this] at h; exact absurd h e
  rw [List.take_succ_eq_append_getElem hk]; exact this _ _ h
theorem errL_at {l : List Up} {k : Nat} (hk : k < l.length) (h : errL (l.take k) = 0) (hc : chkU l[k] ≠ 0) : errL l = chkU l[k] := by
  have : ∀ (l : List Up) (k : Nat) (hk : k < l.length), errL (l.take k) = 0 → chkU l[k] ≠ 0 → errL l = chkU l[k] := fun l => by
    induction l with
    | nil => intro k hk; cases hk
    | cons x l ih =>
      intro k hk h hc
      cases k with
      | zero =>
        show (if chkU x = 0 then errL l else chkU x) = chkU x
        have hc' : ¬ chkU x = 0 := hc
        rw [if_neg hc']
      | succ k =>
        rw [List.take_succ_cons] at h
        by_cases e : chkU x = 0
        · have h2 : errL (l.take k) = 0 := by
            have h3 : errL (x :: l.take k) = errL (l.take k) := by show (if chkU x = 0 then _ else _) = _; rw [if_pos e]
            rw [← h3]; exact h
          show (if chkU x = 0 then errL l else chkU x) = _
          rw [if_pos e]
          exact ih k (by simpa using hk) h2 hc
        · have h3 : errL (x :: l.take k) = chkU x := by show (if chkU x = 0 then _ else _) = _; rw [if_neg e]
          rw [h3] at h; exact absurd h e
  exact this l k hk h hc
theorem getD_toNat {b : Int} (h0 : 0 ≤ b) (h1 : b ≤ 255) : ((UInt8.ofNat b.toNat).toNat : Int) = b := by rw [ofNat_small (by omega)]; omega
theorem conv2 (w : World) (b1 b2 : Int) (h1 : 0 ≤ b1) (h2 : b1 ≤ 255) (h3 : 0 ≤ b2) (h4 : b2 ≤ 255) : (convert 58 9 (.slice (some ⟨w.heap.size, 0, none⟩) 2 2)).run Try.prog (w.alloc (.cells #[.int .u8 b1, .int .u8 b2] 5)) = .ok (.string (Lend.strOf [UInt8.ofNat b1.toNat, UInt8.ofNat b2.toNat])) (w.alloc (.cells #[.int .u8 b1, .int .u8 b2] 5)) := by
  refine run_string_brow _ w.heap.size 2 2 [UInt8.ofNat b1.toNat, UInt8.ofNat b2.toNat] ⟨fun j hj => ?_, fun j hj => ?_⟩ rfl
  · have h := (Has.new w [.int .u8 b1, .int .u8 b2] 5).cell j
    match j, hj with
    | 0, _ => rw [show (([UInt8.ofNat b1.toNat, UInt8.ofNat b2.toNat].getD 0 0).toNat : Int) = b1 from getD_toNat h1 h2]; exact h
    | 1, _ => rw [show (([UInt8.ofNat b1.toNat, UInt8.ofNat b2.toNat].getD 1 0).toNat : Int) = b2 from getD_toNat h3 h4]; exact h
  · exact (Has.new w [.int .u8 b1, .int .u8 b2] 5).frozen j
theorem conv1 (w : World) (b1 : Int) (h1 : 0 ≤ b1) (h2 : b1 ≤ 255) : (convert 58 9 (.slice (some ⟨w.heap.size, 0, none⟩) 1 1)).run Try.prog (w.alloc (.cells #[.int .u8 b1] 5)) = .ok (.string (Lend.strOf [UInt8.ofNat b1.toNat])) (w.alloc (.cells #[.int .u8 b1] 5)) := by
  refine run_string_brow _ w.heap.size 1 1 [UInt8.ofNat b1.toNat] ⟨fun j hj => ?_, fun j hj => ?_⟩ rfl
  · have h := (Has.new w [.int .u8 b1] 5).cell j
    match j, hj with
    | 0, _ => rw [show (([UInt8.ofNat b1.toNat].getD 0 0).toNat : Int) = b1 from getD_toNat h1 h2]; exact h
  · exact (Has.new w [.int .u8 b1] 5).frozen j
theorem sapp (a b : List UInt8) : Lend.strOf a ++ Lend.strOf b = Lend.strOf (a ++ b) := by
  apply ByteArray.ext
  simp [Lend.strOf]
theorem b_on2 {w w' : World} {o : Obj} (h : Below w.heap.size w w') : Below w.heap.size w (w'.alloc o) := h.alloc h.size o
/-- what Text answers -/
def txT (l : List Up) : List UInt8 := if errL l = 0 then txL l else []
end Go.Proofs.Ytfmbjepjmjcgeaa.Rec
