/- Layer 12 (rec): an update's bytes, its size. -/
import Derived.RegionTactic
import Derived.Deep.RegionHeld3
import Derived.Test.YtfmbjepjmjcgeaaRecA
import Derived.Test.YtfmbjepjmjcgeaaRefRecT
import Derived.Test.YtfmbjepjmjcgeaaLendJ
import Derived.Test.YtfmbjepjmjcgeaaRowsM
namespace Go.Proofs.Ytfmbjepjmjcgeaa
open Go.RowKit
theorem Row.oneAt (kd : IntKind) (w : World) (a : Int) (e : TypeId) (n : Nat) (h : n = w.heap.size) : Row kd (w.alloc (.cells #[.int kd a] e)) (some ⟨n, 0, none⟩) 1 [a] := by
  subst h
  refine ⟨rfl, fun _ => ⟨w.heap.size, 0, rfl, fun i hi => ?_⟩⟩
  match i, hi with
  | 0, _ => simp
end Go.Proofs.Ytfmbjepjmjcgeaa
namespace Go.Proofs.Ytfmbjepjmjcgeaa.Rec
open Go Go.RowKit Go.Proofs.Ytfmbjepjmjcgeaa Go.Proofs.Ytfmbjepjmjcgeaa.Lend
set_option linter.unusedVariables false

theorem ret_str {a b : ByteArray} (h : a = b) : Ending.returned (.string a) = .returned (.string b) := by rw [h]
theorem ret_i64 {a b : Int} (h : a = b) : Ending.returned (.int .i64 a) = .returned (.int .i64 b) := by rw [h]
theorem wr8 {d : Int} (h0 : 0 ≤ d) (h1 : d < 18446744073709551616) : wrS [8] [d] = Lend.strOf (encN d 8) ∧ wrB [8] [d] = true := by
  have h := wr_ok (ws := [8]) (ns := [d]) rfl rfl (by simp [fitsL, fitsB_8 d h1])
  refine ⟨?_, h.1⟩
  rw [h.2]
  simp [encL]
/-- a text, with its length ahead -/
theorem join_len (l : List UInt8) (w : World) (h : l.length ≤ 255) : Calls Try.prog 36 #[.string (Lend.strOf l)] w fun e w' => e = .returned (.tuple #[.string (Lend.strOf (len8 l)), .bool true]) ∧ Below w.heap.size w w' := by
  refine (join_any (Lend.strOf l) w (by rw [ssize]; omega)).mono ?_
  rintro e w' ⟨rfl, hb⟩
  refine ⟨?_, hb⟩
  rw [Lend.strOf_data, show jnS l = len8 l by unfold jnS len8; rw [if_pos h], show jnB l = true by simp [jnB, h]]
theorem txU_le {u : Up} (h : chkU u = 0) : (txU u).length ≤ 51 := by
  obtain ⟨p1, p2, p3, p4, p5, p6, p7⟩ := chkU_ok h
  rw [txU_length h]
  split <;> split <;> omega
/-- how many bytes an update takes -/
def szU (u : Up) : Int := if chkU u = 0 then ((txU u).length : Int) else 0
theorem szU_yes {u : Up} (h : chkU u = 0) : szU u = ((txU u).length : Int) := if_pos h
theorem szU_no {u : Up} (h : ¬ chkU u = 0) : szU u = 0 := if_neg h
end Go.Proofs.Ytfmbjepjmjcgeaa.Rec
