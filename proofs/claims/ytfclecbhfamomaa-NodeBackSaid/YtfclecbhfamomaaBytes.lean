/- Rows of bytes that the call made: how they read, how they are stored into, how they become a text, and how a text becomes one. -/
import Derived.WalkKit
import Derived.WalkSmall
import Derived.OwnWalk
import Derived.Laws.OwnMore
import Derived.Lib.Hide
import Derived.Lib.ConvBytes
import Derived.Laws.BytesString
import Derived.Test.YtfclecbhfamomaaRows
namespace Go.Proofs.Ytfclecbhfamomaa
open Go.RowKit
set_option linter.unusedVariables false

def strOf (l : List UInt8) : ByteArray := ⟨l.toArray⟩
theorem strOf_data (l : List UInt8) : (strOf l).data.toList = l := rfl
theorem strOf_self (s : ByteArray) : strOf s.data.toList = s := by cases s; rfl
theorem strOf_size (l : List UInt8) : (strOf l).size = l.length := rfl
theorem foldl_push (l : List Int) : ∀ s : ByteArray, l.foldl (fun r n => r.push (UInt8.ofNat n.toNat)) s = ⟨s.data ++ (l.map fun n => UInt8.ofNat n.toNat).toArray⟩ := by
  induction l with
  | nil => intro s; simp
  | cons x l ih => intro s; rw [List.foldl_cons, ih]; simp [ByteArray.push]
def u8V (b : UInt8) : Value := .int .u8 b.toNat

/-- Block g holds, from its beginning on, the bytes xs, and may be written there. -/
structure BRow (w : World) (g : Nat) (xs : List UInt8) : Prop where
  at_ : ∀ j, j < xs.length → w.cell? ⟨g, j, none⟩ = some (.int .u8 (xs.getD j 0).toNat)
  froz : ∀ j, j < xs.length → w.frozen? ⟨g, j, none⟩ = false
theorem BRow.below {w w' : World} {g B : Nat} {xs : List UInt8} (h : BRow w g xs) (hb : Below B w w') (hB : g < B) : BRow w' g xs :=
  ⟨fun j hj => by rw [hb.cell hB]; exact h.at_ j hj, fun j hj => by rw [hb.frozen hB]; exact h.froz j hj⟩
theorem BRow.drewN {w : World} {g : Nat} {xs : List UInt8} (h : BRow w g xs) (n : Nat) : BRow (w.drewN n) g xs := ⟨h.at_, h.froz⟩
theorem BRow.own {w : World} {B : Nat} {g n cap : Nat} {xs : List UInt8} (h : w.ownsRow B 5 1 (.slice (some ⟨g, 0, none⟩) n cap) n (xs.map u8V)) : BRow w g xs := by
  have hl : xs.length = n := by have := h.1; simpa using this
  refine ⟨fun j hj => ?_, fun j hj => h.frozenAt j⟩
  rw [h.cellAt j (by omega), List.getElem?_map, List.getElem?_eq_getElem hj, List.getD_eq_getElem?_getD, List.getElem?_eq_getElem hj]; rfl
theorem BRow.set {w : World} {g : Nat} {xs : List UInt8} (h : BRow w g xs) (j : Nat) (hj : j < xs.length) (b : UInt8) : BRow (w.setCell ⟨g, j, none⟩ (.int .u8 b.toNat)) g (xs.set j b) := by
  refine ⟨fun k hk => ?_, fun k hk => ?_⟩
  · rw [List.length_set] at hk
    by_cases e : j = k
    · subst e
      rw [World.cell?_setCell_same w _ _ (h.at_ j hj), List.getD_eq_getElem?_getD, List.getElem?_set_self hj]; rfl
    · rw [World.cell?_setCell_other w _ _ _ (by intro h'; simp only [Addr.mk.injEq] at h'; exact e h'.2.1), h.at_ k hk]
      rw [List.getD_eq_getElem?_getD, List.getD_eq_getElem?_getD, List.getElem?_set_ne e]
  · rw [List.length_set] at hk
    rw [World.frozen?_setCell]
    exact h.froz k hk
/-- 'string(b)'. -/
theorem run_string_brow (w : World) (g cap n : Nat) (xs : List UInt8) (h : BRow w g xs) (hn : n = xs.length) :
    (convert 54 9 (.slice (some ⟨g, 0, none⟩) n cap)).run Try.prog w = .ok (.string (strOf xs)) w := by
  subst hn
  rw [run_convert_bytes_string w _ _ _ _ _ _ Try.underlying54 Try.underlying5 Try.underlying9]
  have hc := run_loadCells_list (P := Try.prog) (w := w) ⟨g, 0, none⟩ (xs.map u8V) (by
    intro j u hu
    have hj : j < xs.length := by have := (List.getElem?_eq_some_iff.1 hu).1; simpa using this
    rw [Addr.add_lit, Nat.zero_add, h.at_ j hj]
    rw [List.getElem?_map, List.getElem?_eq_getElem hj] at hu
    rw [List.getD_eq_getElem?_getD, List.getElem?_eq_getElem hj]
    exact hu)
  rw [List.length_map] at hc
  have e : xs.map u8V = (xs.map fun b => (b.toNat : Int)).map (Value.int .u8) := by simp [u8V]
  rw [e] at hc
  rw [run_bytesToString w _ _ _ _ hc, foldl_push]
  have ef : ((fun n : Int => UInt8.ofNat n.toNat) ∘ fun b : UInt8 => (b.toNat : Int)) = id := by funext b; simp
  simp [strOf, ByteArray.empty, ByteArray.emptyWithCapacity, ef]
  rfl
theorem BRow.one (w : World) (b : UInt8) (e : TypeId) : BRow (w.alloc (.cells #[.int .u8 b.toNat] e)) w.heap.size [b] := by
  refine ⟨fun j hj => ?_, fun j hj => ?_⟩
  · match j, hj with
    | 0, _ => simp
  · simp
/-- '[]byte(s)'. -/
theorem run_bytes_brow (w : World) (s : ByteArray) :
    (convert 9 54 (.string s)).run Try.prog w = .ok (.slice (some ⟨w.heap.size, 0, none⟩) s.size (grownCap w s.size 0 5)) (Lib.bytesWorld w 5 s) :=
  Lib.run_convert_string_bytes w _ _ _ s Try.underlying9 Try.underlying54 Try.underlying5
theorem below_bytesWorld (w : World) (e : TypeId) (s : ByteArray) : Below w.heap.size w (Lib.bytesWorld w e s) :=
  ⟨rfl, rfl, rfl, by rw [Lib.bytesWorld_size]; omega, fun k hk => Lib.bytesWorld_at_old w e s k hk⟩
theorem brow_bytesWorld (w : World) (s : ByteArray) (e : TypeId) : BRow (Lib.bytesWorld w e s) w.heap.size s.data.toList := by
  refine ⟨fun j hj => Lib.bytesWorld_cell w e s j (by simpa using hj), fun j hj => ?_⟩
  have hj' : j < s.size := by simpa using hj
  have h : j < (Lib.bytesCells w e s).size := by simp [Lib.bytesCells]; omega
  simp only [World.frozen?, Lib.bytesWorld_at_new]
  simp
  omega
theorem info_u8 : (Try.prog.info? 5).map (fun i => (i.zero, i.size, i.bytes)) = some (some (.int .u8 0), 1, 1) := by kernel_rfl
end Go.Proofs.Ytfclecbhfamomaa
