/- More on rows of numbers: three and six of them. -/
import Derived.Test.YtfclecbhfamomaaBase
namespace Go.Proofs.Ytfclecbhfamomaa
open Go.RowKit
theorem Row.three (kd : IntKind) (w : World) (a b c : Int) (e : TypeId) : Row kd (w.alloc (.cells #[.int kd a, .int kd b, .int kd c] e)) (some ⟨w.heap.size, 0, none⟩) 3 [a, b, c] := by
  refine ⟨rfl, fun _ => ⟨w.heap.size, 0, rfl, fun i hi => ?_⟩⟩
  match i, hi with
  | 0, _ => simp
  | 1, _ => simp
  | 2, _ => simp
theorem Row.six (kd : IntKind) (w : World) (a b c d f g : Int) (e : TypeId) : Row kd (w.alloc (.cells #[.int kd a, .int kd b, .int kd c, .int kd d, .int kd f, .int kd g] e)) (some ⟨w.heap.size, 0, none⟩) 6 [a, b, c, d, f, g] := by
  refine ⟨rfl, fun _ => ⟨w.heap.size, 0, rfl, fun i hi => ?_⟩⟩
  match i, hi with
  | 0, _ => simp
  | 1, _ => simp
  | 2, _ => simp
  | 3, _ => simp
  | 4, _ => simp
  | 5, _ => simp
theorem Row.sixAt (kd : IntKind) (w : World) (a b c d f g : Int) (e : TypeId) (n : Nat) (h : n = w.heap.size) : Row kd (w.alloc (.cells #[.int kd a, .int kd b, .int kd c, .int kd d, .int kd f, .int kd g] e)) (some ⟨n, 0, none⟩) 6 [a, b, c, d, f, g] := by subst h; exact Row.six kd w a b c d f g e
theorem Row.threeAt (kd : IntKind) (w : World) (a b c : Int) (e : TypeId) (n : Nat) (h : n = w.heap.size) : Row kd (w.alloc (.cells #[.int kd a, .int kd b, .int kd c] e)) (some ⟨n, 0, none⟩) 3 [a, b, c] := by subst h; exact Row.three kd w a b c e
theorem Row.later {kd : IntKind} {w w' : World} {ao : Option Addr} {len : Nat} {xs : List Int} (h : Row kd w ao len xs) (hb : Below w.heap.size w w') : Row kd w' ao len xs := h.below hb (Nat.le_refl _)
theorem Row.new {kd : IntKind} {w : World} {ao : Option Addr} {len : Nat} {xs : List Int} (h : Row kd w ao len xs) (o : Obj) : Row kd (w.alloc o) ao len xs := h.later ((Below.refl _ _).alloc (Nat.le_refl _) _)
theorem Row.drw {kd : IntKind} {w : World} {ao : Option Addr} {len : Nat} {xs : List Int} (h : Row kd w ao len xs) : Row kd w.drew ao len xs := ⟨h.1, h.2⟩
end Go.Proofs.Ytfclecbhfamomaa
