/- Contracts for layer 4's laws: tame, of, wakes. -/
import Derived.Test.YtimdemdopnmijaaDoorEnvE
import Derived.Test.YtimdemdopnmijaaDoorEnvF
namespace Go.Proofs.YtimdemdopnmijaaDoor.Env
open Go.RowKit Go.Proofs.YtimdemdopnmijaaDoor Go.Proofs.YtimdemdopnmijaaDoor.Lend
set_option linter.unusedVariables false

/-- three cells that were just made, and may be written -/
structure New3 (W : World) (g : Nat) (x y z : Value) : Prop where
  c0 : W.cell? ⟨g, 0, none⟩ = some x
  c1 : W.cell? ⟨g, 1, none⟩ = some y
  c2 : W.cell? ⟨g, 2, none⟩ = some z
  f0 : W.frozen? ⟨g, 0, none⟩ = false
  f1 : W.frozen? ⟨g, 1, none⟩ = false
  f2 : W.frozen? ⟨g, 2, none⟩ = false
theorem New3.new (W : World) (x y z : Value) (t : TypeId) : New3 (W.alloc (.cells #[x, y, z] t)) W.heap.size x y z := by constructor <;> simp
theorem New3.newd (W : World) (x y z : Value) (t : TypeId) : New3 (W.alloc (.cells #[x, y, z] t)).drew W.heap.size x y z := New3.new W x y z t |> fun h => ⟨h.c0, h.c1, h.c2, h.f0, h.f1, h.f2⟩
theorem New3.on {W W' : World} {g : Nat} {x y z : Value} (h : New3 W g x y z) (hb : Below W.heap.size W W') : New3 W' g x y z := by
  have hl : g < W.heap.size := World.block_lt_of_cell? _ _ h.c0
  exact ⟨by rw [hb.cell hl]; exact h.c0, by rw [hb.cell hl]; exact h.c1, by rw [hb.cell hl]; exact h.c2, by rw [hb.frozen hl]; exact h.f0, by rw [hb.frozen hl]; exact h.f1, by rw [hb.frozen hl]; exact h.f2⟩
theorem New3.set {W : World} {g : Nat} {x y z : Value} (h : New3 W g x y z) (u v t : Value) : New3 (((W.setCell ⟨g, 0, none⟩ u).setCell ⟨g, 1, none⟩ v).setCell ⟨g, 2, none⟩ t) g u v t := by
  have e : ∀ {i j : Nat}, i ≠ j → (⟨g, i, none⟩ : Addr) ≠ ⟨g, j, none⟩ := fun h h' => h (Addr.mk.inj h').2.1
  have o : ∀ (W' : World) {i j : Nat} (q : Value), i ≠ j → (W'.setCell ⟨g, i, none⟩ q).cell? ⟨g, j, none⟩ = W'.cell? ⟨g, j, none⟩ := fun W' i j q hij => World.cell?_setCell_other _ _ _ _ (by first | exact e hij | exact (e hij).symm)
  refine ⟨?_, ?_, ?_, ?_, ?_, ?_⟩
  · rw [o _ _ (by decide), o _ _ (by decide), World.cell?_setCell_same _ _ _ h.c0]
  · rw [o _ _ (by decide), World.cell?_setCell_same _ _ _ (by rw [o _ _ (by decide)]; exact h.c1)]
  · rw [World.cell?_setCell_same _ _ _ (by rw [o _ _ (by decide), o _ _ (by decide)]; exact h.c2)]
  · rw [World.frozen?_setCell, World.frozen?_setCell, World.frozen?_setCell]; exact h.f0
  · rw [World.frozen?_setCell, World.frozen?_setCell, World.frozen?_setCell]; exact h.f1
  · rw [World.frozen?_setCell, World.frozen?_setCell, World.frozen?_setCell]; exact h.f2
theorem tab_dr {w : World} {b : Nat} (h : Sum.IsTab w b) : Sum.IsTab w.drew b := fun j hj => h j hj
theorem tab_nw {w : World} {b : Nat} (h : Sum.IsTab w b) (o : Obj) : Sum.IsTab (w.alloc o) b := tab_on h (below_new w o)
def tamK (k : Int) : Int := 1 + k % 5
def tamA (a : Int) : Int := max 0 a % 2147483648
theorem tam_ok (k a : Int) : hdB (tamK k) (tamA a) = true := by
  have h1 : 1 ≤ tamK k ∧ tamK k ≤ 5 := by unfold tamK; omega
  have h2 : 0 ≤ tamA a ∧ tamA a ≤ 2147483647 := by unfold tamA; omega
  simp [hdB, adB, h1, h2]
theorem ppV_enc {a g c : Int} (h : adB a = true) (hg0 : 0 ≤ g) (hg1 : g < 18446744073709551616) (hc0 : 0 ≤ c) (hc1 : c < 4294967296) (m : List UInt8) :
    ppV (encL ptrW [a, g, c] ++ m) = .tuple #[.agg #[.int .i64 a, .int .u64 g, .int .u32 c], .string (strOf m), .bool true] := by
  have h2 : 0 ≤ a ∧ a ≤ 2147483647 := by simpa [adB] using h
  have hf : fitsL ptrW [a, g, c] = true := by
    have h4 := fitsB_of (n := a) (x := 4) (by have := h2.2; simp; omega)
    have h5 := fitsB_of (n := g) (x := 8) (by simpa using hg1)
    have h6 := fitsB_of (n := c) (x := 4) (by simpa using hc1)
    simp only [ptrW, fitsL, h4, h5, h6]; rfl
  have hr := rd_enc m ptrW [a, g, c] rfl ptrW_ok hf (fun x hx => (ptr_ns h2.1 (by omega) hg0 hg1 hc0 hc1 x hx).1)
  have hl : (encL ptrW [a, g, c]).length = 16 := by rw [encL_ptr]; simp [encN_length]
  have e0 : pG (encL ptrW [a, g, c] ++ m) 0 = a := by rw [pG, hr]; rfl
  have e1 : pG (encL ptrW [a, g, c] ++ m) 1 = g := by rw [pG, hr]; rfl
  have e2 : pG (encL ptrW [a, g, c] ++ m) 2 = c := by rw [pG, hr]; rfl
  rw [ppV_yes (ppB_ok (by rw [List.length_append, hl]; omega) (by rw [e0]; exact h2.2)), e0, e1, e2, List.drop_left' hl]
theorem wake_head : hp 4 3 7 9 = [84, 82, 78, 76, 4, 0, 3, 0, 7, 0, 0, 0, 9, 0, 0, 0, 0, 0, 0, 0] := by decide +kernel
theorem fit_of {k a g : Int} {pl : List UInt8} (h : hdB k a = true) (hg0 : 0 ≤ g) (hg1 : g < 18446744073709551616) (hp : pl.length ≤ 1000) : Fit k pl.length a g 0 := by
  obtain ⟨h1, h2, h3, h4⟩ := hdB_bd h
  exact ⟨by omega, by omega, by omega, by omega, by omega, by omega, hg0, hg1, by decide, by decide⟩
/-- an image that was sealed: what is read of it -/
theorem img_o {k a g : Int} {m : Nat} {pl : List UInt8} (h : hdB k a = true) (hg0 : 0 ≤ g) (hg1 : g < 18446744073709551616) (hp : pl.length ≤ m) (hm : 104 ≤ m) (hm' : m ≤ 1000) :
    opE (imgL k a g m pl) = 0 ∧ oK (imgL k a g m pl) = k ∧ oA (imgL k a g m pl) = a ∧ oG (imgL k a g m pl) = g ∧ oC (imgL k a g m pl) = (ckL k pl.length a g (bodyL m pl) : Int) ∧ oP (imgL k a g m pl) = strOf pl := by
  have hf := fit_of (pl := pl) h hg0 hg1 (by omega)
  obtain ⟨_, h2, h3⟩ := img_open hf h hp hm hm'
  obtain ⟨f0, f1, f2, f3, f4, f5⟩ := img_F (m := m) hf
  refine ⟨h2, ?_, ?_, ?_, ?_, ?_⟩
  · rw [oK, if_pos h2, f0]
  · rw [oA, if_pos h2, f3]
  · rw [oG, if_pos h2, f4]
  · rw [oC, if_pos h2, f5]
  · rw [oP, if_pos h2, h3]
end Go.Proofs.YtimdemdopnmijaaDoor.Env
