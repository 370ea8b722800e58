/- Layer 16 (leaf): for the law LeafParses: entries that came in, the bytes that are turned, four texts in a block. -/
import Derived.Test.YtfmbjepjmjcgeaaLeX
import Derived.Test.YtfmbjepjmjcgeaaBytes
namespace Go.Proofs.Ytfmbjepjmjcgeaa.Leaf
open Go Go.RowKit Go.Proofs.Ytfmbjepjmjcgeaa Go.Proofs.Ytfmbjepjmjcgeaa.Lend Go.Proofs.Ytfmbjepjmjcgeaa.Rec Go.Proofs.Ytfmbjepjmjcgeaa.Msg Go.Proofs.Ytfmbjepjmjcgeaa.Buf
set_option linter.unusedVariables false

/-- short entries -/
def Sml (L : List Up) : Prop := ∀ x ∈ L, x.key.length ≤ 200 ∧ x.val.length ≤ 200
theorem sml_nil : Sml [] := fun x h => by cases h
theorem Sml.snoc {L : List Up} {x : Up} (h : Sml L) (hk : x.key.length ≤ 200) (hv : x.val.length ≤ 200) : Sml (L ++ [x]) := fun y hy => by
  rcases List.mem_append.1 hy with hy | hy
  · exact h y hy
  · rw [List.mem_singleton] at hy; rw [hy]; exact ⟨hk, hv⟩
theorem Sml.sho {L : List Up} (h : Sml L) : Sho L := fun x hx => by have := h x hx; omega
theorem Sml.len {L : List Up} (h : Sml L) (hl : L.length ≤ 8) : (txE L).length ≤ 3216 := by
  have h1 := txE_len (m := 200) h
  have h2 : L.length * (2 * 200 + 2) ≤ 8 * 402 := Nat.mul_le_mul hl (Nat.le_refl _)
  omega
/-- an entry told by its cells -/
theorem ent_cells {w : World} {b off i : Nat} {x0 x1 : ByteArray} (c0 : w.cell? ⟨b, off + (i * 2 + 0), none⟩ = some (.string x0)) (c1 : w.cell? ⟨b, off + (i * 2 + 1), none⟩ = some (.string x1)) :
    ∀ j, j < 2 → w.cell? ⟨b, off + i * 2 + j, none⟩ = (encE (enU x0.data.toList x1.data.toList))[j]? := by
  intro j hj
  have e : ∀ s : ByteArray, Lend.strOf s.data.toList = s := fun s => (Lend.strOf_ext rfl).symm
  rw [Nat.add_assoc]
  match j, hj with
  | 0, _ => rw [c0]; simp [encE, enU, e]
  | 1, _ => rw [c1]; simp [encE, enU, e]
/-- the first ones of a slice -/
theorem er_first {w : World} {a s : Option Addr} {n M c c' : Nat} {l : List Up} (h : ER w (.slice a n c) l) (hM : M ≤ l.length) (hs : 0 < M → s = a) : ER w (.slice s M c') (l.take M) := by
  refine ⟨s, c', by rw [List.length_take, Nat.min_eq_left hM], fun h0 => ?_⟩
  rw [List.length_take] at h0
  obtain ⟨g, off, ha, hc⟩ := ER.at_ h (by omega)
  refine ⟨g, off, by rw [hs (by omega), ha], fun i hi j hj => ?_⟩
  rw [List.length_take] at hi
  rw [List.getElem_take]
  exact hc i (by omega) j hj
/-- the bytes that are turned, beside the numbers that came in -/
structure Tn (w w0 : World) (g : Nat) (x0 x1 : Int) (xs : List UInt8) (wy : World) : Prop where
  row : BRow wy g xs
  at_ : Has wy w.heap.size 50 [.int .u16 x0, .int .u16 x1]
  bel : Below w0.heap.size w0 wy
  lt : g < wy.heap.size
  ne : w.heap.size < g
theorem Tn.drew {w w0 : World} {g : Nat} {x0 x1 : Int} {xs : List UInt8} {wy : World} (h : Tn w w0 g x0 x1 xs wy) : Tn w w0 g x0 x1 xs wy.drew := ⟨h.row.drewN 1, Has.drew h.at_, h.bel.drew, h.lt, h.ne⟩
theorem Tn.set {w w0 : World} {g : Nat} {x0 x1 : Int} {xs : List UInt8} {wy : World} (h : Tn w w0 g x0 x1 xs wy) (hg : w0.heap.size ≤ g) {d : Nat} (hd : d < xs.length) (b : UInt8) : Tn w w0 g x0 x1 (xs.set d b) (wy.setCell ⟨g, d, none⟩ (.int .u8 b.toNat)) :=
  ⟨h.row.set d hd b, h.at_.setOther (show g ≠ w.heap.size by have := h.ne; omega) _, h.bel.setCell hg _, by simpa using h.lt, h.ne⟩
/-- four texts in a block -/
def Four (w : World) (G : Nat) (t0 t1 t2 t3 : ByteArray) : Prop := Has w G 9 [.string t0, .string t1, .string t2, .string t3]
structure T4 (w w0 : World) (g : Nat) (x0 x1 : Int) (xs : List UInt8) (G : Nat) (t0 t1 t2 t3 : ByteArray) (b : Bool) (wy : World) : Prop where
  tn : Tn w w0 g x0 x1 xs wy
  sz : b = false → wy.heap.size = G
  four : b = true → Four wy G t0 t1 t2 t3
section
variable {w w0 wy : World} {g : Nat} {x0 x1 : Int} {xs : List UInt8} {G : Nat} {t0 t1 t2 t3 : ByteArray} {b : Bool}
theorem T4.drew (h : T4 w w0 g x0 x1 xs G t0 t1 t2 t3 b wy) : T4 w w0 g x0 x1 xs G t0 t1 t2 t3 b wy.drew := ⟨h.tn.drew, h.sz, h.four⟩
theorem T4.mk' (h : T4 w w0 g x0 x1 xs G t0 t1 t2 t3 false wy) : T4 w w0 g x0 x1 xs G t0 t1 t2 t3 true (wy.alloc (.cells #[.string t0, .string t1, .string t2, .string t3] 9)) := by
  have hs := h.sz rfl
  refine ⟨⟨h.tn.row.below (below_new wy _) h.tn.lt, h.tn.at_.alloc _, below_nw h.tn.bel _, by have := h.tn.lt; simp; omega, h.tn.ne⟩, (fun e => by cases e), fun _ => ?_⟩
  subst hs
  exact Has.new _ _ _
end
theorem Four.at_ {w : World} {G : Nat} {t0 t1 t2 t3 : ByteArray} {n : Nat} (h : Four w G t0 t1 t2 t3) (hs : t0.size ≤ n ∧ t1.size ≤ n ∧ t2.size ≤ n ∧ t3.size ≤ n) {k : Nat} (hk : k < 4) : ∃ τ : List UInt8, τ.length ≤ n ∧ w.cell? ⟨G, k, none⟩ = some (.string (Lend.strOf τ)) := by
  have e : ∀ s : ByteArray, Lend.strOf s.data.toList = s := fun s => (Lend.strOf_ext rfl).symm
  obtain ⟨h0, h1, h2, h3⟩ := hs
  match k, hk with
  | 0, _ => exact ⟨t0.data.toList, by simpa using h0, by rw [e]; exact h.cell 0⟩
  | 1, _ => exact ⟨t1.data.toList, by simpa using h1, by rw [e]; exact h.cell 1⟩
  | 2, _ => exact ⟨t2.data.toList, by simpa using h2, by rw [e]; exact h.cell 2⟩
  | 3, _ => exact ⟨t3.data.toList, by simpa using h3, by rw [e]; exact h.cell 3⟩
theorem bu8_lt (b : UInt8) : b.toNat < 256 := UInt8.toNat_lt b
end Go.Proofs.Ytfmbjepjmjcgeaa.Leaf
