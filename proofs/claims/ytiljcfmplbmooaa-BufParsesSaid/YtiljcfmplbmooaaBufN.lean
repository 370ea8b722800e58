/- Layer 15 (buf): for the law BufParses: lists that are tame, the bytes that are turned, four texts in a block. -/
import Derived.Test.YtiljcfmplbmooaaBufX
import Derived.Test.YtiljcfmplbmooaaApp2
namespace Go.Proofs.Ytiljcfmplbmooaa.Buf
open Go Go.RowKit Go.Proofs.Ytiljcfmplbmooaa Go.Proofs.Ytiljcfmplbmooaa.Lend Go.Proofs.Ytiljcfmplbmooaa.Rec Go.Proofs.Ytiljcfmplbmooaa.Msg
set_option linter.unusedVariables false

def tms (l : List Up) : List Up := l.map tmU
theorem tms_len (l : List Up) : (tms l).length = l.length := by simp [tms]
theorem tms_snoc {l : List Up} {k : Nat} (h : k < l.length) : tms (l.take (k + 1)) = tms (l.take k) ++ [tmU l[k]] := by
  unfold tms
  rw [List.take_succ_eq_append_getElem h, List.map_append]; rfl
theorem tms_wf {l : List Up} (h : ∀ u ∈ l, WfU u) : ∀ u ∈ tms l, WfU u := by
  intro u hu
  obtain ⟨x, hx, rfl⟩ := List.mem_map.1 hu
  exact (tmU_tm (h x hx)).wf
theorem txb_le : ∀ (l : List Up), errL l = 0 → (txL l).length ≤ 51 * l.length
  | [], _ => by simp [txL]
  | u :: l, h => by
    unfold errL at h
    by_cases hc : chkU u = 0
    · rw [if_pos hc] at h
      have h1 := txb_le l h
      have h2 := txU_le hc
      have e : txL (u :: l) = txU u ++ txL l := by simp [txL]
      rw [e, List.length_append, List.length_cons]
      omega
    · rw [if_neg hc] at h; exact absurd h hc
theorem txt_le (l : List Up) : (txT l).length ≤ 51 * l.length := by
  unfold txT
  split
  · rename_i h; exact txb_le l h
  · simp
/-- the bytes that are turned, beside the numbers that came in -/
structure Tn (w w0 : World) (g : Nat) (x0 x1 : Int) (xs : List UInt8) (wy : World) : Prop where
  row : BRow wy g xs
  at_ : Has wy w.heap.size 53 [.int .u16 x0, .int .u16 x1]
  bel : Below w0.heap.size w0 wy
  lt : g < wy.heap.size
  ne : w.heap.size < g
theorem Tn.drew {w w0 : World} {g : Nat} {x0 x1 : Int} {xs : List UInt8} {wy : World} (h : Tn w w0 g x0 x1 xs wy) : Tn w w0 g x0 x1 xs wy.drew := ⟨h.row.drewN 1, Has.drew h.at_, h.bel.drew, h.lt, h.ne⟩
theorem Tn.set {w w0 : World} {g : Nat} {x0 x1 : Int} {xs : List UInt8} {wy : World} (h : Tn w w0 g x0 x1 xs wy) (hg : w0.heap.size ≤ g) {d : Nat} (hd : d < xs.length) (b : UInt8) : Tn w w0 g x0 x1 (xs.set d b) (wy.setCell ⟨g, d, none⟩ (.int .u8 b.toNat)) :=
  ⟨h.row.set d hd b, h.at_.setOther (show g ≠ w.heap.size by have := h.ne; omega) _, h.bel.setCell hg _, by simpa using h.lt, h.ne⟩
/-- four texts in a block -/
def Four (w : World) (G : Nat) (t0 t1 t2 t3 : ByteArray) : Prop := Has w G 9 [.string t0, .string t1, .string t2, .string t3]
structure T4 (w w0 : World) (g : Nat) (x0 x1 : Int) (xs : List UInt8) (G : Nat) (t0 t1 t2 t3 : ByteArray) (b : Bool) (wy : World) : Prop where
  tn : Tn w w0 g x0 x1 xs wy
  sz : b = false → wy.heap.size = G
  four : b = true → Four wy G t0 t1 t2 t3
section
variable {w w0 wy : World} {g : Nat} {x0 x1 : Int} {xs : List UInt8} {G : Nat} {t0 t1 t2 t3 : ByteArray} {b : Bool}
theorem T4.drew (h : T4 w w0 g x0 x1 xs G t0 t1 t2 t3 b wy) : T4 w w0 g x0 x1 xs G t0 t1 t2 t3 b wy.drew := ⟨h.tn.drew, h.sz, h.four⟩
theorem T4.mk' (h : T4 w w0 g x0 x1 xs G t0 t1 t2 t3 false wy) : T4 w w0 g x0 x1 xs G t0 t1 t2 t3 true (wy.alloc (.cells #[.string t0, .string t1, .string t2, .string t3] 9)) := by
  have hs := h.sz rfl
  refine ⟨⟨h.tn.row.below (below_new wy _) h.tn.lt, h.tn.at_.alloc _, below_nw h.tn.bel _, by have := h.tn.lt; simp; omega, h.tn.ne⟩, (fun e => by cases e), fun _ => ?_⟩
  subst hs
  exact Has.new _ _ _
end
theorem Four.at_ {w : World} {G : Nat} {t0 t1 t2 t3 : ByteArray} {n : Nat} (h : Four w G t0 t1 t2 t3) (hs : t0.size ≤ n ∧ t1.size ≤ n ∧ t2.size ≤ n ∧ t3.size ≤ n) {k : Nat} (hk : k < 4) : ∃ τ : List UInt8, τ.length ≤ n ∧ w.cell? ⟨G, k, none⟩ = some (.string (Lend.strOf τ)) := by
  have e : ∀ s : ByteArray, Lend.strOf s.data.toList = s := fun s => (Lend.strOf_ext rfl).symm
  obtain ⟨h0, h1, h2, h3⟩ := hs
  match k, hk with
  | 0, _ => exact ⟨t0.data.toList, by simpa using h0, by rw [e]; exact h.cell 0⟩
  | 1, _ => exact ⟨t1.data.toList, by simpa using h1, by rw [e]; exact h.cell 1⟩
  | 2, _ => exact ⟨t2.data.toList, by simpa using h2, by rw [e]; exact h.cell 2⟩
  | 3, _ => exact ⟨t3.data.toList, by simpa using h3, by rw [e]; exact h.cell 3⟩
theorem bu8_lt (b : UInt8) : b.toNat < 256 := UInt8.toNat_lt b
end Go.Proofs.Ytiljcfmplbmooaa.Buf
