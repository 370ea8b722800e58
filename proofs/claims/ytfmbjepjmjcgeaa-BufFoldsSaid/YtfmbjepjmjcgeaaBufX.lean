/- Layer 15 (buf): for the laws' walks: updates that came in, a buffer in a block of the law's own beside the document's. -/
import Derived.Test.YtfmbjepjmjcgeaaBufW
namespace Go.Proofs.Ytfmbjepjmjcgeaa.Buf
open Go Go.RowKit Go.Proofs.Ytfmbjepjmjcgeaa Go.Proofs.Ytfmbjepjmjcgeaa.Lend Go.Proofs.Ytfmbjepjmjcgeaa.Rec Go.Proofs.Ytfmbjepjmjcgeaa.Msg
set_option linter.unusedVariables false

/-- an update that came in -/
def Qu (u : Up) : Prop := WfU u ∧ u.key.length ≤ 140737488355327 ∧ u.val.length ≤ 140737488355327
/-- what waits: by rising keys, tame, none of the empty key -/
structure Gd (L : List Up) (k : Nat) : Prop where
  srt : Srt L
  tm : ∀ x ∈ L, Tm x ∧ x.key ≠ []
  len : L.length ≤ k
theorem gd_nil : Gd [] 0 := ⟨srt_nil, (fun x hx => by cases hx), Nat.le_refl _⟩
theorem with_key {l : List Up} {u : Up} (hl : ∀ x ∈ l, x.key ≠ []) (hu : u.key ≠ []) : ∀ x ∈ withU l u, x.key ≠ [] := by
  intro x hx
  rcases with_mem hx with h | h
  · rw [h]; exact hu
  · exact hl x h
theorem Gd.with {L : List Up} {k : Nat} (h : Gd L k) {u : Up} (hu : Tm u) (hk : u.key ≠ []) : Gd (withU L u) (k + 1) :=
  ⟨with_srt h.srt u, fun x hx => ⟨with_tm (fun y hy => (h.tm y hy).1) hu x hx, with_key (fun y hy => (h.tm y hy).2) hk x hx⟩, Nat.le_trans (with_len L u) (by have := h.len; omega)⟩
theorem Gd.none {L : List Up} {k : Nat} (h : Gd L k) : getO L [] = none := (getO_none h.srt _).2 fun u hu => (h.tm u hu).2
theorem Gd.wf {L : List Up} {k : Nat} (h : Gd L k) : ∀ u ∈ L, WfU u := fun u hu => (h.tm u hu).1.wf
theorem ur_own {w : World} {base n : Nat} {e : TypeId} {v : Value} {l : List Up} (hn : n = l.length) (h : w.ownsRow base e 4 v n (flatU l)) : UR w v l := by subst hn; exact UR.of_own h
theorem ro_own {w : World} {base n : Nat} {e : TypeId} {v : Value} {l : List Up} (hn : n = l.length) (h : w.ownsRow base e 4 v n (flatU l)) : RO e w base v l := by subst hn; exact h
/-- the law's buffer in its block, and the document's beside it -/
structure Pl (w0 : World) (G : Nat) (bv mv : Value) (L : List Up) (w : World) : Prop where
  b : Has w G 75 [bv]
  ra : RA w (G + 1) bv L
  ru : RU w (G + 1) mv L
  bel : Below w0.heap.size w0 w
section
variable {w0 w w' : World} {G : Nat} {bv mv cv nv : Value} {L L' : List Up}
theorem Pl.on (h : Pl w0 G bv mv L w) (hb : Below w.heap.size w w') : Pl w0 G bv mv L w' := ⟨h.b.below hb h.b.lt, own_bel h.ra hb, own_bel h.ru hb, below_on h.bel hb⟩
theorem Pl.set (h : Pl w0 G bv mv L w) (hG : w0.heap.size ≤ G) (hc : RA w (G + 1) cv L') (hn : RU w (G + 1) nv L') : Pl w0 G cv nv L' (w.setCell ⟨G, 0, none⟩ cv) :=
  ⟨h.b.set 0 cv, ro_far hc (Nat.lt_succ_self _) _, ro_far hn (Nat.lt_succ_self _) _, h.bel.setCell hG _⟩
theorem Pl.new (w : World) : Pl w w.heap.size (.slice none 0 0) (.slice none 0 0) [] (w.alloc (.cells #[.slice none 0 0] 75)) :=
  ⟨Has.new w [.slice none 0 0] _, World.ownsRow_nil _ _ _ _, World.ownsRow_nil _ _ _ _, below_new w _⟩
end
end Go.Proofs.Ytfmbjepjmjcgeaa.Buf
