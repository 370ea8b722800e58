/- Layer 12 (rec): parse. -/
import Derived.Test.YtfmbjepjmjcgeaaRecC
namespace Go.Proofs.Ytfmbjepjmjcgeaa.Rec
open Go Go.RowKit Go.Proofs.Ytfmbjepjmjcgeaa Go.Proofs.Ytfmbjepjmjcgeaa.Lend
set_option linter.unusedVariables false

def dlB (l : List UInt8) : Bool := decide (8 ≤ l.length)
def dlN (l : List UInt8) : Int := if 8 ≤ l.length then (getL (l.take 8) : Int) else 0
def dlR (l : List UInt8) : List UInt8 := if 8 ≤ l.length then l.drop 8 else []
theorem ret_dl {a b : Int} {s t : ByteArray} {c d : Bool} (h : a = b) (h1 : s = t) (h' : c = d) : Ending.returned (.tuple #[.int .u64 a, .string s, .bool c]) = .returned (.tuple #[.int .u64 b, .string t, .bool d]) := by rw [h, h1, h']
theorem dlN_bd (l : List UInt8) : 0 ≤ dlN l ∧ dlN l < 18446744073709551616 := by
  unfold dlN
  split
  · have hb := getL_bd (l.take 8)
    have hl : (l.take 8).length = 8 := by rw [List.length_take]; omega
    rw [hl] at hb
    have : getL (l.take 8) < 18446744073709551616 := hb
    omega
  · omega
/-- Split, of a text told by its bytes -/
theorem split_at (l : List UInt8) (w : World) (h : l.length ≤ 1000000) : Calls Try.prog 57 #[.string (Lend.strOf l)] w fun e w' => e = .returned (.tuple #[.string (Lend.strOf (splT l)), .string (Lend.strOf (splR l)), .bool (splB l)]) ∧ Below w.heap.size w w' := by
  have := split_any (Lend.strOf l) w (by rw [ssize]; exact h)
  rwa [Lend.strOf_data] at this
theorem splE (l : List UInt8) : spl2 l = if Lend.splB l = true then some (Lend.splT l, Lend.splR l) else none := by
  cases l with
  | nil => rfl
  | cons n l =>
    show (if l.length < n.toNat then none else some (l.take n.toNat, l.drop n.toNat)) = _
    by_cases h : l.length < n.toNat
    · rw [if_pos h]
      have : Lend.splB (n :: l) = false := by simp [Lend.splB]; omega
      rw [this]; rfl
    · rw [if_neg h]
      have : Lend.splB (n :: l) = true := by simp [Lend.splB]; omega
      rw [this, if_pos rfl]
      have h2 : n.toNat ≤ l.length := by omega
      simp [Lend.splT, Lend.splR, h2]
theorem splR_le (l : List UInt8) : (Lend.splR l).length ≤ l.length := by
  cases l with
  | nil => simp [Lend.splR]
  | cons n l => simp only [Lend.splR]; split <;> simp <;> omega
/-- par1, way by way -/
theorem par1_no {b : UInt8} {r : List UInt8} (h : splB r = false) : par1 (b :: r) = none := by
  show (match spl2 r with | none => none | some (key, rest) => _) = _
  rw [splE, h]; rfl
theorem par1_put {r : List UInt8} (h : splB r = true) : par1 (1 :: r) = if splB (splR r) = true then fin1 ⟨1, splT r, splT (splR r), 0⟩ (splR (splR r)) else none := by
  show (match spl2 r with | none => none | some (key, rest) => _) = _
  rw [splE, h]
  show (match spl2 (splR r) with | none => none | some (v, more) => fin1 ⟨1, splT r, v, 0⟩ more) = _
  rw [splE]
  cases splB (splR r) <;> rfl
theorem par1_add {r : List UInt8} (h : splB r = true) : par1 (3 :: r) = if dlB (splR r) = true then fin1 ⟨3, splT r, [], dlN (splR r)⟩ (dlR (splR r)) else none := by
  show (match spl2 r with | none => none | some (key, rest) => _) = _
  rw [splE, h]
  show (if (splR r).length < 8 then none else fin1 ⟨3, splT r, [], getL ((splR r).take 8)⟩ ((splR r).drop 8)) = _
  unfold dlB dlN dlR
  by_cases h8 : 8 ≤ (splR r).length
  · rw [if_neg (by omega), if_pos h8, if_pos h8, if_pos (by simpa using h8)]
  · rw [if_pos (by omega), if_neg (by simpa using h8)]
theorem par1_oth {b : UInt8} {r : List UInt8} (h : splB r = true) (h1 : ¬ b = 1) (h3 : ¬ b = 3) : par1 (b :: r) = fin1 ⟨b.toNat, splT r, [], 0⟩ (splR r) := by
  show (match spl2 r with | none => none | some (key, rest) => _) = _
  rw [splE, h]
  show (if b = 1 then _ else if b = 3 then _ else _) = _
  rw [if_neg h1, if_neg h3]
theorem strOf0 : Lend.strOf [] = ⟨#[]⟩ := rfl
/-- what parse answers -/
def PuP (w : World) (s : List UInt8) (e : Ending) (w' : World) : Prop :=
  (∃ u r, par1 s = some (u, r) ∧ e = .returned (.tuple #[.agg #[.int .u8 u.kind, .string (Lend.strOf u.key), .string (Lend.strOf u.val), .int .u64 u.delta], .string (Lend.strOf r), .bool true]) ∧ Below w.heap.size w w') ∨
  (par1 s = none ∧ e = .returned (.tuple #[.agg #[.int .u8 0, .string ⟨#[]⟩, .string ⟨#[]⟩, .int .u64 0], .string ⟨#[]⟩, .bool false]) ∧ Below w.heap.size w w')
theorem PuP.yes {w w' : World} {s r : List UInt8} {e : Ending} {u : Up} (h : par1 s = some (u, r)) (he : e = .returned (.tuple #[.agg #[.int .u8 u.kind, .string (Lend.strOf u.key), .string (Lend.strOf u.val), .int .u64 u.delta], .string (Lend.strOf r), .bool true])) (h2 : Below w.heap.size w w') : PuP w s e w' := .inl ⟨u, r, h, he, h2⟩
theorem PuP.no {w w' : World} {s : List UInt8} {e : Ending} (h : par1 s = none) (he : e = .returned (.tuple #[.agg #[.int .u8 0, .string ⟨#[]⟩, .string ⟨#[]⟩, .int .u64 0], .string ⟨#[]⟩, .bool false])) (h2 : Below w.heap.size w w') : PuP w s e w' := .inr ⟨h, he, h2⟩
theorem bel_res {w w' : World} (h : Below w.heap.size w w') (i : Nat) (v : Value) : Below w.heap.size w (w'.setCell ⟨w.heap.size, i, none⟩ v) := h.setCell (Nat.le_refl _) v
/-- the two boxes of parse: its result's, and u -/
structure Bx (w0 : World) (cs : List Value) (w : World) : Prop where
  res : Has w w0.heap.size 34 [.int .u8 0, .string ⟨#[]⟩, .string ⟨#[]⟩, .int .u64 0]
  u : Has w (w0.heap.size + 1) 34 cs
  bel : Below w0.heap.size w0 w
theorem Bx.on {w0 w w' : World} {cs : List Value} (h : Bx w0 cs w) (hb : Below w.heap.size w w') : Bx w0 cs w' := ⟨h.res.below hb h.res.lt, h.u.below hb h.u.lt, below_on h.bel hb⟩
theorem Bx.set {w0 w : World} {cs : List Value} (h : Bx w0 cs w) (i : Nat) (v : Value) : Bx w0 (cs.set i v) (w.setCell ⟨w0.heap.size + 1, i, none⟩ v) := ⟨h.res.setOther (show w0.heap.size + 1 ≠ w0.heap.size by omega) v, h.u.set i v, h.bel.setCell (show w0.heap.size ≤ w0.heap.size + 1 by omega) v⟩
end Go.Proofs.Ytfmbjepjmjcgeaa.Rec
