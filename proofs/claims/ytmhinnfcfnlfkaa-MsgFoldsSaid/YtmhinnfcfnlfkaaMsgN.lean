/- Layer 14 (msg): lists of Adds; an update in a box beside a row of updates. -/
import Derived.Test.YtmhinnfcfnlfkaaMsgK
namespace Go.Proofs.Ytmhinnfcfnlfkaa.Msg
open Go Go.RowKit Go.Proofs.Ytmhinnfcfnlfkaa Go.Proofs.Ytmhinnfcfnlfkaa.Lend Go.Proofs.Ytmhinnfcfnlfkaa.Rec
set_option linter.unusedVariables false

def adU (d : Int) : Up := ⟨3, [107], [], d⟩
def adL (l : List Int) : List Up := l.map adU
def smN (l : List Int) : Int := l.foldl addN 0
def Inn (l : List Int) : Prop := ∀ d ∈ l, 0 ≤ d ∧ d < 18446744073709551616
theorem adL_len (l : List Int) : (adL l).length = l.length := by simp [adL]
theorem adL_snoc (l : List Int) (d : Int) : adL (l ++ [d]) = adL l ++ [adU d] := by simp [adL]
theorem smN_snoc (l : List Int) (d : Int) : smN (l ++ [d]) = addN (smN l) d := by simp [smN]
theorem smN_from {n : Int} (h0 : 0 ≤ n) (h1 : n < 18446744073709551616) (l : List Int) : l.foldl addN n = addN n (smN l) := by
  induction l generalizing n with
  | nil => show n = (n + 0) % 18446744073709551616; omega
  | cons d l ih =>
    have e : smN (d :: l) = addN (addN 0 d) (smN l) := by
      show l.foldl addN (addN 0 d) = _
      exact ih (addN_bd _ _).1 (addN_bd _ _).2
    rw [e]
    show l.foldl addN (addN n d) = _
    rw [ih (addN_bd _ _).1 (addN_bd _ _).2]
    unfold addN
    omega
theorem smN_cons {d : Int} (h0 : 0 ≤ d) (h1 : d < 18446744073709551616) (l : List Int) : smN (d :: l) = l.foldl addN d := by
  show l.foldl addN (addN 0 d) = _
  rw [show addN 0 d = d by unfold addN; omega]
theorem smN_bd (l : List Int) : 0 ≤ smN l ∧ smN l < 18446744073709551616 := by
  unfold smN
  have : ∀ (l : List Int) (n : Int), 0 ≤ n ∧ n < 18446744073709551616 → 0 ≤ l.foldl addN n ∧ l.foldl addN n < 18446744073709551616 := fun l => by
    induction l with
    | nil => intro n h; exact h
    | cons d l ih => intro n h; exact ih _ (addN_bd _ _)
  exact this l 0 ⟨by decide, by decide⟩
theorem on_ad {n d : Int} (h0 : 0 ≤ n) (h1 : n < 18446744073709551616) : onU (encN n 8, true) (adU d) = (encN (addN n d) 8, true) := by
  rw [on_add _ rfl]
  unfold adV
  rw [if_pos rfl, if_pos (encN_length n 8), numN_enc h0 h1]; rfl
theorem fo_ad {n : Int} (h0 : 0 ≤ n) (h1 : n < 18446744073709551616) (l : List Int) : foU (encN n 8, true) (adL l) = (encN (l.foldl addN n) 8, true) := by
  induction l generalizing n with
  | nil => rfl
  | cons d l ih =>
    show foU (onU (encN n 8, true) (adU d)) (adL l) = _
    rw [on_ad h0 h1, ih (addN_bd _ _).1 (addN_bd _ _).2]; rfl
theorem all_none {l : List Int} (h : Inn l) (hl : l ≠ []) : allU ([], false) (adL l) = (encN (smN l) 8, true) := by
  cases l with
  | nil => exact absurd rfl hl
  | cons d l =>
    have hd := h d (by simp)
    rw [smN_cons hd.1 hd.2]
    show foU (onU ([], false) (adU d)) (adL l) = _
    rw [on_add _ rfl]
    exact fo_ad hd.1 hd.2 l
theorem all_num {n : Int} (h0 : 0 ≤ n) (h1 : n < 18446744073709551616) (l : List Int) : allU (encN n 8, true) (adL l) = (encN (addN n (smN l)) 8, true) := by
  rw [← smN_from h0 h1]
  exact fo_ad h0 h1 l
theorem all_oth {o : List UInt8} (h : ¬ o.length = 8) (l : List Int) : allU (o, true) (adL l) = (o, true) := by
  show foU (o, true) (adL l) = _
  induction l with
  | nil => rfl
  | cons d l ih =>
    show foU (onU (o, true) (adU d)) (adL l) = _
    rw [on_add _ rfl]
    unfold adV
    rw [if_pos rfl, if_neg h]
    exact ih
theorem jo_ad (a b : Int) : joU (adU a) (adU b) = adU (addN a b) := jo_add rfl rfl
theorem jl_ad {d : Int} (h0 : 0 ≤ d) (h1 : d < 18446744073709551616) (l : List Int) : jlU (adU d) (adL l) = adU (smN (d :: l)) := by
  rw [smN_cons h0 h1]
  have : ∀ (l : List Int) (n : Int), jlU (adU n) (adL l) = adU (l.foldl addN n) := fun l => by
    induction l with
    | nil => intro n; rfl
    | cons d l ih => intro n; show jlU (joU (adU n) (adU d)) (adL l) = _; rw [jo_ad, ih]; rfl
  exact this l d
theorem adU_tm {d : Int} (h0 : 0 ≤ d) (h1 : d < 18446744073709551616) : Tm (adU d) := ⟨by show (1 : Int) ≤ 3; omega, by show (3 : Int) ≤ 3; omega, h0, h1, fun h => by have h3 : (3 : Int) = 1 := h; omega, by show ([] : List UInt8).length ≤ 40; simp⟩
theorem adL_tm {l : List Int} (h : Inn l) : ∀ u ∈ adL l, Tm u := by
  intro u hu
  obtain ⟨d, hd, rfl⟩ := List.mem_map.1 hu
  exact adU_tm (h d hd).1 (h d hd).2
theorem jlU_snoc (u : Up) (l : List Up) (v : Up) : jlU u (l ++ [v]) = joU (jlU u l) v := by unfold jlU; rw [List.foldl_append]; rfl
/-- an update in a box, beside the law's own row -/
structure Hold (w0 : World) (av : Value) (M : List Up) (G : Nat) (u : Up) (w : World) : Prop where
  ra : RA w w0.heap.size av M
  box : Has w G 29 (encU u)
  bel : Below w0.heap.size w0 w
  ge : w0.heap.size ≤ G
  ne : ∀ k, av.ownBlock = some k → k ≠ G
section
variable {w0 w w' : World} {av : Value} {M : List Up} {G G2 : Nat} {u u2 : Up}
theorem Hold.on (h : Hold w0 av M G u w) (hb : Below w.heap.size w w') : Hold w0 av M G u w' := ⟨own_bel h.ra hb, h.box.below hb h.box.lt, below_on h.bel hb, h.ge, h.ne⟩
theorem Hold.new (h : RA w w0.heap.size av M) (hb : Below w0.heap.size w0 w) (u : Up) : Hold w0 av M w.heap.size u (w.alloc (.cells (encU u).toArray 29)) :=
  ⟨h.alloc _, Has.new w (encU u) _, below_nw hb _, hb.size, fun k e => by have := (h.lt k e).2; omega⟩
theorem ra_set4 (h : RA w w0.heap.size av M) (hn : ∀ k, av.ownBlock = some k → k ≠ G) (v0 v1 v2 v3 : Value) : RA ((((w.setCell ⟨G, 0, none⟩ v0).setCell ⟨G, 1, none⟩ v1).setCell ⟨G, 2, none⟩ v2).setCell ⟨G, 3, none⟩ v3) w0.heap.size av M :=
  owns_same (owns_same (owns_same (owns_same h fun k e => Below.heap_setCell _ _ _ _ (hn k e)) fun k e => Below.heap_setCell _ _ _ _ (hn k e)) fun k e => Below.heap_setCell _ _ _ _ (hn k e)) fun k e => Below.heap_setCell _ _ _ _ (hn k e)
theorem Hold.set (h : Hold w0 av M G u w) (u' : Up) : Hold w0 av M G u' ((((w.setCell ⟨G, 0, none⟩ (.int .u8 u'.kind)).setCell ⟨G, 1, none⟩ (.string (Lend.strOf u'.key))).setCell ⟨G, 2, none⟩ (.string (Lend.strOf u'.val))).setCell ⟨G, 3, none⟩ (.int .u64 u'.delta)) :=
  ⟨ra_set4 h.ra h.ne _ _ _ _, (((h.box.set 0 _).set 1 _).set 2 _).set 3 _, bel4 h.bel h.ge, h.ge, h.ne⟩
theorem Hold.far (h : Hold w0 av M G u w) (h2 : Hold w0 av M G2 u2 w) (hn : G2 ≠ G) (u' : Up) : Hold w0 av M G u ((((w.setCell ⟨G2, 0, none⟩ (.int .u8 u'.kind)).setCell ⟨G2, 1, none⟩ (.string (Lend.strOf u'.key))).setCell ⟨G2, 2, none⟩ (.string (Lend.strOf u'.val))).setCell ⟨G2, 3, none⟩ (.int .u64 u'.delta)) :=
  ⟨ra_set4 h.ra h2.ne _ _ _ _, oth4 h.box hn, bel4 h.bel h2.ge, h.ge, h.ne⟩
end
/-- the elements of the row, by their cells -/
theorem ra_cells {w : World} {B g n c : Nat} {M : List Up} (h : RA w B (.slice (some ⟨g, 0, none⟩) n c) M) (i : Nat) (hi : i < M.length) :
    w.cell? ⟨g, i * 4, none⟩ = some (.int .u8 M[i].kind) ∧ w.cell? ⟨g, i * 4 + 1, none⟩ = some (.string (Lend.strOf M[i].key)) ∧ w.cell? ⟨g, i * 4 + 2, none⟩ = some (.string (Lend.strOf M[i].val)) ∧ w.cell? ⟨g, i * 4 + 3, none⟩ = some (.int .u64 M[i].delta) := by
  have hu := UR.of_own h
  obtain ⟨a, cap, he, hx⟩ := hu.form
  obtain ⟨g', off, ha, hc⟩ := hx (by omega)
  subst ha
  have he : some (⟨g, 0, none⟩ : Addr) = some ⟨g', off, none⟩ := by injection he
  simp only [Option.some.injEq, Addr.mk.injEq, and_true] at he
  obtain ⟨rfl, rfl⟩ := he
  have c0 := hc i hi 0 (by omega)
  have c1 := hc i hi 1 (by omega)
  have c2 := hc i hi 2 (by omega)
  have c3 := hc i hi 3 (by omega)
  simp only [Nat.zero_add, Nat.add_zero] at c0 c1 c2 c3
  exact ⟨c0, c1, c2, c3⟩
end Go.Proofs.Ytmhinnfcfnlfkaa.Msg
