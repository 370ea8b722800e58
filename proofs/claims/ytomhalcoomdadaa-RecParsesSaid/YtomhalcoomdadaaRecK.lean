/- Layer 12 (rec): a slice of updates that came in. -/
import Derived.Test.YtomhalcoomdadaaRecJ
namespace Go.Proofs.Ytomhalcoomdadaa.Rec
open Go Go.RowKit Go.Proofs.Ytomhalcoomdadaa Go.Proofs.Ytomhalcoomdadaa.Lend
set_option linter.unusedVariables false

theorem list_of (n : Nat) (P : Nat → Up → Prop) (h : ∀ i, i < n → ∃ u, P i u) : ∃ l : List Up, l.length = n ∧ ∀ i (hi : i < l.length), P i l[i] := by
  induction n with
  | zero => exact ⟨[], rfl, fun i hi => by cases hi⟩
  | succ n ih =>
    obtain ⟨l, hl, hp⟩ := ih fun i hi => h i (by omega)
    obtain ⟨u, hu⟩ := h n (by omega)
    refine ⟨l ++ [u], by simp [hl], fun i hi => ?_⟩
    rw [List.length_append, hl] at hi
    simp only [List.length_cons, List.length_nil] at hi
    by_cases h2 : i < n
    · rw [List.getElem_append_left (by omega)]; exact hp i (by omega)
    · have : i = n := by omega
      subst this
      rw [List.getElem_append_right (by omega)]
      simpa [hl] using hu
theorem ur_of {w : World} {a : Option Addr} {len cap : Nat} (Q : Up → Prop) (h : 0 < len → ∃ b off, a = some ⟨b, off, none⟩ ∧ ∀ i, i < len → ∃ u : Up, Q u ∧ ∀ j, j < 4 → w.cell? ⟨b, off + i * 4 + j, none⟩ = (encU u)[j]?) :
    ∃ l, len = l.length ∧ UR w (.slice a len cap) l ∧ ∀ u ∈ l, Q u := by
  by_cases h0 : 0 < len
  · obtain ⟨b, off, rfl, hx⟩ := h h0
    obtain ⟨l, hl, hp⟩ := list_of len _ hx
    subst hl
    refine ⟨l, rfl, ⟨_, cap, rfl, fun _ => ⟨b, off, rfl, fun i hi => (hp i hi).2⟩⟩, fun u hu => ?_⟩
    obtain ⟨i, hi, rfl⟩ := List.mem_iff_getElem.1 hu
    exact (hp i hi).1
  · have : len = 0 := by omega
    subst this
    exact ⟨[], rfl, ⟨a, cap, rfl, fun h => by cases h⟩, fun u hu => by cases hu⟩
theorem u8_bd {x : Int} (h : (Lit.int .u8 x).wf = true) : 0 ≤ x ∧ x ≤ 255 := by
  simp only [Lit.wf, Bool.and_eq_true, decide_eq_true_eq, show IntKind.u8.min = 0 from rfl, show IntKind.u8.max = 255 from rfl] at h
  omega
theorem u64_bd {x : Int} (h : (Lit.int .u64 x).wf = true) : 0 ≤ x ∧ x < 18446744073709551616 := by
  simp only [Lit.wf, Bool.and_eq_true, decide_eq_true_eq, show IntKind.u64.min = 0 from rfl, show IntKind.u64.max = 18446744073709551615 from rfl] at h
  omega
theorem u32_bd {x : Int} (h : (Lit.int .u32 x).wf = true) : 0 ≤ x ∧ x < 4294967296 := by
  simp only [Lit.wf, Bool.and_eq_true, decide_eq_true_eq, show IntKind.u32.min = 0 from rfl, show IntKind.u32.max = 4294967295 from rfl] at h
  omega
theorem u16_bd {x : Int} (h : (Lit.int .u16 x).wf = true) : 0 ≤ x ∧ x < 65536 := by
  simp only [Lit.wf, Bool.and_eq_true, decide_eq_true_eq, show IntKind.u16.min = 0 from rfl, show IntKind.u16.max = 65535 from rfl] at h
  omega
/-- an update told by its cells -/
theorem up_cells {w : World} {b off i : Nat} {x0 x3 : Int} {x1 x2 : ByteArray} (c0 : w.cell? ⟨b, off + (i * 4 + 0), none⟩ = some (.int .u8 x0)) (c1 : w.cell? ⟨b, off + (i * 4 + 1), none⟩ = some (.string x1)) (c2 : w.cell? ⟨b, off + (i * 4 + 2), none⟩ = some (.string x2)) (c3 : w.cell? ⟨b, off + (i * 4 + 3), none⟩ = some (.int .u64 x3)) :
    ∀ j, j < 4 → w.cell? ⟨b, off + i * 4 + j, none⟩ = (encU ⟨x0, x1.data.toList, x2.data.toList, x3⟩)[j]? := by
  intro j hj
  have e : ∀ s : ByteArray, Lend.strOf s.data.toList = s := fun s => Lend.strOf_self s
  rw [Nat.add_assoc]
  match j, hj with
  | 0, _ => rw [c0]; rfl
  | 1, _ => rw [c1]; simp [encU, e]
  | 2, _ => rw [c2]; simp [encU, e]
  | 3, _ => rw [c3]; rfl
theorem one_tx (u : Up) : txT [u] = (if chkU u = 0 then txU u else []) ∧ errL [u] = chkU u ∧ ((txT [u]).length : Int) = szU u := by
  have e : errL [u] = chkU u := by show (if chkU u = 0 then 0 else chkU u) = _; split <;> simp_all
  have t : txT [u] = (if chkU u = 0 then txU u else []) := by
    unfold txT; rw [e]
    split
    · unfold txL; simp
    · rfl
  refine ⟨t, e, ?_⟩
  rw [t]; unfold szU
  split <;> simp
theorem UR.at_ {w : World} {ao : Option Addr} {n cap : Nat} {l : List Up} (h : UR w (.slice ao n cap) l) (h0 : 0 < l.length) : ∃ g off, ao = some ⟨g, off, none⟩ ∧ ∀ i (hi : i < l.length) j, j < 4 → w.cell? ⟨g, off + i * 4 + j, none⟩ = (encU l[i])[j]? := by
  obtain ⟨a, cap', he, hx⟩ := h.form
  obtain ⟨g, off, ha, hc⟩ := hx h0
  refine ⟨g, off, ?_, hc⟩
  simp at he
  rw [he.1, ha]
/-- one update of a row -/
theorem UR.sub {w : World} {g off n cap : Nat} {l : List Up} (h : UR w (.slice (some ⟨g, off, none⟩) n cap) l) (k c : Nat) (hk : k < l.length) : UR w (.slice (some ⟨g, off + k * 4, none⟩) 1 c) [l[k]] := by
  obtain ⟨a, cap', he, hx⟩ := h.form
  obtain ⟨b, o, ha, hc⟩ := hx (by omega)
  subst ha
  simp at he
  obtain ⟨⟨rfl, rfl⟩, _⟩ := he
  refine ⟨_, c, rfl, fun _ => ⟨_, _, rfl, fun i hi j hj => ?_⟩⟩
  have : i = 0 := by simp at hi; exact hi
  subst this
  rw [Nat.zero_mul, Nat.add_zero]
  exact hc k hk j hj
end Go.Proofs.Ytomhalcoomdadaa.Rec
