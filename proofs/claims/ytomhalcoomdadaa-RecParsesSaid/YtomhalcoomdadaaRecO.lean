/- Layer 12 (rec): Parse and Open, the program's and the document's, in one form; eight texts. -/
import Derived.Test.YtomhalcoomdadaaRecN
namespace Go.Proofs.Ytomhalcoomdadaa.Rec
open Go Go.RowKit Go.Proofs.Ytomhalcoomdadaa Go.Proofs.Ytomhalcoomdadaa.Lend
set_option linter.unusedVariables false

def prL (s : List UInt8) : List Up := (parL s).getD []
def prE (s : List UInt8) : Int := if (parL s).isSome then 0 else 4
def opL (s : List UInt8) : List Up := ((opR s).map (·.2.2)).getD []
def opA (s : List UInt8) : Int := ((opR s).map (·.1)).getD 0
def opC (s : List UInt8) : Int := ((opR s).map (·.2.1)).getD 0
def opE (s : List UInt8) : Int := if (opR s).isSome then 0 else 4
theorem UR.nil (w : World) : UR w (.slice none 0 0) [] := ⟨none, 0, rfl, fun h => by cases h⟩
theorem prL_le (s : List UInt8) : (prL s).length ≤ s.length := by
  unfold prL
  cases h : parL s with
  | none => simp
  | some l => simpa using parL_le h
theorem opL_le (s : List UInt8) : (opL s).length ≤ s.length := by
  unfold opL opR
  split
  · simp
  · cases h : parL (s.drop 14) with
    | none => simp
    | some l =>
      have := parL_le h
      rw [List.length_drop] at this
      simp only
      split <;> simp <;> omega
theorem Parse_two (s : List UInt8) (w : World) (hs : s.length ≤ 100000) : Calls Try.prog 16 #[.string (Lend.strOf s)] w fun e w' => ∃ a c, e = .returned (.tuple #[.slice a (prL s).length c, .int .i64 (prE s)]) ∧ UR w' (.slice a (prL s).length c) (prL s) ∧ Below w.heap.size w w' := by
  refine (Parse_any s w hs).mono ?_
  rintro e w' (⟨l, v', hpl, rfl, hra, hb⟩ | ⟨hpl, rfl, hb⟩)
  · have e1 : prL s = l := by unfold prL; rw [hpl]; rfl
    have e2 : prE s = 0 := by unfold prE; rw [hpl]; rfl
    rw [e1, e2]
    obtain ⟨a, c, rfl⟩ := (UR.of_own hra).slice
    exact ⟨a, c, rfl, UR.of_own hra, hb⟩
  · have e1 : prL s = [] := by unfold prL; rw [hpl]; rfl
    have e2 : prE s = 4 := by unfold prE; rw [hpl]; rfl
    rw [e1, e2]
    exact ⟨none, 0, rfl, UR.nil _, hb⟩
theorem refparse_two (s : List UInt8) (w : World) (hs : s.length ≤ 100000) : Calls Try.prog 17 #[.string (Lend.strOf s)] w fun e w' => ∃ a c, e = .returned (.tuple #[.slice a (prL s).length c, .int .i64 (prE s)]) ∧ UR w' (.slice a (prL s).length c) (prL s) ∧ Below w.heap.size w w' := by
  refine (refparse_any s w hs).mono ?_
  rintro e w' (⟨l, v', hpl, rfl, hra, hb⟩ | ⟨hpl, rfl, hb⟩)
  · have e1 : prL s = l := by unfold prL; rw [hpl]; rfl
    have e2 : prE s = 0 := by unfold prE; rw [hpl]; rfl
    rw [e1, e2]
    obtain ⟨a, c, rfl⟩ := (UR.of_own hra).slice
    exact ⟨a, c, rfl, UR.of_own hra, hb⟩
  · have e1 : prL s = [] := by unfold prL; rw [hpl]; rfl
    have e2 : prE s = 4 := by unfold prE; rw [hpl]; rfl
    rw [e1, e2]
    exact ⟨none, 0, rfl, UR.nil _, hb⟩
theorem Open_two (s : List UInt8) (w : World) (hs : s.length ≤ 100000) : Calls Try.prog 19 #[.string (Lend.strOf s)] w fun e w' => ∃ a c, e = .returned (.tuple #[.agg #[.int .u64 (opA s), .int .u32 (opC s), .slice a (opL s).length c], .int .i64 (opE s)]) ∧ UR w' (.slice a (opL s).length c) (opL s) ∧ Below w.heap.size w w' := by
  refine (Open_any s w hs).mono ?_
  rintro e w' (⟨x, y, l, v', hop, rfl, hra, hb⟩ | ⟨hop, rfl, hb⟩)
  · have e1 : opL s = l := by unfold opL; rw [hop]; rfl
    have e2 : opE s = 0 := by unfold opE; rw [hop]; rfl
    have e3 : opA s = x := by unfold opA; rw [hop]; rfl
    have e4 : opC s = y := by unfold opC; rw [hop]; rfl
    rw [e1, e2, e3, e4]
    obtain ⟨a, c, rfl⟩ := (UR.of_own hra).slice
    exact ⟨a, c, rfl, UR.of_own hra, hb⟩
  · have e1 : opL s = [] := by unfold opL; rw [hop]; rfl
    have e2 : opE s = 4 := by unfold opE; rw [hop]; rfl
    have e3 : opA s = 0 := by unfold opA; rw [hop]; rfl
    have e4 : opC s = 0 := by unfold opC; rw [hop]; rfl
    rw [e1, e2, e3, e4]
    exact ⟨none, 0, rfl, UR.nil _, hb⟩
theorem refOpen_two (s : List UInt8) (w : World) (hs : s.length ≤ 100000) : Calls Try.prog 20 #[.string (Lend.strOf s)] w fun e w' => ∃ a c, e = .returned (.tuple #[.agg #[.int .u64 (opA s), .int .u32 (opC s), .slice a (opL s).length c], .int .i64 (opE s)]) ∧ UR w' (.slice a (opL s).length c) (opL s) ∧ Below w.heap.size w w' := by
  refine (refOpen_any s w hs).mono ?_
  rintro e w' (⟨x, y, l, v', hop, rfl, hra, hb⟩ | ⟨hop, rfl, hb⟩)
  · have e1 : opL s = l := by unfold opL; rw [hop]; rfl
    have e2 : opE s = 0 := by unfold opE; rw [hop]; rfl
    have e3 : opA s = x := by unfold opA; rw [hop]; rfl
    have e4 : opC s = y := by unfold opC; rw [hop]; rfl
    rw [e1, e2, e3, e4]
    obtain ⟨a, c, rfl⟩ := (UR.of_own hra).slice
    exact ⟨a, c, rfl, UR.of_own hra, hb⟩
  · have e1 : opL s = [] := by unfold opL; rw [hop]; rfl
    have e2 : opE s = 4 := by unfold opE; rw [hop]; rfl
    have e3 : opA s = 0 := by unfold opA; rw [hop]; rfl
    have e4 : opC s = 0 := by unfold opC; rw [hop]; rfl
    rw [e1, e2, e3, e4]
    exact ⟨none, 0, rfl, UR.nil _, hb⟩
theorem Eight.at_ {w : World} {G : Nat} {t0 t1 t2 t3 t4 t5 t6 t7 : ByteArray} (h : Eight w G t0 t1 t2 t3 t4 t5 t6 t7) {B : Nat} (hs : t0.size ≤ B ∧ t1.size ≤ B ∧ t2.size ≤ B ∧ t3.size ≤ B ∧ t4.size ≤ B ∧ t5.size ≤ B ∧ t6.size ≤ B ∧ t7.size ≤ B) {k : Nat} (hk : k < 8) :
    ∃ T : List UInt8, T.length ≤ B ∧ w.cell? ⟨G, k, none⟩ = some (.string (Lend.strOf T)) := by
  have key : ∀ s : ByteArray, s.size ≤ B → w.cell? ⟨G, k, none⟩ = some (.string s) → ∃ T : List UInt8, T.length ≤ B ∧ w.cell? ⟨G, k, none⟩ = some (.string (Lend.strOf T)) := fun s h1 h2 => ⟨s.data.toList, by rw [Lend.bytes_length]; exact h1, by rw [Lend.strOf_self]; exact h2⟩
  obtain ⟨h0, h1, h2, h3, h4, h5, h6, h7⟩ := hs
  match k, hk with
  | 0, _ => exact key _ h0 (Has.cell h 0)
  | 1, _ => exact key _ h1 (Has.cell h 1)
  | 2, _ => exact key _ h2 (Has.cell h 2)
  | 3, _ => exact key _ h3 (Has.cell h 3)
  | 4, _ => exact key _ h4 (Has.cell h 4)
  | 5, _ => exact key _ h5 (Has.cell h 5)
  | 6, _ => exact key _ h6 (Has.cell h 6)
  | 7, _ => exact key _ h7 (Has.cell h 7)
end Go.Proofs.Ytomhalcoomdadaa.Rec
