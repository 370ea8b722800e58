/- Layer 6: a table as a value of 35 cells: its counts, how many spares are used, and an array of 32. -/
import Derived.Test.YtonfafjacmifaaaRefTab
import Derived.Test.YtonfafjacmifaaaHeap
import Derived.Deep.WholeRow
namespace Go.Proofs.Ytonfafjacmifaaa.Tab
open Go.RowKit Go.Proofs.Ytonfafjacmifaaa Go.Proofs.Ytonfafjacmifaaa.Lend
set_option linter.unusedVariables false

/-- a table's cells -/
def tl (n k : Int) (m : List Int) : List Value := .int .i64 n :: .int .i64 k :: .int .i64 m.length :: (List.range 32).map fun j => .int .i64 (m.getD j 0)
def ta (n k : Int) (m : List Int) : Array Value := (tl n k m).toArray
theorem tl_length (n k : Int) (m : List Int) : (tl n k m).length = 35 := by simp [tl]
@[simp] theorem ta_size (n k : Int) (m : List Int) : (ta n k m).size = 35 := by simp [ta, tl]
@[simp] theorem ta_ne (n k : Int) (m : List Int) : ta n k m ≠ #[] := by intro h; have := congrArg Array.size h; simp at this
theorem tl_at (n k : Int) (m : List Int) (j : Nat) (h : j < 32) : (tl n k m)[3 + j]? = some (.int .i64 (m.getD j 0)) := by
  rw [show 3 + j = j + 1 + 1 + 1 by omega, tl, List.getElem?_cons_succ, List.getElem?_cons_succ, List.getElem?_cons_succ, List.getElem?_map, List.getElem?_range h]; rfl
@[simp, go_sem] theorem ta_e0 (n k : Int) (m : List Int) (h : 0 < (ta n k m).size) : (ta n k m)[0] = .int .i64 n := by simp [ta, tl]
@[simp, go_sem] theorem ta_e1 (n k : Int) (m : List Int) (h : 1 < (ta n k m).size) : (ta n k m)[1] = .int .i64 k := by simp [ta, tl]
@[simp, go_sem] theorem ta_e2 (n k : Int) (m : List Int) (h : 2 < (ta n k m).size) : (ta n k m)[2] = .int .i64 m.length := by simp [ta, tl]
theorem ta_one (n k : Int) (m : List Int) : (ta n k m).all (·.oneCell') = true := by
  rw [Array.all_eq_true]
  intro i hi
  have hm : (ta n k m)[i] ∈ tl n k m := by
    have : (ta n k m)[i] = (tl n k m)[i]'(by simpa [ta] using hi) := by simp [ta]
    rw [this]; exact List.getElem_mem _
  simp only [tl, List.mem_cons, List.mem_map, List.mem_range] at hm
  rcases hm with h | h | h | ⟨j, _, h⟩
  · rw [h]; rfl
  · rw [h]; rfl
  · rw [h]; rfl
  · rw [← h]; rfl
theorem tl_set (n k : Int) (m : List Int) (b : Int) (h : m.length < 32) : ((tl n k m).set (3 + m.length) (.int .i64 b)).set 2 (.int .i64 (m.length + 1 : Int)) = tl n k (m ++ [b]) := by
  apply List.ext_getElem?
  intro i
  match i with
  | 0 => rw [List.getElem?_set_ne (by omega), List.getElem?_set_ne (by omega)]; rfl
  | 1 => rw [List.getElem?_set_ne (by omega), List.getElem?_set_ne (by omega)]; rfl
  | 2 => rw [List.getElem?_set_self (by rw [List.length_set, tl_length]; omega)]; simp [tl]
  | i + 3 =>
    rw [show i + 3 = 3 + i by omega, List.getElem?_set_ne (by omega)]
    by_cases hi : i < 32
    · rw [tl_at _ _ _ i hi]
      by_cases he : i = m.length
      · subst he
        rw [List.getElem?_set_self (by rw [tl_length]; omega)]
        simp
      · rw [List.getElem?_set_ne (by omega), tl_at _ _ _ i hi]
        congr 2
        by_cases hl : i < m.length
        · simp [List.getD_eq_getElem?_getD, List.getElem?_append_left hl]
        · rw [List.getD_eq_getElem?_getD, List.getD_eq_getElem?_getD, List.getElem?_eq_none (by omega), List.getElem?_eq_none (by simp; omega)]
    · rw [List.getElem?_eq_none (by simp [tl_length]; omega), List.getElem?_eq_none (by simp [tl_length]; omega)]

theorem b_on {w w1 w2 : World} (h : Below w.heap.size w w1) (k : Below w1.heap.size w1 w2) : Below w.heap.size w w2 := h.trans (k.mono h.size)
theorem b_nw {w w1 : World} (h : Below w.heap.size w w1) (o : Obj) : Below w.heap.size w (w1.alloc o) := h.alloc h.size o
theorem b_new (w : World) (o : Obj) : Below w.heap.size w (w.alloc o) := (Below.refl _ _).alloc (Nat.le_refl _) _
theorem b_row {a w : World} (h : Below a.heap.size a w) {p : Nat} (hp : a.heap.size ≤ p) (cs : Array Value) : Below a.heap.size a (w.setRow p cs) :=
  ⟨h.os, h.tape, h.output, by have := h.size; simp; omega, fun i hi => (setRow_other w p i cs (by omega)).trans (h.block i hi)⟩

/-- the load of a whole table: one operation, not 35 -/
def ldT (a : Addr) : Sem (Array Value) := loadCells a 35
@[simp ↓ high, go_sem ↓ high] theorem load_from (a : Addr) : loadCellsFrom a 0 35 #[] = ldT a := rfl
/-- a block that holds a table -/
def TAt (w : World) (p : Nat) (n k : Int) (m : List Int) : Prop := Has w p 25 (tl n k m)
section
variable {w w' : World} {p : Nat} {n k : Int} {m : List Int}
theorem TAt.row (h : TAt w p n k m) : w.heap[p]? = some (.cells (ta n k m) 25 (0, 0)) := h
theorem TAt.lt (h : TAt w p n k m) : p < w.heap.size := Has.lt h
theorem TAt.on (h : TAt w p n k m) (hb : Below w.heap.size w w') : TAt w' p n k m := Has.below h hb h.lt
theorem TAt.new (h : TAt w p n k m) (o : Obj) : TAt (w.alloc o) p n k m := Has.alloc h o
theorem TAt.made (w : World) (n k : Int) (m : List Int) : TAt (w.alloc (.cells (ta n k m) 25)) w.heap.size n k m := Has.new w (tl n k m) _
theorem TAt.c0 (h : TAt w p n k m) : w.cell? ⟨p, 0, none⟩ = some (.int .i64 n) := Has.cell h 0
theorem TAt.c1 (h : TAt w p n k m) : w.cell? ⟨p, 1, none⟩ = some (.int .i64 k) := Has.cell h 1
theorem TAt.c2 (h : TAt w p n k m) : w.cell? ⟨p, 2, none⟩ = some (.int .i64 m.length) := Has.cell h 2
theorem TAt.cm (h : TAt w p n k m) (j : Nat) (hj : j < 32) : w.cell? ⟨p, 3 + j, none⟩ = some (.int .i64 (m.getD j 0)) := (Has.cell h (3 + j)).trans (tl_at n k m j hj)
theorem TAt.ld (h : TAt w p n k m) : (ldT ⟨p, 0, none⟩).run Try.prog w = .ok (ta n k m) w := by
  have := run_loadCells_list (P := Try.prog) w ⟨p, 0, none⟩ (tl n k m) (fun j v hv => by
    have hadd : (⟨p, 0, none⟩ : Addr).add j = ⟨p, j, none⟩ := by unfold Addr.add; split <;> simp_all
    rw [hadd, Has.cell h j]; exact hv)
  rw [tl_length] at this
  exact this
theorem TAt.st (h : TAt w p n k m) (n' k' : Int) (m' : List Int) : (storeCells ⟨p, 0, none⟩ (ta n' k' m').toList 0).run Try.prog w = .ok () (w.setRow p (ta n' k' m')) := by
  have := run_storeVar_row (P := Try.prog) w p 25 25 (ta n k m) (ta n' k' m') h.row (by rw [ta_size]; rfl) (by simp) (ta_one _ _ _)
  simpa [storeVar, Value.cells] using this
theorem TAt.put (h : TAt w p n k m) (n' k' : Int) (m' : List Int) : TAt (w.setRow p (ta n' k' m')) p n' k' m' := setRow_heap w p _ _ _ _ h.row
theorem TAt.putOther {q : Nat} (h : TAt w p n k m) (hq : p ≠ q) (cs : Array Value) : TAt (w.setRow q cs) p n k m := by
  show (w.setRow q cs).heap[p]? = _
  rw [setRow_other _ _ _ _ hq]; exact h
theorem TAt.push (h : TAt w p n k m) (b : Int) (hm : m.length < 32) : TAt ((w.setCell ⟨p, 3 + m.length, none⟩ (.int .i64 b)).setCell ⟨p, 2, none⟩ (.int .i64 (m.length + 1 : Int))) p n k (m ++ [b]) := by
  have := (Has.set h (3 + m.length) (.int .i64 b)).set 2 (.int .i64 (m.length + 1 : Int))
  rw [tl_set n k m b hm] at this
  exact this
theorem TAt.setOther (h : TAt w p n k m) {a : Addr} (ha : a.block ≠ p) (v : Value) : TAt (w.setCell a v) p n k m := Has.setOther h ha v
end
/-- t.moved[:u] -/
theorem slice_sp (p u : Nat) (hu : u ≤ 32) (W : World) : (Instr.sliceAt 23 (.pointer (some ⟨p, 3, none⟩)) none (some (.int .i64 (u : Int))) none).run Try.prog W = .ok (.slice (some ⟨p, 3, none⟩) u 32) W := by
  rw [run_sliceAt_array_h W 23 ⟨p, 3, none⟩ (by kernel_rfl) .i64 (u : Int) (by omega) (by rw [show (Try.prog).arrayLen 23 = 32 from by kernel_rfl]; omega)]
  rw [show (Try.prog).arrayLen 23 = 32 from by kernel_rfl, show (Try.prog).elem 23 = 3 from by kernel_rfl]
  simp [slicedAt, go_sem]
theorem ta_zero : ta 0 0 [] = #[.int .i64 0, .int .i64 0, .int .i64 0, .int .i64 0, .int .i64 0, .int .i64 0, .int .i64 0, .int .i64 0, .int .i64 0, .int .i64 0, .int .i64 0, .int .i64 0, .int .i64 0, .int .i64 0, .int .i64 0, .int .i64 0, .int .i64 0, .int .i64 0, .int .i64 0, .int .i64 0, .int .i64 0, .int .i64 0, .int .i64 0, .int .i64 0, .int .i64 0, .int .i64 0, .int .i64 0, .int .i64 0, .int .i64 0, .int .i64 0, .int .i64 0, .int .i64 0, .int .i64 0, .int .i64 0, .int .i64 0] := rfl
theorem ta_nil (n k : Int) : ta n k [] = #[.int .i64 n, .int .i64 k, .int .i64 0, .int .i64 0, .int .i64 0, .int .i64 0, .int .i64 0, .int .i64 0, .int .i64 0, .int .i64 0, .int .i64 0, .int .i64 0, .int .i64 0, .int .i64 0, .int .i64 0, .int .i64 0, .int .i64 0, .int .i64 0, .int .i64 0, .int .i64 0, .int .i64 0, .int .i64 0, .int .i64 0, .int .i64 0, .int .i64 0, .int .i64 0, .int .i64 0, .int .i64 0, .int .i64 0, .int .i64 0, .int .i64 0, .int .i64 0, .int .i64 0, .int .i64 0, .int .i64 0] := rfl
/-- the zero table's cells, as the model lays them -/
theorem zero_run (w : World) : (zeroValue 25).run Try.prog w = .ok (.agg (ta 0 0 [])) w := Try.zeroValue25 w
@[simp, go_sem] theorem st_new (w : World) (n k : Int) (m : List Int) : (storeCells ⟨w.heap.size, 0, none⟩ (ta n k m).toList 0).run Try.prog (w.alloc (.cells (ta 0 0 []) 25)) = .ok () (w.alloc (.cells (ta n k m) 25)) := by
  have := (TAt.made w 0 0 []).st n k m
  rwa [World.setRow_alloc_new] at this
theorem made0 (w : World) : TAt (w.alloc (.cells (ta 0 0 []) 25)) w.heap.size 0 0 [] := TAt.made w 0 0 []
end Go.Proofs.Ytonfafjacmifaaa.Tab
