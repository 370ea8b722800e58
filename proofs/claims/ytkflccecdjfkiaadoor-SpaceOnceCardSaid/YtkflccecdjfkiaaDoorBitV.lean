/- Layer 9: a set as a value of 65 cells: its size, and 64 words. -/
import Derived.Test.YtkflccecdjfkiaaDoorRefBit
import Derived.Test.YtkflccecdjfkiaaDoorBitW
import Derived.Test.YtkflccecdjfkiaaDoorHeap
import Derived.Deep.WholeRow
namespace Go.Proofs.YtkflccecdjfkiaaDoor.Bit
open Go.RowKit Go.Proofs.YtkflccecdjfkiaaDoor
set_option linter.unusedVariables false

def wl (ws : List Nat) : List Value := (List.range 64).map fun j => .int .u64 ((wg ws j : Nat) : Int)
def wa (ws : List Nat) : Array Value := (wl ws).toArray
/-- a set's cells -/
def sl (n : Int) (ws : List Nat) : List Value := .int .i64 n :: wl ws
def sa (n : Int) (ws : List Nat) : Array Value := (sl n ws).toArray
def zs : List Nat := List.replicate 64 0
theorem wl_length (ws : List Nat) : (wl ws).length = 64 := by simp [wl]
theorem sl_length (n : Int) (ws : List Nat) : (sl n ws).length = 65 := by simp [sl, wl_length]
theorem wl_at (ws : List Nat) {j : Nat} (h : j < 64) : (wl ws)[j]? = some (.int .u64 ((wg ws j : Nat) : Int)) := by
  rw [wl, List.getElem?_map, List.getElem?_range h]; rfl
theorem sl_at (n : Int) (ws : List Nat) {j : Nat} (h : j < 64) : (sl n ws)[1 + j]? = some (.int .u64 ((wg ws j : Nat) : Int)) := by
  rw [show 1 + j = j + 1 by omega, sl, List.getElem?_cons_succ, wl_at ws h]
@[simp] theorem sa_size (n : Int) (ws : List Nat) : (sa n ws).size = 65 := by simp [sa, sl_length]
@[simp] theorem wa_size (ws : List Nat) : (wa ws).size = 64 := by simp [wa, wl_length]
@[simp] theorem sa_ne (n : Int) (ws : List Nat) : sa n ws ≠ #[] := by intro h; have := congrArg Array.size h; simp at this
@[simp, go_sem] theorem sa_e0 (n : Int) (ws : List Nat) (h : 0 < (sa n ws).size) : (sa n ws)[0] = .int .i64 n := by simp [sa, sl]
theorem sa_one (n : Int) (ws : List Nat) : (sa n ws).all (·.oneCell') = true := by
  rw [Array.all_eq_true]
  intro i hi
  have hm : (sa n ws)[i] ∈ sl n ws := by
    have : (sa n ws)[i] = (sl n ws)[i]'(by simpa [sa] using hi) := by simp [sa]
    rw [this]; exact List.getElem_mem _
  simp only [sl, wl, List.mem_cons, List.mem_map, List.mem_range] at hm
  rcases hm with h | ⟨j, _, h⟩
  · rw [h]; rfl
  · rw [← h]; rfl
theorem sl_set (n : Int) (ws : List Nat) (hw : ws.length = 64) {j : Nat} (hj : j < 64) (x : Nat) : (sl n ws).set (1 + j) (.int .u64 (x : Nat)) = sl n (ws.set j x) := by
  apply List.ext_getElem?
  intro i
  match i with
  | 0 => rw [List.getElem?_set_ne (by omega)]; rfl
  | i + 1 =>
    rw [show i + 1 = 1 + i by omega]
    by_cases hi : i < 64
    · rw [sl_at _ _ hi, wg_set _ _ _ _ (by rw [hw]; exact hj)]
      by_cases he : i = j
      · subst he; rw [if_pos rfl, List.getElem?_set_self (by rw [sl_length]; omega)]
      · rw [if_neg he, List.getElem?_set_ne (by omega), sl_at _ _ hi]
    · rw [List.getElem?_eq_none (by simp [sl_length]; omega), List.getElem?_eq_none (by simp [sl_length]; omega)]

theorem b_on {w w1 w2 : World} (h : Below w.heap.size w w1) (k : Below w1.heap.size w1 w2) : Below w.heap.size w w2 := h.trans (k.mono h.size)
theorem b_nw {w w1 : World} (h : Below w.heap.size w w1) (o : Obj) : Below w.heap.size w (w1.alloc o) := h.alloc h.size o
theorem b_new (w : World) (o : Obj) : Below w.heap.size w (w.alloc o) := (Below.refl _ _).alloc (Nat.le_refl _) _
theorem b_row {a w : World} (h : Below a.heap.size a w) {p : Nat} (hp : a.heap.size ≤ p) (cs : Array Value) : Below a.heap.size a (w.setRow p cs) :=
  ⟨h.os, h.tape, h.output, by have := h.size; simp; omega, fun i hi => (setRow_other w p i cs (by omega)).trans (h.block i hi)⟩

/-- the load of a whole set, and of its words: one operation each -/
def ldT (a : Addr) : Sem (Array Value) := loadCells a 65
def ldW (a : Addr) : Sem (Array Value) := loadCells a 64
@[simp ↓ high, go_sem ↓ high] theorem load_from (a : Addr) : loadCellsFrom a 0 65 #[] = ldT a := rfl
@[simp ↓ high, go_sem ↓ high] theorem load_words (a : Addr) : loadCellsFrom a 0 64 #[] = ldW a := rfl
/-- a block that holds a set -/
def TAt (w : World) (p : Nat) (n : Int) (ws : List Nat) : Prop := Has w p 71 (sl n ws)
section
variable {w w' : World} {p : Nat} {n : Int} {ws : List Nat}
theorem TAt.row (h : TAt w p n ws) : w.heap[p]? = some (.cells (sa n ws) 71 (0, 0)) := h
theorem TAt.lt (h : TAt w p n ws) : p < w.heap.size := Has.lt h
theorem TAt.on (h : TAt w p n ws) (hb : Below w.heap.size w w') : TAt w' p n ws := Has.below h hb h.lt
theorem TAt.made (w : World) (n : Int) (ws : List Nat) : TAt (w.alloc (.cells (sa n ws) 71)) w.heap.size n ws := Has.new w (sl n ws) _
theorem TAt.c0 (h : TAt w p n ws) : w.cell? ⟨p, 0, none⟩ = some (.int .i64 n) := Has.cell h 0
theorem TAt.cw (h : TAt w p n ws) {j : Nat} (hj : j < 64) : w.cell? ⟨p, 1 + j, none⟩ = some (.int .u64 ((wg ws j : Nat) : Int)) := (Has.cell h (1 + j)).trans (sl_at n ws hj)
theorem TAt.ld (h : TAt w p n ws) : (ldT ⟨p, 0, none⟩).run Tryd.prog w = .ok (sa n ws) w := by
  have := run_loadCells_list (P := Tryd.prog) w ⟨p, 0, none⟩ (sl n ws) (fun j v hv => by
    have hadd : (⟨p, 0, none⟩ : Addr).add j = ⟨p, j, none⟩ := by unfold Addr.add; split <;> simp_all
    rw [hadd, Has.cell h j]; exact hv)
  rw [sl_length] at this
  exact this
theorem TAt.ldw (h : TAt w p n ws) : (ldW ⟨p, 1, none⟩).run Tryd.prog w = .ok (wa ws) w := by
  have := run_loadCells_list (P := Tryd.prog) w ⟨p, 1, none⟩ (wl ws) (fun j v hv => by
    have hadd : (⟨p, 1, none⟩ : Addr).add j = ⟨p, 1 + j, none⟩ := by unfold Addr.add; split <;> simp_all
    have hj : j < 64 := by
      rcases Nat.lt_or_ge j 64 with h | h
      · exact h
      · rw [List.getElem?_eq_none (by rw [wl_length]; exact h)] at hv; cases hv
    rw [hadd, h.cw hj, ← hv, wl_at ws hj])
  rw [wl_length] at this
  exact this
theorem TAt.put (h : TAt w p n ws) (hw : ws.length = 64) {j : Nat} (hj : j < 64) (x : Nat) : TAt (w.setCell ⟨p, 1 + j, none⟩ (.int .u64 (x : Nat))) p n (ws.set j x) := by
  have := Has.set h (1 + j) (.int .u64 (x : Nat))
  rw [sl_set n ws hw hj] at this
  exact this
theorem TAt.st (h : TAt w p n ws) (n' : Int) (ws' : List Nat) : (storeCells ⟨p, 0, none⟩ (sa n' ws').toList 0).run Tryd.prog w = .ok () (w.setRow p (sa n' ws')) := by
  have := run_storeVar_row (P := Tryd.prog) w p 71 71 (sa n ws) (sa n' ws') h.row (by rw [sa_size]; kernel_rfl) (by simp) (sa_one _ _)
  simpa [storeVar, Value.cells] using this
end
theorem zero_run (w : World) : (zeroValue 71).run Tryd.prog w = .ok (.agg (sa 0 zs)) w := by kernel_rfl
@[simp, go_sem] theorem st_new (w : World) (n : Int) (ws : List Nat) : (storeCells ⟨w.heap.size, 0, none⟩ (sa n ws).toList 0).run Tryd.prog (w.alloc (.cells (sa 0 zs) 71)) = .ok () (w.alloc (.cells (sa n ws) 71)) := by
  have := (TAt.made w 0 zs).st n ws
  rwa [World.setRow_alloc_new] at this
/-- s.words[j], of a copy -/
theorem words_at (ws : List Nat) {j : Nat} (hj : j < 64) (w : World) : (Instr.index 69 (.agg (wa ws)) (.int .i64 (j : Nat))).run Tryd.prog w = .ok (.int .u64 ((wg ws j : Nat) : Int)) w := by
  have hx : (wa ws)[j]? = some (.int .u64 ((wg ws j : Nat) : Int)) := by
    rw [wa, List.getElem?_toArray]; exact wl_at ws hj
  have h0 : (0 : Int) ≤ (j : Nat) := by omega
  obtain ⟨_, hx2⟩ := Array.getElem?_eq_some_iff.1 hx
  simp [Instr.index, asIntOf, part, go_sem, Result.andThen, h0, hj]
  exact hx2
/-! the operations at the set's type, its cells under one name -/
theorem built1 (n : Int) : (Tryd.prog).built 71 [(0, .int .i64 n)] = some (sa n zs) := by kernel_rfl
theorem wl_alloc {ops : Array Oper} {rest : List Oper} {dst : Option Tmp} {ty : TypeId} {pos : String} {after : Array Edge} {a : Act} {w : World} {Q : Exit → Act → World → Prop}
    (h : wpList Tryd.prog ops Q rest (a.put dst (.pointer (some ⟨w.heap.size, 0, none⟩))) (w.alloc (.cells (sa 0 zs) 71))) : wpList Tryd.prog ops Q (⟨dst, .alloc 71, ty, pos, after, none⟩ :: rest) a w := by
  refine wpList_plain rfl fun K' hK' => ?_
  unfold Oper.wp
  simp [execOp, Instr.alloc, Result.andThen]
  exact hK' _ _ h
set_option maxRecDepth 100000 in
theorem wl_build1 {ops : Array Oper} {rest : List Oper} {dst : Option Tmp} {ty : TypeId} {pos : String} {after : Array Edge} {a : Act} {w : World} {Q : Exit → Act → World → Prop} {x : Operand} (n : Int)
    (hx : a.eval x = .int .i64 n)
    (h : wpList Tryd.prog ops Q rest (a.put dst (.agg (sa n zs))) w) : wpList Tryd.prog ops Q (⟨dst, .build 71 #[(0, x)], ty, pos, after, none⟩ :: rest) a w := by
  refine wpList_plain rfl fun K' hK' => wp_build 71 #[(0, x)] rfl ?_ ?_
  · simp only [List.map_toArray, List.map_cons, List.map_nil, hx, built1]; rfl
  · simp only [List.map_toArray, List.map_cons, List.map_nil, hx, built1]; exact hK' _ _ h
end Go.Proofs.YtkflccecdjfkiaaDoor.Bit
