/- Contracts of layer 3 (dev): the iterator over the cache, from its end, and 'reading'. -/
import Derived.RangeFuncBox
import Derived.RangeFuncNested
import Derived.RangeFuncBound
import Derived.RangeFuncCalls
import Derived.RangeFuncLeaves
import Derived.Shelf.Abstract
import Derived.Shelf.RegionOpen
import Derived.WalkKit
import Derived.OwnWalkIn
import Derived.TacticsInMore
import Derived.LoopNIn
import Derived.LoopIn
import Derived.Outline
import Derived.Test.YtlnocdmechidfaaRows
import Derived.Test.YtlnocdmechidfaaDevA
namespace Go.Proofs.Ytlnocdmechidfaa.Dev
open Go.RowKit Go.Shelf Go.Proofs.Ytlnocdmechidfaa
set_option linter.unusedVariables false
attribute [local go_sem] Oper.semAt_some

def down (n k : Nat) : List Nat := (List.range (n - k)).map fun j => n - 1 - j
theorem down_all (n : Nat) : down n n = [] := by simp [down]
theorem down_succ {n k : Nat} (h : k < n) : down n k = down n (k + 1) ++ [k] := by
  unfold down
  rw [show n - k = n - (k + 1) + 1 by omega, List.range_succ, List.map_append]
  congr 1
  simp; omega
theorem down_len {n k : Nat} : (down n k).length = n - k := by simp [down]
def wS (ws : List (Nat × ByteArray)) (j : Nat) : Nat := (ws[j]?.map (·.1)).getD 0
def wT (ws : List (Nat × ByteArray)) (j : Nat) : ByteArray := (ws[j]?.map (·.2)).getD ⟨#[]⟩
def encW (ws : List (Nat × ByteArray)) (j : Nat) : Array Value := #[.int .i64 (j : Nat), .agg #[.int .i64 (wS ws j : Nat), .string (wT ws j)]]

set_option maxRecDepth 100000 in
set_option maxHeartbeats 2000000 in
theorem back1_in (F : Fence) (n : Nat) (h7 : F.fn 61) (hro : F.round = none) (hn : 1 ≤ n) (l Bs n₀ b len cap : Nat) (ws : List (Nat × ByteArray)) (hreach : len ≤ 9223372036854775807) (hb : b < n₀) (hBn : Bs < n₀) (J Jx : List Nat → World → Prop)
    (hY : ∀ pre x W, J pre W → pre.length < len → YieldAt F (n - 1) Try.prog l (encW ws x) W fun e W' =>
      (e = .returned (.bool true) ∧ J (pre ++ [x]) W' ∧ Below n₀ W W') ∨ (e = .returned (.bool false) ∧ Jx (pre ++ [x]) W'))
    (W : World) (hBs : W.cell? ⟨Bs, 0, none⟩ = some (.slice (some ⟨b, 0, none⟩) len cap))
    (hc0 : ∀ j, j < len → W.cell? ⟨b, j * 2, none⟩ = some (.int .i64 (wS ws j : Nat))) (hc1 : ∀ j, j < len → W.cell? ⟨b, j * 2 + 1, none⟩ = some (.string (wT ws j))) (h0 : J [] W) :
    CallsIn F n Try.prog 61 #[.func (.yield l) #[] #[], .pointer (some ⟨Bs, 0, none⟩)] W fun e W' => (∃ v, e = .returned v) ∧
      ((∃ ys, ys = down len 0 ∧ J ys W') ∨ (∃ pre, (∃ k, k ≤ len ∧ pre = down len k) ∧ Jx pre W')) := by
  refine callsIn_of_wp Try.func61 rfl h7 ?_ hro
  simp only [Try.ntmps61, List.size_toArray, List.length_cons, List.length_nil, Nat.reduceAdd, Nat.reduceSub, Array.replicate_succ, Array.replicate_zero, List.push_toArray, List.append_toArray, List.nil_append, List.cons_append]
  gi_wp2
  gi_loopw [3] (fun i wr => ∃ k : Nat, k ≤ len ∧ i = .int .i64 ((k : Int) - 1) ∧ J (down len k) wr ∧ Below n₀ W wr)
    (fun i _ => (intOf i + 1).toNat)
  case atStart => exact ⟨len, Nat.le_refl _, rfl, by rw [down_all]; exact h0, Below.refl _ _⟩
  case round =>
    obtain ⟨k, hk, rfl, hJs, hnx⟩ := hrel
    have hbs := (hnx.cell (p := ⟨Bs, 0, none⟩) hBn).trans hBs
    cases k with
    | zero =>
      rw [show (((0 : Nat) : Int) - 1) = -1 from rfl]
      gi_wp2
      go_end0
      exact ⟨⟨_, rfl⟩, .inl ⟨_, rfl, hJs⟩⟩
    | succ m =>
      rw [show (((m + 1 : Nat) : Int) - 1) = (m : Int) by omega]
      obtain ⟨fn, tmps, assign, body, hy, hR⟩ := hY _ m wr hJs (by rw [down_len]; omega)
      unfold encW at hy
      have hx0 := (hnx.cell (p := ⟨b, m * 2, none⟩) hb).trans (hc0 m (by omega))
      have hx1 := (hnx.cell (p := ⟨b, m * 2 + 1, none⟩) hb).trans (hc1 m (by omega))
      clear hBs hc0 hc1
      gi_wp2
      refine hR.mono ?_
      rintro e W3 (⟨rfl, hJ3, hk3⟩ | ⟨rfl, hJx3⟩)
      · gi_wp2
        go_roundw
        case rel => exact ⟨m, by omega, rfl, by rw [down_succ (by omega)]; exact hJ3, hnx.trans hk3⟩
        case measure => simp [intOf]
      · gi_wp2
        refine bodyPost_ret (results_none rfl _ _ _) rfl ?_
        exact ⟨⟨_, rfl⟩, .inr ⟨_, ⟨m, by omega, (down_succ (by omega)).symm⟩, hJx3⟩⟩

set_option maxRecDepth 100000 in
set_option maxHeartbeats 1000000 in
theorem back1_nil_in (F : Fence) (n : Nat) (h7 : F.fn 61) (hro : F.round = none) (l Bs : Nat) (J : List Nat → World → Prop) (W : World) (hBs : W.cell? ⟨Bs, 0, none⟩ = some (.slice none 0 0)) (h0 : J [] W) :
    CallsIn F n Try.prog 61 #[.func (.yield l) #[] #[], .pointer (some ⟨Bs, 0, none⟩)] W fun e W' => (∃ v, e = .returned v) ∧ J [] W' := by
  refine callsIn_of_wp Try.func61 rfl h7 ?_ hro
  simp only [Try.ntmps61, List.size_toArray, List.length_cons, List.length_nil, Nat.reduceAdd, Nat.reduceSub, Array.replicate_succ, Array.replicate_zero, List.push_toArray, List.append_toArray, List.nil_append, List.cons_append]
  gi_wp2
  gi_loopw [3] (fun i wr => i = .int .i64 (-1) ∧ J [] wr) (fun _ _ => 0)
  case atStart => exact ⟨rfl, h0⟩
  case round =>
    obtain ⟨rfl, hJs⟩ := hrel
    gi_wp2
    go_end0
    exact ⟨⟨_, rfl⟩, hJs⟩

theorem back_in (F : Fence) (n : Nat) (h5 : F.fn 54) (hro : F.round = none) (a : Option Addr) (len cap : Nat) (w : World) :
    CallsIn F n Try.prog 54 #[.slice a len cap] w fun e w' => e = .returned (.func (.func 61) #[] #[.pointer (some ⟨w.heap.size, 0, none⟩)]) ∧ w' = w.alloc (.cells #[.slice a len cap] 66) := by
  refine callsIn_of_wp Try.func54 rfl h5 ?_ hro
  simp only [Try.ntmps54, List.size_toArray, List.length_cons, List.length_nil, Nat.reduceAdd, Nat.reduceSub, Array.replicate_succ, Array.replicate_zero, List.push_toArray, List.append_toArray, List.nil_append, List.cons_append]
  gi_wp2
  go_ret
  exact ⟨rfl, rfl⟩

/-- the cache's cells, as the iterator reads them -/
def WsAt (n₀ : Nat) (W : World) (cv : Value) (ws : List (Nat × ByteArray)) : Prop :=
  (cv = .slice none 0 0 ∧ ws = []) ∨ ∃ b cap, cv = .slice (some ⟨b, 0, none⟩) ws.length cap ∧ b < n₀ ∧ (∀ j, j < ws.length → W.cell? ⟨b, j * 2, none⟩ = some (.int .i64 (wS ws j : Nat))) ∧ ∀ j, j < ws.length → W.cell? ⟨b, j * 2 + 1, none⟩ = some (.string (wT ws j))
theorem WsAt.below {n₀ : Nat} {A B : World} (h : Below n₀ A B) {cv : Value} {ws : List (Nat × ByteArray)} : WsAt n₀ A cv ws → WsAt n₀ B cv ws
  | .inl e => .inl e
  | .inr ⟨b, cap, e, hb, hc, hd⟩ => .inr ⟨b, cap, e, hb, fun j hj => (h.cell (p := ⟨b, j * 2, none⟩) hb).trans (hc j hj), fun j hj => (h.cell (p := ⟨b, j * 2 + 1, none⟩) hb).trans (hd j hj)⟩
theorem WsAt.of {n₀ : Nat} {w : World} {cv : Value} {ws : List (Nat × ByteArray)} (h : w.ownsRow 0 76 2 cv ws.length (flatW ws)) (hn : w.heap.size ≤ n₀) : WsAt n₀ w cv ws := by
  rcases h.2 with ⟨hv, h0⟩ | ⟨g, cap, cur, hv, _, hg, _⟩
  · exact .inl ⟨hv, List.eq_nil_of_length_eq_zero h0⟩
  · subst hv
    refine .inr ⟨g, cap, rfl, by have := (Array.getElem?_eq_some_iff.1 hg).1; omega, fun j hj => ?_, fun j hj => ?_⟩
    · rw [h.cellAt (j * 2) (by omega), flatW, flat2_get0 (fun x : Nat × ByteArray => Value.int .i64 (x.1 : Nat)) (fun x => Value.string x.2), wS, List.getElem?_eq_getElem hj]; rfl
    · rw [h.cellAt (j * 2 + 1) (by omega), flatW, flat2_get1 (fun x : Nat × ByteArray => Value.int .i64 (x.1 : Nat)) (fun x => Value.string x.2), wT, List.getElem?_eq_getElem hj]; rfl

theorem back_stops (F : Fence) (n : Nat) (h7 : F.fn 61) (hro : F.round = none) (hn : 1 ≤ n) (Bs n₀ : Nat) (cv : Value) (ws : List (Nat × ByteArray)) (hreach : ws.length ≤ 9223372036854775807) (w : World) (hBs : Bs < n₀) (hn₀ : n₀ ≤ w.heap.size)
    (hc : w.cell? ⟨Bs, 0, none⟩ = some cv) (hI : WsAt n₀ w cv ws) :
    SeqStopsK F n Try.prog 61 #[.pointer (some ⟨Bs, 0, none⟩)] (encW ws) (Below n₀) (fun ys => ys = down ws.length 0)
      (fun pre => ∃ k, k ≤ ws.length ∧ pre = down ws.length k) ws.length w := fun l J Jx W hW _ _ hY h0 => by
  have hc' := (hW.cell (p := ⟨Bs, 0, none⟩) (show Bs < _ by omega)).trans hc
  rcases hI.below (hW.mono hn₀) with ⟨rfl, rfl⟩ | ⟨b, cap, rfl, hb, hcs, hds⟩
  · exact (back1_nil_in F n h7 hro l Bs J W hc' h0).mono fun e W' ⟨he, hj⟩ => ⟨he, .inl ⟨_, rfl, hj⟩⟩
  · exact back1_in F n h7 hro hn l Bs n₀ b ws.length cap ws hreach hb hBs J Jx hY W hc' hcs hds h0

/-- none of these is to sector i -/
def noneOf (ws : List (Nat × ByteArray)) (i : Nat) (pre : List Nat) : Prop := ∀ j ∈ pre, wS ws j ≠ i
theorem find_none (ws : List (Nat × ByteArray)) (i : Nat) (h : noneOf ws i (down ws.length 0)) : ws.reverse.find? (fun x => x.1 == i) = none := by
  rw [List.find?_eq_none]
  intro x hx
  obtain ⟨j, hj, rfl⟩ := List.mem_iff_getElem.1 (List.mem_reverse.1 hx)
  have := h j (by
    unfold down
    refine List.mem_map.2 ⟨ws.length - 1 - j, by simp; omega, by omega⟩)
  unfold wS at this
  rw [List.getElem?_eq_getElem hj] at this
  simpa using this
theorem find_some (ws : List (Nat × ByteArray)) (i k : Nat) (hk : k < ws.length) (h : noneOf ws i (down ws.length (k + 1))) (he : wS ws k = i) : ws.reverse.find? (fun x => x.1 == i) = some (ws[k]'hk) := by
  have hr : ws.reverse = (ws.drop (k + 1)).reverse ++ (ws[k]'hk) :: (ws.take k).reverse := by
    have : ws = ws.take k ++ (ws[k]'hk) :: ws.drop (k + 1) := by rw [List.getElem_cons_drop, List.take_append_drop]
    conv => lhs; rw [this]
    simp
  rw [hr, List.find?_append, List.find?_eq_none.2, Option.none_or, List.find?_cons_of_pos]
  · unfold wS at he; rw [List.getElem?_eq_getElem hk] at he; simpa using he
  · intro x hx
    obtain ⟨j, hj, rfl⟩ := List.mem_iff_getElem.1 (List.mem_reverse.1 hx)
    simp only [List.length_drop] at hj
    have := h (k + 1 + j) (by
      unfold down
      refine List.mem_map.2 ⟨ws.length - 1 - (k + 1 + j), by simp; omega, by omega⟩)
    unfold wS at this
    rw [List.getElem?_eq_getElem (by omega)] at this
    simpa using this

set_option maxRecDepth 100000 in
set_option maxHeartbeats 4000000 in
theorem reading_any {p sb : Nat} {cv : Value} {D : Dv} (i : Nat) (w : World) (h : DevAt w p sb cv D) (hi : i < D.n) (hl : D.cache.length ≤ 9223372036854775807) :
    Calls Try.prog 37 #[.pointer (some ⟨p, 0, none⟩), .int .i64 (i : Nat)] w fun e w' => e = .returned (.string (D.reads i)) ∧ Below w.heap.size w w' := by
  refine (callsIn_wide (n := 6)).1 ?_
  obtain ⟨F, hF⟩ : ∃ F, F = Fence.wide := ⟨_, rfl⟩
  obtain ⟨n, hn6⟩ : ∃ n, n = 6 := ⟨_, rfl⟩
  rw [← hF, ← hn6]
  have h1 : F.fn 37 := by rw [hF]; trivial
  have h2 : F.fn 54 := by rw [hF]; trivial
  have h3 : F.fn 61 := by rw [hF]; trivial
  have hro : F.round = none := by rw [hF]; rfl
  have HF := Lib.hid hF
  have hn : 3 ≤ n := by omega
  clear hF hn6
  have hn1 : 1 ≤ n := by omega
  have hcv := h.c3
  have hp := h.main.lt
  have hp1 : p < w.heap.size + 1 := by omega
  obtain ⟨sa, sl, sc, rfl⟩ : ∃ a l c, cv = .slice a l c := by
    rcases h.cache.2 with ⟨rfl, _⟩ | ⟨g, cap, cur, rfl, _⟩ <;> exact ⟨_, _, _, rfl⟩
  refine callsIn_of_wp_marks Try.func37 rfl h1 ?_ hro
  simp only [Try.ntmps37, List.size_toArray, List.length_cons, List.length_nil, Nat.reduceAdd, Nat.reduceSub, Array.replicate_succ, Array.replicate_zero, List.push_toArray, List.append_toArray, List.nil_append, List.cons_append]
  gi_wp2_with (gi_at_call 54; refine (back_in F (n - 1) h2 hro _ _ _ _).mono ?_; rintro e w' ⟨rfl, rfl⟩)
  have bI := ((Boxed.new w 3 (.int .i64 (i : Nat))).alloc (.cells #[.string ⟨#[]⟩] 9)).alloc (.cells #[.slice sa sl sc] 66)
  have bS := (Boxed.new (w.alloc (.cells #[.int .i64 (i : Nat)] 3)) 9 (.string ⟨#[]⟩)).alloc (.cells #[.slice sa sl sc] 66)
  have bC := Boxed.new ((w.alloc (.cells #[.int .i64 (i : Nat)] 3)).alloc (.cells #[.string ⟨#[]⟩] 9)) 66 (.slice sa sl sc)
  simp only [World.size_alloc] at bS bC
  have hB0 : Below w.heap.size w (((w.alloc (.cells #[.int .i64 (i : Nat)] 3)).alloc (.cells #[.string ⟨#[]⟩] 9)).alloc (.cells #[.slice sa sl sc] 66)) := (((Below.refl _ w).alloc (Nat.le_refl _) _).alloc (by simp) _).alloc (by simp; omega) _
  have hsz : (((w.alloc (.cells #[.int .i64 (i : Nat)] 3)).alloc (.cells #[.string ⟨#[]⟩] 9)).alloc (.cells #[.slice sa sl sc] 66)).heap.size = w.heap.size + 3 := by simp
  obtain ⟨W0, hW0⟩ : ∃ W0, ((w.alloc (.cells #[.int .i64 (i : Nat)] 3)).alloc (.cells #[.string ⟨#[]⟩] 9)).alloc (.cells #[.slice sa sl sc] 66) = W0 := ⟨_, rfl⟩
  rw [hW0] at bI bS bC hB0 hsz ⊢
  clear hW0
  have hws : WsAt (w.heap.size + 3) W0 (.slice sa sl sc) D.cache := by
    have := WsAt.of (n₀ := w.heap.size) h.cache (Nat.le_refl _)
    have := this.below hB0
    rcases this with e | ⟨b, cap, e, hb, hc, hd⟩
    · exact .inl e
    · exact .inr ⟨b, cap, e, by omega, hc, hd⟩
  have h0 : DevAt W0 p sb (.slice sa sl sc) D := h.below hB0 (Nat.le_refl _)
  refine wpIn_rangeFunc_ownH hro hn1 (gf := 61) (lb := #[.pointer (some ⟨w.heap.size + 1 + 1, 0, none⟩)]) rfl h3 (enters_of Try.func61 (by kernel_rfl) rfl)
    (back_stops F (n - 1) h3 hro (by omega) (w.heap.size + 1 + 1) (w.heap.size + 3) (.slice sa sl sc) D.cache hl W0 (by omega) (by omega) bC.cell hws) belowK_t (belowK_b (by omega)) (Below.refl _ _) (fun _ => rfl)
    (fun pre W => noneOf D.cache i pre ∧ Below (w.heap.size + 3) W0 W)
    (fun c pre W => c = .ret ∧ ∃ q k, pre = q ++ [k] ∧ noneOf D.cache i q ∧ wS D.cache k = i ∧ Boxed W (w.heap.size + 1) 9 (.string (wT D.cache k)) ∧ Below w.heap.size w W)
    ((ownFrom_pure _ _).and (ownFrom_below (by omega) (by omega))) ?ix ⟨fun _ h => (by cases h), Below.refl _ _⟩
    (fun x a' W => ∃ Bx, w.heap.size + 3 ≤ Bx ∧ W.heap[Bx]? = some (.cells #[.int .i64 (wS D.cache x : Nat), .string (wT D.cache x)] 76 (0, 0)) ∧
      a' = { tmps := #[.pointer (some ⟨p, 0, none⟩), .int .i64 (i : Nat), undef, .pointer (some ⟨w.heap.size, 0, none⟩), .pointer (some ⟨w.heap.size + 1, 0, none⟩), undef, .pointer (some ⟨Bx, 0, none⟩), .pointer (some ⟨p, 0, none⟩), .pointer (some ⟨p, 0, none⟩), .pointer (some ⟨p, 3, none⟩), .slice sa sl sc, .func (.func 61) #[] #[.pointer (some ⟨w.heap.size + 1 + 1, 0, none⟩)], .int .i64 (x : Nat), .agg #[.int .i64 (wS D.cache x : Nat), .string (wT D.cache x)], undef, undef, undef, undef, undef, undef, undef, undef, undef, undef, undef, undef, undef, undef], defers := [] }) ?ax ?assign ?body ?done ?stop
  case ix =>
    rintro c s A B row ⟨e, q, k, e1, e2, e3, e4, e5⟩ hg hr
    exact ⟨e, q, k, e1, e2, e3, e4.kept hg (fun e' => by have := (hr _ e'.symm).1; omega), e5.grown hg e5.size (fun k e' => by have := (hr _ e').1; omega)⟩
  case ax =>
    rintro x a' s A B row ⟨Bx, e1, e2, e3⟩ hg hr
    refine ⟨Bx, e1, ?_, e3⟩
    rw [hg.block Bx (Array.getElem?_eq_some_iff.1 e2).1 (fun e' => by
      obtain ⟨_, o, ho, hc⟩ := hr _ e'.symm
      rw [e2] at ho; cases ho; cases hc)]
    exact e2
  case assign =>
    rintro l pre x W K ⟨hno, hb⟩ hK
    have hs := hb.size
    unfold encW
    gi_wp2
    exact hK _ _ ((KeepsOthers.alloc _ _).from _) ((Below.refl _ W).alloc (by omega) _) ⟨hno, hb.alloc (by omega) _⟩ ⟨W.heap.size, by omega, World.alloc_heap_new _ _, rfl⟩
  case body =>
    rintro l pre x a' W hl' hr ⟨hno, hb⟩ ⟨Bx, hBx, bX, rfl⟩ hlt
    clear hr
    have hs := hb.size
    have hx : Has W Bx 76 [.int .i64 (wS D.cache x : Nat), .string (wT D.cache x)] := bX
    have hx0 := hx.cell 0
    have hx1 := hx.cell 1
    simp only [List.getElem?_cons_succ, List.getElem?_cons_zero] at hx0 hx1
    have hbi : W.cell? ⟨w.heap.size, 0, none⟩ = some (.int .i64 (i : Nat)) := (hb.cell (p := ⟨w.heap.size, 0, none⟩) (show w.heap.size < _ by omega)).trans bI.cell
    have hbs : Boxed W (w.heap.size + 1) 9 (.string ⟨#[]⟩) := (hb.block (w.heap.size + 1) (by omega)).trans bS
    have hbs0 := hbs.cell
    have hbs1 := hbs.frozen
    have HS := Lib.hid hbs
    clear bX hx hbs hws h0 bI bS bC hcv h
    gi_wp2
    · rename_i ht
      exact ⟨(KeepsOthers.setCell _ _ _).from _, rfl, pre, x, rfl, hno, by simp at ht; omega, HS.out.set _, (hB0.trans (hb.mono (by omega))).setCell (by simp) _⟩
    · rename_i ht
      exact ⟨(KeepsOthers.refl _).from _, Below.refl _ _, fun j hj => by
        rcases List.mem_append.1 hj with hj | hj
        · exact hno j hj
        · rw [List.mem_singleton.1 hj]; simp at ht; omega, hb⟩
  case done =>
    rintro Dd ys W hD rfl ⟨hno, hb⟩ hK
    have hd : DevAt W p sb (.slice sa sl sc) D := h0.below hb (by omega)
    have hc2 := hd.c2
    have hm := hd.media i hi
    have hbi : W.cell? ⟨w.heap.size, 0, none⟩ = some (.int .i64 (i : Nat)) := (hb.cell (p := ⟨w.heap.size, 0, none⟩) (show w.heap.size < _ by omega)).trans bI.cell
    have hbs : Boxed W (w.heap.size + 1) 9 (.string ⟨#[]⟩) := (hb.block (w.heap.size + 1) (by omega)).trans bS
    have hbs0 := hbs.cell
    have hbs1 := hbs.frozen
    have HS := Lib.hid hbs
    have HR := Lib.hid (show D.reads i = (D.secs[i]'hi).1 by unfold Dv.reads; rw [find_none D.cache i hno, List.getElem?_eq_getElem hi]; rfl)
    have hB := hB0.trans (hb.mono (by omega))
    have HK := Lib.hid hK
    have hn4 := h.ok.n4096
    clear hK hbs hd h0 bI bS bC hcv h hws
    gi_wp2
    have hF := HF.out
    subst hF
    refine wpIn_wide.2 ?_
    go_still_tail 8, (by kernel_rfl)
    change wpList _ _ _ _ _ W.drew
    go_wp2
    gi_wp2
    have hK2 : (W.setCell ⟨w.heap.size + 1, 0, none⟩ (.string (D.secs[i]'hi).1)).drew.heap[Dd]? = some (.deferred (some [])) := (Below.heap_setCell _ _ _ _ (show Dd ≠ w.heap.size + 1 by omega)).trans HK.out
    have hB2 : Below w.heap.size w (W.setCell ⟨w.heap.size + 1, 0, none⟩ (.string (D.secs[i]'hi).1)).drew := (hB.setCell (by simp) _).drew
    have hs2 := HS.out.set (.string (D.secs[i]'hi).1)
    have hc5 := cell_kept (show (W.setCell ⟨w.heap.size + 1, 0, none⟩ (.string (D.secs[i]'hi).1)).drew.cell? ⟨w.heap.size + 1, 0, none⟩ = _ from hs2.cell) (grownBy_putObj' _ Dd (.deferred none)) (fun r e => by cases e; exact ⟨_, hK2, rfl⟩)
    clear hm hc2 hbi hbs0 hbs1
    refine ⟨by simp, .inl ⟨_, _, rfl, run_takeDeferred hK2, ?_⟩⟩
    refine ⟨.string (D.secs[i]'hi).1, ?_, by rw [HR.out], hB2.trans (belowK_b (w := w) (Nat.le_refl _) _ Dd _ _ (by omega) hK2 rfl rfl)⟩
    simp [results, Try.f37, go_sem, hc5]
  case stop =>
    rintro Dd c pre W hD ⟨k, hk, rfl⟩ ⟨rfl, q, k2, e1, e2, e3, e4, e5⟩ hK
    have hk : k < D.cache.length := by
      have := congrArg List.length e1
      rw [down_len] at this
      simp at this; omega
    rw [down_succ hk] at e1
    obtain ⟨rfl, e1⟩ := List.append_inj' e1 rfl
    obtain rfl : k = k2 := by simpa using e1
    have HR := Lib.hid (show D.reads i = wT D.cache k by unfold Dv.reads; rw [find_some D.cache i k hk e2 e3]; unfold wT; rw [List.getElem?_eq_getElem hk]; rfl)
    have hc5 := cell_kept e4.cell (grownBy_putObj' _ Dd (.deferred none)) (fun r e => by cases e; exact ⟨_, hK, rfl⟩)
    clear e1 h0 hws bI bS bC h hcv
    gi_wp2
    refine ⟨by simp, .inl ⟨_, _, rfl, run_takeDeferred hK, ?_⟩⟩
    refine ⟨.string (wT D.cache k), ?_, by rw [HR.out], e5.trans (belowK_b (w := w) (Nat.le_refl _) W Dd _ _ (by omega) hK rfl rfl)⟩
    simp [results, Try.f37, go_sem, hc5]
end Go.Proofs.Ytlnocdmechidfaa.Dev
