/- Layer 17 (node): Child: a loop over slices.Backward of children. -/
import Derived.RangeFuncBox
import Derived.RangeFuncNested
import Derived.RangeFuncBound
import Derived.RangeFuncCalls
import Derived.RangeFuncLeaves
import Derived.Shelf.Abstract
import Derived.Shelf.RegionOpen
import Derived.WalkKit
import Derived.OwnWalkIn
import Derived.TacticsInMore
import Derived.LoopNIn
import Derived.LoopIn
import Derived.Outline
import Derived.Test.YtfclecbhfamomaaNoT
namespace Go.Proofs.Ytfclecbhfamomaa.Node
open Go Go.RowKit Go.Shelf Go.Proofs.Ytfclecbhfamomaa Go.Proofs.Ytfclecbhfamomaa.Lend Go.Proofs.Ytfclecbhfamomaa.Rec Go.Proofs.Ytfclecbhfamomaa.Msg Go.Proofs.Ytfclecbhfamomaa.Buf
set_option linter.unusedVariables false
attribute [local go_sem] Oper.semAt_some

def down (n k : Nat) : List Nat := (List.range (n - k)).map fun j => n - 1 - j
theorem down_all (n : Nat) : down n n = [] := by simp [down]
theorem down_succ {n k : Nat} (h : k < n) : down n k = down n (k + 1) ++ [k] := by
  unfold down
  rw [show n - k = n - (k + 1) + 1 by omega, List.range_succ, List.map_append]
  congr 1
  simp; omega
theorem down_len {n k : Nat} : (down n k).length = n - k := by simp [down]
theorem down_mem {n k j : Nat} : j ∈ down n k ↔ k ≤ j ∧ j < n := by
  unfold down; simp only [List.mem_map, List.mem_range]
  constructor
  · rintro ⟨i, h, rfl⟩; omega
  · rintro ⟨h1, h2⟩; exact ⟨n - 1 - j, by omega, by omega⟩
def chG (l : List Ch) (j : Nat) : Ch := l.getD j ⟨[], 0, 0, 0⟩
theorem chG_at {l : List Ch} {j : Nat} (h : j < l.length) : chG l j = l[j] := by unfold chG; rw [List.getD_eq_getElem?_getD, List.getElem?_eq_getElem h]; rfl
def agC (c : Ch) : Value := .agg #[.string (Lend.strOf c.low), .int .i64 c.addr, .int .u64 c.gen, .int .u32 c.sum]
def encM (l : List Ch) (j : Nat) : Array Value := #[.int .i64 (j : Nat), agC (chG l j)]
/-- the cells of the row -/
def cells4 (W : World) (b off len : Nat) (l : List Ch) : Prop := ∀ j, j < len → W.cell? ⟨b, off + j * 4, none⟩ = some (.string (Lend.strOf (chG l j).low)) ∧ W.cell? ⟨b, off + j * 4 + 1, none⟩ = some (.int .i64 (chG l j).addr) ∧ W.cell? ⟨b, off + j * 4 + 2, none⟩ = some (.int .u64 (chG l j).gen) ∧ W.cell? ⟨b, off + j * 4 + 3, none⟩ = some (.int .u32 (chG l j).sum)
theorem cells4.below {n₀ : Nat} {A B : World} {b off len : Nat} {l : List Ch} (h : cells4 A b off len l) (hb : b < n₀) (k : Below n₀ A B) : cells4 B b off len l := fun j hj =>
  ⟨(k.cell (p := ⟨b, _, none⟩) hb).trans (h j hj).1, (k.cell (p := ⟨b, _, none⟩) hb).trans (h j hj).2.1, (k.cell (p := ⟨b, _, none⟩) hb).trans (h j hj).2.2.1, (k.cell (p := ⟨b, _, none⟩) hb).trans (h j hj).2.2.2⟩
set_option maxRecDepth 100000 in
set_option maxHeartbeats 2000000 in
theorem back1_in (F : Fence) (d : Nat) (h7 : F.fn 51) (hro : F.round = none) (hn : 1 ≤ d) (l Bs n₀ b off len cap : Nat) (m : List Ch) (hreach : len ≤ 9223372036854775807) (hb : b < n₀) (hBn : Bs < n₀) (J Jx : List Nat → World → Prop)
    (hY : ∀ pre x W, J pre W → pre.length < len → YieldAt F (d - 1) Try.prog l (encM m x) W fun e W' =>
      (e = .returned (.bool true) ∧ J (pre ++ [x]) W' ∧ Below n₀ W W') ∨ (e = .returned (.bool false) ∧ Jx (pre ++ [x]) W'))
    (W : World) (hBs : W.cell? ⟨Bs, 0, none⟩ = some (.slice (some ⟨b, off, none⟩) len cap))
    (hc0 : cells4 W b off len m) (h0 : J [] W) :
    CallsIn F d Try.prog 51 #[.func (.yield l) #[] #[], .pointer (some ⟨Bs, 0, none⟩)] W fun e W' => (∃ v, e = .returned v) ∧
      ((∃ ys, ys = down len 0 ∧ J ys W') ∨ (∃ pre, (∃ k, k ≤ len ∧ pre = down len k) ∧ Jx pre W')) := by
  refine callsIn_of_wp Try.func51 rfl h7 ?_ hro
  simp only [Try.ntmps51, List.size_toArray, List.length_cons, List.length_nil, Nat.reduceAdd, Nat.reduceSub, Array.replicate_succ, Array.replicate_zero, List.push_toArray, List.append_toArray, List.nil_append, List.cons_append]
  gi_wp2
  gi_loopw [3] (fun i wr => ∃ k : Nat, k ≤ len ∧ i = .int .i64 ((k : Int) - 1) ∧ J (down len k) wr ∧ Below n₀ W wr)
    (fun i _ => (intOf i + 1).toNat)
  case atStart => exact ⟨len, Nat.le_refl _, rfl, by rw [down_all]; exact h0, Below.refl _ _⟩
  case round =>
    obtain ⟨k, hk, rfl, hJs, hnx⟩ := hrel
    have hbs := (hnx.cell (p := ⟨Bs, 0, none⟩) hBn).trans hBs
    cases k with
    | zero =>
      rw [show (((0 : Nat) : Int) - 1) = -1 from rfl]
      gi_wp2
      go_end0
      exact ⟨⟨_, rfl⟩, .inl ⟨_, rfl, hJs⟩⟩
    | succ q =>
      rw [show (((q + 1 : Nat) : Int) - 1) = (q : Int) by omega]
      obtain ⟨fn, tmps, assign, body, hy, hR⟩ := hY _ q wr hJs (by rw [down_len]; omega)
      unfold encM agC at hy
      obtain ⟨hx0, hx1, hx2, hx3⟩ := (hc0.below hb hnx) q (by omega)
      clear hBs hc0
      gi_wp2
      refine hR.mono ?_
      rintro e W3 (⟨rfl, hJ3, hk3⟩ | ⟨rfl, hJx3⟩)
      · gi_wp2
        go_roundw
        case rel => exact ⟨q, by omega, rfl, by rw [down_succ (by omega)]; exact hJ3, hnx.trans hk3⟩
        case measure => simp [intOf]
      · gi_wp2
        refine bodyPost_ret (results_none rfl _ _ _) rfl ?_
        exact ⟨⟨_, rfl⟩, .inr ⟨_, ⟨q, by omega, (down_succ (by omega)).symm⟩, hJx3⟩⟩
set_option maxRecDepth 100000 in
set_option maxHeartbeats 1000000 in
theorem back1_nil_in (F : Fence) (d : Nat) (h7 : F.fn 51) (hro : F.round = none) (l Bs : Nat) (ao : Option Addr) (cap : Nat) (J : List Nat → World → Prop) (W : World) (hBs : W.cell? ⟨Bs, 0, none⟩ = some (.slice ao 0 cap)) (h0 : J [] W) :
    CallsIn F d Try.prog 51 #[.func (.yield l) #[] #[], .pointer (some ⟨Bs, 0, none⟩)] W fun e W' => (∃ v, e = .returned v) ∧ J [] W' := by
  refine callsIn_of_wp Try.func51 rfl h7 ?_ hro
  simp only [Try.ntmps51, List.size_toArray, List.length_cons, List.length_nil, Nat.reduceAdd, Nat.reduceSub, Array.replicate_succ, Array.replicate_zero, List.push_toArray, List.append_toArray, List.nil_append, List.cons_append]
  gi_wp2
  gi_loopw [3] (fun i wr => i = .int .i64 (-1) ∧ J [] wr) (fun _ _ => 0)
  case atStart => exact ⟨rfl, h0⟩
  case round =>
    obtain ⟨rfl, hJs⟩ := hrel
    gi_wp2
    go_end0
    exact ⟨⟨_, rfl⟩, hJs⟩
theorem back_in (F : Fence) (d : Nat) (h5 : F.fn 32) (hro : F.round = none) (a : Option Addr) (len cap : Nat) (w : World) :
    CallsIn F d Try.prog 32 #[.slice a len cap] w fun e w' => e = .returned (.func (.func 51) #[] #[.pointer (some ⟨w.heap.size, 0, none⟩)]) ∧ w' = w.alloc (.cells #[.slice a len cap] 26) := by
  refine callsIn_of_wp Try.func32 rfl h5 ?_ hro
  simp only [Try.ntmps32, List.size_toArray, List.length_cons, List.length_nil, Nat.reduceAdd, Nat.reduceSub, Array.replicate_succ, Array.replicate_zero, List.push_toArray, List.append_toArray, List.nil_append, List.cons_append]
  gi_wp2
  go_ret
  exact ⟨rfl, rfl⟩
/-- the row, as the iterator reads it -/
def KsAt (n₀ : Nat) (W : World) (ao : Option Addr) (len : Nat) (m : List Ch) : Prop :=
  len = 0 ∨ ∃ b off, ao = some ⟨b, off, none⟩ ∧ b < n₀ ∧ cells4 W b off len m
theorem KsAt.below {n₀ : Nat} {A B : World} (h : Below n₀ A B) {ao : Option Addr} {len : Nat} {m : List Ch} : KsAt n₀ A ao len m → KsAt n₀ B ao len m
  | .inl e => .inl e
  | .inr ⟨b, off, e, hb, hc⟩ => .inr ⟨b, off, e, hb, hc.below hb h⟩
theorem KsAt.of {n₀ : Nat} {w : World} {ao : Option Addr} {cap : Nat} {m : List Ch} (h : CR w (.slice ao m.length cap) m) (hn : w.heap.size ≤ n₀) : KsAt n₀ w ao m.length m := by
  by_cases hl : m.length = 0
  · exact .inl hl
  · obtain ⟨b, off, e⟩ := cr_some h (by omega)
    subst e
    have hc : cells4 w b off m.length m := fun j hj => by
      obtain ⟨b', off', e', c0, c1, c2, c3⟩ := cr_cells h j hj
      simp only [Option.some.injEq, Addr.mk.injEq, and_true] at e'
      obtain ⟨rfl, rfl⟩ := e'
      rw [chG_at hj]
      exact ⟨c0, c1, c2, c3⟩
    exact .inr ⟨b, off, rfl, Nat.lt_of_lt_of_le (World.block_lt_of_cell? _ _ (hc 0 (by omega)).1) hn, hc⟩
theorem back_stops (F : Fence) (d : Nat) (h7 : F.fn 51) (hro : F.round = none) (hn : 1 ≤ d) (Bs n₀ : Nat) (ao : Option Addr) (len cap : Nat) (m : List Ch) (hreach : len ≤ 9223372036854775807) (w : World) (hBs : Bs < n₀) (hn₀ : n₀ ≤ w.heap.size)
    (hc : w.cell? ⟨Bs, 0, none⟩ = some (.slice ao len cap)) (hI : KsAt n₀ w ao len m) :
    SeqStopsK F d Try.prog 51 #[.pointer (some ⟨Bs, 0, none⟩)] (encM m) (Below n₀) (fun ys => ys = down len 0)
      (fun pre => ∃ k, k ≤ len ∧ pre = down len k) len w := fun l J Jx W hW _ _ hY h0 => by
  have hc' := (hW.cell (p := ⟨Bs, 0, none⟩) (show Bs < _ by omega)).trans hc
  rcases hI.below (hW.mono hn₀) with rfl | ⟨b, off, rfl, hb, hcs⟩
  · exact (back1_nil_in F d h7 hro l Bs ao cap J W hc' h0).mono fun e W' ⟨he, hj⟩ => ⟨he, .inl ⟨_, rfl, hj⟩⟩
  · exact back1_in F d h7 hro hn l Bs n₀ b off len cap m hreach hb hBs J Jx hY W hc' hcs h0
/-- none of these is not above the key -/
def noneC (l : List Ch) (k : List UInt8) (pre : List Nat) : Prop := ∀ j ∈ pre, kLt k (chG l j).low = true
theorem chN_above {l : List Ch} {k : List UInt8} : ∀ (d j : Nat), j + d = l.length → (∀ i, j ≤ i → i < l.length → kLt k (chG l i).low = true) → chN l k = chN (l.take j) k
  | 0, j, h, _ => by rw [List.take_of_length_le (by omega)]
  | d + 1, j, h, hk => by
    rw [chN_above d (j + 1) (by omega) (fun i h1 h2 => hk i (by omega) h2), chN_take (by omega : j < l.length), if_pos]
    rw [← chG_at (by omega : j < l.length)]
    exact hk j (Nat.le_refl _) (by omega)
theorem none_chN {l : List Ch} {k : List UInt8} (h : noneC l k (down l.length 0)) : chI l k = -1 := by
  have e := chN_above l.length 0 (by omega) (fun i _ h2 => h i (down_mem.2 ⟨by omega, h2⟩))
  rw [List.take_zero, chN_nil] at e
  unfold chI
  rw [e]; rfl
theorem hit_chN {l : List Ch} {k : List UInt8} {x : Nat} (hx : x < l.length) (h : noneC l k (down l.length (x + 1))) (hk : kLt k (chG l x).low = false) : chI l k = (x : Int) := by
  have e := chN_above (l.length - (x + 1)) (x + 1) (by omega) (fun i h1 h2 => h i (down_mem.2 ⟨h1, h2⟩))
  rw [chN_take hx, ← chG_at hx, hk] at e
  unfold chI
  rw [e]
  simp
/-- blocks of the call -/
structure Kb (w : World) (kv bv : Value) (k : List UInt8) (a : Option Addr) (len cap : Nat) (W : World) : Prop where
  key : Boxed W (w.heap.size + 1) 9 (.string (Lend.strOf k))
  res : Boxed W (w.heap.size + 2) 3 (.int .i64 0)
  row : Boxed W (w.heap.size + 3) 26 (.slice a len cap)
  bel : Below w.heap.size w W
  size : W.heap.size = w.heap.size + 4
set_option maxRecDepth 100000 in
theorem Kb.new (w : World) (kv bv : Value) (k : List UInt8) (a : Option Addr) (len cap : Nat) : Kb w kv bv k a len cap ((((w.alloc (.cells #[kv, bv] 31)).alloc (.cells #[.string (Lend.strOf k)] 9)).alloc (.cells #[.int .i64 0] 3)).alloc (.cells #[.slice a len cap] 26)) := by
  have h1 := Boxed.new (w.alloc (.cells #[kv, bv] 31)) 9 (.string (Lend.strOf k))
  have h2 := Boxed.new ((w.alloc (.cells #[kv, bv] 31)).alloc (.cells #[.string (Lend.strOf k)] 9)) 3 (.int .i64 0)
  have h3 := Boxed.new (((w.alloc (.cells #[kv, bv] 31)).alloc (.cells #[.string (Lend.strOf k)] 9)).alloc (.cells #[.int .i64 0] 3)) 26 (.slice a len cap)
  simp only [World.size_alloc] at h1 h2 h3
  exact ⟨(h1.alloc _).alloc _, h2.alloc _, h3, below_nw (below_nw (below_nw (below_new w _) _) _) _, by simp⟩
set_option maxRecDepth 100000 in
set_option maxHeartbeats 8000000 in
theorem child_any {w : World} {kv bv : Value} {l : List Ch} (k : List UInt8) (h : CR w kv l) (hl : l.length ≤ 1000000) :
    Calls Try.prog 13 #[.agg #[kv, bv], .string (Lend.strOf k)] w fun e w' => e = .returned (.int .i64 (chI l k)) ∧ Below w.heap.size w w' := by
  obtain ⟨ao, cap, rfl⟩ := h.slice
  refine (callsIn_wide (n := 6)).1 ?_
  obtain ⟨F, hF⟩ : ∃ F, F = Fence.wide := ⟨_, rfl⟩
  obtain ⟨d, hd6⟩ : ∃ d, d = 6 := ⟨_, rfl⟩
  rw [← hF, ← hd6]
  have h1 : F.fn 13 := by rw [hF]; trivial
  have h2 : F.fn 32 := by rw [hF]; trivial
  have h3 : F.fn 51 := by rw [hF]; trivial
  have hro : F.round = none := by rw [hF]; rfl
  have hd : 3 ≤ d := by omega
  clear hF hd6
  have hd1 : 1 ≤ d := by omega
  have HC := Lib.hid h
  have HNC := Lib.hid (fun h => none_chN (l := l) (k := k) h)
  have HHC := Lib.hid (fun (x : Nat) hx h hk => hit_chN (l := l) (k := k) (x := x) hx h hk)
  have HKS := Lib.hid (fun (W : World) (hb : Below w.heap.size w W) => KsAt.of (n₀ := W.heap.size) (h.below hb) (Nat.le_refl _))
  obtain ⟨len, hlen⟩ : ∃ len, l.length = len := ⟨_, rfl⟩
  rw [hlen] at HNC HHC HKS hl ⊢
  have HB0 := Kb.new w (.slice ao len cap) bv k ao len cap
  clear h
  refine callsIn_of_wp_marks Try.func13 rfl h1 ?_ hro
  simp only [Try.ntmps13, List.size_toArray, List.length_cons, List.length_nil, Nat.reduceAdd, Nat.reduceSub, Array.replicate_succ, Array.replicate_zero, List.push_toArray, List.append_toArray, List.nil_append, List.cons_append]
  gi_wp2_with (gi_at_call 32; refine (back_in F (d - 1) h2 hro _ _ _ _).mono ?_; rintro e w' ⟨rfl, rfl⟩)
  obtain ⟨W0, hW0⟩ : ∃ W0, ((((w.alloc (.cells #[.slice ao len cap, bv] 31)).alloc (.cells #[.string (Lend.strOf k)] 9)).alloc (.cells #[.int .i64 0] 3)).alloc (.cells #[.slice ao len cap] 26)) = W0 := ⟨_, rfl⟩
  rw [hW0] at HB0 ⊢
  clear hW0
  have hks := HKS.out W0 HB0.bel
  have hsz := HB0.size
  have HBB := Lib.hid HB0
  rw [hsz] at hks
  refine wpIn_rangeFunc_ownH hro hd1 (gf := 51) (lb := #[.pointer (some ⟨w.heap.size + 1 + 1 + 1, 0, none⟩)]) rfl h3 (enters_of Try.func51 (by kernel_rfl) rfl)
    (back_stops F (d - 1) h3 hro (by omega) (w.heap.size + 1 + 1 + 1) (w.heap.size + 4) ao len cap l (by omega) W0 (by omega) (by omega) HB0.row.cell hks) belowK_t (belowK_b (by omega)) (Below.refl _ _) (fun _ => rfl)
    (fun pre W => noneC l k pre ∧ Below (w.heap.size + 4) W0 W)
    (fun c pre W => c = .ret ∧ ∃ q x, pre = q ++ [x] ∧ noneC l k q ∧ kLt k (chG l x).low = false ∧ Boxed W (w.heap.size + 1 + 1) 3 (.int .i64 (x : Nat)) ∧ Below w.heap.size w W)
    ((ownFrom_pure _ _).and (ownFrom_below (by omega) (by omega))) ?ix ⟨fun _ h => (by cases h), Below.refl _ _⟩
    (fun x a' W => ∃ p, a' = { tmps := #[.agg #[.slice ao len cap, bv], .string (Lend.strOf k), .pointer (some ⟨w.heap.size, 0, none⟩), .pointer (some ⟨w.heap.size + 1, 0, none⟩), .pointer (some ⟨w.heap.size + 1 + 1, 0, none⟩), .int .i64 (x : Nat), .pointer (some ⟨p, 0, none⟩), .pointer (some ⟨w.heap.size, 0, none⟩), .slice ao len cap, .func (.func 51) #[] #[.pointer (some ⟨w.heap.size + 1 + 1 + 1, 0, none⟩)], .int .i64 (x : Nat), agC (chG l x), undef, undef, undef, undef, undef], defers := [] } ∧ w.heap.size + 4 ≤ p ∧ ∃ o, W.heap[p]? = some o ∧ o.isCells = true ∧ W.cell? ⟨p, 0, none⟩ = some (.string (Lend.strOf (chG l x).low))) ?ax ?assign ?body ?done ?stop
  case ix =>
    rintro c s A B row ⟨e, q, x, e1, e2, e3, e4, e6⟩ hg hr
    exact ⟨e, q, x, e1, e2, e3, e4.kept hg (fun e' => by have := (hr _ e'.symm).1; omega), e6.grown hg e6.size (fun k e' => by have := (hr _ e').1; omega)⟩
  case ax =>
    rintro x a' s A B row ⟨p, e, hp, o, ho, hoc, hc⟩ hg hr
    have hpr : B.heap[p]? = A.heap[p]? := hg.block p (Array.getElem?_eq_some_iff.1 ho).1 (fun e' => by
      obtain ⟨_, o', ho', hc'⟩ := hr _ e'.symm
      rw [ho] at ho'; cases ho'; rw [hoc] at hc'; cases hc')
    refine ⟨p, e, hp, o, hpr.trans ho, hoc, ?_⟩
    unfold World.cell? at hc ⊢
    simp only [hpr]
    exact hc
  case assign =>
    rintro x0 pre x W K ⟨hno, hb⟩ hK
    have hs := hb.size
    have HNO := Lib.hid hno
    clear hno
    unfold encM agC
    obtain ⟨y, hy⟩ : ∃ y, y = chG l x := ⟨_, rfl⟩
    rw [← hy]
    have hh := Has.new W (encC y) 76
    have HH := Lib.hid hh
    have HY := Lib.hid hy
    clear hh hy
    gi_wp2
    refine hK _ _ ((KeepsOthers.alloc W _).from _) ((Below.refl _ W).alloc (by omega) _) ⟨HNO.out, hb.alloc (by omega) _⟩ ⟨W.heap.size, ?_, by omega, _, HH.out, rfl, ?_⟩
    · rw [← HY.out]; rfl
    · rw [← HY.out]; exact HH.out.cell 0
  case body =>
    rintro x0 pre x a' W hl' hr ⟨hno, hb⟩ ⟨p, rfl, hp, o, ho, hoc, hc⟩ hlt
    clear hr
    have hs := hb.size
    have hbk : W.cell? ⟨w.heap.size + 1, 0, none⟩ = some (.string (Lend.strOf k)) := (hb.cell (p := ⟨w.heap.size + 1, 0, none⟩) (show w.heap.size + 1 < _ by omega)).trans HBB.out.key.cell
    have hrs : Boxed W (w.heap.size + 1 + 1) 3 (.int .i64 0) := (hb.block (w.heap.size + 1 + 1) (by omega)).trans HBB.out.res
    have hr0 := hrs.cell
    have hr1 := hrs.frozen
    have HRS := Lib.hid hrs
    have HNO := Lib.hid hno
    have HBW := Lib.hid hb
    clear hrs hno ho hoc hks HB0
    have hcs := leq_cases (chG l x).low k
    obtain ⟨KY, hKY⟩ : ∃ z, z = Lend.strOf k := ⟨_, rfl⟩
    obtain ⟨LW, hLW⟩ : ∃ z, z = Lend.strOf (chG l x).low := ⟨_, rfl⟩
    rw [← hKY] at hcs hbk ⊢
    rw [← hLW] at hcs hc
    clear hKY hLW hb
    rcases hcs with ⟨hk, hbq, he⟩ | ⟨hk, hbq⟩ | ⟨hk, hbq, he⟩
    · have HK := Lib.hid hk
      clear hk
      gi_wp2
      exact ⟨(KeepsOthers.refl _).from _, Below.refl _ _, fun j hj => by
        rcases List.mem_append.1 hj with hj | hj
        · exact HNO.out j hj
        · rw [List.mem_singleton.1 hj]; exact HK.out, HBW.out⟩
    all_goals
      have HK := Lib.hid hk
      clear hk
      gi_wp2
      exact ⟨(KeepsOthers.setCell _ _ _).from _, rfl, pre, x, rfl, HNO.out, HK.out, HRS.out.set _, (HBB.out.bel.trans (HBW.out.mono (by omega))).setCell (by show w.heap.size ≤ w.heap.size + 1 + 1; omega) _⟩
  case done =>
    rintro Dd ys W hD rfl ⟨hno, hb⟩ hK
    have HRE := Lib.hid (HNC.out hno)
    have hs := hb.size
    have hrs : Boxed W (w.heap.size + 1 + 1) 3 (.int .i64 0) := (hb.block (w.heap.size + 1 + 1) (by omega)).trans HBB.out.res
    have hr0 := hrs.cell
    have hr1 := hrs.frozen
    have HRS := Lib.hid hrs
    have HB := Lib.hid (HBB.out.bel.trans (hb.mono (by omega)))
    have HK := Lib.hid hK
    clear hrs hno hks HB0 hK hb
    gi_wp2
    have hK2 : (W.setCell ⟨w.heap.size + 1 + 1, 0, none⟩ (.int .i64 (-1))).heap[Dd]? = some (.deferred (some [])) := by
      rw [Below.heap_setCell _ _ _ _ (show Dd ≠ w.heap.size + 1 + 1 by omega)]; exact HK.out
    have hB2 : Below w.heap.size w (W.setCell ⟨w.heap.size + 1 + 1, 0, none⟩ (.int .i64 (-1))) := HB.out.setCell (by show w.heap.size ≤ w.heap.size + 1 + 1; omega) _
    have hc5 := cell_kept (HRS.out.set (.int .i64 (-1))).cell (grownBy_putObj' _ Dd (.deferred none)) (fun r e => by cases e; exact ⟨_, hK2, rfl⟩)
    refine ⟨by simp, .inl ⟨_, _, rfl, run_takeDeferred hK2, ?_⟩⟩
    refine ⟨.int .i64 (-1), ?_, by rw [HRE.out], hB2.trans (belowK_b (w := w) (Nat.le_refl _) _ Dd _ _ (by omega) hK2 rfl rfl)⟩
    simp [results, Try.f13, go_sem, hc5]
  case stop =>
    rintro Dd c pre W hD ⟨x, hx, rfl⟩ ⟨rfl, q, x2, e1, e2, e3, e4, e6⟩ hK
    have hx : x < len := by
      have := congrArg List.length e1
      rw [down_len] at this
      simp at this; omega
    rw [down_succ hx] at e1
    obtain ⟨rfl, e1⟩ := List.append_inj' e1 rfl
    obtain rfl : x = x2 := by simpa using e1
    have HPL := Lib.hid (HHC.out x hx e2 e3)
    have hc5 := cell_kept e4.cell (grownBy_putObj' _ Dd (.deferred none)) (fun r e => by cases e; exact ⟨_, hK, rfl⟩)
    have HB := Lib.hid e6
    clear e1 hks HB0 e2 e3 e4 e6
    gi_wp2
    refine ⟨by simp, .inl ⟨_, _, rfl, run_takeDeferred hK, ?_⟩⟩
    refine ⟨.int .i64 (x : Nat), ?_, by rw [HPL.out], HB.out.trans (belowK_b (w := w) (Nat.le_refl _) W Dd _ _ (by omega) hK rfl rfl)⟩
    simp [results, Try.f13, go_sem, hc5]
end Go.Proofs.Ytfclecbhfamomaa.Node
