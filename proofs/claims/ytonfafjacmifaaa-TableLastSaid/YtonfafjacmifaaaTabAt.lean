/- Contracts of layer 6 (table): has, and At: from the last spare backward. -/
import Derived.RangeFuncBox
import Derived.RangeFuncNested
import Derived.RangeFuncBound
import Derived.RangeFuncCalls
import Derived.RangeFuncLeaves
import Derived.Shelf.Abstract
import Derived.Shelf.RegionOpen
import Derived.WalkKit
import Derived.OwnWalkIn
import Derived.TacticsInMore
import Derived.LoopNIn
import Derived.LoopIn
import Derived.Outline
import Derived.Test.YtonfafjacmifaaaTabN
namespace Go.Proofs.Ytonfafjacmifaaa.Tab
open Go.RowKit Go.Shelf Go.Proofs.Ytonfafjacmifaaa Go.Proofs.Ytonfafjacmifaaa.Lend
set_option linter.unusedVariables false
attribute [local go_sem] Oper.semAt_some

set_option maxRecDepth 100000 in
theorem hasT_eq (n k b : Int) (m : List Int) (w : World) : Calls Try.prog 23 #[.agg (ta n k m), .int .i64 b] w fun e w' => e = .returned (.bool (atB n b)) ∧ w' = w.alloc (.cells (ta n k m) 25) := by
  have e0 := (TAt.made w n k m).c0
  by_cases h0 : 0 ≤ b
  · by_cases h1 : b < n
    · rw [(at_yes (m := []) h0 h1).1]
      go_enter Try.func23, Try.ntmps23
      go_wp2
      go_ret
      exact ⟨rfl, rfl⟩
    · have h1' : n ≤ b := by omega
      rw [(at_no (m := []) (n := n) (b := b) (.inr h1')).1]
      clear h1
      go_enter Try.func23, Try.ntmps23
      go_wp2
      go_ret
      exact ⟨ret_bool (by simp; omega), rfl⟩
  · have h0' : b < 0 := by omega
    rw [(at_no (m := []) (n := n) (b := b) (.inl h0')).1]
    clear h0
    go_enter Try.func23, Try.ntmps23
    go_wp2
    go_ret
    exact ⟨rfl, rfl⟩
theorem has_in (F : Fence) (hF : F = Fence.wide) (d : Nat) (n k b : Int) (m : List Int) (w : World) : CallsIn F d Try.prog 23 #[.agg (ta n k m), .int .i64 b] w fun e w' => e = .returned (.bool (atB n b)) ∧ w' = w.alloc (.cells (ta n k m) 25) := by
  subst hF; exact callsIn_wide.2 (hasT_eq n k b m w)

theorem b_nw0 {w w1 : World} (h : Below w.heap.size w w1) (o : Obj) : Below w.heap.size w (w1.alloc o) := h.alloc h.size o
theorem b_st0 {w w1 : World} (h : Below w.heap.size w w1) {p : Addr} (hp : w.heap.size ≤ p.block) (v : Value) : Below w.heap.size w (w1.setCell p v) := h.setCell hp v
def down (n k : Nat) : List Nat := (List.range (n - k)).map fun j => n - 1 - j
theorem down_all (n : Nat) : down n n = [] := by simp [down]
theorem down_succ {n k : Nat} (h : k < n) : down n k = down n (k + 1) ++ [k] := by
  unfold down
  rw [show n - k = n - (k + 1) + 1 by omega, List.range_succ, List.map_append]
  congr 1
  simp; omega
theorem down_len {n k : Nat} : (down n k).length = n - k := by simp [down]
theorem down_mem {n k j : Nat} : j ∈ down n k ↔ k ≤ j ∧ j < n := by
  unfold down; simp only [List.mem_map, List.mem_range]
  constructor
  · rintro ⟨i, h, rfl⟩; omega
  · rintro ⟨h1, h2⟩; exact ⟨n - 1 - j, by omega, by omega⟩
def mG (m : List Int) (j : Nat) : Int := m.getD j 0
def encM (m : List Int) (j : Nat) : Array Value := #[.int .i64 (j : Nat), .int .i64 (mG m j)]

set_option maxRecDepth 100000 in
set_option maxHeartbeats 2000000 in
theorem back1_in (F : Fence) (d : Nat) (h7 : F.fn 38) (hro : F.round = none) (hn : 1 ≤ d) (l Bs n₀ b off len cap : Nat) (m : List Int) (hreach : len ≤ 9223372036854775807) (hb : b < n₀) (hBn : Bs < n₀) (J Jx : List Nat → World → Prop)
    (hY : ∀ pre x W, J pre W → pre.length < len → YieldAt F (d - 1) Try.prog l (encM m x) W fun e W' =>
      (e = .returned (.bool true) ∧ J (pre ++ [x]) W' ∧ Below n₀ W W') ∨ (e = .returned (.bool false) ∧ Jx (pre ++ [x]) W'))
    (W : World) (hBs : W.cell? ⟨Bs, 0, none⟩ = some (.slice (some ⟨b, off, none⟩) len cap))
    (hc0 : ∀ j, j < len → W.cell? ⟨b, off + j, none⟩ = some (.int .i64 (mG m j))) (h0 : J [] W) :
    CallsIn F d Try.prog 38 #[.func (.yield l) #[] #[], .pointer (some ⟨Bs, 0, none⟩)] W fun e W' => (∃ v, e = .returned v) ∧
      ((∃ ys, ys = down len 0 ∧ J ys W') ∨ (∃ pre, (∃ k, k ≤ len ∧ pre = down len k) ∧ Jx pre W')) := by
  refine callsIn_of_wp Try.func38 rfl h7 ?_ hro
  simp only [Try.ntmps38, List.size_toArray, List.length_cons, List.length_nil, Nat.reduceAdd, Nat.reduceSub, Array.replicate_succ, Array.replicate_zero, List.push_toArray, List.append_toArray, List.nil_append, List.cons_append]
  gi_wp2
  gi_loopw [3] (fun i wr => ∃ k : Nat, k ≤ len ∧ i = .int .i64 ((k : Int) - 1) ∧ J (down len k) wr ∧ Below n₀ W wr)
    (fun i _ => (intOf i + 1).toNat)
  case atStart => exact ⟨len, Nat.le_refl _, rfl, by rw [down_all]; exact h0, Below.refl _ _⟩
  case round =>
    obtain ⟨k, hk, rfl, hJs, hnx⟩ := hrel
    have hbs := (hnx.cell (p := ⟨Bs, 0, none⟩) hBn).trans hBs
    cases k with
    | zero =>
      rw [show (((0 : Nat) : Int) - 1) = -1 from rfl]
      gi_wp2
      go_end0
      exact ⟨⟨_, rfl⟩, .inl ⟨_, rfl, hJs⟩⟩
    | succ q =>
      rw [show (((q + 1 : Nat) : Int) - 1) = (q : Int) by omega]
      obtain ⟨fn, tmps, assign, body, hy, hR⟩ := hY _ q wr hJs (by rw [down_len]; omega)
      unfold encM at hy
      have hx0 := (hnx.cell (p := ⟨b, off + q, none⟩) hb).trans (hc0 q (by omega))
      clear hBs hc0
      gi_wp2
      refine hR.mono ?_
      rintro e W3 (⟨rfl, hJ3, hk3⟩ | ⟨rfl, hJx3⟩)
      · gi_wp2
        go_roundw
        case rel => exact ⟨q, by omega, rfl, by rw [down_succ (by omega)]; exact hJ3, hnx.trans hk3⟩
        case measure => simp [intOf]
      · gi_wp2
        refine bodyPost_ret (results_none rfl _ _ _) rfl ?_
        exact ⟨⟨_, rfl⟩, .inr ⟨_, ⟨q, by omega, (down_succ (by omega)).symm⟩, hJx3⟩⟩
set_option maxRecDepth 100000 in
set_option maxHeartbeats 1000000 in
theorem back1_nil_in (F : Fence) (d : Nat) (h7 : F.fn 38) (hro : F.round = none) (l Bs : Nat) (ao : Option Addr) (cap : Nat) (J : List Nat → World → Prop) (W : World) (hBs : W.cell? ⟨Bs, 0, none⟩ = some (.slice ao 0 cap)) (h0 : J [] W) :
    CallsIn F d Try.prog 38 #[.func (.yield l) #[] #[], .pointer (some ⟨Bs, 0, none⟩)] W fun e W' => (∃ v, e = .returned v) ∧ J [] W' := by
  refine callsIn_of_wp Try.func38 rfl h7 ?_ hro
  simp only [Try.ntmps38, List.size_toArray, List.length_cons, List.length_nil, Nat.reduceAdd, Nat.reduceSub, Array.replicate_succ, Array.replicate_zero, List.push_toArray, List.append_toArray, List.nil_append, List.cons_append]
  gi_wp2
  gi_loopw [3] (fun i wr => i = .int .i64 (-1) ∧ J [] wr) (fun _ _ => 0)
  case atStart => exact ⟨rfl, h0⟩
  case round =>
    obtain ⟨rfl, hJs⟩ := hrel
    gi_wp2
    go_end0
    exact ⟨⟨_, rfl⟩, hJs⟩
theorem back_in (F : Fence) (d : Nat) (h5 : F.fn 28) (hro : F.round = none) (a : Option Addr) (len cap : Nat) (w : World) :
    CallsIn F d Try.prog 28 #[.slice a len cap] w fun e w' => e = .returned (.func (.func 38) #[] #[.pointer (some ⟨w.heap.size, 0, none⟩)]) ∧ w' = w.alloc (.cells #[.slice a len cap] 22) := by
  refine callsIn_of_wp Try.func28 rfl h5 ?_ hro
  simp only [Try.ntmps28, List.size_toArray, List.length_cons, List.length_nil, Nat.reduceAdd, Nat.reduceSub, Array.replicate_succ, Array.replicate_zero, List.push_toArray, List.append_toArray, List.nil_append, List.cons_append]
  gi_wp2
  go_ret
  exact ⟨rfl, rfl⟩
/-- the row, as the iterator reads it -/
def MsAt (n₀ : Nat) (W : World) (ao : Option Addr) (len : Nat) (m : List Int) : Prop :=
  len = 0 ∨ ∃ b off, ao = some ⟨b, off, none⟩ ∧ b < n₀ ∧ ∀ j, j < len → W.cell? ⟨b, off + j, none⟩ = some (.int .i64 (mG m j))
theorem MsAt.below {n₀ : Nat} {A B : World} (h : Below n₀ A B) {ao : Option Addr} {len : Nat} {m : List Int} : MsAt n₀ A ao len m → MsAt n₀ B ao len m
  | .inl e => .inl e
  | .inr ⟨b, off, e, hb, hc⟩ => .inr ⟨b, off, e, hb, fun j hj => (h.cell (p := ⟨b, off + j, none⟩) hb).trans (hc j hj)⟩
theorem MsAt.of {n₀ : Nat} {w : World} {ao : Option Addr} {len cap : Nat} {m : List Int} (h : Ints w ao len cap m) (hn : w.heap.size ≤ n₀) : MsAt n₀ w ao len m := by
  by_cases hl : len = 0
  · exact .inl hl
  · obtain ⟨b, off, e, hc⟩ := h.get (by omega)
    exact .inr ⟨b, off, e, Nat.lt_of_lt_of_le (World.block_lt_of_cell? _ _ (hc 0 (by omega))) hn, hc⟩
theorem back_stops (F : Fence) (d : Nat) (h7 : F.fn 38) (hro : F.round = none) (hn : 1 ≤ d) (Bs n₀ : Nat) (ao : Option Addr) (len cap : Nat) (m : List Int) (hreach : len ≤ 9223372036854775807) (w : World) (hBs : Bs < n₀) (hn₀ : n₀ ≤ w.heap.size)
    (hc : w.cell? ⟨Bs, 0, none⟩ = some (.slice ao len cap)) (hI : MsAt n₀ w ao len m) :
    SeqStopsK F d Try.prog 38 #[.pointer (some ⟨Bs, 0, none⟩)] (encM m) (Below n₀) (fun ys => ys = down len 0)
      (fun pre => ∃ k, k ≤ len ∧ pre = down len k) len w := fun l J Jx W hW _ _ hY h0 => by
  have hc' := (hW.cell (p := ⟨Bs, 0, none⟩) (show Bs < _ by omega)).trans hc
  rcases hI.below (hW.mono hn₀) with rfl | ⟨b, off, rfl, hb, hcs⟩
  · exact (back1_nil_in F d h7 hro l Bs ao cap J W hc' h0).mono fun e W' ⟨he, hj⟩ => ⟨he, .inl ⟨_, rfl, hj⟩⟩
  · exact back1_in F d h7 hro hn l Bs n₀ b off len cap m hreach hb hBs J Jx hY W hc' hcs h0
/-- none of these is the block -/
def noneM (m : List Int) (b : Int) (pre : List Nat) : Prop := ∀ j ∈ pre, mG m j ≠ b

theorem none_plc (n b : Int) (m : List Int) (k : Nat) (h : noneM m b (down m.length k)) : plc n m b = plc n (m.take k) b := plc_back n m b k fun j h1 h2 => h j (down_mem.2 ⟨h1, h2⟩)
theorem hit_plc (n b : Int) (m : List Int) (k : Nat) (hk : k < m.length) (h : noneM m b (down m.length (k + 1))) (hb : mG m k = b) : plc n m b = n + k := plc_hit n m b k hk hb fun j h1 h2 => h j (down_mem.2 ⟨h1, h2⟩)

set_option maxRecDepth 100000 in
set_option maxHeartbeats 4000000 in
theorem at_any (n k b : Int) (m : List Int) (w : World) (hg : Good n k m) :
    Calls Try.prog 18 #[.agg (ta n k m), .int .i64 b] w fun e w' => e = .returned (.tuple #[.int .i64 (atN n m b), .int .i64 (atE n b)]) ∧ Below w.heap.size w w' := by
  by_cases hin : 0 ≤ b ∧ b < n
  · obtain ⟨y1, y2, y3⟩ := at_yes (m := m) hin.1 hin.2
    rw [y2, y3]
    refine (callsIn_wide (n := 6)).1 ?_
    obtain ⟨F, hF⟩ : ∃ F, F = Fence.wide := ⟨_, rfl⟩
    obtain ⟨d, hd6⟩ : ∃ d, d = 6 := ⟨_, rfl⟩
    rw [← hF, ← hd6]
    have h1 : F.fn 18 := by rw [hF]; trivial
    have h2 : F.fn 28 := by rw [hF]; trivial
    have h3 : F.fn 38 := by rw [hF]; trivial
    have h4 : F.fn 23 := by rw [hF]; trivial
    have hro : F.round = none := by rw [hF]; rfl
    have HF := Lib.hid hF
    have hd : 3 ≤ d := by omega
    clear hF hd6
    have hd1 : 1 ≤ d := by omega
    have hll := hg.bd
    obtain ⟨len, hlen⟩ : ∃ len, m.length = len := ⟨_, rfl⟩
    have e0 := (TAt.made w n k m).c0
    have e2 := (TAt.made w n k m).c2
    have l0 := ((((TAt.made w n k m).new (.cells #[.int .i64 b] 3)).new (.cells #[.int .i64 0] 3)).new (.cells #[.int .i64 0] 26)).ld
    rw [hlen] at hll e2
    have hsl := slice_sp w.heap.size len hll.2.2.2.2
    refine callsIn_of_wp_marks Try.func18 rfl h1 ?_ hro
    simp only [Try.ntmps18, List.size_toArray, List.length_cons, List.length_nil, Nat.reduceAdd, Nat.reduceSub, Array.replicate_succ, Array.replicate_zero, List.push_toArray, List.append_toArray, List.nil_append, List.cons_append]
    gi_wp2_with (first | (gi_at_call 23; refine (has_in F HF.out (d - 1) _ _ _ _ _).mono ?_; rintro e w' ⟨rfl, rfl⟩; rw [y1]) | (gi_at_call 28; refine (back_in F (d - 1) h2 hro _ _ _ _).mono ?_; rintro e w' ⟨rfl, rfl⟩))
    have bT := (((((TAt.made w n k m).new (.cells #[.int .i64 b] 3)).new (.cells #[.int .i64 0] 3)).new (.cells #[.int .i64 0] 26)).new (.cells (ta n k m) 25)).new (.cells #[.slice (some ⟨w.heap.size, 3, none⟩) len 32] 22)
    have bB := (((Boxed.new (w.alloc (.cells (ta n k m) 25)) 3 (.int .i64 b)).alloc (.cells #[.int .i64 0] 3)).alloc (.cells #[.int .i64 0] 26)).alloc (.cells (ta n k m) 25) |>.alloc (.cells #[.slice (some ⟨w.heap.size, 3, none⟩) len 32] 22)
    have bP := ((Boxed.new ((w.alloc (.cells (ta n k m) 25)).alloc (.cells #[.int .i64 b] 3)) 3 (.int .i64 0)).alloc (.cells #[.int .i64 0] 26)).alloc (.cells (ta n k m) 25) |>.alloc (.cells #[.slice (some ⟨w.heap.size, 3, none⟩) len 32] 22)
    have bE := ((Boxed.new (((w.alloc (.cells (ta n k m) 25)).alloc (.cells #[.int .i64 b] 3)).alloc (.cells #[.int .i64 0] 3)) 26 (.int .i64 0)).alloc (.cells (ta n k m) 25)).alloc (.cells #[.slice (some ⟨w.heap.size, 3, none⟩) len 32] 22)
    have bS := Boxed.new (((((w.alloc (.cells (ta n k m) 25)).alloc (.cells #[.int .i64 b] 3)).alloc (.cells #[.int .i64 0] 3)).alloc (.cells #[.int .i64 0] 26)).alloc (.cells (ta n k m) 25)) 22 (.slice (some ⟨w.heap.size, 3, none⟩) len 32)
    have hB0 : Below w.heap.size w ((((((w.alloc (.cells (ta n k m) 25)).alloc (.cells #[.int .i64 b] 3)).alloc (.cells #[.int .i64 0] 3)).alloc (.cells #[.int .i64 0] 26)).alloc (.cells (ta n k m) 25)).alloc (.cells #[.slice (some ⟨w.heap.size, 3, none⟩) len 32] 22)) := ((((((Below.refl _ w).alloc (Nat.le_refl _) (.cells (ta n k m) 25)).alloc (by simp) (.cells #[.int .i64 b] 3)).alloc (by simp; omega) (.cells #[.int .i64 0] 3)).alloc (by simp; omega) (.cells #[.int .i64 0] 26)).alloc (by simp; omega) (.cells (ta n k m) 25)).alloc (by simp; omega) (.cells #[.slice (some ⟨w.heap.size, 3, none⟩) len 32] 22)
    have hsz : ((((((w.alloc (.cells (ta n k m) 25)).alloc (.cells #[.int .i64 b] 3)).alloc (.cells #[.int .i64 0] 3)).alloc (.cells #[.int .i64 0] 26)).alloc (.cells (ta n k m) 25)).alloc (.cells #[.slice (some ⟨w.heap.size, 3, none⟩) len 32] 22)).heap.size = w.heap.size + 6 := by simp
    simp only [World.size_alloc] at bB bP bE bS
    obtain ⟨W0, hW0⟩ : ∃ W0, ((((((w.alloc (.cells (ta n k m) 25)).alloc (.cells #[.int .i64 b] 3)).alloc (.cells #[.int .i64 0] 3)).alloc (.cells #[.int .i64 0] 26)).alloc (.cells (ta n k m) 25)).alloc (.cells #[.slice (some ⟨w.heap.size, 3, none⟩) len 32] 22)) = W0 := ⟨_, rfl⟩
    rw [hW0] at bT bB bP bE bS hB0 hsz ⊢
    clear hW0
    have hms2 : MsAt (w.heap.size + 6) W0 (some ⟨w.heap.size, 3, none⟩) len m := .inr ⟨w.heap.size, 3, rfl, by omega, fun j hj => by
      have := TAt.cm bT j (by omega)
      exact this⟩
    clear e0 e2 l0 hsl
    refine wpIn_rangeFunc_ownH hro hd1 (gf := 38) (lb := #[.pointer (some ⟨w.heap.size + 1 + 1 + 1 + 1 + 1, 0, none⟩)]) rfl h3 (enters_of Try.func38 (by kernel_rfl) rfl)
      (back_stops F (d - 1) h3 hro (by omega) (w.heap.size + 1 + 1 + 1 + 1 + 1) (w.heap.size + 6) (some ⟨w.heap.size, 3, none⟩) len 32 m (by omega) W0 (by omega) (by omega) bS.cell hms2) belowK_t (belowK_b (by omega)) (Below.refl _ _) (fun _ => rfl)
      (fun pre W => noneM m b pre ∧ Below (w.heap.size + 6) W0 W)
      (fun c pre W => c = .ret ∧ ∃ q x, pre = q ++ [x] ∧ noneM m b q ∧ mG m x = b ∧ (x ≤ 100 → Boxed W (w.heap.size + 1 + 1) 3 (.int .i64 (n + (x : Nat)))) ∧ Boxed W (w.heap.size + 1 + 1 + 1) 26 (.int .i64 0) ∧ Below w.heap.size w W)
      ((ownFrom_pure _ _).and (ownFrom_below (by omega) (by omega))) ?ix ⟨fun _ h => (by cases h), Below.refl _ _⟩
      (fun x a' W => a' = { tmps := #[.agg (ta n k m), .int .i64 b, .pointer (some ⟨w.heap.size, 0, none⟩), .pointer (some ⟨w.heap.size + 1, 0, none⟩), .pointer (some ⟨w.heap.size + 1 + 1, 0, none⟩), .pointer (some ⟨w.heap.size + 1 + 1 + 1, 0, none⟩), .int .i64 (x : Nat), .int .i64 (mG m x), .agg (ta n k m), .int .i64 b, .bool true, .bool false, .pointer (some ⟨w.heap.size, 3, none⟩), .pointer (some ⟨w.heap.size, 2, none⟩), .int .i64 len, .slice (some ⟨w.heap.size, 3, none⟩) len 32, .func (.func 38) #[] #[.pointer (some ⟨w.heap.size + 1 + 1 + 1 + 1 + 1, 0, none⟩)], .int .i64 (x : Nat), .int .i64 (mG m x), undef, undef, undef, undef, undef, undef, undef, undef], defers := [] }) ?ax ?assign ?body ?done ?stop
    case ix =>
      rintro c s A B row ⟨e, q, x, e1, e2, e3, e4, e5, e6⟩ hg hr
      exact ⟨e, q, x, e1, e2, e3, (fun hx => (e4 hx).kept hg (fun e' => by have := (hr _ e'.symm).1; omega)), e5.kept hg (fun e' => by have := (hr _ e'.symm).1; omega), e6.grown hg e6.size (fun k e' => by have := (hr _ e').1; omega)⟩
    case ax =>
      rintro x a' s A B row e hg hr
      exact e
    case assign =>
      rintro l pre x W K ⟨hno, hb⟩ hK
      have hs := hb.size
      unfold encM
      gi_wp2
      exact hK _ _ ((KeepsOthers.refl _).from _) (Below.refl _ _) ⟨hno, hb⟩ rfl
    case body =>
      rintro l pre x a' W hl' hr ⟨hno, hb⟩ rfl hlt
      clear hr
      have hs := hb.size
      have hT : TAt W w.heap.size n k m := Has.below bT hb (by omega)
      have hT0 := hT.c0
      have hbi : W.cell? ⟨w.heap.size + 1, 0, none⟩ = some (.int .i64 b) := (hb.cell (p := ⟨w.heap.size + 1, 0, none⟩) (show w.heap.size + 1 < _ by omega)).trans bB.cell
      have hp : Boxed W (w.heap.size + 1 + 1) 3 (.int .i64 0) := (hb.block (w.heap.size + 1 + 1) (by omega)).trans bP
      have he : Boxed W (w.heap.size + 1 + 1 + 1) 26 (.int .i64 0) := (hb.block (w.heap.size + 1 + 1 + 1) (by omega)).trans bE
      have hp0 := hp.cell
      have hp1 := hp.frozen
      have he0 := he.cell
      have he1 := he.frozen
      have HP := Lib.hid hp
      have HE := Lib.hid he
      have HNO := Lib.hid hno
      have hnn : 1 ≤ n ∧ n ≤ 4096 := ⟨hll.1, hll.2.1⟩
      obtain ⟨hn1, hn2⟩ := hnn
      clear hp he hT hms2 bT bB bP bE bS hno hll hin y1 y2 y3 hg
      by_cases hxb : mG m x = b
      · by_cases hx : x ≤ 100
        · gi_wp2
          exact ⟨((KeepsOthers.setCell _ _ _).from _).trans ((KeepsOthers.setCell _ _ _).from _), rfl, pre, x, rfl, HNO.out, hxb, fun _ => (HP.out.set _).other (by omega) _, ((HE.out.other (by omega) _).set _), ((hB0.trans (hb.mono (by omega))).setCell (by show w.heap.size ≤ w.heap.size + 1 + 1; omega) _).setCell (by show w.heap.size ≤ w.heap.size + 1 + 1 + 1; omega) _⟩
        · gi_wp2
          all_goals exact ⟨((KeepsOthers.setCell _ _ _).from _).trans ((KeepsOthers.setCell _ _ _).from _), rfl, pre, x, rfl, HNO.out, hxb, (fun hx' => absurd hx' hx), ((HE.out.other (by omega) _).set _), ((hB0.trans (hb.mono (by omega))).setCell (by show w.heap.size ≤ w.heap.size + 1 + 1; omega) _).setCell (by show w.heap.size ≤ w.heap.size + 1 + 1 + 1; omega) _⟩
      · gi_wp2
        exact ⟨(KeepsOthers.refl _).from _, Below.refl _ _, fun j hj => by
          rcases List.mem_append.1 hj with hj | hj
          · exact HNO.out j hj
          · rw [List.mem_singleton.1 hj]; exact hxb, hb⟩
    case done =>
      rintro Dd ys W hD rfl ⟨hno, hb⟩ hK
      have hpl := none_plc n b m 0 (by rw [hlen]; exact hno)
      rw [List.take_zero, plc_nil] at hpl
      have hbi : W.cell? ⟨w.heap.size + 1, 0, none⟩ = some (.int .i64 b) := (hb.cell (p := ⟨w.heap.size + 1, 0, none⟩) (show w.heap.size + 1 < _ by omega)).trans bB.cell
      have hp : Boxed W (w.heap.size + 1 + 1) 3 (.int .i64 0) := (hb.block (w.heap.size + 1 + 1) (by omega)).trans bP
      have he : Boxed W (w.heap.size + 1 + 1 + 1) 26 (.int .i64 0) := (hb.block (w.heap.size + 1 + 1 + 1) (by omega)).trans bE
      have hp0 := hp.cell
      have hp1 := hp.frozen
      have he0 := he.cell
      have he1 := he.frozen
      have HP := Lib.hid hp
      have HE := Lib.hid he
      have HPL := Lib.hid hpl
      have hB := hB0.trans (hb.mono (by omega))
      have HK := Lib.hid hK
      clear hp he hms2 bT bB bP bE bS hno hll hin y1 y2 y3 hg hpl hK hlen
      gi_wp2
      have hK2 : ((W.setCell ⟨w.heap.size + 1 + 1, 0, none⟩ (.int .i64 b)).setCell ⟨w.heap.size + 1 + 1 + 1, 0, none⟩ (.int .i64 0)).heap[Dd]? = some (.deferred (some [])) := by
        rw [Below.heap_setCell _ _ _ _ (show Dd ≠ w.heap.size + 1 + 1 + 1 by omega), Below.heap_setCell _ _ _ _ (show Dd ≠ w.heap.size + 1 + 1 by omega)]; exact HK.out
      have hB2 : Below w.heap.size w ((W.setCell ⟨w.heap.size + 1 + 1, 0, none⟩ (.int .i64 b)).setCell ⟨w.heap.size + 1 + 1 + 1, 0, none⟩ (.int .i64 0)) := (hB.setCell (by show w.heap.size ≤ w.heap.size + 1 + 1; omega) _).setCell (by show w.heap.size ≤ w.heap.size + 1 + 1 + 1; omega) _
      have hs2 := (HP.out.set (.int .i64 b)).other (show w.heap.size + 1 + 1 ≠ w.heap.size + 1 + 1 + 1 by omega) (.int .i64 0)
      have he2 := (HE.out.other (show w.heap.size + 1 + 1 + 1 ≠ w.heap.size + 1 + 1 by omega) (.int .i64 b)).set (.int .i64 0)
      have hc5 := cell_kept hs2.cell (grownBy_putObj' _ Dd (.deferred none)) (fun r e => by cases e; exact ⟨_, hK2, rfl⟩)
      have hc6 := cell_kept he2.cell (grownBy_putObj' _ Dd (.deferred none)) (fun r e => by cases e; exact ⟨_, hK2, rfl⟩)
      refine ⟨by simp, .inl ⟨_, _, rfl, run_takeDeferred hK2, ?_⟩⟩
      refine ⟨.tuple #[.int .i64 b, .int .i64 0], ?_, by rw [HPL.out], hB2.trans (belowK_b (w := w) (Nat.le_refl _) _ Dd _ _ (by omega) hK2 rfl rfl)⟩
      simp [results, Try.f18, go_sem, hc5, hc6]
    case stop =>
      rintro Dd c pre W hD ⟨x, hx, rfl⟩ ⟨rfl, q, x2, e1, e2, e3, e4, e5, e6⟩ hK
      have hx : x < len := by
        have := congrArg List.length e1
        rw [down_len] at this
        simp at this; omega
      rw [down_succ hx] at e1
      obtain ⟨rfl, e1⟩ := List.append_inj' e1 rfl
      obtain rfl : x = x2 := by simpa using e1
      have HPL := Lib.hid (hit_plc n b m x (by omega) (by rw [hlen]; exact e2) e3)
      have hc5 := cell_kept (e4 (by omega)).cell (grownBy_putObj' _ Dd (.deferred none)) (fun r e => by cases e; exact ⟨_, hK, rfl⟩)
      have hc6 := cell_kept e5.cell (grownBy_putObj' _ Dd (.deferred none)) (fun r e => by cases e; exact ⟨_, hK, rfl⟩)
      clear e1 hms2 bT bB bP bE bS hg hin y1 y2 y3
      gi_wp2
      refine ⟨by simp, .inl ⟨_, _, rfl, run_takeDeferred hK, ?_⟩⟩
      refine ⟨.tuple #[.int .i64 (n + (x : Nat)), .int .i64 0], ?_, by rw [HPL.out], e6.trans (belowK_b (w := w) (Nat.le_refl _) W Dd _ _ (by omega) hK rfl rfl)⟩
      simp [results, Try.f18, go_sem, hc5, hc6]
  · obtain ⟨y1, y2, y3⟩ := at_no (n := n) (m := m) (b := b) (by omega)
    rw [y2, y3]
    have Y1 := Lib.hid y1
    have hE := (((Has.new (((w.alloc (.cells (ta n k m) 25)).alloc (.cells #[.int .i64 b] 3)).alloc (.cells #[.int .i64 0] 3)) [.int .i64 0] 26)))
    clear y1 y2 y3 hg hin
    have l0 := ((((TAt.made w n k m).new (.cells #[.int .i64 b] 3)).new (.cells #[.int .i64 0] 3)).new (.cells #[.int .i64 0] 26)).ld
    go_enter Try.func18, Try.ntmps18
    go_wp2_with (go_at_call 23; refine (hasT_eq _ _ _ _ _).mono ?_; rintro e w' ⟨rfl, rfl⟩; rw [Y1.out])
    refine bodyPost_ret (v := .tuple #[.int .i64 0, .int .i64 3]) (by simp [results, Try.results18, go_sem]) rfl ⟨rfl, ?_⟩
    repeat (first | exact Below.refl _ _ | apply b_nw0 | refine b_st0 ?_ ?_ _)
end Go.Proofs.Ytonfafjacmifaaa.Tab
