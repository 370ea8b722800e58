/- Layers' contracts, bundled: TabAt, RepeatI, TabT, TabPa. -/
import Derived.RangeFuncBox
import Derived.RangeFuncNested
import Derived.RangeFuncBound
import Derived.RangeFuncCalls
import Derived.RangeFuncLeaves
import Derived.Shelf.Abstract
import Derived.Shelf.RegionOpen
import Derived.WalkKit
import Derived.OwnWalkIn
import Derived.TacticsInMore
import Derived.LoopNIn
import Derived.LoopIn
import Derived.Outline
import Derived.Test.YtflanjcfkdjpjaaGreatDoorL05
import Derived.Deep.DeepCutAuto
import Derived.Test.YtflanjcfkdjpjaaGreatDoorL01
import Derived.Test.YtflanjcfkdjpjaaGreatDoorL02
import Derived.Laws.CopyOwn
import Derived.WalkLawsBesides
import Derived.WalkSpells
import Derived.Test.YtflanjcfkdjpjaaGreatDoorL03
/- Contracts of layer 6 (table): has, and At: from the last spare backward. -/
namespace Go.Proofs.YtflanjcfkdjpjaaGreatDoor.Tab
open Go.RowKit Go.Shelf Go.Proofs.YtflanjcfkdjpjaaGreatDoor Go.Proofs.YtflanjcfkdjpjaaGreatDoor.Lend
set_option linter.unusedVariables false
attribute [local go_sem] Oper.semAt_some

set_option maxRecDepth 100000 in
theorem hasT_eq (n k b : Int) (m : List Int) (w : World) : Calls Tryz.prog 146 #[.agg (ta n k m), .int .i64 b] w fun e w' => e = .returned (.bool (atB n b)) ∧ w' = w.alloc (.cells (ta n k m) 88) := by
  have e0 := (TAt.made w n k m).c0
  by_cases h0 : 0 ≤ b
  · by_cases h1 : b < n
    · rw [(at_yes (m := []) h0 h1).1]
      go_enter Tryz.func146, Tryz.ntmps146
      go_wp2
      go_ret
      exact ⟨rfl, rfl⟩
    · have h1' : n ≤ b := by omega
      rw [(at_no (m := []) (n := n) (b := b) (.inr h1')).1]
      clear h1
      go_enter Tryz.func146, Tryz.ntmps146
      go_wp2
      go_ret
      exact ⟨ret_bool (by simp; omega), rfl⟩
  · have h0' : b < 0 := by omega
    rw [(at_no (m := []) (n := n) (b := b) (.inl h0')).1]
    clear h0
    go_enter Tryz.func146, Tryz.ntmps146
    go_wp2
    go_ret
    exact ⟨rfl, rfl⟩
theorem has_in (F : Fence) (hF : F = Fence.wide) (d : Nat) (n k b : Int) (m : List Int) (w : World) : CallsIn F d Tryz.prog 146 #[.agg (ta n k m), .int .i64 b] w fun e w' => e = .returned (.bool (atB n b)) ∧ w' = w.alloc (.cells (ta n k m) 88) := by
  subst hF; exact callsIn_wide.2 (hasT_eq n k b m w)

theorem b_nw0 {w w1 : World} (h : Below w.heap.size w w1) (o : Obj) : Below w.heap.size w (w1.alloc o) := h.alloc h.size o
theorem b_st0 {w w1 : World} (h : Below w.heap.size w w1) {p : Addr} (hp : w.heap.size ≤ p.block) (v : Value) : Below w.heap.size w (w1.setCell p v) := h.setCell hp v
def down (n k : Nat) : List Nat := (List.range (n - k)).map fun j => n - 1 - j
theorem down_all (n : Nat) : down n n = [] := by simp [down]
theorem down_succ {n k : Nat} (h : k < n) : down n k = down n (k + 1) ++ [k] := by
  unfold down
  rw [show n - k = n - (k + 1) + 1 by omega, List.range_succ, List.map_append]
  congr 1
  simp; omega
theorem down_len {n k : Nat} : (down n k).length = n - k := by simp [down]
theorem down_mem {n k j : Nat} : j ∈ down n k ↔ k ≤ j ∧ j < n := by
  unfold down; simp only [List.mem_map, List.mem_range]
  constructor
  · rintro ⟨i, h, rfl⟩; omega
  · rintro ⟨h1, h2⟩; exact ⟨n - 1 - j, by omega, by omega⟩
def mG (m : List Int) (j : Nat) : Int := m.getD j 0
def encM (m : List Int) (j : Nat) : Array Value := #[.int .i64 (j : Nat), .int .i64 (mG m j)]

set_option maxRecDepth 100000 in
set_option maxHeartbeats 2000000 in
theorem back1_in (F : Fence) (d : Nat) (h7 : F.fn 154) (hro : F.round = none) (hn : 1 ≤ d) (l Bs n₀ b off len cap : Nat) (m : List Int) (hreach : len ≤ 9223372036854775807) (hb : b < n₀) (hBn : Bs < n₀) (J Jx : List Nat → World → Prop)
    (hY : ∀ pre x W, J pre W → pre.length < len → YieldAt F (d - 1) Tryz.prog l (encM m x) W fun e W' =>
      (e = .returned (.bool true) ∧ J (pre ++ [x]) W' ∧ Below n₀ W W') ∨ (e = .returned (.bool false) ∧ Jx (pre ++ [x]) W'))
    (W : World) (hBs : W.cell? ⟨Bs, 0, none⟩ = some (.slice (some ⟨b, off, none⟩) len cap))
    (hc0 : ∀ j, j < len → W.cell? ⟨b, off + j, none⟩ = some (.int .i64 (mG m j))) (h0 : J [] W) :
    CallsIn F d Tryz.prog 154 #[.func (.yield l) #[] #[], .pointer (some ⟨Bs, 0, none⟩)] W fun e W' => (∃ v, e = .returned v) ∧
      ((∃ ys, ys = down len 0 ∧ J ys W') ∨ (∃ pre, (∃ k, k ≤ len ∧ pre = down len k) ∧ Jx pre W')) := by
  refine callsIn_of_wp Tryz.func154 rfl h7 ?_ hro
  simp only [Tryz.ntmps154, List.size_toArray, List.length_cons, List.length_nil, Nat.reduceAdd, Nat.reduceSub, Array.replicate_succ, Array.replicate_zero, List.push_toArray, List.append_toArray, List.nil_append, List.cons_append]
  gi_wp2
  gi_loopw [3] (fun i wr => ∃ k : Nat, k ≤ len ∧ i = .int .i64 ((k : Int) - 1) ∧ J (down len k) wr ∧ Below n₀ W wr)
    (fun i _ => (intOf i + 1).toNat)
  case atStart => exact ⟨len, Nat.le_refl _, rfl, by rw [down_all]; exact h0, Below.refl _ _⟩
  case round =>
    obtain ⟨k, hk, rfl, hJs, hnx⟩ := hrel
    have hbs := (hnx.cell (p := ⟨Bs, 0, none⟩) hBn).trans hBs
    cases k with
    | zero =>
      rw [show (((0 : Nat) : Int) - 1) = -1 from rfl]
      gi_wp2
      go_end0
      exact ⟨⟨_, rfl⟩, .inl ⟨_, rfl, hJs⟩⟩
    | succ q =>
      rw [show (((q + 1 : Nat) : Int) - 1) = (q : Int) by omega]
      obtain ⟨fn, tmps, assign, body, hy, hR⟩ := hY _ q wr hJs (by rw [down_len]; omega)
      unfold encM at hy
      have hx0 := (hnx.cell (p := ⟨b, off + q, none⟩) hb).trans (hc0 q (by omega))
      clear hBs hc0
      gi_wp2
      refine hR.mono ?_
      rintro e W3 (⟨rfl, hJ3, hk3⟩ | ⟨rfl, hJx3⟩)
      · gi_wp2
        go_roundw
        case rel => exact ⟨q, by omega, rfl, by rw [down_succ (by omega)]; exact hJ3, hnx.trans hk3⟩
        case measure => simp [intOf]
      · gi_wp2
        refine bodyPost_ret (results_none rfl _ _ _) rfl ?_
        exact ⟨⟨_, rfl⟩, .inr ⟨_, ⟨q, by omega, (down_succ (by omega)).symm⟩, hJx3⟩⟩
set_option maxRecDepth 100000 in
set_option maxHeartbeats 1000000 in
theorem back1_nil_in (F : Fence) (d : Nat) (h7 : F.fn 154) (hro : F.round = none) (l Bs : Nat) (ao : Option Addr) (cap : Nat) (J : List Nat → World → Prop) (W : World) (hBs : W.cell? ⟨Bs, 0, none⟩ = some (.slice ao 0 cap)) (h0 : J [] W) :
    CallsIn F d Tryz.prog 154 #[.func (.yield l) #[] #[], .pointer (some ⟨Bs, 0, none⟩)] W fun e W' => (∃ v, e = .returned v) ∧ J [] W' := by
  refine callsIn_of_wp Tryz.func154 rfl h7 ?_ hro
  simp only [Tryz.ntmps154, List.size_toArray, List.length_cons, List.length_nil, Nat.reduceAdd, Nat.reduceSub, Array.replicate_succ, Array.replicate_zero, List.push_toArray, List.append_toArray, List.nil_append, List.cons_append]
  gi_wp2
  gi_loopw [3] (fun i wr => i = .int .i64 (-1) ∧ J [] wr) (fun _ _ => 0)
  case atStart => exact ⟨rfl, h0⟩
  case round =>
    obtain ⟨rfl, hJs⟩ := hrel
    gi_wp2
    go_end0
    exact ⟨⟨_, rfl⟩, hJs⟩
theorem back_in (F : Fence) (d : Nat) (h5 : F.fn 152) (hro : F.round = none) (a : Option Addr) (len cap : Nat) (w : World) :
    CallsIn F d Tryz.prog 152 #[.slice a len cap] w fun e w' => e = .returned (.func (.func 154) #[] #[.pointer (some ⟨w.heap.size, 0, none⟩)]) ∧ w' = w.alloc (.cells #[.slice a len cap] 148) := by
  refine callsIn_of_wp Tryz.func152 rfl h5 ?_ hro
  simp only [Tryz.ntmps152, List.size_toArray, List.length_cons, List.length_nil, Nat.reduceAdd, Nat.reduceSub, Array.replicate_succ, Array.replicate_zero, List.push_toArray, List.append_toArray, List.nil_append, List.cons_append]
  gi_wp2
  go_ret
  exact ⟨rfl, rfl⟩
/-- the row, as the iterator reads it -/
def MsAt (n₀ : Nat) (W : World) (ao : Option Addr) (len : Nat) (m : List Int) : Prop :=
  len = 0 ∨ ∃ b off, ao = some ⟨b, off, none⟩ ∧ b < n₀ ∧ ∀ j, j < len → W.cell? ⟨b, off + j, none⟩ = some (.int .i64 (mG m j))
theorem MsAt.below {n₀ : Nat} {A B : World} (h : Below n₀ A B) {ao : Option Addr} {len : Nat} {m : List Int} : MsAt n₀ A ao len m → MsAt n₀ B ao len m
  | .inl e => .inl e
  | .inr ⟨b, off, e, hb, hc⟩ => .inr ⟨b, off, e, hb, fun j hj => (h.cell (p := ⟨b, off + j, none⟩) hb).trans (hc j hj)⟩
theorem MsAt.of {n₀ : Nat} {w : World} {ao : Option Addr} {len cap : Nat} {m : List Int} (h : Ints w ao len cap m) (hn : w.heap.size ≤ n₀) : MsAt n₀ w ao len m := by
  by_cases hl : len = 0
  · exact .inl hl
  · obtain ⟨b, off, e, hc⟩ := h.get (by omega)
    exact .inr ⟨b, off, e, Nat.lt_of_lt_of_le (World.block_lt_of_cell? _ _ (hc 0 (by omega))) hn, hc⟩
theorem back_stops (F : Fence) (d : Nat) (h7 : F.fn 154) (hro : F.round = none) (hn : 1 ≤ d) (Bs n₀ : Nat) (ao : Option Addr) (len cap : Nat) (m : List Int) (hreach : len ≤ 9223372036854775807) (w : World) (hBs : Bs < n₀) (hn₀ : n₀ ≤ w.heap.size)
    (hc : w.cell? ⟨Bs, 0, none⟩ = some (.slice ao len cap)) (hI : MsAt n₀ w ao len m) :
    SeqStopsK F d Tryz.prog 154 #[.pointer (some ⟨Bs, 0, none⟩)] (encM m) (Below n₀) (fun ys => ys = down len 0)
      (fun pre => ∃ k, k ≤ len ∧ pre = down len k) len w := fun l J Jx W hW _ _ hY h0 => by
  have hc' := (hW.cell (p := ⟨Bs, 0, none⟩) (show Bs < _ by omega)).trans hc
  rcases hI.below (hW.mono hn₀) with rfl | ⟨b, off, rfl, hb, hcs⟩
  · exact (back1_nil_in F d h7 hro l Bs ao cap J W hc' h0).mono fun e W' ⟨he, hj⟩ => ⟨he, .inl ⟨_, rfl, hj⟩⟩
  · exact back1_in F d h7 hro hn l Bs n₀ b off len cap m hreach hb hBs J Jx hY W hc' hcs h0
/-- none of these is the block -/
def noneM (m : List Int) (b : Int) (pre : List Nat) : Prop := ∀ j ∈ pre, mG m j ≠ b

theorem none_plc (n b : Int) (m : List Int) (k : Nat) (h : noneM m b (down m.length k)) : plc n m b = plc n (m.take k) b := plc_back n m b k fun j h1 h2 => h j (down_mem.2 ⟨h1, h2⟩)
theorem hit_plc (n b : Int) (m : List Int) (k : Nat) (hk : k < m.length) (h : noneM m b (down m.length (k + 1))) (hb : mG m k = b) : plc n m b = n + k := plc_hit n m b k hk hb fun j h1 h2 => h j (down_mem.2 ⟨h1, h2⟩)

set_option maxRecDepth 100000 in
set_option maxHeartbeats 4000000 in
theorem at_any (n k b : Int) (m : List Int) (w : World) (hg : Good n k m) :
    Calls Tryz.prog 144 #[.agg (ta n k m), .int .i64 b] w fun e w' => e = .returned (.tuple #[.int .i64 (atN n m b), .int .i64 (atE n b)]) ∧ Below w.heap.size w w' := by
  by_cases hin : 0 ≤ b ∧ b < n
  · obtain ⟨y1, y2, y3⟩ := at_yes (m := m) hin.1 hin.2
    rw [y2, y3]
    refine (callsIn_wide (n := 6)).1 ?_
    obtain ⟨F, hF⟩ : ∃ F, F = Fence.wide := ⟨_, rfl⟩
    obtain ⟨d, hd6⟩ : ∃ d, d = 6 := ⟨_, rfl⟩
    rw [← hF, ← hd6]
    have h1 : F.fn 144 := by rw [hF]; trivial
    have h2 : F.fn 152 := by rw [hF]; trivial
    have h3 : F.fn 154 := by rw [hF]; trivial
    have h4 : F.fn 146 := by rw [hF]; trivial
    have hro : F.round = none := by rw [hF]; rfl
    have HF := Lib.hid hF
    have hd : 3 ≤ d := by omega
    clear hF hd6
    have hd1 : 1 ≤ d := by omega
    have hll := hg.bd
    obtain ⟨len, hlen⟩ : ∃ len, m.length = len := ⟨_, rfl⟩
    have e0 := (TAt.made w n k m).c0
    have e2 := (TAt.made w n k m).c2
    have l0 := ((((TAt.made w n k m).new (.cells #[.int .i64 b] 3)).new (.cells #[.int .i64 0] 3)).new (.cells #[.int .i64 0] 32)).ld
    rw [hlen] at hll e2
    have hsl := slice_sp w.heap.size len hll.2.2.2.2
    refine callsIn_of_wp_marks Tryz.func144 rfl h1 ?_ hro
    simp only [Tryz.ntmps144, List.size_toArray, List.length_cons, List.length_nil, Nat.reduceAdd, Nat.reduceSub, Array.replicate_succ, Array.replicate_zero, List.push_toArray, List.append_toArray, List.nil_append, List.cons_append]
    gi_wp2_with (first | (gi_at_call 146; refine (has_in F HF.out (d - 1) _ _ _ _ _).mono ?_; rintro e w' ⟨rfl, rfl⟩; rw [y1]) | (gi_at_call 152; refine (back_in F (d - 1) h2 hro _ _ _ _).mono ?_; rintro e w' ⟨rfl, rfl⟩))
    have bT := (((((TAt.made w n k m).new (.cells #[.int .i64 b] 3)).new (.cells #[.int .i64 0] 3)).new (.cells #[.int .i64 0] 32)).new (.cells (ta n k m) 88)).new (.cells #[.slice (some ⟨w.heap.size, 3, none⟩) len 32] 148)
    have bB := (((Boxed.new (w.alloc (.cells (ta n k m) 88)) 3 (.int .i64 b)).alloc (.cells #[.int .i64 0] 3)).alloc (.cells #[.int .i64 0] 32)).alloc (.cells (ta n k m) 88) |>.alloc (.cells #[.slice (some ⟨w.heap.size, 3, none⟩) len 32] 148)
    have bP := ((Boxed.new ((w.alloc (.cells (ta n k m) 88)).alloc (.cells #[.int .i64 b] 3)) 3 (.int .i64 0)).alloc (.cells #[.int .i64 0] 32)).alloc (.cells (ta n k m) 88) |>.alloc (.cells #[.slice (some ⟨w.heap.size, 3, none⟩) len 32] 148)
    have bE := ((Boxed.new (((w.alloc (.cells (ta n k m) 88)).alloc (.cells #[.int .i64 b] 3)).alloc (.cells #[.int .i64 0] 3)) 32 (.int .i64 0)).alloc (.cells (ta n k m) 88)).alloc (.cells #[.slice (some ⟨w.heap.size, 3, none⟩) len 32] 148)
    have bS := Boxed.new (((((w.alloc (.cells (ta n k m) 88)).alloc (.cells #[.int .i64 b] 3)).alloc (.cells #[.int .i64 0] 3)).alloc (.cells #[.int .i64 0] 32)).alloc (.cells (ta n k m) 88)) 148 (.slice (some ⟨w.heap.size, 3, none⟩) len 32)
    have hB0 : Below w.heap.size w ((((((w.alloc (.cells (ta n k m) 88)).alloc (.cells #[.int .i64 b] 3)).alloc (.cells #[.int .i64 0] 3)).alloc (.cells #[.int .i64 0] 32)).alloc (.cells (ta n k m) 88)).alloc (.cells #[.slice (some ⟨w.heap.size, 3, none⟩) len 32] 148)) := ((((((Below.refl _ w).alloc (Nat.le_refl _) (.cells (ta n k m) 88)).alloc (by simp) (.cells #[.int .i64 b] 3)).alloc (by simp; omega) (.cells #[.int .i64 0] 3)).alloc (by simp; omega) (.cells #[.int .i64 0] 32)).alloc (by simp; omega) (.cells (ta n k m) 88)).alloc (by simp; omega) (.cells #[.slice (some ⟨w.heap.size, 3, none⟩) len 32] 148)
    have hsz : ((((((w.alloc (.cells (ta n k m) 88)).alloc (.cells #[.int .i64 b] 3)).alloc (.cells #[.int .i64 0] 3)).alloc (.cells #[.int .i64 0] 32)).alloc (.cells (ta n k m) 88)).alloc (.cells #[.slice (some ⟨w.heap.size, 3, none⟩) len 32] 148)).heap.size = w.heap.size + 6 := by simp
    simp only [World.size_alloc] at bB bP bE bS
    obtain ⟨W0, hW0⟩ : ∃ W0, ((((((w.alloc (.cells (ta n k m) 88)).alloc (.cells #[.int .i64 b] 3)).alloc (.cells #[.int .i64 0] 3)).alloc (.cells #[.int .i64 0] 32)).alloc (.cells (ta n k m) 88)).alloc (.cells #[.slice (some ⟨w.heap.size, 3, none⟩) len 32] 148)) = W0 := ⟨_, rfl⟩
    rw [hW0] at bT bB bP bE bS hB0 hsz ⊢
    clear hW0
    have hms2 : MsAt (w.heap.size + 6) W0 (some ⟨w.heap.size, 3, none⟩) len m := .inr ⟨w.heap.size, 3, rfl, by omega, fun j hj => by
      have := TAt.cm bT j (by omega)
      exact this⟩
    clear e0 e2 l0 hsl
    refine wpIn_rangeFunc_ownH hro hd1 (gf := 154) (lb := #[.pointer (some ⟨w.heap.size + 1 + 1 + 1 + 1 + 1, 0, none⟩)]) rfl h3 (enters_of Tryz.func154 (by kernel_rfl) rfl)
      (back_stops F (d - 1) h3 hro (by omega) (w.heap.size + 1 + 1 + 1 + 1 + 1) (w.heap.size + 6) (some ⟨w.heap.size, 3, none⟩) len 32 m (by omega) W0 (by omega) (by omega) bS.cell hms2) belowK_t (belowK_b (by omega)) (Below.refl _ _) (fun _ => rfl)
      (fun pre W => noneM m b pre ∧ Below (w.heap.size + 6) W0 W)
      (fun c pre W => c = .ret ∧ ∃ q x, pre = q ++ [x] ∧ noneM m b q ∧ mG m x = b ∧ (x ≤ 100 → Boxed W (w.heap.size + 1 + 1) 3 (.int .i64 (n + (x : Nat)))) ∧ Boxed W (w.heap.size + 1 + 1 + 1) 32 (.int .i64 0) ∧ Below w.heap.size w W)
      ((ownFrom_pure _ _).and (ownFrom_below (by omega) (by omega))) ?ix ⟨fun _ h => (by cases h), Below.refl _ _⟩
      (fun x a' W => a' = { tmps := #[.agg (ta n k m), .int .i64 b, .pointer (some ⟨w.heap.size, 0, none⟩), .pointer (some ⟨w.heap.size + 1, 0, none⟩), .pointer (some ⟨w.heap.size + 1 + 1, 0, none⟩), .pointer (some ⟨w.heap.size + 1 + 1 + 1, 0, none⟩), .int .i64 (x : Nat), .int .i64 (mG m x), .agg (ta n k m), .int .i64 b, .bool true, .bool false, .pointer (some ⟨w.heap.size, 3, none⟩), .pointer (some ⟨w.heap.size, 2, none⟩), .int .i64 len, .slice (some ⟨w.heap.size, 3, none⟩) len 32, .func (.func 154) #[] #[.pointer (some ⟨w.heap.size + 1 + 1 + 1 + 1 + 1, 0, none⟩)], .int .i64 (x : Nat), .int .i64 (mG m x), undef, undef, undef, undef, undef, undef, undef, undef], defers := [] }) ?ax ?assign ?body ?done ?stop
    case ix =>
      rintro c s A B row ⟨e, q, x, e1, e2, e3, e4, e5, e6⟩ hg hr
      exact ⟨e, q, x, e1, e2, e3, (fun hx => (e4 hx).kept hg (fun e' => by have := (hr _ e'.symm).1; omega)), e5.kept hg (fun e' => by have := (hr _ e'.symm).1; omega), e6.grown hg e6.size (fun k e' => by have := (hr _ e').1; omega)⟩
    case ax =>
      rintro x a' s A B row e hg hr
      exact e
    case assign =>
      rintro l pre x W K ⟨hno, hb⟩ hK
      have hs := hb.size
      unfold encM
      gi_wp2
      exact hK _ _ ((KeepsOthers.refl _).from _) (Below.refl _ _) ⟨hno, hb⟩ rfl
    case body =>
      rintro l pre x a' W hl' hr ⟨hno, hb⟩ rfl hlt
      clear hr
      have hs := hb.size
      have hT : TAt W w.heap.size n k m := Has.below bT hb (by omega)
      have hT0 := hT.c0
      have hbi : W.cell? ⟨w.heap.size + 1, 0, none⟩ = some (.int .i64 b) := (hb.cell (p := ⟨w.heap.size + 1, 0, none⟩) (show w.heap.size + 1 < _ by omega)).trans bB.cell
      have hp : Boxed W (w.heap.size + 1 + 1) 3 (.int .i64 0) := (hb.block (w.heap.size + 1 + 1) (by omega)).trans bP
      have he : Boxed W (w.heap.size + 1 + 1 + 1) 32 (.int .i64 0) := (hb.block (w.heap.size + 1 + 1 + 1) (by omega)).trans bE
      have hp0 := hp.cell
      have hp1 := hp.frozen
      have he0 := he.cell
      have he1 := he.frozen
      have HP := Lib.hid hp
      have HE := Lib.hid he
      have HNO := Lib.hid hno
      have hnn : 1 ≤ n ∧ n ≤ 4096 := ⟨hll.1, hll.2.1⟩
      obtain ⟨hn1, hn2⟩ := hnn
      clear hp he hT hms2 bT bB bP bE bS hno hll hin y1 y2 y3 hg
      by_cases hxb : mG m x = b
      · by_cases hx : x ≤ 100
        · gi_wp2
          exact ⟨((KeepsOthers.setCell _ _ _).from _).trans ((KeepsOthers.setCell _ _ _).from _), rfl, pre, x, rfl, HNO.out, hxb, fun _ => (HP.out.set _).other (by omega) _, ((HE.out.other (by omega) _).set _), ((hB0.trans (hb.mono (by omega))).setCell (by show w.heap.size ≤ w.heap.size + 1 + 1; omega) _).setCell (by show w.heap.size ≤ w.heap.size + 1 + 1 + 1; omega) _⟩
        · gi_wp2
          all_goals exact ⟨((KeepsOthers.setCell _ _ _).from _).trans ((KeepsOthers.setCell _ _ _).from _), rfl, pre, x, rfl, HNO.out, hxb, (fun hx' => absurd hx' hx), ((HE.out.other (by omega) _).set _), ((hB0.trans (hb.mono (by omega))).setCell (by show w.heap.size ≤ w.heap.size + 1 + 1; omega) _).setCell (by show w.heap.size ≤ w.heap.size + 1 + 1 + 1; omega) _⟩
      · gi_wp2
        exact ⟨(KeepsOthers.refl _).from _, Below.refl _ _, fun j hj => by
          rcases List.mem_append.1 hj with hj | hj
          · exact HNO.out j hj
          · rw [List.mem_singleton.1 hj]; exact hxb, hb⟩
    case done =>
      rintro Dd ys W hD rfl ⟨hno, hb⟩ hK
      have hpl := none_plc n b m 0 (by rw [hlen]; exact hno)
      rw [List.take_zero, plc_nil] at hpl
      have hbi : W.cell? ⟨w.heap.size + 1, 0, none⟩ = some (.int .i64 b) := (hb.cell (p := ⟨w.heap.size + 1, 0, none⟩) (show w.heap.size + 1 < _ by omega)).trans bB.cell
      have hp : Boxed W (w.heap.size + 1 + 1) 3 (.int .i64 0) := (hb.block (w.heap.size + 1 + 1) (by omega)).trans bP
      have he : Boxed W (w.heap.size + 1 + 1 + 1) 32 (.int .i64 0) := (hb.block (w.heap.size + 1 + 1 + 1) (by omega)).trans bE
      have hp0 := hp.cell
      have hp1 := hp.frozen
      have he0 := he.cell
      have he1 := he.frozen
      have HP := Lib.hid hp
      have HE := Lib.hid he
      have HPL := Lib.hid hpl
      have hB := hB0.trans (hb.mono (by omega))
      have HK := Lib.hid hK
      clear hp he hms2 bT bB bP bE bS hno hll hin y1 y2 y3 hg hpl hK hlen
      gi_wp2
      have hK2 : ((W.setCell ⟨w.heap.size + 1 + 1, 0, none⟩ (.int .i64 b)).setCell ⟨w.heap.size + 1 + 1 + 1, 0, none⟩ (.int .i64 0)).heap[Dd]? = some (.deferred (some [])) := by
        rw [Below.heap_setCell _ _ _ _ (show Dd ≠ w.heap.size + 1 + 1 + 1 by omega), Below.heap_setCell _ _ _ _ (show Dd ≠ w.heap.size + 1 + 1 by omega)]; exact HK.out
      have hB2 : Below w.heap.size w ((W.setCell ⟨w.heap.size + 1 + 1, 0, none⟩ (.int .i64 b)).setCell ⟨w.heap.size + 1 + 1 + 1, 0, none⟩ (.int .i64 0)) := (hB.setCell (by show w.heap.size ≤ w.heap.size + 1 + 1; omega) _).setCell (by show w.heap.size ≤ w.heap.size + 1 + 1 + 1; omega) _
      have hs2 := (HP.out.set (.int .i64 b)).other (show w.heap.size + 1 + 1 ≠ w.heap.size + 1 + 1 + 1 by omega) (.int .i64 0)
      have he2 := (HE.out.other (show w.heap.size + 1 + 1 + 1 ≠ w.heap.size + 1 + 1 by omega) (.int .i64 b)).set (.int .i64 0)
      have hc5 := cell_kept hs2.cell (grownBy_putObj' _ Dd (.deferred none)) (fun r e => by cases e; exact ⟨_, hK2, rfl⟩)
      have hc6 := cell_kept he2.cell (grownBy_putObj' _ Dd (.deferred none)) (fun r e => by cases e; exact ⟨_, hK2, rfl⟩)
      refine ⟨by simp, .inl ⟨_, _, rfl, run_takeDeferred hK2, ?_⟩⟩
      refine ⟨.tuple #[.int .i64 b, .int .i64 0], ?_, by rw [HPL.out], hB2.trans (belowK_b (w := w) (Nat.le_refl _) _ Dd _ _ (by omega) hK2 rfl rfl)⟩
      simp [results, Tryz.f144, go_sem, hc5, hc6]
    case stop =>
      rintro Dd c pre W hD ⟨x, hx, rfl⟩ ⟨rfl, q, x2, e1, e2, e3, e4, e5, e6⟩ hK
      have hx : x < len := by
        have := congrArg List.length e1
        rw [down_len] at this
        simp at this; omega
      rw [down_succ hx] at e1
      obtain ⟨rfl, e1⟩ := List.append_inj' e1 rfl
      obtain rfl : x = x2 := by simpa using e1
      have HPL := Lib.hid (hit_plc n b m x (by omega) (by rw [hlen]; exact e2) e3)
      have hc5 := cell_kept (e4 (by omega)).cell (grownBy_putObj' _ Dd (.deferred none)) (fun r e => by cases e; exact ⟨_, hK, rfl⟩)
      have hc6 := cell_kept e5.cell (grownBy_putObj' _ Dd (.deferred none)) (fun r e => by cases e; exact ⟨_, hK, rfl⟩)
      clear e1 hms2 bT bB bP bE bS hg hin y1 y2 y3
      gi_wp2
      refine ⟨by simp, .inl ⟨_, _, rfl, run_takeDeferred hK, ?_⟩⟩
      refine ⟨.tuple #[.int .i64 (n + (x : Nat)), .int .i64 0], ?_, by rw [HPL.out], e6.trans (belowK_b (w := w) (Nat.le_refl _) W Dd _ _ (by omega) hK rfl rfl)⟩
      simp [results, Tryz.f144, go_sem, hc5, hc6]
  · obtain ⟨y1, y2, y3⟩ := at_no (n := n) (m := m) (b := b) (by omega)
    rw [y2, y3]
    have Y1 := Lib.hid y1
    have hE := (((Has.new (((w.alloc (.cells (ta n k m) 88)).alloc (.cells #[.int .i64 b] 3)).alloc (.cells #[.int .i64 0] 3)) [.int .i64 0] 32)))
    clear y1 y2 y3 hg hin
    have l0 := ((((TAt.made w n k m).new (.cells #[.int .i64 b] 3)).new (.cells #[.int .i64 0] 3)).new (.cells #[.int .i64 0] 32)).ld
    go_enter Tryz.func144, Tryz.ntmps144
    go_wp2_with (go_at_call 146; refine (hasT_eq _ _ _ _ _).mono ?_; rintro e w' ⟨rfl, rfl⟩; rw [Y1.out])
    refine bodyPost_ret (v := .tuple #[.int .i64 0, .int .i64 3]) (by simp [results, Tryz.results144, go_sem]) rfl ⟨rfl, ?_⟩
    repeat (first | exact Below.refl _ _ | apply b_nw0 | refine b_st0 ?_ ?_ _)
end Go.Proofs.YtflanjcfkdjpjaaGreatDoor.Tab


/- Contracts: slices.Repeat of one int. -/
namespace Go.Proofs.YtflanjcfkdjpjaaGreatDoor.Rep
open Go.RowKit Go.Proofs.YtflanjcfkdjpjaaGreatDoor
set_option linter.unusedVariables false

theorem run_copy_rowK {P : Program} (w : World) (dT sT ty elem : TypeId) (sz : Nat) (g o dLen dCap : Nat) (a : Addr) (sLen sCap : Nat) (cur : Array Value) (t : TypeId) (cs : List Value)
    (hu : P.underlying dT = some (.slice elem)) (hs : (P.info? elem).map (·.size) = some sz)
    (hg : w.heap[g]? = some (.cells cur t (0, 0))) (hn : cs.length = Nat.min sLen dLen * sz)
    (hsrc : ∀ j v, cs[j]? = some v → w.cell? (a.add j) = some v) (hfit : o + cs.length ≤ cur.size) (h1 : ∀ v ∈ cs, v.oneCell' = true) :
    (Builtin.copy_ #[dT, sT] ty #[.slice (some ⟨g, o, none⟩) dLen dCap, .slice (some a) sLen sCap]).run P w =
      .ok (goInt (Nat.min sLen dLen)) (w.setRow g (cur.toList.take o ++ cs ++ cur.toList.drop (o + cs.length)).toArray) := by
  have hst := run_storeCells_at P g o t cs 0 cur w hg (by simpa using hfit) h1
  have hf := run_firstCells_some (P := P) w sz (Nat.min sLen dLen) a sLen sCap cs hn hsrc
  cases hq : P.info? elem with
  | none => simp [hq] at hs
  | some i =>
    have hi : i.size = sz := by simpa [hq] using hs
    simp only [Nat.add_zero] at hst
    simp [Builtin.copy_, run_underlying hu, Builtin.lenOf, sizeOf, typeInfo, hq, hi, hf, hst]
theorem wpList_copy_hasK {P : Program} {w : World} {ops : Array Oper} {rest : List Oper} {o : Oper} {a : Act} {Q : Exit → Act → World → Prop} (hgd : o.guard = none) (d s : Operand) (dT sT : TypeId)
    (ho : o.op = .call { callee := .builtin .copy, args := #[d, s], argTypes := #[dT, sT] }) (elem : TypeId) (sz : Nat) (hu : P.underlying dT = some (.slice elem)) (hsz : (P.info? elem).map (·.size) = some sz)
    (g off dLen dCap : Nat) (ad : Addr) (sLen sCap : Nat) (hd : a.eval d = .slice (some ⟨g, off, none⟩) dLen dCap) (hs : a.eval s = .slice (some ad) sLen sCap)
    (cur : List Value) (t : TypeId) (hg : Has w g t cur) (cs : List Value) (hn : cs.length = Nat.min sLen dLen * sz)
    (hsrc : ∀ j v, cs[j]? = some v → w.cell? (ad.add j) = some v) (hfit : off + cs.length ≤ cur.length) (h1 : ∀ v ∈ cs, v.oneCell' = true)
    (h : ∀ w', Hid (Has w' g t (cur.take off ++ cs ++ cur.drop (off + cs.length))) → Chg (fun k => k = g) w w' → w'.heap.size = w.heap.size → wpList P ops Q rest (a.put o.dst (goInt (Nat.min sLen dLen))) w') : wpList P ops Q (o :: rest) a w := by
  refine wpList_plain hgd fun K hK => ?_
  have hrun := run_copy_rowK (P := P) w dT sT o.type elem sz g off dLen dCap ad sLen sCap cur.toArray t cs hu hsz hg hn hsrc (by simpa using hfit) h1
  unfold Oper.wp
  simp [execOp, ho, resolve, invoke, builtin, hd, hs, hrun, Result.andThen]
  refine hK _ _ (h _ ?_ ?_ (by simp [World.setRow]))
  · show w.setRow g _ |>.heap[g]? = _
    rw [setRow_heap w g cur.toArray _ t _ hg]
    simp
  · exact ⟨rfl, rfl, rfl, by simp [World.setRow], fun k _ hk => setRow_other w g k _ (fun e => hk e)⟩

/-- The run of the same, as an equation. -/
theorem run_copy_hasK {P : Program} {w : World} (dT sT ty elem : TypeId) (sz : Nat) (hu : P.underlying dT = some (.slice elem)) (hsz : (P.info? elem).map (·.size) = some sz)
    (g off dLen dCap : Nat) (ad : Addr) (sLen sCap : Nat) (cur : List Value) (t : TypeId) (hg : Has w g t cur) (cs : List Value) (hn : cs.length = Nat.min sLen dLen * sz)
    (hsrc : ∀ j v, cs[j]? = some v → w.cell? (ad.add j) = some v) (hfit : off + cs.length ≤ cur.length) (h1 : ∀ v ∈ cs, v.oneCell' = true) :
    ∃ w', (Builtin.copy_ #[dT, sT] ty #[.slice (some ⟨g, off, none⟩) dLen dCap, .slice (some ad) sLen sCap]).run P w = .ok (goInt (Nat.min sLen dLen)) w' ∧ Has w' g t (cur.take off ++ cs ++ cur.drop (off + cs.length)) ∧ Chg (fun k => k = g) w w' ∧ w'.heap.size = w.heap.size := by
  refine ⟨_, run_copy_rowK (P := P) w dT sT ty elem sz g off dLen dCap ad sLen sCap cur.toArray t cs hu hsz hg hn hsrc (by simpa using hfit) h1, ?_, ?_, by simp [World.setRow]⟩
  · show w.setRow g _ |>.heap[g]? = _
    rw [setRow_heap w g cur.toArray _ t _ hg]
  · exact ⟨rfl, rfl, rfl, by simp [World.setRow], fun k _ hk => setRow_other w g k _ (fun e => hk e)⟩

/-- k copies of one cell -/
def reps (c : Value) (k : Nat) : List Value := List.replicate k c
theorem reps_len (c : Value) (k : Nat) : (reps c k).length = k := by simp [reps]
theorem reps_add (c : Value) (k m : Nat) : reps c (k + m) = reps c k ++ reps c m := by
  unfold reps; rw [← List.replicate_append_replicate]
theorem reps_mem {c : Value} {k : Nat} {v : Value} (h : v ∈ reps c k) : v = c := List.eq_of_mem_replicate h
theorem mul_one_any (n : Nat) (w : World) (hn : n ≤ 1000000) : Calls Tryz.prog 82 #[.int .u64 1, .int .u64 (n : Nat)] w fun e w' => e = .returned (.tuple #[.int .u64 0, .int .u64 (n : Nat)]) ∧ w = w' := by
  refine (Tryz.bits_Mul 1 n (by omega) (by omega) w).mono ?_
  rintro e w' ⟨rfl, rfl⟩
  refine ⟨?_, rfl⟩
  have e1 : 1 * n / 18446744073709551616 = 0 := by omega
  have e2 : 1 * n % 18446744073709551616 = n := by omega
  rw [e1, e2]; rfl
theorem reps_cells {w : World} {g : Nat} {t : TypeId} {c : Value} {k m : Nat} {rest : List Value} (h : Has w g t (reps c k ++ rest)) (hm : m ≤ k) : ∀ j v, (reps c m)[j]? = some v → w.cell? ((⟨g, 0, none⟩ : Addr).add j) = some v := by
  intro j v hv
  have hj : j < m := by have := (List.getElem?_eq_some_iff.1 hv).1; rwa [reps_len] at this
  rw [Addr.add_lit, Nat.zero_add, h.cell]
  have e : reps c k = reps c m ++ reps c (k - m) := by rw [← reps_add]; congr 1; omega
  rw [List.getElem?_append_left (by rw [reps_len]; omega), e, List.getElem?_append_left (by rw [reps_len]; omega)]
  exact hv

/-- filled up to k, or, behind the copy, up to k + m -/
def Filled (w : World) (c : Value) (zs : List Value) (k : Nat) (wx : World) : Prop := Has wx w.heap.size 3 (reps c k ++ zs.drop (k)) ∧ Below w.heap.size w wx ∧ wx.heap.size = w.heap.size + 1
theorem Filled.more {w wx : World} {c : Value} {zs : List Value} {k m n : Nat} (h : Filled w c zs k wx) (hm : m = min k (n - k)) (hk : k < n) (hz : zs.length = n)
    (hi : (Tryz.prog.info? 3).map (·.size) = some 1) (h1 : ∀ k, ∀ v ∈ reps c k, v.oneCell' = true) (ty : TypeId) :
    ∃ w', (Builtin.copy_ #[148, 148] ty #[.slice (some ⟨w.heap.size, k, none⟩) (n - k) (n - k), .slice (some ⟨w.heap.size, 0, none⟩) k n]).run Tryz.prog wx = .ok (goInt m) w' ∧ Filled w c zs (k + m) w' := by
  obtain ⟨hg, hb, hz1⟩ := h
  obtain ⟨w', hr, hg', hc, hz2⟩ := run_copy_hasK (P := Tryz.prog) 148 148 ty 3 1 Tryz.underlying148 hi w.heap.size (k) (n - k) (n - k) ⟨w.heap.size, 0, none⟩ k n _ 3 hg (reps c m)
    (by rw [reps_len, hm, Nat.mul_one]) (reps_cells hg (by omega)) (by rw [reps_len, List.length_append, reps_len, List.length_drop, hz]; omega) (h1 m)
  refine ⟨w', by rw [hr, hm], ?_, hb.trans (hc.below hb.size (fun i h => by omega)), by omega⟩
  rw [reps_len, List.take_left' (reps_len _ _), List.drop_append, List.drop_of_length_le (by rw [reps_len]; omega), List.nil_append, List.drop_drop, reps_len, ← reps_add] at hg'
  rw [show k + (k + m - k) = k + m by omega] at hg'
  exact hg'
theorem Filled.drew {w wx : World} {c : Value} {zs : List Value} {k : Nat} (h : Filled w c zs k wx) : Filled w c zs k wx.drew := ⟨h.1, h.2.1.drew, h.2.2⟩

set_option maxRecDepth 100000 in
set_option maxHeartbeats 2000000 in
theorem repeat_any (b n : Nat) (x : Int) (w : World) (hb : Has w b 3 [.int .i64 x]) (hn1 : 1 ≤ n) (hn2 : n ≤ 1000000) :
    Calls Tryz.prog 147 #[.slice (some ⟨b, 0, none⟩) 1 1, .int .i64 (n : Nat)] w fun e w' => e = .returned (.slice (some ⟨w.heap.size, 0, none⟩) n n) ∧ Has w' w.heap.size 3 (reps (.int .i64 x) n) ∧ Below w.heap.size w w' ∧ w'.heap.size = w.heap.size + 1 := by
  obtain ⟨i0, hi, hz0, hz1, hz2⟩ := info_parts Tab.info_int6
  have hmk := run_make (P := Tryz.prog) w 148 3 i0 _ Tryz.underlying148 hi hz0 .i64 .i64 n n (by omega) (Int.le_refl _) (by rw [hz2]; omega) (by omega)
  rw [hz1] at hmk
  simp only [Int.toNat_natCast] at hmk
  obtain ⟨zs, hzs, hzl⟩ : ∃ zs : List Value, madeCells (Value.int .i64 0).cells (n * 1) = zs.toArray ∧ zs.length = n := ⟨(madeCells (Value.int .i64 0).cells (n * 1)).toList, by simp, by rw [Array.length_toList, size_madeCells, Nat.mul_one]⟩
  rw [hzs] at hmk
  have HMK := Lib.hid hmk
  have HZL := Lib.hid hzl
  have HB := Lib.hid hb
  have hbl := hb.lt
  have hone : ∀ k, ∀ v ∈ reps (.int .i64 x) k, v.oneCell' = true := by
    intro k v hv; rw [reps_mem hv]; rfl
  have HONE := Lib.hid hone
  clear hmk hzs hzl hb hone
  go_enter Tryz.func147, Tryz.ntmps147
  go_wp2_with fail
  refine (mul_one_any n _ hn2).mono ?_
  rintro e w' ⟨rfl, rfl⟩
  have hmk := HMK.out
  have h63 : ¬ 9223372036854775807 < n := by omega
  have hz := Has.new w zs 3
  have hbn := HB.out.alloc (.cells zs.toArray 3)
  have HC1 := Lib.hid (reps_cells (rest := []) (by rw [List.append_nil]; exact hbn) (Nat.le_refl 1))
  have HL1 := Lib.hid (show (reps (.int .i64 x) 1).length = Nat.min 1 n * 1 by rw [reps_len, Nat.mul_one]; exact (Nat.min_eq_left hn1).symm)
  have HL2 := Lib.hid (show 0 + (reps (.int .i64 x) 1).length ≤ zs.length by rw [reps_len, HZL.out]; omega)
  have HI := Lib.hid (show (Tryz.prog.info? 3).map (·.size) = some 1 by rw [hi]; simp [hz1])
  clear hbn
  go_wp2_with (with_reducible refine wpList_copy_hasK (o := ⟨some 33, _, _, _, _, _⟩) rfl (.tmp 31) (.tmp 32) 148 148 rfl 3 1 Tryz.underlying148 HI.out w.heap.size 0 n n ⟨b, 0, none⟩ 1 1 rfl rfl zs 3 hz (reps (.int .i64 x) 1) HL1.out HC1.out HL2.out (HONE.out 1) ?_)
  clear hmk
  intro w2 HG hC hsz2
  try rw [show Nat.min 1 n = 1 from Nat.min_eq_left hn1]
  have HG1 := Lib.hid (show Has w2 w.heap.size 3 (reps (.int .i64 x) 1 ++ zs.drop (1)) by
    have := HG.out
    rw [reps_len] at this
    simpa using this)
  have HB2 := Lib.hid (show Below w.heap.size w w2 from (((Chg.refl (fun k => k = w.heap.size) w).alloc (.cells zs.toArray 3)).trans hC (fun _ _ h => h)).below (Nat.le_refl _) (fun i h => by omega))
  have HSZ2 := Lib.hid (show w2.heap.size = w.heap.size + 1 by rw [hsz2])
  clear HG hC hz HC1 HL1 HL2 hsz2
  go_wp2_with fail
  go_loopw [8] (fun i wr => ∃ k : Nat, 1 ≤ k ∧ k ≤ n ∧ i = .int .i64 k ∧ Filled w (.int .i64 x) zs k wr) (fun i _ => n - (intOf i).toNat)
  case atStart => exact ⟨1, Nat.le_refl _, hn1, rfl, HG1.out, HB2.out, HSZ2.out⟩
  case round =>
    obtain ⟨k, hk1, hk, rfl, hg⟩ := hrel
    clear HG1 HB2 HSZ2
    by_cases hlt : k < n
    · obtain ⟨m, hm⟩ : ∃ m, m = min k (n - k) := ⟨_, rfl⟩
      have hm1 : 1 ≤ m := by omega
      have hm3 : k + m ≤ n := by omega
      have HM := Lib.hid hm
      have hne : ¬ n = k := by omega
      have hkn : (k : Int) < (n : Int) := by omega
      have HG := Lib.hid hg
      clear hm hg
      go_wp2
      go_upto_region 9 with fail
      refine Reg.region_vals (by kernel_rfl) [(38, .int .i64 (k : Nat)), (39, .slice (some ⟨w.heap.size, 0, none⟩) n n), (40, .int .i64 (k : Nat)), (41, .slice (some ⟨w.heap.size, k, none⟩) (n - k) (n - k)), (42, .slice (some ⟨w.heap.size, 0, none⟩) n n), (43, .int .i64 (k : Nat)), (44, .slice (some ⟨w.heap.size, 0, none⟩) k n), (45, .int .i64 (m : Nat)), (46, .int .i64 ((k + m : Nat) : Int)), (8, .int .i64 ((k + m : Nat) : Int))] (fun l wx => Filled w (.int .i64 x) zs (if l 7 then k + m else k) wx) (by kernel_rfl) (by kernel_rfl) (by kernel_rfl) (HG.out.drew) ⟨?_, ?_, ?_, ?_, ?_, ?_, ?_, ?_, ?_, ?_, trivial⟩ ?hend
      · skip
        intro aq wq lq hI hl hdone hlater hold hd ho
        have h8 : aq.tmps.getD 8 undef = .int .i64 (k : Nat) := hold 9 8 (by kernel_rfl) (hlater 9 (by kernel_rfl))
        clear hd ho hdone hlater hold
        exact Reg.step2_move (.tmp 8) rfl h8 hI trivial
      · skip
        intro aq wq lq hI hl hdone hlater hold hd ho
        have h7 : aq.tmps.getD 7 undef = .slice (some ⟨w.heap.size, 0, none⟩) n n := ho 7 (by kernel_rfl)
        clear hd ho hdone hlater hold
        exact Reg.step2_move (.tmp 7) rfl h7 hI trivial
      · skip
        intro aq wq lq hI hl hdone hlater hold hd ho
        have h8 : aq.tmps.getD 8 undef = .int .i64 (k : Nat) := hold 9 8 (by kernel_rfl) (hlater 9 (by kernel_rfl))
        clear hd ho hdone hlater hold
        exact Reg.step2_move (.tmp 8) rfl h8 hI trivial
      · skip
        intro aq wq lq hI hl hdone hlater hold hd ho
        have h39 : aq.tmps.getD 39 undef = .slice (some ⟨w.heap.size, 0, none⟩) n n := hd 39 (by kernel_rfl)
        have h40 : aq.tmps.getD 40 undef = .int .i64 (k : Nat) := hd 40 (by kernel_rfl)
        clear hd ho hdone hlater hold
        rw [Array.getD_eq_getD_getElem?] at h39 h40
        refine Reg.step2_val (.slice (some ⟨w.heap.size, k, none⟩) (n - k) (n - k)) ?_ rfl hI trivial
        simp [execOp, Act.eval, h39, h40]
        try go_simp
      · skip
        intro aq wq lq hI hl hdone hlater hold hd ho
        have h7 : aq.tmps.getD 7 undef = .slice (some ⟨w.heap.size, 0, none⟩) n n := ho 7 (by kernel_rfl)
        clear hd ho hdone hlater hold
        exact Reg.step2_move (.tmp 7) rfl h7 hI trivial
      · skip
        intro aq wq lq hI hl hdone hlater hold hd ho
        have h8 : aq.tmps.getD 8 undef = .int .i64 (k : Nat) := hold 9 8 (by kernel_rfl) (hlater 9 (by kernel_rfl))
        clear hd ho hdone hlater hold
        exact Reg.step2_move (.tmp 8) rfl h8 hI trivial
      · skip
        intro aq wq lq hI hl hdone hlater hold hd ho
        have h42 : aq.tmps.getD 42 undef = .slice (some ⟨w.heap.size, 0, none⟩) n n := hd 42 (by kernel_rfl)
        have h43 : aq.tmps.getD 43 undef = .int .i64 (k : Nat) := hd 43 (by kernel_rfl)
        clear hd ho hdone hlater hold
        rw [Array.getD_eq_getD_getElem?] at h42 h43
        refine Reg.step2_val (.slice (some ⟨w.heap.size, 0, none⟩) k n) ?_ rfl hI trivial
        simp [execOp, Act.eval, h42, h43]
        try go_simp
      · skip
        intro aq wq lq hI hl hdone hlater hold hd ho
        have h41 : aq.tmps.getD 41 undef = .slice (some ⟨w.heap.size, k, none⟩) (n - k) (n - k) := hd 41 (by kernel_rfl)
        have h44 : aq.tmps.getD 44 undef = .slice (some ⟨w.heap.size, 0, none⟩) k n := hd 44 (by kernel_rfl)
        clear hd ho hdone hlater hold
        rw [Array.getD_eq_getD_getElem?] at h41 h44
        rw [show lq 7 = false from hl] at hI
        obtain ⟨w2, hr, hF⟩ := Filled.more (k := k) hI HM.out hlt HZL.out HI.out HONE.out 3
        refine Reg.step2_do (.int .i64 (m : Nat)) w2 ?_ rfl hF trivial
        simp [execOp]
        go_simp
      · skip
        intro aq wq lq hI hl hdone hlater hold hd ho
        have h38 : aq.tmps.getD 38 undef = .int .i64 (k : Nat) := hd 38 (by kernel_rfl)
        have h45 : aq.tmps.getD 45 undef = .int .i64 (m : Nat) := hd 45 (by kernel_rfl)
        clear hd ho hdone hlater hold
        rw [Array.getD_eq_getD_getElem?] at h38 h45
        refine Reg.step2_val (.int .i64 ((k + m : Nat) : Int)) ?_ rfl hI trivial
        simp [execOp, Act.eval, h38, h45]
        go_simp
        rw [IntKind.wrap_i64]; omega
      · skip
        intro aq wq lq hI hl hdone hlater hold hd ho
        have h46 : aq.tmps.getD 46 undef = .int .i64 ((k + m : Nat) : Int) := hd 46 (by kernel_rfl)
        clear hd ho hdone hlater hold
        exact Reg.step2_assign (.tmp 46) rfl h46 hI trivial
      case hend =>
      intro wx hI
      simp only [Reg.fill, List.foldl_cons, List.foldl_nil, List.setIfInBounds_toArray, List.set_cons_zero, List.set_cons_succ]
      have HI2 := Lib.hid (show Filled w (.int .i64 x) zs (k + m) wx from hI)
      clear hI
      go_wp2
      go_roundw
      case rel => exact ⟨k + m, by omega, by omega, rfl, HI2.out⟩
      case measure => simp [intOf]; omega
    · obtain rfl : k = n := by omega
      have hd : zs.drop (k) = [] := List.drop_of_length_le (by rw [HZL.out]; exact Nat.le_refl _)
      obtain ⟨hg, hbw, hsw⟩ := hg
      rw [hd, List.append_nil] at hg
      have HG := Lib.hid hg
      have HBW := Lib.hid hbw
      have HSW := Lib.hid hsw
      clear hd hg hbw hsw
      go_wp2
      go_ret
      exact ⟨rfl, HG.out, HBW.out, HSW.out⟩

set_option maxRecDepth 100000 in
set_option maxHeartbeats 1000000 in
theorem repeat_zero (b : Nat) (x : Int) (w : World) (hb : Has w b 3 [.int .i64 x]) :
    Calls Tryz.prog 147 #[.slice (some ⟨b, 0, none⟩) 1 1, .int .i64 0] w fun e w' => e = .returned (.slice (some ⟨w.heap.size, 0, none⟩) 0 0) ∧ Has w' w.heap.size 3 [] ∧ Below w.heap.size w w' ∧ w'.heap.size = w.heap.size + 1 := by
  obtain ⟨i0, hi, hz0, hz1, hz2⟩ := info_parts Tab.info_int6
  have hmk := run_make (P := Tryz.prog) w 148 3 i0 _ Tryz.underlying148 hi hz0 .i64 .i64 0 0 (by omega) (Int.le_refl _) (by rw [hz2]; omega) (by omega)
  rw [hz1] at hmk
  simp only [Int.toNat_zero, Nat.zero_mul] at hmk
  obtain ⟨zs, hzs, hzl⟩ : ∃ zs : List Value, madeCells (Value.int .i64 0).cells 0 = zs.toArray ∧ zs = [] := ⟨[], by simp [madeCells], rfl⟩
  subst hzl
  rw [hzs] at hmk
  have HMK := Lib.hid hmk
  clear hmk hzs
  go_enter Tryz.func147, Tryz.ntmps147
  go_wp2_with fail
  refine (mul_one_any 0 _ (by omega)).mono ?_
  rintro e w' ⟨rfl, rfl⟩
  have hmk := HMK.out
  have hz := Has.new w [] 3
  have HI := Lib.hid (show (Tryz.prog.info? 3).map (·.size) = some 1 by rw [hi]; simp [hz1])
  go_wp2_with (with_reducible refine wpList_copy_hasK (o := ⟨some 33, _, _, _, _, _⟩) rfl (.tmp 31) (.tmp 32) 148 148 rfl 3 1 Tryz.underlying148 HI.out w.heap.size 0 0 0 ⟨b, 0, none⟩ 1 1 rfl rfl [] 3 hz [] rfl (fun j v h => by simp at h) (Nat.le_refl _) (fun v h => by simp at h) ?_)
  clear hmk
  intro w2 HG hC hsz2
  try rw [show Nat.min 1 0 = 0 from rfl]
  have HG1 := Lib.hid (show Has w2 w.heap.size 3 [] from HG.out)
  have HB2 := Lib.hid (show Below w.heap.size w w2 from (((Chg.refl (fun k => k = w.heap.size) w).alloc (.cells (#[] : Array Value) 3)).trans hC (fun _ _ h => h)).below (Nat.le_refl _) (fun i h => by omega))
  have HSZ2 := Lib.hid (show w2.heap.size = w.heap.size + 1 by rw [hsz2])
  clear HG hC hz hsz2
  go_wp2_with fail
  go_loopw [8] (fun i wr => i = .int .i64 0 ∧ wr = w2) (fun _ _ => 0)
  case atStart => exact ⟨rfl, rfl⟩
  case round =>
    obtain ⟨rfl, rfl⟩ := hrel
    go_wp2
    go_ret
    exact ⟨rfl, HG1.out, HB2.out, HSZ2.out⟩
end Go.Proofs.YtflanjcfkdjpjaaGreatDoor.Rep


/- Contracts of layer 6 (table): widths, Text. -/
namespace Go.Proofs.YtflanjcfkdjpjaaGreatDoor.Tab
open Go.RowKit Go.Proofs.YtflanjcfkdjpjaaGreatDoor Go.Proofs.YtflanjcfkdjpjaaGreatDoor.Lend
set_option linter.unusedVariables false

theorem owns_one (w : World) (B : Nat) (x : Int) (h : B ≤ w.heap.size) : (w.alloc (.cells #[.int .i64 x] 3)).ownsRow B 3 1 (.slice (some ⟨w.heap.size, 0, none⟩) 1 1) 1 [.int .i64 x] :=
  ⟨rfl, .inr ⟨w.heap.size, 1, #[.int .i64 x], rfl, h, by show (w.heap.push _)[w.heap.size]? = _; simp, Nat.le_refl _, by unfold maxLen; omega, rfl, rfl⟩⟩
set_option maxRecDepth 100000 in
set_option maxHeartbeats 1000000 in
theorem widths_any (n : Nat) (w : World) (hn : n ≤ 32) : Calls Tryz.prog 137 #[.int .i64 (n : Nat)] w fun e w' => ∃ ao cap, e = .returned (.slice ao (n + 1 : Nat) cap) ∧ Row .i64 w' ao (n + 1) (tabW n) ∧ Below w.heap.size w w' := by
  obtain ⟨i0, hi, hz0, hz1, hz2⟩ := info_parts info_int6
  have hown := owns_one w w.heap.size 8 (Nat.le_refl _)
  have hown2 := hown.alloc (.cells #[.int .i64 2] 3)
  have hb2 := Has.new (w.alloc (.cells #[.int .i64 8] 3)) [.int .i64 2] 3
  have hsz : (w.alloc (.cells #[.int .i64 8] 3)).heap.size = w.heap.size + 1 := by simp
  rw [hsz] at hb2
  have hB := Lib.hid (b_nw (b_new w (.cells #[.int .i64 8] 3)) (.cells #[.int .i64 2] 3))
  have HO := Lib.hid hown2
  have HB2 := Lib.hid hb2
  clear hown hown2 hb2 hsz
  go_enter Tryz.func137, Tryz.ntmps137
  go_wp2_with fail
  have hrep : Calls Tryz.prog 147 #[.slice (some ⟨w.heap.size + 1, 0, none⟩) 1 1, .int .i64 (n : Nat)] ((w.alloc (.cells #[.int .i64 8] 3)).alloc (.cells #[.int .i64 2] 3)) fun e w' => e = .returned (.slice (some ⟨w.heap.size + 2, 0, none⟩) n n) ∧ Has w' (w.heap.size + 2) 3 (Rep.reps (.int .i64 2) n) ∧ Below (w.heap.size + 2) ((w.alloc (.cells #[.int .i64 8] 3)).alloc (.cells #[.int .i64 2] 3)) w' := by
    have hs2 : ((w.alloc (.cells #[.int .i64 8] 3)).alloc (.cells #[.int .i64 2] 3)).heap.size = w.heap.size + 2 := by simp
    by_cases h0 : n = 0
    · subst h0
      refine (Rep.repeat_zero (w.heap.size + 1) 2 _ HB2.out).mono ?_
      rintro e w' ⟨rfl, h1, h2, _⟩
      rw [hs2] at h1 h2 ⊢
      exact ⟨rfl, h1, h2⟩
    · refine (Rep.repeat_any (w.heap.size + 1) n 2 _ HB2.out (by omega) (by omega)).mono ?_
      rintro e w' ⟨rfl, h1, h2, _⟩
      rw [hs2] at h1 h2 ⊢
      exact ⟨rfl, h1, h2⟩
  refine hrep.mono ?_
  clear hrep
  rintro e w2 ⟨rfl, hh, hb⟩
  have hown2 := owns_same HO.out (w' := w2) (fun k hk => hb.block k (by
    have : k = w.heap.size := by simpa [Value.ownBlock] using hk.symm
    omega))
  have hB2 := hB.out.trans (hb.mono (by omega))
  have hsz2 := hB2.size
  have HH := Lib.hid hh
  have HB3 := Lib.hid hB2
  clear hh hb hB2 HO HB2 hB
  have HC := Lib.hid (show ∀ j u, (Rep.reps (.int .i64 2) n)[j]? = some u → w2.cell? ((⟨w.heap.size + 2, 0, none⟩ : Addr).add j) = some u from fun j u hj => by
    rw [Addr.add_lit, Nat.zero_add, HH.out.cell]; exact hj)
  have HM := Lib.hid (show (Rep.reps (.int .i64 2) n).length = n * 1 by rw [Rep.reps_len, Nat.mul_one])
  go_wp2_with (at_builtin; refine wpList_append_own _ rfl _ _ 148 rfl w.heap.size 3 i0 (.int .i64 0) 1 8 Tryz.underlying148 hi hz0 hz1 hz2 rfl (by decide) _ _ _ rfl hown2 ⟨w.heap.size + 2, 0, none⟩ n n (Rep.reps (.int .i64 2) n) rfl HM.out HC.out ?c2 ?c3 ?c4 ?c5 ?_)
  case c2 => intro q hq; rw [Rep.reps_mem hq]; rfl
  case c3 => unfold maxLen; omega
  case c4 => omega
  case c5 => omega
  intro v' w3 hown3 hgrow _
  have hbel := HB3.out.grown hgrow hsz2 (fun q hq => (hown2.lt q hq).1)
  have HBE := Lib.hid hbel
  have e1 : Value.int .i64 8 :: Rep.reps (.int .i64 2) n = (tabW n).map (Value.int .i64) := by simp [Rep.reps, tabW, twos]
  rw [e1] at hown3
  have e2 : 1 + n = n + 1 := by omega
  rw [e2] at hown3
  obtain ⟨ao', cap', rfl, hle⟩ := own_shape hown3
  have HRW := Lib.hid (Row.own hown3)
  clear hbel hgrow hown2 hown3 e1 e2 HC HM HH HB3
  go_wp2
  go_ret
  exact ⟨_, _, rfl, HRW.out, HBE.out⟩

theorem owns_oneU (w : World) (B : Nat) (x : Int) (h : B ≤ w.heap.size) : (w.alloc (.cells #[.int .u64 x] 22)).ownsRow B 22 1 (.slice (some ⟨w.heap.size, 0, none⟩) 1 1) 1 [.int .u64 x] :=
  ⟨rfl, .inr ⟨w.heap.size, 1, #[.int .u64 x], rfl, h, by show (w.heap.push _)[w.heap.size]? = _; simp, Nat.le_refl _, by unfold maxLen; omega, rfl, rfl⟩⟩
set_option maxRecDepth 100000 in
set_option maxHeartbeats 2000000 in
theorem text_any (n k : Int) (m : List Int) (w : World) (hg : Good n k m) : Calls Tryz.prog 118 #[.agg (ta n k m)] w fun e w' => e = .returned (.string (txS m)) ∧ Below w.heap.size w w' := by
  obtain ⟨g1, g2, g3, g4, g5⟩ := hg.bd
  obtain ⟨i0, hi, hz0, hz1, hz2⟩ := info_parts info_u64
  obtain ⟨hwb, hws⟩ := tab_wr hg
  have HW := Lib.hid (And.intro hwb hws)
  have HG := Lib.hid hg
  have hT := TAt.made w n k m
  have e0 := hT.ld
  obtain ⟨W1, hW1⟩ : ∃ W1, W1 = w.alloc (.cells (ta n k m) 88) := ⟨_, rfl⟩
  have hsz : W1.heap.size = w.heap.size + 1 := by rw [hW1]; simp
  have hB := b_new w (.cells (ta n k m) 88)
  rw [← hW1] at hT hB
  have HT := Lib.hid hT
  have HB := Lib.hid hB
  obtain ⟨u, hu⟩ : ∃ u, u = m.length := ⟨_, rfl⟩
  have HU := Lib.hid hu
  have hu5 : u ≤ 32 := by omega
  have hsl := slice_sp w.heap.size u hu5
  clear hT hB hwb hws hg
  go_enter Tryz.func118, Tryz.ntmps118
  go_wp2_with fail
  rw [← hW1]
  refine (gen_any n k m _ g5).mono ?_
  rintro e w1 ⟨rfl, hb⟩
  rw [← hu]
  have hb1 : Below (w.heap.size + 1) W1 w1 := by rw [← hsz]; exact hb
  have HB1 := Lib.hid (hb1.alloc (by have := hb1.size; omega) (.cells #[.int .u64 u] 22))
  have hT2 := (HT.out.on hb).new (.cells #[.int .u64 u] 22)
  have HT2 := Lib.hid hT2
  have hown := Lib.hid (owns_oneU w1 (w.heap.size + 1) u (by have := hb1.size; omega))
  have e2 := hT2.c2
  rw [← hu] at e2
  clear hb hb1 e0 hT2 hW1 hu g5
  go_wp2_with fail
  go_loopw [3, 16] (fun v i wr => ∃ c : Nat, c ≤ u ∧ i = .int .i64 c ∧ wr.ownsRow (w.heap.size + 1) 22 1 v (c + 1) ((((u : Int) :: m.take c)).map (Value.int .u64)) ∧ Below (w.heap.size + 1) W1 wr) (fun _ i _ => u - (intOf i).toNat)
  case atStart => exact ⟨0, Nat.zero_le _, rfl, hown.out, HB1.out⟩
  case round =>
    obtain ⟨c, hc, rfl, hownr, hbr⟩ := hrel
    have hszr := hbr.size
    have hTr : TAt wr w.heap.size n k m := Has.below HT.out hbr (by omega)
    have HTr := Lib.hid hTr
    clear hown HB1 HT2 e2
    by_cases hlt : c < u
    · have ec := hTr.cm c (by omega)
      have hx := HG.out.getD c (by rw [← HU.out]; exact hlt)
      have htk : m.take (c + 1) = m.take c ++ [m.getD c 0] := take_snoc' m c (by rw [← HU.out]; exact hlt)
      obtain ⟨x, hxx⟩ : ∃ x, x = m.getD c 0 := ⟨_, rfl⟩
      rw [← hxx] at ec hx htk
      obtain ⟨hx0, hx1⟩ := hx
      have hwx : IntKind.u64.wrap x = x := by rw [wrap_u64]; omega
      have HTK := Lib.hid htk
      clear hTr htk hxx
      go_wp2_with (at_builtin; refine wpList_append_own _ rfl _ _ 157 rfl (w.heap.size + 1) 22 i0 (.int .u64 0) 1 8 Tryz.underlying157 hi hz0 hz1 hz2 rfl (by decide) _ _ _ rfl (hownr.alloc _) ⟨wr.heap.size, 0, none⟩ 1 1 [.int .u64 x] rfl rfl ?c1 ?c2 ?c3 ?c4 ?c5 ?_)
      case c1 =>
        intro j q hj
        match j, hj with
        | 0, hj => simp at hj; subst hj; simp [Addr.add]
      case c2 => intro q hq; simp at hq; subst hq; rfl
      case c3 => unfold maxLen; omega
      case c4 => omega
      case c5 => simp; omega
      intro v' w2 hown' hgrow _
      have hbel : Below (w.heap.size + 1) W1 w2 := (hbr.alloc (by omega) _).grown hgrow (by simp; omega) (fun q hq => (hownr.lt q hq).1)
      have e1 : Value.int .u64 (u : Int) :: (List.take c (m.map (Value.int .u64)) ++ [.int .u64 x]) = (((u : Int) :: m.take (c + 1)).map (Value.int .u64)) := by rw [HTK.out]; simp
      rw [e1] at hown'
      clear hgrow hownr e1
      go_wp2
      go_roundw
      case rel => exact ⟨c + 1, by omega, by go_num, hown', hbel⟩
      case measure => simp [intOf]; omega
    · obtain rfl : c = u := by omega
      have e2 := hTr.c2
      rw [← HU.out] at e2
      have htk : m.take c = m := List.take_of_length_le (by rw [HU.out]; exact Nat.le_refl _)
      rw [htk] at hownr
      obtain ⟨ao, cap, rfl, _⟩ := own_shape hownr
      have HR := Lib.hid (Row.own hownr)
      have HBR := Lib.hid hbr
      clear hTr htk hownr hbr
      go_wp2_with fail
      refine (widths_any c wr hu5).mono ?_
      rintro e w2 ⟨bo, cb, rfl, hrow, hb2⟩
      have HR2 := Lib.hid (HR.out.below hb2 (Nat.le_refl _))
      have HRW := Lib.hid hrow
      have HB2 := Lib.hid (HBR.out.trans (hb2.mono (by omega)))
      clear hrow hb2 e2
      go_wp2_with fail
      refine (write_any _ _ _ _ _ _ _ _ w2 HRW.out HR2.out (by omega) (by omega) (fun z hz => ?_)).mono ?_
      · rcases List.mem_cons.1 hz with rfl | hz
        · omega
        · have := HG.out.mem z hz; omega
      rintro e w3 ⟨rfl, hb3⟩
      have HB3 := Lib.hid (HB2.out.trans (hb3.mono (by have := HB2.out.size; omega)))
      have hwS : wrS (tabW c) ((c : Int) :: m) = txS m := by rw [HU.out]; exact HW.out.2
      have hwB : wrB (tabW c) ((c : Int) :: m) = true := by rw [HU.out]; exact HW.out.1
      rw [hwS, hwB]
      clear hb3 hwS hwB
      go_wp2_with fail
      go_ret
      exact ⟨rfl, HB.out.trans (HB3.out.mono (by omega))⟩
end Go.Proofs.YtflanjcfkdjpjaaGreatDoor.Tab


/- Contracts of layer 6 (table): parse, Parse. -/
namespace Go.Proofs.YtflanjcfkdjpjaaGreatDoor.Tab
open Go.RowKit Go.Proofs.YtflanjcfkdjpjaaGreatDoor Go.Proofs.YtflanjcfkdjpjaaGreatDoor.Lend
set_option linter.unusedVariables false

theorem tabW_zero_sum : sumW (tabW 0) = 8 := rfl
theorem rd_tab (l : List UInt8) (h : l.length = 8 + 2 * getL (l.take 8)) : rdL (tabW (getL (l.take 8))) l = ((getL (l.take 8) : Nat) : Int) :: paL l := by
  have hN : paN l = getL (l.take 8) := by unfold paN; omega
  have hr2 : ∀ (c : Nat) (l : List UInt8), rdL (twos c) l = (List.range c).map fun i => ((getL ((l.drop (2 * i)).take 2) : Nat) : Int) := by
    intro c
    induction c with
    | zero => intro l; rfl
    | succ c ih =>
      intro l
      show rdL (2 :: twos c) l = _
      rw [rdL, ih, List.range_succ_eq_map]
      simp only [List.map_cons, List.map_map]
      congr 1
      apply List.map_congr_left
      intro i _
      simp only [Function.comp, List.drop_drop]
      rw [show (2 : Int).toNat + 2 * i = 2 * (i + 1) by simp; omega]
  show rdL (8 :: twos (getL (l.take 8))) l = _
  rw [rdL, hr2]
  show _ = _ :: List.map (paI l) (List.range (paN l))
  rw [hN]
  congr 1
  apply List.map_congr_left
  intro i _
  simp only [List.drop_drop, paI]
  rfl
theorem paF_no {l : List UInt8} {k : Int} (h : l.length < 8 ∨ k < getL (l.take 8) ∨ l.length ≠ 8 + 2 * getL (l.take 8)) : paF l k = false := by
  have : ¬ paF l k = true := by
    intro h2
    simp only [paF, Bool.and_eq_true, decide_eq_true_eq] at h2
    have : paN l = (l.length - 8) / 2 := rfl
    omega
  simpa using this
theorem paF_yes {l : List UInt8} {k : Int} (h1 : (getL (l.take 8) : Int) ≤ k) (h2 : l.length = 8 + 2 * getL (l.take 8)) : paF l k = true := by
  have : paN l = (l.length - 8) / 2 := rfl
  simp only [paF, Bool.and_eq_true, decide_eq_true_eq]
  omega

set_option maxRecDepth 100000 in
set_option maxHeartbeats 2000000 in
theorem parse1_any (s : ByteArray) (k : Int) (w : World) (hs : s.size ≤ 1000000) (hk0 : 0 ≤ k) (hk : k ≤ 32) :
    Calls Tryz.prog 143 #[.string s, .int .i64 k] w fun e w' => ∃ ao len cap, e = .returned (.tuple #[.slice ao len cap, .bool (paF s.data.toList k)]) ∧ (paF s.data.toList k = true → Row .u64 w' ao len (paL s.data.toList) ∧ len ≤ cap ∧ NewA w.heap.size ao) ∧ Below w.heap.size w w' := by
  obtain ⟨l, hl⟩ : ∃ l, s.data.toList = l := ⟨_, rfl⟩
  have hwk : IntKind.u64.wrap k = k := by rw [wrap_u64]; omega
  rw [hl]
  have HL := Lib.hid hl
  clear hl
  by_cases h8 : l.length < 8
  · rw [paF_no (.inl h8)]
    obtain ⟨r1, r2, r3⟩ := rd_no (ws := tabW 0) (l := l) (.inr (by rw [tabW_zero_sum]; omega))
    have HR := Lib.hid r1
    clear r1 r2 r3 h8
    go_enter Tryz.func143, Tryz.ntmps143
    go_wp2_with fail
    refine (widths_any 0 w (by omega)).mono ?_
    rintro e w1 ⟨bo, cb, rfl, hrow, hb1⟩
    have HB1 := Lib.hid hb1
    have HRW := Lib.hid hrow
    clear hb1 hrow
    go_wp2_with fail
    refine (read_any _ _ _ _ s w1 HRW.out (by omega) hs).mono ?_
    rintro e w2 ⟨co, n2, c2, rfl, _, hb2⟩
    rw [HL.out, HR.out]
    have HB2 := Lib.hid (b_on HB1.out hb2)
    clear hb2
    go_wp2_with fail
    go_ret2
    exact ⟨_, _, _, rfl, (fun h => by cases h), HB2.out⟩
  · obtain ⟨r1, r2, r3⟩ := rd_ok (ws := tabW 0) (l := l) (tabW_ok 0) (by rw [tabW_zero_sum]; omega)
    obtain ⟨G, hG⟩ : ∃ G, G = getL (l.take 8) := ⟨_, rfl⟩
    have HR0 := Lib.hid r1
    have HR1 := Lib.hid (show rdN (tabW 0) l = [(G : Int)] by rw [r2, hG]; rfl)
    have HG := Lib.hid hG
    have hGb : G < 18446744073709551616 := by
      have h1 := getL_bd (l.take 8)
      have h2 : (l.take 8).length ≤ 8 := by simp; omega
      have h3 : 2 ^ (8 * (l.take 8).length) ≤ 2 ^ 64 := Nat.pow_le_pow_right (by decide) (by omega)
      omega
    clear r1 r2 r3
    by_cases hGk : k < (G : Int)
    · rw [paF_no (l := l) (k := k) (.inr (.inl (by rw [← hG]; exact hGk)))]
      clear hG h8
      go_enter Tryz.func143, Tryz.ntmps143
      go_wp2_with fail
      refine (widths_any 0 w (by omega)).mono ?_
      rintro e w1 ⟨bo, cb, rfl, hrow, hb1⟩
      have HB1 := Lib.hid hb1
      have HRW := Lib.hid hrow
      clear hb1 hrow
      go_wp2_with fail
      refine (read_any _ _ _ _ s w1 HRW.out (by omega) hs).mono ?_
      rintro e w2 ⟨co, n2, c2, rfl, hown, hb2⟩
      rw [HL.out, HR1.out] at hown
      rw [HL.out, HR0.out]
      have hrow := Row.own hown
      obtain rfl : 1 = n2 := hrow.len_eq
      obtain ⟨b2, o2, rfl, hcell⟩ := hrow.at_ (by omega)
      have hg0 := hcell 0 (by omega)
      rw [show [(G : Int)].getD 0 0 = (G : Int) from rfl, Nat.add_zero] at hg0
      have HB2 := Lib.hid (b_on HB1.out hb2)
      clear hb2 hown hrow hcell
      go_wp2_with fail
      go_ret2
      exact ⟨_, _, _, rfl, (fun h => by cases h), HB2.out⟩
    · have hG32 : G ≤ 32 := by omega
      have hGk' : (G : Int) ≤ k := by omega
      have hwG : IntKind.i64.wrap (G : Int) = G := IntWalk.i64_in _ (by omega)
      have hgt : ¬ k < (G : Int) := hGk
      by_cases hlen : l.length < 8 + 2 * G
      · rw [paF_no (l := l) (k := k) (.inr (.inr (by rw [← hG]; omega)))]
        obtain ⟨r1, r2, r3⟩ := rd_no (ws := tabW G) (l := l) (.inr (by rw [tabW_sum]; omega))
        have HR4 := Lib.hid r1
        clear r1 r2 r3 hG h8 hlen
        go_enter Tryz.func143, Tryz.ntmps143
        go_wp2_with fail
        refine (widths_any 0 w (by omega)).mono ?_
        rintro e w1 ⟨bo, cb, rfl, hrow, hb1⟩
        have HB1 := Lib.hid hb1
        have HRW := Lib.hid hrow
        clear hb1 hrow
        go_wp2_with fail
        refine (read_any _ _ _ _ s w1 HRW.out (by omega) hs).mono ?_
        rintro e w2 ⟨co, n2, c2, rfl, hown, hb2⟩
        rw [HL.out, HR1.out] at hown
        rw [HL.out, HR0.out]
        have hrow := Row.own hown
        obtain rfl : 1 = n2 := hrow.len_eq
        obtain ⟨b2, o2, rfl, hcell⟩ := hrow.at_ (by omega)
        have hg0 := hcell 0 (by omega)
        rw [show [(G : Int)].getD 0 0 = (G : Int) from rfl, Nat.add_zero] at hg0
        have HB2 := Lib.hid (b_on HB1.out hb2)
        clear hb2 hown hrow hcell
        go_wp2_with fail
        refine (widths_any G w2 (by omega)).mono ?_
        rintro e w3 ⟨do_, cd, rfl, hrow, hb3⟩
        have HB3 := Lib.hid (b_on HB2.out hb3)
        have HRW3 := Lib.hid hrow
        clear hb3 hrow hg0
        go_wp2_with fail
        refine (read_any _ _ _ _ s w3 HRW3.out (by omega) hs).mono ?_
        rintro e w4 ⟨eo, n4, c4, rfl, hown, hb4⟩
        rw [HL.out] at hown
        rw [HL.out, HR4.out]
        have HB4 := Lib.hid (b_on HB3.out hb4)
        clear hb4 hown
        go_wp2_with fail
        go_ret2
        exact ⟨_, _, _, rfl, (fun h => by cases h), HB4.out⟩
      · obtain ⟨r1, r2, r3⟩ := rd_ok (ws := tabW G) (l := l) (tabW_ok G) (by rw [tabW_sum]; omega)
        have HR4 := Lib.hid r1
        have e8 : (sumW (tabW G)).toNat = 8 + 2 * G := by rw [tabW_sum]; omega
        rw [e8] at r3
        by_cases heq : l.length = 8 + 2 * G
        · rw [paF_yes (l := l) (k := k) (by rw [← hG]; omega) (by rw [← hG]; exact heq)]
          have HR5 := Lib.hid (show rdN (tabW G) l = (G : Int) :: paL l by rw [r2, hG]; exact rd_tab l (by rw [← hG]; exact heq))
          have HPL := Lib.hid (show (paL l).length = G by rw [paL_length, paN]; omega)
          have HR6 := Lib.hid (show strOf (rdS (tabW G) l) = ⟨#[]⟩ by rw [r3, List.drop_of_length_le (by omega)]; rfl)
          clear r1 r2 r3 e8 hG h8 hlen heq
          go_enter Tryz.func143, Tryz.ntmps143
          go_wp2_with fail
          refine (widths_any 0 w (by omega)).mono ?_
          rintro e w1 ⟨bo, cb, rfl, hrow, hb1⟩
          have HB1 := Lib.hid hb1
          have HRW := Lib.hid hrow
          clear hb1 hrow
          go_wp2_with fail
          refine (read_any _ _ _ _ s w1 HRW.out (by omega) hs).mono ?_
          rintro e w2 ⟨co, n2, c2, rfl, hown, hb2⟩
          rw [HL.out, HR1.out] at hown
          rw [HL.out, HR0.out]
          have hrow := Row.own hown
          obtain rfl : 1 = n2 := hrow.len_eq
          obtain ⟨b2, o2, rfl, hcell⟩ := hrow.at_ (by omega)
          have hg0 := hcell 0 (by omega)
          rw [show [(G : Int)].getD 0 0 = (G : Int) from rfl, Nat.add_zero] at hg0
          have HB2 := Lib.hid (b_on HB1.out hb2)
          clear hb2 hown hrow hcell
          go_wp2_with fail
          refine (widths_any G w2 (by omega)).mono ?_
          rintro e w3 ⟨do_, cd, rfl, hrow, hb3⟩
          have HB3 := Lib.hid (b_on HB2.out hb3)
          have HRW3 := Lib.hid hrow
          clear hb3 hrow hg0
          go_wp2_with fail
          refine (read_any _ _ _ _ s w3 HRW3.out (by omega) hs).mono ?_
          rintro e w4 ⟨eo, n4, c4, rfl, hown, hb4⟩
          rw [HL.out] at hown
          rw [HL.out, HR4.out, HR6.out]
          rw [HR5.out] at hown
          have HB4 := Lib.hid (b_on HB3.out hb4)
          have hrow4 := Row.own hown
          obtain rfl : G + 1 = n4 := by
            have h1 := hrow4.len_eq
            rw [List.length_cons, HPL.out] at h1; exact h1
          obtain ⟨b4, o4, rfl, _⟩ := hrow4.at_ (by omega)
          obtain ⟨a5, c5, hv, hle⟩ := own_shape hown
          injection hv with hv1 hv2 hv3
          subst hv3
          clear hv1 hv2
          have HNW := Lib.hid (show w.heap.size ≤ b4 from Nat.le_trans HB3.out.size (NewA.own hown _ rfl))
          have hrd := hrow4.dropIf c4 1 (by omega) hle
          rw [List.drop_one, List.tail_cons, Nat.add_sub_cancel] at hrd
          have HRD := Lib.hid hrd
          clear hb4 hrow4 hrd hown
          by_cases hc1 : c4 = 1
          · subst hc1
            have hG0 : G = 0 := by omega
            go_wp2_with fail
            go_ret2
            refine ⟨_, _, _, rfl, fun _ => ⟨?_, by omega, fun a ha => by cases ha; exact HNW.out⟩, HB4.out⟩
            have := HRD.out
            subst hG0
            simpa using this
          · have hlt1 : 1 < c4 := by omega
            go_wp2_with fail
            go_ret2
            refine ⟨_, _, _, rfl, fun _ => ⟨?_, by omega, fun a ha => by cases ha; exact HNW.out⟩, HB4.out⟩
            have := HRD.out
            rw [if_neg hc1, Option.map_some, Addr.add_lit] at this
            exact this
        · rw [paF_no (l := l) (k := k) (.inr (.inr (by rw [← hG]; exact heq)))]
          have hne : (strOf (rdS (tabW G) l)).size ≠ 0 := by
            rw [r3]; show (l.drop (8 + 2 * G)).length ≠ 0
            rw [List.length_drop]; omega
          have HNE := Lib.hid hne
          clear r1 r2 r3 e8 hG h8 hlen heq hne
          go_enter Tryz.func143, Tryz.ntmps143
          go_wp2_with fail
          refine (widths_any 0 w (by omega)).mono ?_
          rintro e w1 ⟨bo, cb, rfl, hrow, hb1⟩
          have HB1 := Lib.hid hb1
          have HRW := Lib.hid hrow
          clear hb1 hrow
          go_wp2_with fail
          refine (read_any _ _ _ _ s w1 HRW.out (by omega) hs).mono ?_
          rintro e w2 ⟨co, n2, c2, rfl, hown, hb2⟩
          rw [HL.out, HR1.out] at hown
          rw [HL.out, HR0.out]
          have hrow := Row.own hown
          obtain rfl : 1 = n2 := hrow.len_eq
          obtain ⟨b2, o2, rfl, hcell⟩ := hrow.at_ (by omega)
          have hg0 := hcell 0 (by omega)
          rw [show [(G : Int)].getD 0 0 = (G : Int) from rfl, Nat.add_zero] at hg0
          have HB2 := Lib.hid (b_on HB1.out hb2)
          clear hb2 hown hrow hcell
          go_wp2_with fail
          refine (widths_any G w2 (by omega)).mono ?_
          rintro e w3 ⟨do_, cd, rfl, hrow, hb3⟩
          have HB3 := Lib.hid (b_on HB2.out hb3)
          have HRW3 := Lib.hid hrow
          clear hb3 hrow hg0
          go_wp2_with fail
          refine (read_any _ _ _ _ s w3 HRW3.out (by omega) hs).mono ?_
          rintro e w4 ⟨eo, n4, c4, rfl, hown, hb4⟩
          rw [HL.out] at hown
          rw [HL.out, HR4.out]
          have HB4 := Lib.hid (b_on HB3.out hb4)
          obtain ⟨R, hR⟩ : ∃ R, R = strOf (rdS (tabW G) l) := ⟨_, rfl⟩
          have hne := HNE.out
          rw [← hR] at hne ⊢
          have hemp : R.toList.isEmpty = false := by
            rw [ByteArray.toList_eq, List.isEmpty_eq_false_iff]
            intro hx
            apply hne
            have : R.data.toList.length = 0 := by rw [hx]; rfl
            simpa using this
          clear hb4 hown hR hne
          go_wp2_with fail
          go_ret2
          exact ⟨_, _, _, rfl, (fun h => by cases h), HB4.out⟩

theorem Row.setRow {kd : IntKind} {w : World} {ao : Option Addr} {len q : Nat} {xs : List Int} (h : Row kd w ao len xs) (hq : ∀ a, ao = some a → a.block ≠ q) (cs : Array Value) : Row kd (w.setRow q cs) ao len xs :=
  ⟨h.len_eq, fun hl => by
    obtain ⟨b, off, hb, hc⟩ := h.at_ hl
    exact ⟨b, off, hb, fun i hi => (cell_setRow_other w q cs ⟨b, off + i, none⟩ (show b ≠ q from hq ⟨b, off, none⟩ hb)).trans (hc i hi)⟩⟩
/-- what Parse's table is -/
def psN (l : List UInt8) (n k : Int) : Int := if paE l n k = 0 then n else 0
def psK (l : List UInt8) (n k : Int) : Int := if paE l n k = 0 then k else 0
theorem ps_ok {l : List UInt8} {n k : Int} (h : paE l n k = 0) : psN l n k = n ∧ psK l n k = k := ⟨by rw [psN, if_pos h], by rw [psK, if_pos h]⟩
theorem ps_bad {l : List UInt8} {n k : Int} (h : paE l n k ≠ 0) : psN l n k = 0 ∧ psK l n k = 0 := ⟨by rw [psN, if_neg h], by rw [psK, if_neg h]⟩

set_option maxRecDepth 100000 in
set_option maxHeartbeats 4000000 in
theorem parse_any (s : ByteArray) (n k : Int) (w : World) (hs : s.size ≤ 1000000) : Calls Tryz.prog 129 #[.string s, .int .i64 n, .int .i64 k] w fun e w' => e = .returned (.tuple #[.agg (ta (psN s.data.toList n k) (psK s.data.toList n k) (paM s.data.toList n k)), .int .i64 (paE s.data.toList n k)]) ∧ Below w.heap.size w w' := by
  obtain ⟨l, hl⟩ : ∃ l, s.data.toList = l := ⟨_, rfl⟩
  rw [hl]
  have HL := Lib.hid hl
  have hP0 := TAt.made w 0 0 []
  have hB0 := b_new w (.cells (ta 0 0 []) 88)
  obtain ⟨p, hp⟩ : ∃ p, p = w.heap.size := ⟨_, rfl⟩
  have hpw : w.heap.size ≤ p := by omega
  rw [← hp] at hP0
  have HP := Lib.hid hP0
  have HB := Lib.hid hB0
  clear hl hP0 hB0
  cases hm : mayB n k with
  | false =>
    have hE : paE l n k = 2 := pa_may hm
    obtain ⟨y1, y2, y3⟩ := nw_no hm
    obtain ⟨z1, z2⟩ := ps_bad (l := l) (n := n) (k := k) (by rw [hE]; decide)
    rw [z1, z2, paM_no (by rw [hE]; decide), hE]
    have HY := Lib.hid (And.intro y1 (And.intro y2 y3))
    clear hE y1 y2 y3 z1 z2 hm
    go_enter Tryz.func129, Tryz.ntmps129
    go_wp2_with (first | with_reducible refine wl_alloc ?_)
    rw [← hp]
    clear hp
    refine (new_any n k _).mono ?_
    rintro e w1 ⟨rfl, hb⟩
    rw [HY.out.1, HY.out.2.1, HY.out.2.2]
    have hP1 := HP.out.on hb
    have HB1 := Lib.hid (b_on HB.out hb)
    have hQ := TAt.made w1 0 0 []
    have sq := hQ.st 0 0 []
    have hP2 := hP1.new (.cells (ta 0 0 []) 88)
    rw [World.setRow_alloc_new] at sq
    have sp := hP2.st 0 0 []
    have zp := (hP2.put 0 0 []).ld
    have hB2 := b_row (b_nw HB1.out (.cells (ta 0 0 []) 88)) (p := p) hpw (ta 0 0 [])
    clear hb hP1 hQ hP2
    go_wp2_with (first | with_reducible refine wl_alloc ?_ | with_reducible refine wl_build0 ?_)
    exact bodyPost_ret (v := .tuple #[.agg (ta 0 0 []), .int .i64 2]) (by simp [results, Tryz.results129, go_sem, zp]) rfl ⟨rfl, hB2⟩
  | true =>
    obtain ⟨m1, m2, m3, m4⟩ := mayB_parts hm
    obtain ⟨y1, y2, y3⟩ := nw_yes hm
    have HY := Lib.hid (And.intro y1 (And.intro y2 y3))
    clear y1 y2 y3
    cases hf : paF l k with
    | false =>
      have hE : paE l n k = 4 := pa_form hm (by rw [paB, hf]; rfl)
      obtain ⟨z1, z2⟩ := ps_bad (l := l) (n := n) (k := k) (by rw [hE]; decide)
      rw [z1, z2, paM_no (by rw [hE]; decide), hE]
      have HF := Lib.hid hf
      clear hE z1 z2 hm hf
      go_enter Tryz.func129, Tryz.ntmps129
      go_wp2_with (first | with_reducible refine wl_alloc ?_)
      rw [← hp]
      clear hp
      refine (new_any n k _).mono ?_
      rintro e w1 ⟨rfl, hb⟩
      rw [HY.out.1, HY.out.2.1, HY.out.2.2]
      have hP1 := HP.out.on hb
      have HB1 := Lib.hid (b_nw (b_on HB.out hb) (.cells (ta n k []) 88))
      have sq := (TAt.made w1 0 0 []).st n k []
      rw [World.setRow_alloc_new] at sq
      have HP2 := Lib.hid (hP1.new (.cells (ta n k []) 88))
      clear hb hP1
      go_wp2_with (first | with_reducible refine wl_alloc ?_)
      refine (parse1_any s k _ hs m3 m4).mono ?_
      rintro e w2 ⟨ao, len, cap, rfl, _, hb⟩
      rw [HL.out, HF.out]
      have hP3 := HP2.out.on hb
      have sp := hP3.st 0 0 []
      have zp := (hP3.put 0 0 []).ld
      have hB3 := b_row (b_on HB1.out hb) (p := p) hpw (ta 0 0 [])
      clear hb hP3 sq
      go_wp2_with (first | with_reducible refine wl_build0 ?_)
      exact bodyPost_ret (v := .tuple #[.agg (ta 0 0 []), .int .i64 4]) (by simp [results, Tryz.results129, go_sem, zp]) rfl ⟨rfl, hB3⟩
    | true =>
      obtain ⟨N, hN⟩ : ∃ N, N = paN l := ⟨_, rfl⟩
      have hNk : (N : Int) ≤ k := by
        simp only [paF, Bool.and_eq_true, decide_eq_true_eq] at hf
        omega
      have HBAD := Lib.hid (show ∀ c, c < N → n ≤ paI l c → psN l n k = 0 ∧ psK l n k = 0 ∧ paM l n k = [] ∧ paE l n k = 4 from fun c hc hx => by
        have hE : paE l n k = 4 := pa_form hm (paB_bad (by rw [← hN]; exact hc) hx)
        obtain ⟨z1, z2⟩ := ps_bad (l := l) (n := n) (k := k) (by rw [hE]; decide)
        exact ⟨z1, z2, paM_no (by rw [hE]; decide), hE⟩)
      have HOK := Lib.hid (show (∀ c, c < N → paI l c < n) → psN l n k = n ∧ psK l n k = k ∧ paM l n k = paL l ∧ paE l n k = 0 from fun h => by
        have hE : paE l n k = 0 := pa_ok hm (paB_all hf (by rw [← hN]; exact h))
        obtain ⟨z1, z2⟩ := ps_ok (l := l) (n := n) (k := k) hE
        exact ⟨z1, z2, paM_ok hE, hE⟩)
      have HTK := Lib.hid (show ∀ c, c < N → (paL l).take (c + 1) = (paL l).take c ++ [paI l c] from fun c hc => paL_take l c (by rw [← hN]; exact hc))
      have HGD := Lib.hid (show ∀ c, c < N → (paL l).getD c 0 = paI l c from fun c hc => paL_getD l c (by rw [← hN]; exact hc))
      have HLEN := Lib.hid (show (paL l).length = N by rw [paL_length, hN])
      have HALL := Lib.hid (show (paL l).take N = paL l from List.take_of_length_le (by rw [HLEN.out]; exact Nat.le_refl _))
      have HGOOD := Lib.hid (show ∀ c, c ≤ N → (∀ j, j < c → paI l j < n) → Good n k ((paL l).take c) from fun c hc h => ⟨hm, by rw [List.length_take, HLEN.out]; omega, fun x hx => by
        obtain ⟨j, hj, e⟩ := List.mem_iff_getElem.1 hx
        rw [List.length_take, HLEN.out] at hj
        have e2 : x = paI l j := by
          rw [← e, List.getElem_take, ← HGD.out j (by omega), List.getD_eq_getElem?_getD, List.getElem?_eq_getElem (by rw [HLEN.out]; omega)]; rfl
        rw [e2]
        exact ⟨(paI_bd l j).1, h j (by omega)⟩⟩)
      have HF := Lib.hid hf
      have hN32 : N ≤ 32 := by omega
      clear hm hf hN
      go_enter Tryz.func129, Tryz.ntmps129
      go_wp2_with (first | with_reducible refine wl_alloc ?_)
      rw [← hp]
      clear hp
      refine (new_any n k _).mono ?_
      rintro e w1 ⟨rfl, hb⟩
      rw [HY.out.1, HY.out.2.1, HY.out.2.2]
      have hP1 := HP.out.on hb
      have hpq : p < w1.heap.size := hP1.lt
      have HB1 := Lib.hid (b_nw (b_on HB.out hb) (.cells (ta n k []) 88))
      have sq := (TAt.made w1 0 0 []).st n k []
      rw [World.setRow_alloc_new] at sq
      have HP2 := Lib.hid (hP1.new (.cells (ta n k []) 88))
      have hQ2 := TAt.made w1 n k []
      obtain ⟨q, hq⟩ : ∃ q, q = w1.heap.size := ⟨_, rfl⟩
      rw [← hq] at hQ2 hpq
      have HQ2 := Lib.hid hQ2
      have hqs : (w1.alloc (.cells (ta n k []) 88)).heap.size = q + 1 := by rw [hq]; simp
      have hqw : w.heap.size ≤ q := by omega
      clear hb hP1 hQ2
      go_wp2_with (first | with_reducible refine wl_alloc ?_)
      rw [← hq]
      clear hq
      refine (parse1_any s k _ hs m3 m4).mono ?_
      rintro e w2 ⟨ao, len, cap, rfl, hrow, hb⟩
      rw [HL.out, HF.out]
      rw [HL.out, hqs] at hrow
      obtain ⟨hrow, hlc, hnew⟩ := hrow HF.out
      obtain rfl : N = len := by rw [← hrow.len_eq, HLEN.out]
      have HP3 := Lib.hid (HP2.out.on hb)
      have HQ3 := Lib.hid (HQ2.out.on hb)
      have HB3 := Lib.hid (b_on HB1.out hb)
      have HR3 := Lib.hid hrow
      have HOF := Lib.hid (show ∀ a, ao = some a → a.block ≠ q ∧ a.block ≠ p from fun a ha => by have := hnew a ha; omega)
      clear hb sq hqs HP2 HQ2 HB1 HB HP hrow hnew
      go_wp2_with fail
      go_loopw [9, 35] (fun e i wr => ∃ c : Nat, c ≤ N ∧ i = .int .i64 c ∧ e = .int .i64 0 ∧ TAt wr q n k ((paL l).take c) ∧ TAt wr p 0 0 [] ∧ (∀ j, j < c → paI l j < n) ∧ Row .u64 wr ao N (paL l) ∧ Below w.heap.size w wr) (fun _ i _ => N - (intOf i).toNat)
      case atStart => exact ⟨0, Nat.zero_le _, rfl, rfl, HQ3.out, HP3.out, fun j hj => absurd hj (Nat.not_lt_zero _), HR3.out, HB3.out⟩
      case round =>
        obtain ⟨c, hc, rfl, rfl, hq, hp, hall, hr, hbr⟩ := hrel
        clear HP3 HQ3 HB3 HR3
        by_cases hlt : c < N
        · obtain ⟨b, off, rfl, hcell⟩ := hr.at_ (by omega)
          have ec := hcell c hlt
          rw [HGD.out c hlt] at ec
          obtain ⟨x, hx⟩ : ∃ x, x = paI l c := ⟨_, rfl⟩
          have hxb : 0 ≤ x ∧ x < 65536 := by rw [hx]; exact paI_bd l c
          rw [← hx] at ec
          obtain ⟨hx0, hx1⟩ := hxb
          have hwx : IntKind.i64.wrap x = x := IntWalk.i64_in _ (by omega)
          have HG := Lib.hid (HGOOD.out c hc hall)
          have HQ := Lib.hid hq
          have HP := Lib.hid hp
          have HR := Lib.hid hr
          have HB := Lib.hid hbr
          have HAL := Lib.hid hall
          have HX := Lib.hid hx
          have e0 := hq.ld
          have hlenc : ((paL l).take c).length = c := by rw [List.length_take, HLEN.out]; omega
          have HLC := Lib.hid hlenc
          clear hcell hx hq hp hr hbr hall hlenc
          go_wp2_with fail
          refine (move_any n k x _ _ HG.out).mono ?_
          rintro e w3 ⟨rfl, hb⟩
          have hQ3 := HQ.out.on hb
          have hP3 := HP.out.on hb
          have hR3 := HR.out.below hb (Nat.le_refl _)
          have hB3 := b_on HB.out hb
          by_cases hxn : x < n
          · have hE := mv_yes (n := n) (k := k) (m := (paL l).take c) hx0 hxn (by rw [HLC.out]; omega)
            obtain ⟨v1, v2, v3⟩ := mv_ok hE
            rw [v1, v2, v3, hE, HX.out, ← HTK.out c hlt]
            have sq := hQ3.st n k ((paL l).take (c + 1))
            have HQ4 := Lib.hid (hQ3.put n k ((paL l).take (c + 1)))
            have HP4 := Lib.hid (hP3.putOther (q := q) (by omega) (ta n k ((paL l).take (c + 1))))
            have HR4 := Lib.hid (Row.setRow hR3 (q := q) (fun a ha => (HOF.out a ha).1) (ta n k ((paL l).take (c + 1))))
            have HB4 := Lib.hid (b_row hB3 (p := q) hqw (ta n k ((paL l).take (c + 1))))
            clear hb hQ3 hP3 hR3 hB3 hE v1 v2 v3 e0 ec
            go_wp2_with fail
            go_roundw
            case rel =>
              refine ⟨c + 1, by omega, by go_num, rfl, HQ4.out, HP4.out, fun j hj => ?_, HR4.out, HB4.out⟩
              by_cases hjc : j < c
              · exact HAL.out j hjc
              · obtain rfl : j = c := by omega
                rw [← HX.out]; exact hxn
            case measure => simp [intOf]; omega
          · have hE := mv_no (n := n) (k := k) (m := (paL l).take c) (b := x) (by omega)
            obtain ⟨v1, v2, v3⟩ := mv_bad (n := n) (k := k) (m := (paL l).take c) (b := x) (by rw [hE]; decide)
            rw [v1, v2, v3, hE]
            obtain ⟨z1, z2, z3, z4⟩ := HBAD.out c hlt (by rw [← HX.out]; omega)
            have HZ := Lib.hid (And.intro z1 (And.intro z2 (And.intro z3 z4)))
            have sq := hQ3.st 0 0 []
            have hP4 := hP3.putOther (q := q) (by omega) (ta 0 0 [])
            have sp := hP4.st 0 0 []
            have zp := (hP4.put 0 0 []).ld
            have hB4 := b_row (b_row hB3 (p := q) hqw (ta 0 0 [])) (p := p) hpw (ta 0 0 [])
            clear hb hQ3 hP3 hR3 hB3 hP4 hE v1 v2 v3 z1 z2 z3 z4 e0 ec
            go_wp2_with (first | with_reducible refine wl_build0 ?_)
            exact bodyPost_ret (v := .tuple #[.agg (ta 0 0 []), .int .i64 4]) (by simp [results, Tryz.results129, go_sem, zp]) rfl ⟨by rw [HZ.out.1, HZ.out.2.1, HZ.out.2.2.1, HZ.out.2.2.2], hB4⟩
        · obtain rfl : c = N := by omega
          rw [HALL.out] at hq
          have e0 := hq.ld
          have sp := hp.st n k (paL l)
          have zp := (hp.put n k (paL l)).ld
          have hB4 := b_row hbr (p := p) hpw (ta n k (paL l))
          have HZ := Lib.hid (HOK.out hall)
          clear hq hp hr hbr hall
          go_wp2_with fail
          exact bodyPost_ret (v := .tuple #[.agg (ta n k (paL l)), .int .i64 0]) (by simp [results, Tryz.results129, go_sem, zp]) rfl ⟨by rw [HZ.out.1, HZ.out.2.1, HZ.out.2.2.1, HZ.out.2.2.2], hB4⟩
end Go.Proofs.YtflanjcfkdjpjaaGreatDoor.Tab


