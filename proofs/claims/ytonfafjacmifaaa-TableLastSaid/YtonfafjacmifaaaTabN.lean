/- Contracts of layer 6 (table): New, Blocks, Left, Gen, has, Move. -/
import Derived.Test.YtonfafjacmifaaaTabV
import Derived.Outline
import Derived.Deep.DeepCutAuto
namespace Go.Proofs.Ytonfafjacmifaaa.Tab
open Go.RowKit Go.Proofs.Ytonfafjacmifaaa Go.Proofs.Ytonfafjacmifaaa.Lend
set_option linter.unusedVariables false

set_option maxRecDepth 100000 in
theorem blocks_any (n k : Int) (m : List Int) (w : World) : Calls Try.prog 9 #[.agg (ta n k m)] w fun e w' => e = .returned (.int .i64 n) ∧ Below w.heap.size w w' := by
  have e0 := (TAt.made w n k m).c0
  go_enter Try.func9, Try.ntmps9
  go_wp2
  go_ret
  exact ⟨rfl, b_new _ _⟩
set_option maxRecDepth 100000 in
theorem left_any (n k : Int) (m : List Int) (w : World) (hk : 0 ≤ k) (hk2 : k ≤ 32) (hl : m.length ≤ 32) : Calls Try.prog 16 #[.agg (ta n k m)] w fun e w' => e = .returned (.int .i64 (k - m.length)) ∧ Below w.heap.size w w' := by
  obtain ⟨u, hu⟩ : ∃ u, u = m.length := ⟨_, rfl⟩
  have e1 := (TAt.made w n k m).c1
  have e2 := (TAt.made w n k m).c2
  rw [← hu] at e2 hl ⊢
  clear hu
  go_enter Try.func16, Try.ntmps16
  go_wp2
  go_ret
  exact ⟨rfl, b_new _ _⟩
set_option maxRecDepth 100000 in
theorem gen_any (n k : Int) (m : List Int) (w : World) (hl : m.length ≤ 32) : Calls Try.prog 20 #[.agg (ta n k m)] w fun e w' => e = .returned (.int .u64 m.length) ∧ Below w.heap.size w w' := by
  obtain ⟨u, hu⟩ : ∃ u, u = m.length := ⟨_, rfl⟩
  have e2 := (TAt.made w n k m).c2
  rw [← hu] at e2 hl ⊢
  have hw : IntKind.u64.wrap (u : Int) = u := by rw [wrap_u64]; omega
  clear hu
  go_enter Try.func20, Try.ntmps20
  go_wp2
  go_ret
  exact ⟨rfl, b_new _ _⟩

set_option maxRecDepth 100000 in
theorem has_any (n k b : Int) (m : List Int) (w : World) : Calls Try.prog 23 #[.agg (ta n k m), .int .i64 b] w fun e w' => e = .returned (.bool (atB n b)) ∧ Below w.heap.size w w' := by
  have e0 := (TAt.made w n k m).c0
  by_cases h0 : 0 ≤ b
  · by_cases h1 : b < n
    · rw [(at_yes (m := []) h0 h1).1]
      go_enter Try.func23, Try.ntmps23
      go_wp2
      go_ret
      exact ⟨rfl, b_new _ _⟩
    · have h1' : n ≤ b := by omega
      rw [(at_no (m := []) (n := n) (b := b) (.inr h1')).1]
      clear h1
      go_enter Try.func23, Try.ntmps23
      go_wp2
      go_ret
      exact ⟨ret_bool (by simp; omega), b_new _ _⟩
  · have h0' : b < 0 := by omega
    rw [(at_no (m := []) (n := n) (b := b) (.inl h0')).1]
    clear h0
    go_enter Try.func23, Try.ntmps23
    go_wp2
    go_ret
    exact ⟨rfl, b_new _ _⟩

/-- what New answers -/
def nwE (n k : Int) : Int := if mayB n k = true then 0 else 2
def nwN (n k : Int) : Int := if mayB n k = true then n else 0
def nwK (n k : Int) : Int := if mayB n k = true then k else 0
theorem nw_yes {n k : Int} (h : mayB n k = true) : nwE n k = 0 ∧ nwN n k = n ∧ nwK n k = k := ⟨by rw [nwE, if_pos h], by rw [nwN, if_pos h], by rw [nwK, if_pos h]⟩
theorem nw_no {n k : Int} (h : mayB n k = false) : nwE n k = 2 ∧ nwN n k = 0 ∧ nwK n k = 0 := by
  have h' : ¬ mayB n k = true := by rw [h]; decide
  exact ⟨by rw [nwE, if_neg h'], by rw [nwN, if_neg h'], by rw [nwK, if_neg h']⟩
/-- what Move's table is -/
def mvN (n k : Int) (m : List Int) (b : Int) : Int := if mvE n k m b = 0 then n else 0
def mvK (n k : Int) (m : List Int) (b : Int) : Int := if mvE n k m b = 0 then k else 0
def mvM (n k : Int) (m : List Int) (b : Int) : List Int := if mvE n k m b = 0 then m ++ [b] else []
theorem mv_ok {n k : Int} {m : List Int} {b : Int} (h : mvE n k m b = 0) : mvN n k m b = n ∧ mvK n k m b = k ∧ mvM n k m b = m ++ [b] := ⟨by rw [mvN, if_pos h], by rw [mvK, if_pos h], by rw [mvM, if_pos h]⟩
theorem mv_bad {n k : Int} {m : List Int} {b : Int} (h : mvE n k m b ≠ 0) : mvN n k m b = 0 ∧ mvK n k m b = 0 ∧ mvM n k m b = [] := ⟨by rw [mvN, if_neg h], by rw [mvK, if_neg h], by rw [mvM, if_neg h]⟩

/-! the operations at the table's type, its cells under one name -/
theorem built0 : (Try.prog).built 25 [] = some (ta 0 0 []) := by kernel_rfl
theorem built2 (n k : Int) : (Try.prog).built 25 [(0, .int .i64 n), (1, .int .i64 k)] = some (ta n k []) := by kernel_rfl
theorem wl_alloc {ops : Array Oper} {rest : List Oper} {dst : Option Tmp} {ty : TypeId} {pos : String} {after : Array Edge} {a : Act} {w : World} {Q : Exit → Act → World → Prop}
    (h : wpList Try.prog ops Q rest (a.put dst (.pointer (some ⟨w.heap.size, 0, none⟩))) (w.alloc (.cells (ta 0 0 []) 25))) : wpList Try.prog ops Q (⟨dst, .alloc 25, ty, pos, after, none⟩ :: rest) a w := by
  refine wpList_plain rfl fun K' hK' => ?_
  unfold Oper.wp
  simp [execOp, Instr.alloc, Result.andThen]
  exact hK' _ _ h
theorem wl_build0 {ops : Array Oper} {rest : List Oper} {dst : Option Tmp} {ty : TypeId} {pos : String} {after : Array Edge} {a : Act} {w : World} {Q : Exit → Act → World → Prop}
    (h : wpList Try.prog ops Q rest (a.put dst (.agg (ta 0 0 []))) w) : wpList Try.prog ops Q (⟨dst, .build 25 #[], ty, pos, after, none⟩ :: rest) a w := by
  refine wpList_plain rfl fun K' hK' => wp_build 25 #[] rfl ?_ ?_
  · simp only [List.map_toArray, List.map_nil, built0]; rfl
  · simp only [List.map_toArray, List.map_nil, built0]; exact hK' _ _ h
theorem wl_build2 {ops : Array Oper} {rest : List Oper} {dst : Option Tmp} {ty : TypeId} {pos : String} {after : Array Edge} {a : Act} {w : World} {Q : Exit → Act → World → Prop} {x y : Operand} (n k : Int)
    (hx : a.eval x = .int .i64 n) (hy : a.eval y = .int .i64 k)
    (h : wpList Try.prog ops Q rest (a.put dst (.agg (ta n k []))) w) : wpList Try.prog ops Q (⟨dst, .build 25 #[(0, x), (1, y)], ty, pos, after, none⟩ :: rest) a w := by
  refine wpList_plain rfl fun K' hK' => wp_build 25 #[(0, x), (1, y)] rfl ?_ ?_
  · simp only [List.map_toArray, List.map_cons, List.map_nil, hx, hy, built2]; rfl
  · simp only [List.map_toArray, List.map_cons, List.map_nil, hx, hy, built2]; exact hK' _ _ h

set_option maxRecDepth 100000 in
theorem new_any (n k : Int) (w : World) : Calls Try.prog 7 #[.int .i64 n, .int .i64 k] w fun e w' => e = .returned (.tuple #[.agg (ta (nwN n k) (nwK n k) []), .int .i64 (nwE n k)]) ∧ Below w.heap.size w w' := by
  have z0 := (TAt.made w 0 0 []).ld
  have s0 := (TAt.made w 0 0 []).st 0 0 []
  have s1 := (TAt.made w 0 0 []).st n k []
  have z1 := ((TAt.made w 0 0 []).put n k []).ld
  rw [World.setRow_alloc_new] at s0 s1 z1
  by_cases h : mayB n k = true
  · obtain ⟨g1, g2, g3, g4⟩ := mayB_parts h
    obtain ⟨y1, y2, y3⟩ := nw_yes h
    rw [y1, y2, y3]
    clear h y1 y2 y3
    go_enter Try.func7, Try.ntmps7
    go_wp2_with (first | with_reducible refine wl_alloc ?_ | with_reducible refine wl_build0 ?_ | (refine wl_build2 n k rfl rfl ?_))
    exact bodyPost_ret (v := .tuple #[.agg (ta n k []), .int .i64 0]) (by simp [results, Try.results7, go_sem, z1]) rfl ⟨rfl, b_new _ _⟩
  · have h' : mayB n k = false := by simpa using h
    obtain ⟨y1, y2, y3⟩ := nw_no h'
    rw [y1, y2, y3]
    have hno : n < 1 ∨ 4096 < n ∨ k < 0 ∨ 32 < k := by
      by_cases a1 : n < 1; · exact .inl a1
      by_cases a2 : 4096 < n; · exact .inr (.inl a2)
      by_cases a3 : k < 0; · exact .inr (.inr (.inl a3))
      by_cases a4 : 32 < k; · exact .inr (.inr (.inr a4))
      exact absurd (mayB_of (by omega) (by omega) (by omega) (by omega)) h
    clear h h' y1 y2 y3
    by_cases a1 : n < 1
    · clear hno
      go_enter Try.func7, Try.ntmps7
      go_wp2_with (first | with_reducible refine wl_alloc ?_ | with_reducible refine wl_build0 ?_)
      all_goals exact bodyPost_ret (v := .tuple #[.agg (ta 0 0 []), .int .i64 2]) (by simp [results, Try.results7, go_sem, z0]) rfl ⟨rfl, b_new _ _⟩
    by_cases a2 : 4096 < n
    · clear hno
      go_enter Try.func7, Try.ntmps7
      go_wp2_with (first | with_reducible refine wl_alloc ?_ | with_reducible refine wl_build0 ?_)
      all_goals exact bodyPost_ret (v := .tuple #[.agg (ta 0 0 []), .int .i64 2]) (by simp [results, Try.results7, go_sem, z0]) rfl ⟨rfl, b_new _ _⟩
    by_cases a3 : k < 0
    · clear hno
      go_enter Try.func7, Try.ntmps7
      go_wp2_with (first | with_reducible refine wl_alloc ?_ | with_reducible refine wl_build0 ?_)
      all_goals exact bodyPost_ret (v := .tuple #[.agg (ta 0 0 []), .int .i64 2]) (by simp [results, Try.results7, go_sem, z0]) rfl ⟨rfl, b_new _ _⟩
    have a4 : 32 < k := by omega
    clear hno
    go_enter Try.func7, Try.ntmps7
    go_wp2_with (first | with_reducible refine wl_alloc ?_ | with_reducible refine wl_build0 ?_)
    all_goals exact bodyPost_ret (v := .tuple #[.agg (ta 0 0 []), .int .i64 2]) (by simp [results, Try.results7, go_sem, z0]) rfl ⟨rfl, b_new _ _⟩

set_option maxRecDepth 100000 in
set_option maxHeartbeats 1000000 in
theorem move_any (n k b : Int) (m : List Int) (w : World) (hg : Good n k m) : Calls Try.prog 12 #[.agg (ta n k m), .int .i64 b] w fun e w' => e = .returned (.tuple #[.agg (ta (mvN n k m b) (mvK n k m b) (mvM n k m b)), .int .i64 (mvE n k m b)]) ∧ Below w.heap.size w w' := by
  obtain ⟨g1, g2, g3, g4, g5⟩ := hg.bd
  have hglen := hg.len
  have hT0 := (TAt.made w n k m).new (.cells (ta 0 0 []) 25)
  have hR0 := TAt.made (w.alloc (.cells (ta n k m) 25)) 0 0 []
  have hB0 := b_nw (b_new w (.cells (ta n k m) 25)) (.cells (ta 0 0 []) 25)
  obtain ⟨p, hp⟩ : ∃ p, p = w.heap.size := ⟨_, rfl⟩
  have hq : (w.alloc (.cells (ta n k m) 25)).heap.size = p + 1 := by simp [hp]
  have hpw : w.heap.size ≤ p + 1 := by omega
  have hpq : w.heap.size ≤ p := by omega
  rw [hq] at hR0
  have e0 := hT0.ld
  rw [← hp] at hT0
  have HT := Lib.hid hT0
  have HR := Lib.hid hR0
  have HB := Lib.hid hB0
  clear hT0 hR0 hB0 hq
  by_cases hin : b < 0 ∨ n ≤ b
  · have hE := mv_no (k := k) (m := m) hin
    obtain ⟨y1, y2, y3⟩ := mv_bad (n := n) (k := k) (m := m) (b := b) (by rw [hE]; decide)
    have HA := Lib.hid (at_no (m := m) hin).1
    rw [y1, y2, y3, hE]
    clear hE y1 y2 y3 hin
    go_enter Try.func12, Try.ntmps12
    go_wp2_with (first | with_reducible refine wl_alloc ?_)
    rw [← hp]
    clear hp
    refine (has_any n k b m _).mono ?_
    rintro e w1 ⟨rfl, hb⟩
    have HT1 := Lib.hid (HT.out.on hb)
    have HR1 := Lib.hid (HR.out.on hb)
    have HB1 := Lib.hid (b_on HB.out hb)
    clear hb e0 HT HR HB
    rw [HA.out]
    have s0 := HR1.out.st 0 0 []
    have z0 := (HR1.out.put 0 0 []).ld
    have hB := b_row HB1.out (p := p + 1) hpw (ta 0 0 [])
    go_wp2_with (first | with_reducible refine wl_build0 ?_)
    exact bodyPost_ret (v := .tuple #[.agg (ta 0 0 []), .int .i64 3]) (by simp [results, Try.results12, go_sem, z0]) rfl ⟨rfl, hB⟩
  · obtain ⟨b1, b2⟩ : 0 ≤ b ∧ b < n := by omega
    have HA := Lib.hid (at_yes (m := m) b1 b2).1
    by_cases hk : (m.length : Int) < k
    · have hE := mv_yes (n := n) (k := k) (m := m) b1 b2 hk
      obtain ⟨y1, y2, y3⟩ := mv_ok hE
      rw [hE, y1, y2, y3]
      clear hE y1 y2 y3 hin
      go_enter Try.func12, Try.ntmps12
      go_wp2_with (first | with_reducible refine wl_alloc ?_)
      rw [← hp]
      clear hp
      refine (has_any n k b m _).mono ?_
      rintro e w1 ⟨rfl, hb⟩
      have HT1 := Lib.hid (HT.out.on hb)
      have HR1 := Lib.hid (HR.out.on hb)
      have HB1 := Lib.hid (b_on HB.out hb)
      clear hb e0 HT HR HB
      rw [HA.out]
      have e0 := HT1.out.ld
      go_wp2_with fail
      refine (left_any n k m _ g3 g4 g5).mono ?_
      rintro e w2 ⟨rfl, hb⟩
      have HT2 := Lib.hid (HT1.out.on hb)
      have HR2 := Lib.hid (HR1.out.on hb)
      have HB2 := Lib.hid (b_on HB1.out hb)
      clear hb e0 HT1 HR1 HB1
      obtain ⟨u, hu⟩ : ∃ u, u = m.length := ⟨_, rfl⟩
      have hP := HT2.out.push b (by omega)
      have hRP := (HR2.out.setOther (a := ⟨p, 3 + m.length, none⟩) (by simp) (.int .i64 b)).setOther (a := ⟨p, 2, none⟩) (by simp) (.int .i64 (m.length + 1 : Int))
      have s0 := hRP.st n k (m ++ [b])
      have z0 := (hRP.put n k (m ++ [b])).ld
      have e0 := hP.ld
      have e2 := HT2.out.c2
      have e3 := HT2.out.cm m.length (by omega)
      have fz2 := Has.frozen HT2.out 2
      have fz3 := Has.frozen HT2.out (3 + m.length)
      have hB := b_row ((HB2.out.setCell (p := ⟨p, 3 + m.length, none⟩) (by exact hpq) (.int .i64 b)).setCell (p := ⟨p, 2, none⟩) (by exact hpq) (.int .i64 (m.length + 1 : Int))) (p := p + 1) hpw (ta n k (m ++ [b]))
      have hu32 : m.length < 32 := by omega
      rw [← hu] at hk s0 z0 e0 e2 e3 fz3 hu32 hglen g5 hB ⊢
      clear hP hRP hu
      go_wp2_with fail
      exact bodyPost_ret (v := .tuple #[.agg (ta n k (m ++ [b])), .int .i64 0]) (by simp [results, Try.results12, go_sem, z0]) rfl ⟨rfl, hB⟩
    · have hE := mv_full (n := n) (k := k) (m := m) b1 b2 (by omega)
      obtain ⟨y1, y2, y3⟩ := mv_bad (n := n) (k := k) (m := m) (b := b) (by rw [hE]; decide)
      rw [hE, y1, y2, y3]
      clear hE y1 y2 y3 hin
      go_enter Try.func12, Try.ntmps12
      go_wp2_with (first | with_reducible refine wl_alloc ?_)
      rw [← hp]
      clear hp
      refine (has_any n k b m _).mono ?_
      rintro e w1 ⟨rfl, hb⟩
      have HT1 := Lib.hid (HT.out.on hb)
      have HR1 := Lib.hid (HR.out.on hb)
      have HB1 := Lib.hid (b_on HB.out hb)
      clear hb e0 HT HR HB
      rw [HA.out]
      have e0 := HT1.out.ld
      go_wp2_with fail
      refine (left_any n k m _ g3 g4 g5).mono ?_
      rintro e w2 ⟨rfl, hb⟩
      have HR2 := Lib.hid (HR1.out.on hb)
      have HB2 := Lib.hid (b_on HB1.out hb)
      clear hb e0 HT1 HR1 HB1
      have hk0 : k - (m.length : Int) = 0 := by omega
      rw [hk0]
      have s0 := HR2.out.st 0 0 []
      have z0 := (HR2.out.put 0 0 []).ld
      have hB := b_row HB2.out (p := p + 1) hpw (ta 0 0 [])
      clear hk0 hk
      go_wp2_with (first | with_reducible refine wl_build0 ?_)
      exact bodyPost_ret (v := .tuple #[.agg (ta 0 0 []), .int .i64 9]) (by simp [results, Try.results12, go_sem, z0]) rfl ⟨rfl, hB⟩
end Go.Proofs.Ytonfafjacmifaaa.Tab
