/- Contracts of the reference of layer 3: New, of the law's shape. -/
import Derived.Deep.DeepCutAuto
import Derived.Deep.RegionWith
import Derived.Test.YtlnocdmechidfaaRefDevW
import Derived.Test.YtlnocdmechidfaaBytes
namespace Go.Proofs.Ytlnocdmechidfaa.Dev
open Go Go.RowKit Go.Proofs.Ytlnocdmechidfaa
set_option linter.unusedVariables false
theorem info_byte : (Try.prog.info? 5).map (fun i => (i.zero, i.size, i.bytes)) = some (some (.int .u8 0), 1, 1) := by kernel_rfl
theorem info_strg : (Try.prog.info? 9).map (fun i => (i.zero, i.size, i.bytes)) = some (some (.string ⟨#[]⟩), 1, 16) := by kernel_rfl
theorem info_bool : (Try.prog.info? 4).map (fun i => (i.zero, i.size, i.bytes)) = some (some (.bool false), 1, 1) := by kernel_rfl
theorem run_make_noughts (c : Nat) (hc : c ≤ 1000000) (w : World) :
    (Instr.makeSlice 71 (.int .i64 (c : Int)) (.int .i64 (c : Int))).run Try.prog w = .ok (.slice (some ⟨w.heap.size, 0, none⟩) c c) (w.alloc (.cells (List.replicate c (Value.int .u8 0)).toArray 5)) := by
  obtain ⟨i0, hi, hz0, hz1, hz2⟩ := info_parts info_byte
  have h := run_make (P := Try.prog) w 71 5 i0 _ Try.underlying71 hi hz0 .i64 .i64 c c (by omega) (Int.le_refl _) (by rw [hz2]; omega) (by omega)
  rw [hz1] at h
  simp only [Int.toNat_natCast, Nat.mul_one] at h
  have e2 : madeCells #[Value.int .u8 0] c = (List.replicate c (Value.int .u8 0)).toArray := by rw [← toList_madeCells_one]
  rw [show (Value.int .u8 0).cells = #[Value.int .u8 0] from rfl, e2] at h
  exact h
theorem run_string_noughts (c : Nat) (w : World) :
    (convert 71 9 (.slice (some ⟨w.heap.size, 0, none⟩) c c)).run Try.prog (w.alloc (.cells (List.replicate c (Value.int .u8 0)).toArray 5)) = .ok (.string (strOf (List.replicate c 0))) (w.alloc (.cells (List.replicate c (Value.int .u8 0)).toArray 5)) := by
  have hbr : BRow (w.alloc (.cells (List.replicate c (Value.int .u8 0)).toArray 5)) w.heap.size (List.replicate c 0) := by
    refine ⟨fun j hj => ?_, fun j hj => ?_⟩
    · rw [List.length_replicate] at hj
      simp [hj]
    · simp
  exact run_string_brow _ w.heap.size c c _ hbr (by simp)
theorem strOf_noughts : strOf (List.replicate 128 0) = noughts 128 := congrArg (fun l : List UInt8 => (⟨l.toArray⟩ : ByteArray)) (show List.replicate 128 (0 : UInt8) = Lib.repeatL [0] 128 by kernel_rfl)
/-- the cells of a device under construction -/
def rawC (v1 v2 : Value) : List Value := [.int .i64 128, v1, v2, .slice none 0 0, .int .i64 0, .int .i64 0, .int .i64 0, .int .i64 0, .bool false, .bool false, .int .i64 0, .int .i64 0, .int .i64 0]
structure Under (w : World) (p i k : Nat) (z : ByteArray) (v1 v2 : Value) (wr : World) : Prop where
  pe : p = w.heap.size
  main : Has wr p 52 (rawC v1 v2)
  r1 : wr.ownsRow (p + 1) 9 1 v1 i (List.replicate i (.string z))
  r2 : wr.ownsRow (p + 1) 4 1 v2 k (List.replicate k (.bool false))
  ne : ∀ q, v1.ownBlock = some q → v2.ownBlock ≠ some q
  bel : Below w.heap.size w wr
section
variable {w wr wn : World} {p i k : Nat} {z : ByteArray} {v1 v2 v' : Value}
theorem Under.far1 (h : Under w p i k z v1 v2 wr) : v1.ownBlock ≠ some p := fun e => by have := (h.r1.lt p e).1; omega
theorem Under.far2 (h : Under w p i k z v1 v2 wr) : v2.ownBlock ≠ some p := fun e => by have := (h.r2.lt p e).1; omega
/-- one more text -/
theorem Under.push1 (h : Under w p i k z v1 v2 wr) (o : Obj) (hown : wn.ownsRow (p + 1) 9 1 v' (i + 1) (List.replicate i (.string z) ++ [.string z])) (hg : (wr.alloc o).grownBy wn v1.ownBlock)
    (hat : v'.ownBlock = v1.ownBlock ∨ v'.ownBlock = some (wr.alloc o).heap.size) : Under w p (i + 1) k z v' v2 (wn.setCell ⟨p, 1, none⟩ v') := by
  have hp := h.main.lt
  have hm : Has wn p 52 (rawC v1 v2) := (h.main.alloc o).same (hg.block p (by simp; omega) (fun e => h.far1 e.symm))
  have hv' : v'.ownBlock ≠ some p := fun e => by have := (hown.lt p e).1; omega
  have h2 : wn.ownsRow (p + 1) 4 1 v2 k (List.replicate k (.bool false)) := owns_same (h.r2.alloc o) fun q hq =>
    hg.block q (by have := (h.r2.lt q hq).2; simp; omega) (fun e => h.ne q e.symm hq)
  refine ⟨h.pe, hm.set 1 v', ?_, ?_, ?_, ?_⟩
  · rw [List.replicate_succ']; exact ownsRow_setCell_other hown hv' _
  · exact ownsRow_setCell_other h2 h.far2 _
  · intro q hq hq2
    rcases hat with e | e
    · rw [e] at hq; exact h.ne q hq hq2
    · rw [e] at hq; have := (h.r2.lt q hq2).2; simp at hq; omega
  · have hpe := h.pe
    refine Below.setCell ?_ (by show w.heap.size ≤ p; omega) _
    exact (h.bel.alloc (by have := h.bel.size; omega) o).grown hg (by have := h.bel.size; simp; omega) (fun q hq => by have := (h.r1.lt q hq).1; omega)
/-- one more bad -/
theorem Under.push2 (h : Under w p i k z v1 v2 wr) (o : Obj) (hown : wn.ownsRow (p + 1) 4 1 v' (k + 1) (List.replicate k (.bool false) ++ [.bool false])) (hg : (wr.alloc o).grownBy wn v2.ownBlock)
    (hat : v'.ownBlock = v2.ownBlock ∨ v'.ownBlock = some (wr.alloc o).heap.size) : Under w p i (k + 1) z v1 v' (wn.setCell ⟨p, 2, none⟩ v') := by
  have hp := h.main.lt
  have hm : Has wn p 52 (rawC v1 v2) := (h.main.alloc o).same (hg.block p (by simp; omega) (fun e => h.far2 e.symm))
  have hv' : v'.ownBlock ≠ some p := fun e => by have := (hown.lt p e).1; omega
  have h2 : wn.ownsRow (p + 1) 9 1 v1 i (List.replicate i (.string z)) := owns_same (h.r1.alloc o) fun q hq =>
    hg.block q (by have := (h.r1.lt q hq).2; simp; omega) (fun e => h.ne q hq e.symm)
  refine ⟨h.pe, hm.set 2 v', ?_, ?_, ?_, ?_⟩
  · exact ownsRow_setCell_other h2 h.far1 _
  · rw [List.replicate_succ']; exact ownsRow_setCell_other hown hv' _
  · intro q hq hq2
    rcases hat with e | e
    · rw [e] at hq2; exact h.ne q hq hq2
    · rw [e] at hq2; have := (h.r1.lt q hq).2; simp at hq2; omega
  · have hpe := h.pe
    refine Below.setCell ?_ (by show w.heap.size ≤ p; omega) _
    exact (h.bel.alloc (by have := h.bel.size; omega) o).grown hg (by have := h.bel.size; simp; omega) (fun q hq => by have := (h.r2.lt q hq).1; omega)
theorem has_of_own {W : World} {base g n cap : Nat} {e : TypeId} {xs : List Value} (h : W.ownsRow base e 1 (.slice (some ⟨g, 0, none⟩) n cap) n xs) : ∃ t, Has W g e (xs ++ t) := by
  rcases h.2 with ⟨h', _⟩ | ⟨g', cap', cur, h', _, hg, _, _, _, htake⟩
  · simp at h'
  · simp only [Value.slice.injEq, Option.some.injEq, Addr.mk.injEq, and_true, true_and] at h'
    obtain ⟨rfl, rfl⟩ := h'
    refine ⟨cur.toList.drop (n * 1), ?_⟩
    unfold Has
    rw [← htake, List.take_append_drop, hg]
theorem Under.done (h : Under w p 9 9 z v1 v2 wr) (hz : z = noughts 128) : ∃ B, RefAt wr p B (.slice none 0 0) (Dv.fresh 9 128) ∧ w.heap.size ≤ B.mb ∧ w.heap.size ≤ B.bb := by
  subst hz
  obtain ⟨g1, cap1, rfl⟩ := ownsRow_succ (k := 8) h.r1
  obtain ⟨g2, cap2, rfl⟩ := ownsRow_succ (k := 8) h.r2
  obtain ⟨t1, h1⟩ := has_of_own h.r1
  obtain ⟨t2, h2⟩ := has_of_own h.r2
  have l1 := (h.r1.lt g1 rfl).1
  have l2 := (h.r2.lt g2 rfl).1
  have hpe := h.pe
  refine ⟨⟨g1, g2, cap1, cap2, t1, t2⟩, ⟨h.main, h1, h2, World.ownsRow_nil _ _ _ _, (show p ≠ g1 by omega), (show p ≠ g2 by omega), (fun e => h.ne g1 rfl (congrArg some e.symm)), by simp [Value.ownBlock], by simp [Value.ownBlock], by simp [Value.ownBlock], Dv.fresh_ok 9 128 (by omega) (by omega) (by omega) (by omega)⟩, (by show w.heap.size ≤ g1; omega), (by show w.heap.size ≤ g2; omega)⟩
end
set_option maxRecDepth 100000 in
set_option maxHeartbeats 4000000 in
theorem refnew_any (w : World) :
    Calls Try.prog 5 #[.int .i64 9, .int .i64 128] w fun e w' => ∃ p B, w.heap.size ≤ p ∧ w.heap.size ≤ B.mb ∧ w.heap.size ≤ B.bb ∧ e = .returned (.pointer (some ⟨p, 0, none⟩)) ∧ RefAt w' p B (.slice none 0 0) (Dv.fresh 9 128) ∧ Below w.heap.size w w' := by
  obtain ⟨p, hp⟩ : ∃ p, p = w.heap.size := ⟨_, rfl⟩
  obtain ⟨z, hz⟩ : ∃ z, z = noughts 128 := ⟨_, rfl⟩
  obtain ⟨Z, hZ⟩ : ∃ Z, Z = (List.replicate 128 (Value.int .u8 0)).toArray := ⟨_, rfl⟩
  have hmk : (Instr.makeSlice 71 (.int .i64 128) (.int .i64 128)).run Try.prog (w.alloc (.cells #[.int .i64 128, .slice none 0 0, .slice none 0 0, .slice none 0 0, .int .i64 0, .int .i64 0, .int .i64 0, .int .i64 0, .bool false, .bool false, .int .i64 0, .int .i64 0, .int .i64 0] 52)) = _ := run_make_noughts 128 (by omega) _
  have hcs := run_string_noughts 128 (w.alloc (.cells #[.int .i64 128, .slice none 0 0, .slice none 0 0, .slice none 0 0, .int .i64 0, .int .i64 0, .int .i64 0, .int .i64 0, .bool false, .bool false, .int .i64 0, .int .i64 0, .int .i64 0] 52))
  rw [strOf_noughts, ← hz, ← hZ, World.size_alloc] at hcs
  rw [← hZ, World.size_alloc] at hmk
  have HU0 := Lib.hid (show Under w p 0 0 z (.slice none 0 0) (.slice none 0 0) ((w.alloc (.cells #[.int .i64 128, .slice none 0 0, .slice none 0 0, .slice none 0 0, .int .i64 0, .int .i64 0, .int .i64 0, .int .i64 0, .bool false, .bool false, .int .i64 0, .int .i64 0, .int .i64 0] 52)).alloc (.cells Z 5)) from by
    rw [hp]
    exact ⟨rfl, (Has.new w (rawC (.slice none 0 0) (.slice none 0 0)) _).alloc _, World.ownsRow_nil _ _ _ _, World.ownsRow_nil _ _ _ _, (fun q hq => by cases hq), ((Below.refl _ _).alloc (Nat.le_refl _) _).alloc (by simp) _⟩)
  have HP := Lib.hid hp
  have HZ := Lib.hid hz
  clear hz hZ hp
  go_enter Try.func5, Try.ntmps5
  go_wp2_with fail
  rw [← HP.out]
  clear hmk hcs
  go_loopw [7] (fun i wr => ∃ (k : Nat) (v1 v2 : Value), k ≤ 9 ∧ i = .int .i64 k ∧ Under w p k k z v1 v2 wr) (fun i _ => 9 - (intOf i).toNat)
  case atStart => exact ⟨0, _, _, Nat.zero_le _, rfl, HU0.out⟩
  case round =>
    obtain ⟨k, v1, v2, hk, rfl, hu⟩ := hrel
    clear HU0
    by_cases hlt : k < 9
    · have hki : (k : Int) < 9 := by omega
      have hk9 : (k : Int) ≤ 9 := by omega
      have c1 : wr.cell? ⟨p, 1, none⟩ = some v1 := hu.main.cell 1
      have hr1 := hu.r1.alloc (.cells #[.string z] 9)
      have hp1 := hu.main.lt
      have hf1 := hu.main.frozen 1
      have HU := Lib.hid hu
      have HFAR := Lib.hid hu.far1
      clear hu
      obtain ⟨i0, hi, hz0, hz1, hz2⟩ := info_parts info_strg
      go_wp2_with (at_builtin; refine wpList_append_own_at _ rfl _ _ 48 rfl (p + 1) 9 i0 (.string ⟨#[]⟩) 1 16 Try.underlying48 hi hz0 hz1 hz2 rfl (by decide) _ _ _ rfl hr1 ⟨wr.heap.size, 0, none⟩ 1 1 [.string z] rfl rfl ?c1 ?c2 ?c3 ?c4 ?c5 ?_)
      case c1 =>
        intro j u hj
        match j, hj with
        | 0, hj => simp at hj; subst hj; simp [Addr.add]
      case c2 => intro u hu; simp at hu; subst hu; rfl
      case c3 => unfold maxLen; omega
      case c4 => omega
      case c5 => simp; omega
      intro v' w3 hown' hgrow _ hat
      obtain ⟨g', cap', rfl⟩ := ownsRow_succ hown'
      have hf3 : w3.frozen? ⟨p, 1, none⟩ = false := (World.frozen?_of_block (hgrow.block p (by simp; omega) (fun e => HFAR.out e.symm))).trans ((World.frozen?_of_block (Below.heap_alloc _ _ _ hp1)).trans hf1)
      have hc3 : w3.cell? ⟨p, 1, none⟩ = some v1 := (World.cell?_of_block (hgrow.block p (by simp; omega) (fun e => HFAR.out e.symm))).trans ((World.cell?_alloc_lt wr _ _ hp1).trans c1)
      have hu2 := HU.out.push1 _ hown' hgrow (by rw [World.size_alloc]; exact hat)
      obtain ⟨v3, hv3⟩ : ∃ v3, v3 = Value.slice (some ⟨g', 0, none⟩) (k + 1) cap' := ⟨_, rfl⟩
      obtain ⟨W4, hW4⟩ : ∃ W4, W4 = w3.setCell ⟨p, 1, none⟩ (Value.slice (some ⟨g', 0, none⟩) (k + 1) cap') := ⟨_, rfl⟩
      rw [← hW4, ← hv3] at hu2
      have HU2 := Lib.hid hu2
      have HW4 := Lib.hid hW4
      clear hown' hgrow hat hr1 hf1 c1 hp1 hu2 hW4 hv3
      go_upto_region 7 with fail
      rw [← HW4.out]
      clear hf3 hc3 HU HFAR
      have hu3 := HU2.out
      have c2 : W4.cell? ⟨p, 2, none⟩ = some v2 := hu3.main.cell 2
      have hr2 := hu3.r2.alloc (.cells #[.bool false] 4)
      have hp1 := hu3.main.lt
      have hf1 := hu3.main.frozen 2
      have HFAR := Lib.hid hu3.far2
      clear hu3 hi hz0 hz1 hz2
      obtain ⟨i1, hi, hz0, hz1, hz2⟩ := info_parts info_bool
      go_wp2_with (at_builtin; refine wpList_append_own_at _ rfl _ _ 49 rfl (p + 1) 4 i1 (.bool false) 1 1 Try.underlying49 hi hz0 hz1 hz2 rfl (by decide) _ _ _ rfl hr2 ⟨W4.heap.size, 0, none⟩ 1 1 [.bool false] rfl rfl ?c1 ?c2 ?c3 ?c4 ?c5 ?_)
      case c1 =>
        intro j u hj
        match j, hj with
        | 0, hj => simp at hj; subst hj; simp [Addr.add]
      case c2 => intro u hu; simp at hu; subst hu; rfl
      case c3 => unfold maxLen; omega
      case c4 => omega
      case c5 => simp; omega
      intro v5 w5 hown' hgrow _ hat
      obtain ⟨g5, cap5, rfl⟩ := ownsRow_succ hown'
      have hf3 : w5.frozen? ⟨p, 2, none⟩ = false := (World.frozen?_of_block (hgrow.block p (by simp; omega) (fun e => HFAR.out e.symm))).trans ((World.frozen?_of_block (Below.heap_alloc _ _ _ hp1)).trans hf1)
      have hc3 : w5.cell? ⟨p, 2, none⟩ = some v2 := (World.cell?_of_block (hgrow.block p (by simp; omega) (fun e => HFAR.out e.symm))).trans ((World.cell?_alloc_lt W4 _ _ hp1).trans c2)
      have HU3 := Lib.hid (HU2.out.push2 _ hown' hgrow (by rw [World.size_alloc]; exact hat))
      clear hown' hgrow hat hr2 hf1 c2 hp1 HU2
      go_wp2_with fail
      go_roundw
      case rel => exact ⟨k + 1, _, _, by omega, by simp, HU3.out⟩
      case measure => simp [intOf]; omega
    · obtain rfl : k = 9 := by omega
      have HU := Lib.hid hu
      clear hu
      go_wp2_with fail
      go_ret
      obtain ⟨B, h1, h2, h3⟩ := HU.out.done HZ.out
      exact ⟨p, B, by rw [HP.out]; exact Nat.le_refl _, h2, h3, rfl, h1, HU.out.bel⟩
end Go.Proofs.Ytlnocdmechidfaa.Dev
