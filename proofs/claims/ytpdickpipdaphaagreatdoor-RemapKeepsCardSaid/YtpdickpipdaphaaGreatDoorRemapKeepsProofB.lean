/-
  The law RemapKeeps holds: whatever is written, moved and flushed, and whichever sectors are bad from some time on, each side's block reads what was written to it last, but where it is bad or was moved since; a pair that is opened anew has the tables that it had. Conditions: none but the row's own.
-/
import Derived.Test.YtpdickpipdaphaaGreatDoorRows
import Derived.Test.YtpdickpipdaphaaGreatDoorK12
import Derived.Test.YtpdickpipdaphaaGreatDoorK13
import Derived.Test.YtpdickpipdaphaaGreatDoorK01
import Derived.Test.YtpdickpipdaphaaGreatDoorCards
import Derived.Test.YtpdickpipdaphaaGreatDoorTie
import Derived.WalkKit
import Derived.ProofKit
import Derived.OpenShut
import Derived.ShutString
import Derived.ChangeOld
import Derived.Below
import Derived.Carry
import Derived.Deep.DeepHandedRow
import Derived.Lib.LaidTab
namespace Go.Proofs.YtpdickpipdaphaaGreatDoor.remapKeeps
open Go.ChangeShapes Go.WideShapes Go.ChangeAt Go.RowKit
open Go.Proofs.YtpdickpipdaphaaGreatDoor
open Go.ChangeMaps (open_string shut_string)
set_option linter.unusedVariables false

theorem own : ownKnob Tryz.prog.godebug = none := by kernel_rfl
theorem laidOut : laidOutB Tryz.prog = true := by kernel_rfl

/-- the elements of argument 0 -/
def AR0 (w : World) (a : Option Addr) (len : Nat) : Prop := 0 < len → ∃ b off, a = some ⟨b, off, none⟩ ∧ ∀ i, i < len → ∃ (x0 : Int) (x1 : Int) (x2 : Int) (x3 : ByteArray), w.cell? ⟨b, off + (i * 4 + 0), none⟩ = some (.int .i64 x0) ∧ (Lit.int .i64 x0).wf = true ∧ w.cell? ⟨b, off + (i * 4 + 1), none⟩ = some (.int .i64 x1) ∧ (Lit.int .i64 x1).wf = true ∧ w.cell? ⟨b, off + (i * 4 + 2), none⟩ = some (.int .i64 x2) ∧ (Lit.int .i64 x2).wf = true ∧ w.cell? ⟨b, off + (i * 4 + 3), none⟩ = some (.string x3) ∧ x3.size ≤ maxLen
theorem open_AR0 {H : Type} {enc : TypeId × Value → H} {w : World} {held : Bool} {c : Value} (h : ∃ m y, DataW.trod enc Tryz.prog w 0 (fun _ => true) held m 22 [c] = some y) :
    ∃ a len cap, c = .slice a len cap ∧ AR0 w a len ∧ len ≤ cap ∧ cap ≤ maxLen := by
  obtain ⟨a, len, cap, hc, hl, hm, hx⟩ := open_structs Tryz.underlying22 Tryz.underlying30 (by kernel_rfl) (by kernel_rfl) (by decide) h
  refine ⟨a, len, cap, hc, fun hpos => ?_, hl, hm⟩
  obtain ⟨b, off, ha, hf⟩ := hx hpos
  refine ⟨b, off, ha, fun i hi => ?_⟩
  obtain ⟨v0, hc0, ht0⟩ := hf i hi 0 _ rfl
  obtain ⟨x0, rfl, hw0⟩ := open_int_cell Tryz.underlying3 ht0
  obtain ⟨v1, hc1, ht1⟩ := hf i hi 1 _ rfl
  obtain ⟨x1, rfl, hw1⟩ := open_int_cell Tryz.underlying3 ht1
  obtain ⟨v2, hc2, ht2⟩ := hf i hi 2 _ rfl
  obtain ⟨x2, rfl, hw2⟩ := open_int_cell Tryz.underlying3 ht2
  obtain ⟨v3, hc3, ht3⟩ := hf i hi 3 _ rfl
  obtain ⟨x3, rfl, hw3⟩ := open_str_cell Tryz.underlying9 ht3
  exact ⟨x0, x1, x2, x3, hc0, hw0, hc1, hw1, hc2, hw2, hc3, hw3⟩

open Go.Proofs.YtpdickpipdaphaaGreatDoor.Rem Go.Proofs.YtpdickpipdaphaaGreatDoor.Dev
open Go.Proofs.YtpdickpipdaphaaGreatDoor.Tab (at_yes owns_map_on owns_map_same)
theorem run_minC (P : Program) (w : World) (t : TypeId) (ts : Array TypeId) (a c : Nat) : (Builtin.min_ ts t #[.int .i64 (a : Nat), .int .i64 (c : Nat)]).run P w = .ok (.int .i64 ((min a c : Nat) : Int)) w := by
  have e : ∀ a b : Nat, (if (b : Int) < a then (b : Int) else a) = ((min a b : Nat) : Int) := by intro a b; split <;> omega
  simp only [Builtin.min_, Builtin.min2, List.foldlM, Sem.run_bind, Sem.run_pure, Result.andThen]
  rw [e]

/-! ### STEP 1: THE WALK -/
set_option maxHeartbeats 8000000 in
set_option maxRecDepth 100000 in
theorem walk (a0 : Option Addr) (a0l a0c : Nat) (w : World) (w0 : AR0 w a0 a0l) (w0l : a0l ≤ a0c) (w0m : a0c ≤ maxLen) :
    Calls Tryz.prog 3 #[.slice a0 a0l a0c] w fun e w' => e = .returned (.bool true) ∧ Below w.heap.size w w' := by
  unfold maxLen at w0m
  have hmm := @run_makeMap Tryz.prog
  go_enter Tryz.func3, Tryz.ntmps3
  go_wp2_with fail
  refine (fresh_any w).mono ?_
  rintro e w1 ⟨pa, pb, q0, S0, rfl, hc, h0, h1⟩
  have HC := Lib.hid hc
  have HSP := Lib.hid (show ∀ t, t < 2 → Spare (S0 t) from fun t ht => by
    by_cases h : t = 0
    · rw [h]; exact h0.spare
    · rw [show t = 1 by omega]; exact h1.spare)
  clear hc h0 h1
  go_wp2_with fail
  refine (wakes_any _).mono ?_
  rintro e w2 ⟨rfl, hb⟩
  have hc2 := HC.out.later hb
  have hmade := World.ownsMap_made (H := Unit) w2 Tryz.prog 32 (plainElem (H := Unit) Tryz.prog 9)
  have hc3 := hc2.new (.map #[] 0)
  obtain ⟨mb, hmb⟩ : ∃ b, b = w2.heap.size := ⟨_, rfl⟩
  rw [← hmb] at hmade hc3
  have HM := Lib.hid hmade
  have HC3 := Lib.hid hc3
  obtain ⟨mm, hm⟩ : ∃ mm, mm = min a0l 40 := ⟨_, rfl⟩
  have hmin : ∀ W ts, (Builtin.min_ ts 3 #[.int .i64 (a0l : Nat), .int .i64 40]).run Tryz.prog W = .ok (.int .i64 (mm : Int)) W := by
    intro W ts; rw [hm]; exact run_minC _ _ _ _ a0l 40
  have hml : mm ≤ a0l := by omega
  have hml' : mm ≤ a0c := by omega
  have hm40 : mm ≤ 40 := by omega
  clear hm hmade hc3 hc2 hb HC
  go_wp2_with fail
  rw [← hmb]
  clear hmin hmb
  go_loopw [5, 46] (fun p i wr => ∃ (c n q : Nat) (S : Nat → Sd) (D : DataW Unit), c ≤ mm ∧ i = .int .i64 c ∧ p = .pointer (some ⟨q, 0, none⟩) ∧ n ≤ c ∧ Kn S D ∧ (∀ t, t < 2 → Spare (S t)) ∧ wr.ownsMap Tryz.prog 32 (plainElem (H := Unit) Tryz.prog 9) mb n D ∧ CP w [mb] q (pdOf pa pb) S (4 + 4 * c) wr) (fun _ i _ => mm - (intOf i).toNat)
  case atStart => exact ⟨0, 0, q0, S0, _, Nat.zero_le _, rfl, rfl, Nat.le_refl _, Kn.start S0, HSP.out, HM.out, HC3.out⟩
  case round =>
    obtain ⟨c, n, q, S, D, hc, rfl, rfl, hn, hkn, hsp, hmp, hcp⟩ := hrel
    clear HM HC3 HSP
    have HKN := Lib.hid hkn
    have HSP := Lib.hid hsp
    by_cases hlt : c < mm
    · have hti : (c : Int) < (mm : Int) := by omega
      obtain ⟨ab, off, rfl, hel⟩ := w0 (by omega)
      obtain ⟨x0, x1, x2, x3, d0, f0, d1, f1, d2, f2, d3, f3⟩ := hel c (by omega)
      have hbel := hcp.below
      have c0 : wr.cell? ⟨ab, off + c * 4, none⟩ = some (.int .i64 x0) := (hbel.cell (World.block_lt_of_cell? _ _ d0)).trans d0
      have c1 : wr.cell? ⟨ab, off + c * 4 + 1, none⟩ = some (.int .i64 x1) := by rw [Nat.add_assoc, hbel.cell (World.block_lt_of_cell? _ _ d1)]; exact d1
      have c2 : wr.cell? ⟨ab, off + c * 4 + 2, none⟩ = some (.int .i64 x2) := by rw [Nat.add_assoc, hbel.cell (World.block_lt_of_cell? _ _ d2)]; exact d2
      have c3 : wr.cell? ⟨ab, off + c * 4 + 3, none⟩ = some (.string x3) := by rw [Nat.add_assoc, hbel.cell (World.block_lt_of_cell? _ _ d3)]; exact d3
      clear d0 d1 d2 d3 f0 f1 f2 hel hbel
      obtain ⟨dl, hdl⟩ : ∃ x, x = min x3.size 100 := ⟨_, rfl⟩
      have hmin3 : min (x3.size : Int) 100 = (dl : Int) := by omega
      have hdl1 : dl ≤ x3.size := by omega
      have hdl2 : dl ≤ 100 := by omega
      have hdl3 : (dl : Int) ≤ (x3.size : Int) := by omega
      obtain ⟨M0, hM0⟩ : ∃ M : Nat, M = (max 0 x0).toNat := ⟨_, rfl⟩
      obtain ⟨M1, hM1⟩ : ∃ M : Nat, M = (max 0 x1).toNat := ⟨_, rfl⟩
      obtain ⟨M2, hM2⟩ : ∃ M : Nat, M = (max 0 x2).toNat := ⟨_, rfl⟩
      have hmax0 : max (0 : Int) x0 = (M0 : Int) := by omega
      have hmax1 : max (0 : Int) x1 = (M1 : Int) := by omega
      have hmax2 : max (0 : Int) x2 = (M2 : Int) := by omega
      obtain ⟨r, hr⟩ : ∃ q : Nat, q = M0 % 8 := ⟨_, rfl⟩
      obtain ⟨s, hs⟩ : ∃ q : Nat, q = M1 % 2 := ⟨_, rfl⟩
      obtain ⟨b, hb⟩ : ∃ q : Nat, q = M2 % 12 := ⟨_, rfl⟩
      have hr8 : r < 8 := by omega
      have hs2 : s < 2 := by omega
      have hb12 : b < 12 := by omega
      have hmod0 : Int.tmod (M0 : Int) 8 = (r : Int) := by rw [hr]; rfl
      have hmod1 : Int.tmod (M1 : Int) 2 = (s : Int) := by rw [hs]; rfl
      have hmod2 : Int.tmod (M2 : Int) 12 = (b : Int) := by rw [hb]; rfl
      have HX := Lib.hid (And.intro hmax0 (And.intro hmax1 (And.intro hmax2 (And.intro hmod0 (And.intro hmod1 hmod2)))))
      obtain ⟨x4, hx4⟩ : ∃ x, x = x3.extract 0 dl := ⟨_, rfl⟩
      have hx4s : x4.size ≤ 1000000 := by rw [hx4]; simp; omega
      have HX4 := Lib.hid hx4
      obtain ⟨td, htd⟩ : ∃ t, t = fullN x4 := ⟨_, rfl⟩
      have HTD := Lib.hid htd
      have HTS := Lib.hid (show td.size = 128 by rw [htd]; exact fullN_size _)
      have h9 := Has.new wr [.int .i64 x0, .int .i64 x1, .int .i64 x2, .string x3] 30
      have hc9 := hcp.new (.cells #[.int .i64 x0, .int .i64 x1, .int .i64 x2, .string x3] 30)
      have hm9 := owns_map_on hmp (Tab.b_new wr (.cells #[.int .i64 x0, .int .i64 x1, .int .i64 x2, .string x3] 30))
      obtain ⟨b9, hb9⟩ : ∃ b, b = wr.heap.size := ⟨_, rfl⟩
      obtain ⟨W, hW⟩ : ∃ W, W = wr.alloc (.cells #[.int .i64 x0, .int .i64 x1, .int .i64 x2, .string x3] 30) := ⟨_, rfl⟩
      rw [← hW] at h9 hc9 hm9
      rw [← hb9] at h9 hc9
      have H9 := Lib.hid h9
      have HC9 := Lib.hid hc9
      have HM9 := Lib.hid hm9
      clear h9 hc9 hm9 hcp hmp hkn hsp hM0 hM1 hM2 hr hs hb hdl hx4 htd hmax0 hmax1 hmax2 hmod0 hmod1 hmod2
      go_upto_region 8 with fail
      rw [← hW, ← hb9]
      clear hW hb9 c0 c1 c2 c3
      go_cut [10, 11, 12] (fun x y z wx => x = .int .i64 (s : Nat) ∧ y = .int .i64 (b : Nat) ∧ z = .string td ∧ Below W.heap.size W wx)
      case first =>
        refine Reg.region_vals (by kernel_rfl) [(50, .pointer (some ⟨b9, 1, none⟩)), (51, .int .i64 x1), (52, .int .i64 (M1 : Nat)), (53, .int .i64 (s : Nat)), (54, .pointer (some ⟨b9, 2, none⟩)), (55, .int .i64 x2), (56, .int .i64 (M2 : Nat)), (57, .int .i64 (b : Nat)), (58, .pointer (some ⟨b9, 3, none⟩)), (59, .string x3), (60, .pointer (some ⟨b9, 3, none⟩)), (61, .string x3), (62, .int .i64 (x3.size : Nat)), (63, .int .i64 (dl : Nat)), (64, .string x4), (65, .string td), (10, .int .i64 (s : Nat)), (11, .int .i64 (b : Nat)), (12, .string td)] (fun l wy => Below W.heap.size W wy) (by kernel_rfl) (by kernel_rfl) (by kernel_rfl) ((Below.refl _ _).drew) ⟨?_, ?_, ?_, ?_, ?_, ?_, ?_, ?_, ?_, ?_, ?_, ?_, ?_, ?_, ?_, ?_, ?_, ?_, ?_, trivial⟩ ?hend
        · -- 0: 50 := Op.fieldAddr 30 t9 1
          intro aq wq lq hI hl hdone hlater hold hd ho
          have h9 : aq.tmps.getD 9 undef = .pointer (some ⟨b9, 0, none⟩) := ho 9 (by kernel_rfl)
          clear hd ho hdone hlater hold
          rw [Array.getD_eq_getD_getElem?] at h9
          refine Reg.step2_val (.pointer (some ⟨b9, 1, none⟩)) ?_ rfl hI trivial
          go_simp
        · -- 1: 51 := Op.load 3 t50
          intro aq wq lq hI hl hdone hlater hold hd ho
          have h50 : aq.tmps.getD 50 undef = .pointer (some ⟨b9, 1, none⟩) := hd 50 (by kernel_rfl)
          clear hd ho hdone hlater hold
          rw [Array.getD_eq_getD_getElem?] at h50
          have c1 := (H9.out.below hI H9.out.lt).cell 1
          simp only [List.getElem?_cons_zero, List.getElem?_cons_succ] at c1
          refine Reg.step2_val (.int .i64 x1) ?_ rfl hI trivial
          go_simp
        · -- 2: 52 := Op.call ( builtin max, args := #(const (0:i64), t51), argTyp
          intro aq wq lq hI hl hdone hlater hold hd ho
          have h51 : aq.tmps.getD 51 undef = .int .i64 x1 := hd 51 (by kernel_rfl)
          clear hd ho hdone hlater hold
          rw [Array.getD_eq_getD_getElem?] at h51
          refine Reg.step2_val (.int .i64 (M1 : Nat)) ?_ rfl hI trivial
          simp [execOp]
          go_simp
          exact HX.out.2.1
        · -- 3: 53 := Op.binOp BinOp.rem 3 t52 (const (2:i64)) 3
          intro aq wq lq hI hl hdone hlater hold hd ho
          have h52 : aq.tmps.getD 52 undef = .int .i64 (M1 : Nat) := hd 52 (by kernel_rfl)
          clear hd ho hdone hlater hold
          rw [Array.getD_eq_getD_getElem?] at h52
          refine Reg.step2_val (.int .i64 (s : Nat)) ?_ rfl hI trivial
          simp [execOp]
          go_simp
          exact HX.out.2.2.2.2.1
        · -- 4: 54 := Op.fieldAddr 30 t9 2
          intro aq wq lq hI hl hdone hlater hold hd ho
          have h9 : aq.tmps.getD 9 undef = .pointer (some ⟨b9, 0, none⟩) := ho 9 (by kernel_rfl)
          clear hd ho hdone hlater hold
          rw [Array.getD_eq_getD_getElem?] at h9
          refine Reg.step2_val (.pointer (some ⟨b9, 2, none⟩)) ?_ rfl hI trivial
          go_simp
        · -- 5: 55 := Op.load 3 t54
          intro aq wq lq hI hl hdone hlater hold hd ho
          have h54 : aq.tmps.getD 54 undef = .pointer (some ⟨b9, 2, none⟩) := hd 54 (by kernel_rfl)
          clear hd ho hdone hlater hold
          rw [Array.getD_eq_getD_getElem?] at h54
          have c2 := (H9.out.below hI H9.out.lt).cell 2
          simp only [List.getElem?_cons_zero, List.getElem?_cons_succ] at c2
          refine Reg.step2_val (.int .i64 x2) ?_ rfl hI trivial
          go_simp
        · -- 6: 56 := Op.call ( builtin max, args := #(const (0:i64), t55), argTyp
          intro aq wq lq hI hl hdone hlater hold hd ho
          have h55 : aq.tmps.getD 55 undef = .int .i64 x2 := hd 55 (by kernel_rfl)
          clear hd ho hdone hlater hold
          rw [Array.getD_eq_getD_getElem?] at h55
          refine Reg.step2_val (.int .i64 (M2 : Nat)) ?_ rfl hI trivial
          simp [execOp]
          go_simp
          exact HX.out.2.2.1
        · -- 7: 57 := Op.binOp BinOp.rem 3 t56 (const (12:i64)) 3
          intro aq wq lq hI hl hdone hlater hold hd ho
          have h56 : aq.tmps.getD 56 undef = .int .i64 (M2 : Nat) := hd 56 (by kernel_rfl)
          clear hd ho hdone hlater hold
          rw [Array.getD_eq_getD_getElem?] at h56
          refine Reg.step2_val (.int .i64 (b : Nat)) ?_ rfl hI trivial
          simp [execOp]
          go_simp
          exact HX.out.2.2.2.2.2
        · -- 8: 58 := Op.fieldAddr 30 t9 3
          intro aq wq lq hI hl hdone hlater hold hd ho
          have h9 : aq.tmps.getD 9 undef = .pointer (some ⟨b9, 0, none⟩) := ho 9 (by kernel_rfl)
          clear hd ho hdone hlater hold
          rw [Array.getD_eq_getD_getElem?] at h9
          refine Reg.step2_val (.pointer (some ⟨b9, 3, none⟩)) ?_ rfl hI trivial
          go_simp
        · -- 9: 59 := Op.load 9 t58
          intro aq wq lq hI hl hdone hlater hold hd ho
          have h58 : aq.tmps.getD 58 undef = .pointer (some ⟨b9, 3, none⟩) := hd 58 (by kernel_rfl)
          clear hd ho hdone hlater hold
          rw [Array.getD_eq_getD_getElem?] at h58
          have c3 := (H9.out.below hI H9.out.lt).cell 3
          simp only [List.getElem?_cons_zero, List.getElem?_cons_succ] at c3
          refine Reg.step2_val (.string x3) ?_ rfl hI trivial
          go_simp
        · -- 10: 60 := Op.fieldAddr 30 t9 3
          intro aq wq lq hI hl hdone hlater hold hd ho
          have h9 : aq.tmps.getD 9 undef = .pointer (some ⟨b9, 0, none⟩) := ho 9 (by kernel_rfl)
          clear hd ho hdone hlater hold
          rw [Array.getD_eq_getD_getElem?] at h9
          refine Reg.step2_val (.pointer (some ⟨b9, 3, none⟩)) ?_ rfl hI trivial
          go_simp
        · -- 11: 61 := Op.load 9 t60
          intro aq wq lq hI hl hdone hlater hold hd ho
          have h60 : aq.tmps.getD 60 undef = .pointer (some ⟨b9, 3, none⟩) := hd 60 (by kernel_rfl)
          clear hd ho hdone hlater hold
          rw [Array.getD_eq_getD_getElem?] at h60
          have c3 := (H9.out.below hI H9.out.lt).cell 3
          simp only [List.getElem?_cons_zero, List.getElem?_cons_succ] at c3
          refine Reg.step2_val (.string x3) ?_ rfl hI trivial
          go_simp
        · -- 12: 62 := Op.call ( builtin len, args := #(t61), argTypes := #(9) )
          intro aq wq lq hI hl hdone hlater hold hd ho
          have h61 : aq.tmps.getD 61 undef = .string x3 := hd 61 (by kernel_rfl)
          clear hd ho hdone hlater hold
          rw [Array.getD_eq_getD_getElem?] at h61
          refine Reg.step2_val (.int .i64 (x3.size : Nat)) ?_ rfl hI trivial
          simp [execOp]
          go_simp
        · -- 13: 63 := Op.call ( builtin min, args := #(t62, const (100:i64)), argT
          intro aq wq lq hI hl hdone hlater hold hd ho
          have h62 : aq.tmps.getD 62 undef = .int .i64 (x3.size : Nat) := hd 62 (by kernel_rfl)
          clear hd ho hdone hlater hold
          rw [Array.getD_eq_getD_getElem?] at h62
          refine Reg.step2_val (.int .i64 (dl : Nat)) ?_ rfl hI trivial
          simp [execOp]
          go_simp
        · -- 14: 64 := Op.slice 9 t59 none (some t63) none
          intro aq wq lq hI hl hdone hlater hold hd ho
          have h59 : aq.tmps.getD 59 undef = .string x3 := hd 59 (by kernel_rfl)
          have h63 : aq.tmps.getD 63 undef = .int .i64 (dl : Nat) := hd 63 (by kernel_rfl)
          clear hd ho hdone hlater hold
          rw [Array.getD_eq_getD_getElem?] at h59 h63
          refine Reg.step2_val (.string x4) ?_ rfl hI trivial
          simp [execOp]
          go_simp
          exact HX4.out.symm
        · -- 15: 65 := Op.call ( value (Operand.func 10), args := #(t64), argTypes 
          intro aq wq lq hI hl hdone hlater hold hd ho
          have h64 : aq.tmps.getD 64 undef = .string x4 := hd 64 (by kernel_rfl)
          clear hd ho hdone hlater hold
          rw [Array.getD_eq_getD_getElem?] at h64
          refine Reg.step2_call 10 #[.string x4] ?_ ((full7_any x4 wq hx4s).mono ?_)
          · clear hI
            simp [execOp]
            go_simp
          · rintro e w' ⟨rfl, hb⟩
            exact ⟨_, rfl, by rw [← HTD.out]; rfl, Tab.b_on hI hb, trivial⟩
        · -- 16: 10 := Op.assign t53
          intro aq wq lq hI hl hdone hlater hold hd ho
          have h53 : aq.tmps.getD 53 undef = .int .i64 (s : Nat) := hd 53 (by kernel_rfl)
          clear hd ho hdone hlater hold
          exact Reg.step2_assign (.tmp 53) rfl h53 hI trivial
        · -- 17: 11 := Op.assign t57
          intro aq wq lq hI hl hdone hlater hold hd ho
          have h57 : aq.tmps.getD 57 undef = .int .i64 (b : Nat) := hd 57 (by kernel_rfl)
          clear hd ho hdone hlater hold
          exact Reg.step2_assign (.tmp 57) rfl h57 hI trivial
        · -- 18: 12 := Op.assign t65
          intro aq wq lq hI hl hdone hlater hold hd ho
          have h65 : aq.tmps.getD 65 undef = .string td := hd 65 (by kernel_rfl)
          clear hd ho hdone hlater hold
          exact Reg.step2_assign (.tmp 65) rfl h65 hI trivial
        case hend =>
        intro wy hI
        simp only [Reg.fill, List.foldl_cons, List.foldl_nil, List.setIfInBounds_toArray, List.set_cons_zero, List.set_cons_succ]
        have HB := Lib.hid (show Below W.heap.size W wy from hI)
        clear hI
        go_wp2_with fail
        go_meet
        exact ⟨rfl, rfl, rfl, HB.out⟩
      case rest =>
        obtain ⟨rfl, rfl, rfl, hb⟩ := hcut
        have h9 := H9.out.below hb H9.out.lt
        have hcu := HC9.out.later hb
        have hmu := owns_map_on HM9.out hb
        have H9 := Lib.hid h9
        have HC9 := Lib.hid hcu
        have HM9 := Lib.hid hmu
        clear h9 hcu hmu hb
        have h13 := Has.new wc [.int .i64 s, .int .i64 b] 32
        have hc13 := HC9.out.new (.cells #[.int .i64 s, .int .i64 b] 32)
        have hm13 := owns_map_on HM9.out (Tab.b_new wc (.cells #[.int .i64 s, .int .i64 b] 32))
        have h9 := H9.out.below (Tab.b_new wc (.cells #[.int .i64 s, .int .i64 b] 32)) H9.out.lt
        obtain ⟨b13, hb13⟩ : ∃ b, b = wc.heap.size := ⟨_, rfl⟩
        obtain ⟨V, hV⟩ : ∃ W, W = wc.alloc (.cells #[.int .i64 s, .int .i64 b] 32) := ⟨_, rfl⟩
        rw [← hV] at h13 hc13 hm13 h9
        rw [← hb13] at h13 hc13
        have H13 := Lib.hid h13
        have H9 := Lib.hid h9
        have HC := Lib.hid hc13
        have HM := Lib.hid hm13
        have hg4 : (S s).m.length ≤ 4 := by have := (HC.out.good hs2).len; omega
        obtain ⟨l, hl⟩ : ∃ l, l = (S s).m.length := ⟨_, rfl⟩
        rw [← hl] at hg4
        have HL := Lib.hid hl
        clear hl h13 hc13 hm13 h9 HC9 HM9
        go_upto_region 10 with fail
        rw [← hV, ← hb13]
        clear hV hb13
        go_wp2_with fail
        refine (table_c HC.out hs2).mono ?_
        rintro e w3 ⟨rfl, hb⟩
        have HC3 := Lib.hid (HC.out.later hb)
        have HM3 := Lib.hid (owns_map_on HM.out hb)
        have H133 := Lib.hid (H13.out.below hb H13.out.lt)
        have H93 := Lib.hid (H9.out.below hb H9.out.lt)
        clear hb HC HM H13 H9
        go_wp2_with fail
        refine (Tab.left_any 12 4 (S s).m _ (by decide) (by decide) (by rw [← HL.out]; omega)).mono ?_
        rintro e w4 ⟨rfl, hb⟩
        rw [← HL.out]
        have HC := Lib.hid (HC3.out.later hb)
        have HM := Lib.hid (owns_map_on HM3.out hb)
        have H13 := Lib.hid (H133.out.below hb H133.out.lt)
        have h9 := H93.out.below hb H93.out.lt
        have c0 := h9.cell 0
        simp only [List.getElem?_cons_zero] at c0
        have hmax0 := HX.out.1
        have hmod0 := HX.out.2.2.2.1
        clear hb HC3 HM3 H133 H93 h9 HX HX4 HTD
        go_upto_block 2 with fail
        clear c0 hmax0 hmod0
        obtain ⟨f, hf⟩ : ∃ f : Nat, f = 4 - l := ⟨_, rfl⟩
        have hfl : (4 : Int) - (l : Int) = (f : Int) := by omega
        rw [hfl]
        have HF := Lib.hid hf
        have hf4 : f ≤ 4 := by omega
        clear hfl hf
        go_cut [5] (fun p wx => ∃ (q' n' : Nat) (S' : Nat → Sd) (D' : DataW Unit), p = .pointer (some ⟨q', 0, none⟩) ∧ n' ≤ c + 1 ∧ Kn S' D' ∧ (∀ t, t < 2 → Spare (S' t)) ∧ wx.ownsMap Tryz.prog 32 (plainElem (H := Unit) Tryz.prog 9) mb n' D' ∧ CP w [mb] q' (pdOf pa pb) S' (4 + 4 * (c + 1)) wx)
        case first =>
          have hr' : r = 4 ∨ r = 5 ∨ r = 6 ∨ r = 7 ∨ ((r : Int) ≠ 4 ∧ (r : Int) ≠ 5 ∧ (r : Int) ≠ 6 ∧ (r : Int) ≠ 7) := by omega
          clear hr8
          rcases hr' with rfl | rfl | rfl | rfl | ⟨hr4, hr5, hr6, hr7⟩
          · exact rk_move (r := 0) HKN HSP HTS hs2 hb12 hn hlt hm40 HL HF hg4 HC HM H13 (by assumption) (by assumption)
          · exact rk_stick (r := 0) HKN HSP HTS hs2 hb12 hn hlt hm40 HL HF hg4 HC HM H13 (by assumption) (by assumption)
          · exact rk_flush (r := 0) HKN HSP HTS hs2 hb12 hn hlt hm40 HL HF hg4 HC HM H13 (by assumption) (by assumption)
          · exact rk_open (r := 0) HKN HSP HTS hs2 hb12 hn hlt hm40 HL HF hg4 HC HM H13 (by assumption) (by assumption)
          · exact rk_write hr4 hr5 hr6 hr7 HKN HSP HTS hs2 hb12 hn hlt hm40 HL HF hg4 HC HM H13 (by assumption) (by assumption)
        case rest =>
          obtain ⟨q1, n1, S1, D1, rfl, hn1, hkn, hsp, hmp, hcp⟩ := hcut
          clear HKN HSP HTS HL HF HC HM H13
          have HKN := Lib.hid hkn
          have HSP := Lib.hid hsp
          have HM := Lib.hid hmp
          have HC := Lib.hid hcp
          clear hkn hsp hmp hcp
          go_wp2_with (at_range; refine wpList_range_own _ rfl _ 28 rfl 32 9 keyed2 Tryz.underlying28 (plainElem (H := Unit) Tryz.prog 9) mb n1 D1 rfl HM.out ?_)
          intro w5 hrg hg hs0
          have hc5 := HC.out.ranged hg hs0
          obtain ⟨r0, hr0⟩ : ∃ x, x = wc.heap.size := ⟨_, rfl⟩
          rw [← hr0] at hrg hc5
          try go_frame
          rw [← hr0]
          have HRG := Lib.hid hrg
          have HC5 := Lib.hid hc5
          clear hrg hc5 hg hs0 hr0 HC HM
          go_wp2_with fail
          go_loopw [23] (fun _ wr => ∃ left cnt, wr.ranges Tryz.prog 32 (plainElem (H := Unit) Tryz.prog 9) mb r0 n1 D1 left cnt ∧ (∀ z, left z = true → Maps.has D1 z = true) ∧ CP w [r0, mb] q1 (pdOf pa pb) S1 (4 + 4 * (c + 1)) wr) (fun _ wr => wr.rangeLeft mb r0)
          case atStart => exact ⟨_, _, HRG.out, fun z hz => hz, HC5.out⟩
          case round =>
            obtain ⟨left, cnt, hrg, hlf, hcp⟩ := hrel
            clear HRG HC5
            have HRG := Lib.hid hrg
            have HLF := Lib.hid hlf
            have HC := Lib.hid hcp
            clear hrg hlf hcp
            go_wp2_with (at_next; refine wpList_next_ranges _ rfl _ rfl 32 keyed2 (plainElem (H := Unit) Tryz.prog 9) (fun x : Value => x) Value.string (fun key kl _ => ⟨key, rfl⟩) (fun v y hv => by obtain ⟨c, rfl, _⟩ := plainElem_string_inv Tryz.underlying9 hv; exact ⟨c, rfl⟩) mb r0 n1 D1 left cnt rfl HRG.out ?_ ?_)
            · intro hc0 hl0
              clear hc0 hl0
              go_wp2_with fail
              go_roundw
              case rel => exact ⟨c + 1, n1, q1, S1, D1, by omega, by go_num, rfl, hn1, HKN.out, HSP.out, HRG.out.owns, HC.out.sub (by simp)⟩
              case measure => simp [intOf]; omega
            · intro x c1 kl y y2 w6 cnt1 hkey hlk hR hat hrg1 hlt1 hg1 hgs hen
              obtain ⟨s1, b1, b23, V, hs1, hb1, hx, hb23, hV2, hBV, hc7, hrg2, d0, d1⟩ := entered HKN.out (HLF.out _ hlk) hkey hR hat hrg1 hg1 HC.out
              have HC7 := Lib.hid hc7
              have HRG2 := Lib.hid hrg2
              have HBV := Lib.hid hBV
              have HLE := Lib.hid hlt1
              clear hBV hc7 hrg1 hrg2 hkey hlk hR hat hg1 hlt1 hgs
              subst hx
              go_upto_region 41 with fail
              rw [← hV2, ← hb23]
              clear hV2 hb23 hen
              go_wp2_with fail
              refine (read_c HC7.out hs1 hb1 (by omega)).mono ?_
              rintro e w8 ⟨rfl, hcp, hsm⟩
              rw [HBV.out.1, HBV.out.2]
              have HC8 := Lib.hid hcp
              have HRG8 := Lib.hid (ranges_keep HRG2.out hsm (by simp) (by simp))
              clear hcp hsm d0 d1 HC7 HRG2
              go_wp2_with fail
              go_roundw
              case rel => exact ⟨_, _, HRG8.out, fun z hz => HLF.out z (by simp at hz; exact hz.1), HC8.out.sub (by simp)⟩
              case measure => rw [HRG8.out.left_eq, HRG.out.left_eq]; exact HLE.out
    · go_wp2_with fail
      go_ret
      exact ⟨rfl, hcp.below⟩

set_option maxRecDepth 100000 in
theorem contract (H : Type) (enc : TypeId × Value → H) (W : World) (base : Nat) (args : Array Value) (ds gs : List (DataW H)) (before : List MemPlace)
    (hval0 : ∀ (j : Nat) t v, Tryz.f3.params[j]? = some t → args[j]? = some v → Value.okWide Tryz.prog W .any base t v)
    (hW : DataW.Whole enc Tryz.prog Tryz.f3.params.toList Rows.remapKeepsSpec.vars false W args.toList ds gs before) :
    Calls Tryz.prog 3 args W fun e W' => ∃ v, e = .returned v ∧ Rows.remapKeepsSpec.post enc Tryz.prog Tryz.f3 false true false false W args v W' := by
  have hval : ∀ (j : Nat) t v, Tryz.f3.params[j]? = some t → args[j]? = some v → Value.okWide Tryz.prog W .any base t v := hval0
  have hW' := hW
  obtain ⟨p, q, hA0, hV, rfl, hfz, hnd⟩ := hW
  have hA : DataW.TrodAll enc Tryz.prog W 0 (fun _ => true) true Tryz.f3.params.toList args.toList ds p := hA0
  rw [Tryz.params3] at hA hval
  obtain ⟨v0, vs0, d0, ds0, p0, q0, hargs, rfl, rfl, h0, r0⟩ := trodAll_cons hA
  obtain ⟨rfl, rfl, rfl⟩ := trodAll_nil r0
  obtain rfl : args = #[v0] := by cases args; simp_all
  obtain ⟨rfl, rfl⟩ := trodVars_none hV
  have k0 := h0
  have lt0 : ∀ x ∈ p0, x.block < W.heap.size := by obtain ⟨m, hm⟩ := k0; exact DataW.trod_lt m _ _ _ hm
  obtain ⟨a0', l0', c0', rfl⟩ := okWide_slice Tryz.underlying22 (hval 0 22 v0 rfl rfl)
  obtain ⟨a0, a0l, a0c, he0, w0, w0l, w0m⟩ := open_AR0 (c := .slice a0' l0' c0') (by obtain ⟨m, hm⟩ := h0; exact ⟨m, _, hm⟩)
  simp only [Value.slice.injEq] at he0
  obtain ⟨rfl, rfl, rfl⟩ := he0
  clear hA0 hval0
  refine (walk a0' l0' c0' W w0 w0l w0m).mono fun e W' ⟨he, bel⟩ => ?_
  subst he
  exact ⟨_, rfl, _, _, _, [], _, [], hW', trodAll_mk1 (shut_bool Tryz.underlying4 _), (trodAll_cons_mk (Below.trod laidOut (by kernel_rfl) (of_decide_eq_true (by kernel_rfl)) k0 bel lt0) trodAll_mk0), rfl, bel.frame _, fun h => by cases h⟩

noncomputable def laidWorld (os : Os) : World :=
  { World.holding Tryz.prog os ⟨#[], #[], []⟩ with heap := (((((World.holding Tryz.prog os ⟨#[], #[], []⟩).heap).modify 2 fun | .cells _ t frozen => .cells (#[.int .u8 128, .int .u8 191, .int .u8 160, .int .u8 191, .int .u8 128, .int .u8 159, .int .u8 144, .int .u8 191, .int .u8 128, .int .u8 143, .int .u8 0, .int .u8 0, .int .u8 0, .int .u8 0, .int .u8 0, .int .u8 0, .int .u8 0, .int .u8 0, .int .u8 0, .int .u8 0, .int .u8 0, .int .u8 0, .int .u8 0, .int .u8 0, .int .u8 0, .int .u8 0, .int .u8 0, .int .u8 0, .int .u8 0, .int .u8 0, .int .u8 0, .int .u8 0]) t frozen | o => o)).modify 1 fun | .cells _ t frozen => .cells ((Go.Pinned.utf8FirstZ.map fun z : Nat => Value.int .u8 (z : Int)).toArray) t frozen | o => o) }
theorem laid_met (os : Os) : laidMet Tryz.prog Rows.remapKeepsRow.laid ((laidWorld os).forCall (fun _ _ => 0) ⟨#[], #[.slice none 0 0], []⟩).memory :=
  laidMet_of_run' 8 (by kernel_rfl) (by kernel_rfl)
theorem reads (os : Os) {H : Type} (enc : TypeId × Value → H) : ∃ places, DataW.whole enc Tryz.prog ((laidWorld os).forCall (fun _ _ => 0) ⟨#[], #[.slice none 0 0], []⟩).memory Tryz.f3.params.toList Rows.remapKeepsSpec.vars false (#[.slice none 0 0] : Array Value).toList 8 = some ([.nil], [], places) :=
  ⟨[], by kernel_rfl⟩

set_option maxRecDepth 100000 in
theorem lifted (os : Os) (started : os.Started) (H : Type) (enc : TypeId × Value → H) (F : Stop.Interp) :
    ReturnsInHanded {} Tryz.checked os 3 .any ((OpenSpec.ofChange Rows.remapKeepsSpec).preRow enc Tryz.prog Tryz.f3 Rows.remapKeepsRow.domain false Rows.remapKeepsRow.laid) (((OpenSpec.ofChange Rows.remapKeepsSpec).at F).post enc Tryz.prog Tryz.f3 false true false false) := by
  obtain ⟨places, hx⟩ := reads os enc
  refine returnsInHanded_of_row (C := Tryz.checked) (s := OpenSpec.ofChange Rows.remapKeepsSpec) own started (by kernel_rfl) Tryz.func3
    (witness_row_at (enc := enc) (C := Tryz.checked) false (laidWorld os) #[.slice none 0 0] rfl (by kernel_rfl) (by kernel_rfl) (by kernel_rfl)
      (OpenSpec.preRow_of_cond 8 hx (by kernel_rfl) (fun k hk => by cases hk) (by kernel_rfl) (laid_met os))) ?_
  intro W base args ds gs before hval hW _ _ _ hL _ _
  exact contract H enc W base args ds gs before hval hW

theorem said : Rows.RemapKeepsSaid :=
  OpenClaim.holds_of_cond 3 Tryz.f3 rfl rfl rfl rfl rfl rfl rfl ⟨rfl, rfl, rfl, rfl, rfl⟩ rfl rfl rfl rfl rfl (by kernel_rfl) Tryz.func3 (by kernel_rfl)
    (of_decide_eq_true (by kernel_rfl)) (by unfold Func.isWrapper; first | (rw [if_pos (by decide +kernel)]; kernel_rfl) | (rw [if_neg (by decide +kernel)]; exact ⟨rfl, rfl⟩))
    (fun os started H enc _ F => by rw [OpenClaim.pre_eq_preRow]; exact lifted os started H enc F)

theorem plain (f : FuncId) (fn : Func) (hf : Tryz.pinned.checked.prog.funcNamed "treenail/treenaillaw07.RemapKeeps" = some f) (hfn : Tryz.pinned.checked.prog.funcs[f]? = some fn) :
    false = Tryz.pinned.checked.prog.looks [] ∧ ∀ (j : Nat) t, fn.params[j]? = some t → Tryz.pinned.checked.prog.wantsStandIn t = false := by
  obtain rfl : f = 3 := Option.some.inj ((show Tryz.prog.funcNamed "treenail/treenaillaw07.RemapKeeps" = some 3 by kernel_rfl).symm.trans hf) |>.symm
  obtain rfl : fn = Tryz.f3 := (Option.some.inj (Tryz.func3.symm.trans hfn)).symm
  refine ⟨by kernel_rfl, fun j t ht => ?_⟩
  rw [Tryz.params3] at ht
  rcases j with _ | j
  · obtain rfl : t = 22 := by simpa using ht.symm
    exact (show Tryz.prog.wantsStandIn 22 = false by kernel_rfl)
  · simp at ht

/-- THE STATEMENT -/
theorem proved : Rows.RemapKeepsCardSaid :=
  Claim7.holds_tied_plain_at .later [] _ _ _ _ said (fun _ h => by cases h) (by kernel_rfl) (fun _ h => by cases h) remapKeeps_row_tie rfl ⟨rfl, rfl⟩ (by kernel_rfl) rfl plain (by kernel_rfl)
#print axioms proved
end Go.Proofs.YtpdickpipdaphaaGreatDoor.remapKeeps
