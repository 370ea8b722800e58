/-
  The law TableApart holds: no two blocks are at one place, however often they are moved; the bytes of a table are it again. Conditions: none but the row's own.
-/
import Derived.Test.YtonfafjacmifaaaRows
import Derived.Test.YtonfafjacmifaaaTabM
import Derived.Test.YtonfafjacmifaaaRegionW
import Derived.WalkKit
import Derived.ProofKit
import Derived.OpenShut
import Derived.ShutString
import Derived.ChangeOld
import Derived.Below
namespace Go.Proofs.Ytonfafjacmifaaa.tableApart
open Go.ChangeShapes Go.WideShapes Go.ChangeAt Go.RowKit
open Go.ChangeMaps (open_string shut_string)
set_option linter.unusedVariables false

theorem own : ownKnob Try.prog.godebug = none := by kernel_rfl
theorem laidOut : laidOutB Try.prog = true := by kernel_rfl

/-- WHAT THE WALK IS TOLD OF A SLICE OF INTEGERS THAT CAME IN: it is nil; or it leads to a row of 'cap' cells, the numbers 'zs' (the first 'len' are its elements, the rest its spare room), each fitting its kind. -/
def IsRow (k : IntKind) (w : World) (a : Option Addr) (len cap : Nat) (zs : List Int) : Prop :=
  (a = none ∧ len = 0 ∧ cap = 0 ∧ zs = []) ∨
  ∃ x, a = some x ∧ len ≤ cap ∧ cap ≤ maxLen ∧ zs.length = cap ∧ (∀ i, i < zs.length → w.cell? (x.add i) = some (.int k (zs.getD i 0))) ∧ ∀ n ∈ zs, (Lit.int k n).wf = true

theorem isRow_row {k : IntKind} {w : World} {a : Option Addr} {len cap : Nat} {zs : List Int} (h : IsRow k w a len cap zs) :
    Row k w a len (zs.take len) ∧ len ≤ cap ∧ cap ≤ maxLen ∧ (∀ n ∈ zs.take len, (Lit.int k n).wf = true) := by
  rcases h with ⟨rfl, rfl, rfl, rfl⟩ | ⟨x, rfl, hl, hm, hz, hc, hwf⟩
  · exact ⟨⟨rfl, fun h => absurd h (by decide)⟩, Nat.le_refl _, by unfold maxLen; omega, by simp⟩
  · refine ⟨⟨by simp; omega, fun h => ?_⟩, hl, hm, fun n hn => hwf n (List.mem_of_mem_take hn)⟩
    obtain ⟨b, off, spot⟩ := x
    have h0 := hc 0 (by omega)
    have hs : spot = none := by simpa [Addr.add] using World.cell?_spot h0
    subst hs
    refine ⟨b, off, rfl, fun i hi => ?_⟩
    have := hc i (by omega)
    rw [Addr.add_lit] at this
    rw [this]
    simp [List.getD, hi]

theorem walk_wf {zs : List Int} (h : ∀ n ∈ zs, (Lit.int .u64 n).wf = true) : ∀ n ∈ zs, 0 ≤ n ∧ n < 18446744073709551616 := by
  intro n hn
  have := bounds_u64 (h n hn)
  omega
open Go.Proofs.Ytonfafjacmifaaa.Tab
open Go.Maps (int_keyed keyOf_int_mk)
theorem run_minC (P : Program) (w : World) (t : TypeId) (ts : Array TypeId) (a c : Nat) : (Builtin.min_ ts t #[.int .i64 (a : Nat), .int .i64 (c : Nat)]).run P w = .ok (.int .i64 ((min a c : Nat) : Int)) w := by
  have e : ∀ a b : Nat, (if (b : Int) < a then (b : Int) else a) = ((min a b : Nat) : Int) := by intro a b; split <;> omega
  simp only [Builtin.min_, Builtin.min2, List.foldlM, Sem.run_bind, Sem.run_pure, Result.andThen]
  rw [e]

/-! ### STEP 1: THE WALK: the Go text returns true, AND WRITES NOTHING THAT WAS THERE: 'Below w.heap.size w w'' (Derived/Below.lean: '.refl', '.alloc', '.drew', '.setCell' at a new block, '.trans'). Open each 'IsRow' by 'rcases' AHEAD of 'go_enter'; part every test ahead of the walk. -/
set_option maxHeartbeats 8000000 in
set_option maxRecDepth 100000 in
theorem walk (a0 : Option Addr) (len0 cap0 : Nat) (z0 : List Int) (w : World) (w0 : IsRow .u8 w a0 len0 cap0 z0) :
    Calls Try.prog 5 #[.slice a0 len0 cap0] w fun e w' => e = .returned (.bool true) ∧ Below w.heap.size w w' := by
  obtain ⟨hr0, hlc0, hcm0, hwf0⟩ := isRow_row w0
  have R0 := Lib.hid hr0
  have WF := Lib.hid hwf0
  have HLZ := Lib.hid hr0.len_eq
  clear hr0 hwf0 w0
  unfold maxLen at hcm0
  have hmm := @run_makeMap Try.prog
  go_enter Try.func5, Try.ntmps5
  go_wp2_with (first | with_reducible refine wl_alloc ?_)
  refine (new_any 15 12 _).mono ?_
  rintro e w3 ⟨rfl, hb⟩
  rw [show nwE 15 12 = 0 from rfl, show nwN 15 12 = 15 from rfl, show nwK 15 12 = 12 from rfl]
  have g0 : Tab.Good 15 12 [] := Tab.Good.nil rfl
  obtain ⟨p, hp⟩ : ∃ p, p = w3.heap.size := ⟨_, rfl⟩
  have ht : TAt (w3.alloc (.cells (ta 15 12 []) 25)) p 15 12 [] := by rw [hp]; exact TAt.made w3 15 12 []
  have HT := Lib.hid ht
  have HB := Lib.hid (b_nw hb (.cells (ta 15 12 []) 25))
  have hpp : w.heap.size ≤ p := by rw [hp]; exact hb.size
  clear hb ht
  go_wp2_with (first | with_reducible refine wl_alloc ?_)
  rw [← hp]
  clear hp
  refine (wakes_any _).mono ?_
  rintro e w4 ⟨rfl, hb⟩
  have HT4 := Lib.hid (HT.out.on hb)
  have HB4 := Lib.hid (b_on HB.out hb)
  clear hb HT HB
  obtain ⟨mm, hm⟩ : ∃ mm, mm = min len0 30 := ⟨_, rfl⟩
  have hmin : ∀ W ts, (Builtin.min_ ts 3 #[.int .i64 (len0 : Nat), .int .i64 30]).run Try.prog W = .ok (.int .i64 (mm : Int)) W := by
    intro W ts; rw [hm]; exact run_minC _ _ _ _ len0 30
  have hml : mm ≤ len0 := by omega
  have hml' : mm ≤ cap0 := by omega
  clear hm
  go_wp2_with (first | with_reducible refine wl_alloc ?_)
  clear hmin
  go_loopw [33] (fun i wr => ∃ (c : Nat) (M : List Int), c ≤ mm ∧ i = .int .i64 c ∧ TAt wr p 15 12 M ∧ Tab.Good 15 12 M ∧ Below w.heap.size w wr) (fun i _ => mm - (intOf i).toNat)
  case atStart => exact ⟨0, [], Nat.zero_le _, rfl, HT4.out, g0, HB4.out⟩
  case round =>
    obtain ⟨c, M, hc, rfl, ht, hg, hbr⟩ := hrel
    clear HT4 HB4
    have HT := Lib.hid ht
    have HG := Lib.hid hg
    have HB := Lib.hid hbr
    have hl12 : M.length ≤ 12 := by have := hg.len; omega
    have hlp : p < wr.heap.size := ht.lt
    have e0 := ht.ld
    clear ht hg hbr
    by_cases hlt : c < mm
    · obtain ⟨zb, zo, rfl, hcell⟩ := (R0.out.below HB.out (Nat.le_refl _)).at_ (by omega)
      have hz := hcell c (by omega)
      obtain ⟨y, hy⟩ : ∃ y, y = (z0.take len0).getD c 0 := ⟨_, rfl⟩
      have hyb : 0 ≤ y ∧ y ≤ 255 := by
        have := bounds_u8 (WF.out y (by rw [hy, List.getD_eq_getElem?_getD, List.getElem?_eq_getElem (by rw [HLZ.out]; omega)]; exact List.getElem_mem _))
        omega
      rw [← hy] at hz
      obtain ⟨x, hx⟩ : ∃ x, x = y % 15 := ⟨_, rfl⟩
      have hx0 : 0 ≤ x := by omega
      have hx15 : x < 15 := by omega
      have hwy : IntKind.i64.wrap y = y := IntWalk.i64_in _ (by omega)
      have hmod : Int.tmod y 15 = x := by rw [Int.tmod_eq_emod_of_nonneg hyb.1, hx]
      have hmod' : y % 15 = x := hx.symm
      obtain ⟨hy0, hy1⟩ := hyb
      clear hcell hy hx
      go_wp2_with (first | with_reducible refine wl_alloc ?_)
      refine (move_any 15 12 x M _ HG.out).mono ?_
      rintro e w6 ⟨rfl, hb⟩
      obtain ⟨q, hq⟩ : ∃ q, q = w6.heap.size := ⟨_, rfl⟩
      by_cases hfull : M.length < 12
      · have hE := mv_yes (n := 15) (k := 12) (m := M) hx0 hx15 (by omega)
        obtain ⟨v1, v2, v3⟩ := mv_ok hE
        rw [hE, v1, v2, v3]
        have HG2 := Lib.hid (HG.out.push hE).1
        have ht7 := (HT.out.on hb).new (.cells (ta 15 12 (M ++ [x])) 25)
        have hu7 := TAt.made w6 15 12 (M ++ [x])
        rw [← hq] at hu7
        have HB7 := Lib.hid (b_nw (b_on HB.out hb) (.cells (ta 15 12 (M ++ [x])) 25))
        have HT7 := Lib.hid ht7
        have HU7 := Lib.hid hu7
        clear e0
        have d0 := hu7.ld
        have s0 := ht7.st 15 12 (M ++ [x])
        clear hb ht7 hu7 hE v1 v2 v3 hz
        go_upto_region 9 with (first | with_reducible refine wl_alloc ?_)
        rw [← hq]
        clear hq
        go_wp2_with (first | with_reducible refine wl_alloc ?_)
        have HT9 := Lib.hid (HT7.out.put 15 12 (M ++ [x]))
        have HB9 := Lib.hid (b_row HB7.out hpp (ta 15 12 (M ++ [x])))
        go_roundw
        case rel => exact ⟨c + 1, M ++ [x], by omega, by go_num, HT9.out, HG2.out, HB9.out⟩
        case measure => simp [intOf]; omega
      · have hE := mv_full (n := 15) (k := 12) (m := M) hx0 hx15 (by omega)
        obtain ⟨v1, v2, v3⟩ := mv_bad (n := 15) (k := 12) (m := M) (b := x) (by rw [hE]; decide)
        rw [hE, v1, v2, v3]
        have ht7 := (HT.out.on hb).new (.cells (ta 0 0 []) 25)
        have HB7 := Lib.hid (b_nw (b_on HB.out hb) (.cells (ta 0 0 []) 25))
        have HT7 := Lib.hid ht7
        clear e0
        have e0 := ht7.ld
        have hlen12 : (12 : Int) - (M.length : Int) = 0 := by omega
        clear hb ht7 hE v1 v2 v3 hz hq
        go_wp2_with (first | with_reducible refine wl_alloc ?_)
        refine (left_any 15 12 M _ (by decide) (by decide) (by omega)).mono ?_
        rintro e w8 ⟨rfl, hb⟩
        have HT8 := Lib.hid (HT7.out.on hb)
        have HB8 := Lib.hid (b_on HB7.out hb)
        clear hb
        go_wp2_with (first | with_reducible refine wl_alloc ?_)
        go_roundw
        case rel => exact ⟨c + 1, M, by omega, by go_num, HT8.out, HG.out, HB8.out⟩
        case measure => simp [intOf]; omega
    · go_wp2_with (first | with_reducible refine wl_alloc ?_)
      refine (text_any 15 12 M _ HG.out).mono ?_
      rintro e w5 ⟨rfl, hb⟩
      have HT5 := Lib.hid (HT.out.on hb)
      have HB5 := Lib.hid (b_on HB.out hb)
      clear hb HT HB e0
      obtain ⟨z1, z2, z3⟩ := pa_tx HG.out
      have hsz : (txS M).size ≤ 1000000 := by show (txL M).length ≤ _; rw [txL_length]; omega
      have htx : (txS M).data.toList = txL M := rfl
      obtain ⟨T, hT⟩ : ∃ T, T = txS M := ⟨_, rfl⟩
      rw [← hT] at hsz htx
      have z3' : paE T.data.toList 15 12 = 0 := by rw [htx]; exact z3
      obtain ⟨p1, p2⟩ := ps_ok z3'
      have p3 : paM T.data.toList 15 12 = M := by rw [paM_ok z3', htx]; exact z1
      have HZ3 := Lib.hid z3'
      have HP1 := Lib.hid p1
      have HP2 := Lib.hid p2
      have HP3 := Lib.hid p3
      rw [← hT]
      clear z1 z2 z3 htx hT z3' p1 p2 p3
      go_wp2_with (first | with_reducible refine wl_alloc ?_)
      refine (parse_any T 15 12 _ hsz).mono ?_
      rintro e w6 ⟨rfl, hb⟩
      rw [HZ3.out, HP1.out, HP2.out, HP3.out]
      obtain ⟨q, hq⟩ : ∃ q, q = w6.heap.size := ⟨_, rfl⟩
      obtain ⟨W6, hW6⟩ : ∃ W, W = w6.alloc (.cells (ta 15 12 M) 25) := ⟨_, rfl⟩
      have HT6 := Lib.hid (show TAt W6 p 15 12 M by rw [hW6]; exact (HT5.out.on hb).new _)
      have HU6 := Lib.hid (show TAt W6 q 15 12 M by rw [hW6, hq]; exact TAt.made w6 15 12 M)
      have HB6 := Lib.hid (show Below w.heap.size w W6 by rw [hW6]; exact b_nw (b_on HB5.out hb) _)
      clear hb
      go_upto_region 14 with (first | with_reducible refine wl_alloc ?_)
      rw [← hW6, ← hq]
      clear hW6 hq
      refine Reg.region_vals (by kernel_rfl) [(62, .int .i64 0), (63, .bool false), (64, .bool false), (65, .agg (ta 15 12 M)), (66, .int .i64 (12 - (M.length : Int))), (67, .agg (ta 15 12 M)), (68, .int .i64 (12 - (M.length : Int))), (69, .bool false), (70, .bool false)] (fun l wy => Below W6.heap.size W6 wy) (by kernel_rfl) (by kernel_rfl) (by kernel_rfl) ((Below.refl _ _).drew) ⟨?_, ?_, ?_, ?_, ?_, ?_, ?_, ?_, ?_, trivial⟩ ?hend
      · -- 0: 62 := Op.move t10
        intro aq wq lq hI hl hdone hlater hold hd ho
        have h10 : aq.tmps.getD 10 undef = .int .i64 0 := ho 10 (by kernel_rfl)
        clear hd ho hdone hlater hold
        exact Reg.step2_move (.tmp 10) rfl h10 hI trivial
      · -- 1: 63 := Op.binOp BinOp.neq 26 t62 (const (0:i64)) 26
        intro aq wq lq hI hl hdone hlater hold hd ho
        have h62 : aq.tmps.getD 62 undef = .int .i64 0 := hd 62 (by kernel_rfl)
        clear hd ho hdone hlater hold
        rw [Array.getD_eq_getD_getElem?] at h62
        refine Reg.step2_val (.bool false) ?_ rfl hI trivial
        simp [execOp, Act.eval, h62]
        try go_simp
      · -- 2: 64 := Op.move t63
        intro aq wq lq hI hl hdone hlater hold hd ho
        have h63 : aq.tmps.getD 63 undef = .bool false := hd 63 (by kernel_rfl)
        clear hd ho hdone hlater hold
        exact Reg.step2_move (.tmp 63) rfl h63 hI trivial
      · -- 3: 65 := Op.load 25 t9
        intro aq wq lq hI hl hdone hlater hold hd ho
        have h9 : aq.tmps.getD 9 undef = .pointer (some ⟨q, 0, none⟩) := ho 9 (by kernel_rfl)
        clear hd ho hdone hlater hold
        rw [Array.getD_eq_getD_getElem?] at h9
        have e0 := (HU6.out.on hI).ld
        refine Reg.step2_val (.agg (ta 15 12 M)) ?_ rfl hI trivial
        go_simp
      · -- 4: 66 := Op.call ( value (Operand.func 16), args := #(t65), argTypes 
        intro aq wq lq hI hl hdone hlater hold hd ho
        have h65 : aq.tmps.getD 65 undef = .agg (ta 15 12 M) := hd 65 (by kernel_rfl)
        clear hd ho hdone hlater hold
        rw [Array.getD_eq_getD_getElem?] at h65
        refine Reg.step2_call 16 #[.agg (ta 15 12 M)] ?_ ((left_any 15 12 M wq (by decide) (by decide) (by omega)).mono ?_)
        · clear hI
          simp [execOp]
          go_simp
        · rintro e w' ⟨rfl, hb⟩
          exact ⟨_, rfl, rfl, b_on hI hb, trivial⟩
      · -- 5: 67 := Op.load 25 t3
        intro aq wq lq hI hl hdone hlater hold hd ho
        have h3 : aq.tmps.getD 3 undef = .pointer (some ⟨p, 0, none⟩) := ho 3 (by kernel_rfl)
        clear hd ho hdone hlater hold
        rw [Array.getD_eq_getD_getElem?] at h3
        have e0 := (HT6.out.on hI).ld
        refine Reg.step2_val (.agg (ta 15 12 M)) ?_ rfl hI trivial
        go_simp
      · -- 6: 68 := Op.call ( value (Operand.func 16), args := #(t67), argTypes 
        intro aq wq lq hI hl hdone hlater hold hd ho
        have h67 : aq.tmps.getD 67 undef = .agg (ta 15 12 M) := hd 67 (by kernel_rfl)
        clear hd ho hdone hlater hold
        rw [Array.getD_eq_getD_getElem?] at h67
        refine Reg.step2_call 16 #[.agg (ta 15 12 M)] ?_ ((left_any 15 12 M wq (by decide) (by decide) (by omega)).mono ?_)
        · clear hI
          simp [execOp]
          go_simp
        · rintro e w' ⟨rfl, hb⟩
          exact ⟨_, rfl, rfl, b_on hI hb, trivial⟩
      · -- 7: 69 := Op.binOp BinOp.neq 3 t66 t68 3
        intro aq wq lq hI hl hdone hlater hold hd ho
        have h66 : aq.tmps.getD 66 undef = .int .i64 (12 - (M.length : Int)) := hd 66 (by kernel_rfl)
        have h68 : aq.tmps.getD 68 undef = .int .i64 (12 - (M.length : Int)) := hd 68 (by kernel_rfl)
        clear hd ho hdone hlater hold
        rw [Array.getD_eq_getD_getElem?] at h66 h68
        refine Reg.step2_val (.bool false) ?_ rfl hI trivial
        simp [execOp, Act.eval, h66, h68]
        try go_simp
      · -- 8: 70 := Op.pick t64 (const (Value.bool true)) t69
        intro aq wq lq hI hl hdone hlater hold hd ho
        have h64 : aq.tmps.getD 64 undef = .bool false := hd 64 (by kernel_rfl)
        have h69 : aq.tmps.getD 69 undef = .bool false := hd 69 (by kernel_rfl)
        clear hd ho hdone hlater hold
        rw [Array.getD_eq_getD_getElem?] at h64 h69
        refine Reg.step2_val (.bool false) ?_ rfl hI trivial
        simp [execOp, Act.eval, h64, h69]
        try go_simp
      case hend =>
        intro wy hI
        simp only [Reg.fill, List.foldl_cons, List.foldl_nil, List.setIfInBounds_toArray, List.set_cons_zero, List.set_cons_succ]
        have HT7 := Lib.hid (HT6.out.on hI)
        have HU7 := Lib.hid (HU6.out.on hI)
        have HB7 := Lib.hid (b_on HB6.out hI)
        clear hI HT6 HU6 HB6
        go_wp2_with (first | with_reducible refine wl_alloc ?_)
        obtain ⟨mb, hmb⟩ : ∃ b, b = wy.heap.size := ⟨_, rfl⟩
        have hmade := World.ownsMap_made (H := Unit) wy Try.prog 3 (plainElem (H := Unit) Try.prog 4)
        rw [← hmb] at hmade
        rw [← hmb]
        have HM := Lib.hid hmade
        have HT8 := Lib.hid (HT7.out.new (.map #[] 0))
        have HU8 := Lib.hid (HU7.out.new (.map #[] 0))
        have HB8 := Lib.hid (b_nw HB7.out (.map #[] 0))
        have hmbw : w.heap.size ≤ mb := by rw [hmb]; exact HB7.out.size
        clear hmade hmb HT7 HU7 HB7
        go_loopw [72] (fun i wr => ∃ (c n : Nat) (D : DataW Unit), c ≤ 15 ∧ i = .int .i64 c ∧ n ≤ c ∧ Seen M c D ∧ wr.ownsMap Try.prog 3 (plainElem (H := Unit) Try.prog 4) mb n D ∧ TAt wr p 15 12 M ∧ TAt wr q 15 12 M ∧ Below w.heap.size w wr) (fun i _ => 15 - (intOf i).toNat)
        case atStart => exact ⟨0, 0, _, by decide, rfl, Nat.le_refl _, Seen.start M, HM.out, HT8.out, HU8.out, HB8.out⟩
        case round =>
          obtain ⟨c, n, D, hc, rfl, hn, hseen, hmp, ht, hu, hbr⟩ := hrel
          clear HM HT8 HU8 HB8
          by_cases hlt : c < 15
          · have hcl : (c : Int) < 15 := by omega
            obtain ⟨y1, y2, y3⟩ := at_yes (m := M) (n := 15) (b := (c : Int)) (by omega) hcl
            have hbd := plc_bd (n := 15) (m := M) (b := (c : Int)) (by omega) hcl
            obtain ⟨P, hP⟩ : ∃ P, P = plc 15 M c := ⟨_, rfl⟩
            rw [← hP] at y3 hbd
            have hP0 : 0 ≤ P := hbd.1
            have hP27 : P < 27 := by omega
            have HY2 := Lib.hid y2
            have HY3 := Lib.hid y3
            have HSE := Lib.hid hseen
            have HPP := Lib.hid hP
            have HM := Lib.hid hmp
            have HT := Lib.hid ht
            have HU := Lib.hid hu
            have HB := Lib.hid hbr
            have e0 := ht.ld
            clear hseen hmp ht hu hbr y1 y2 y3 hbd hP
            go_wp2_with (first | with_reducible refine wl_alloc ?_)
            refine (at_any 15 12 _ M _ HG.out).mono ?_
            rintro e w8 ⟨rfl, hb⟩
            rw [HY2.out, HY3.out]
            have HT8 := Lib.hid (HT.out.on hb)
            have HU8 := Lib.hid (HU.out.on hb)
            have HM8 := Lib.hid (owns_map_on HM.out hb)
            have HB8 := Lib.hid (b_on HB.out hb)
            clear hb e0 HT HU HM HB
            have e0 := HU8.out.ld
            go_wp2_with (first | with_reducible refine wl_alloc ?_)
            refine (at_any 15 12 _ M _ HG.out).mono ?_
            rintro e w9 ⟨rfl, hb⟩
            rw [HY2.out, HY3.out]
            have HT9 := Lib.hid (HT8.out.on hb)
            have HU9 := Lib.hid (HU8.out.on hb)
            have hm9 := owns_map_on HM8.out hb
            have HB9 := Lib.hid (b_on HB8.out hb)
            have hpw := int_wf (x := P) (by omega) (by omega)
            obtain ⟨bb, hlook, hat⟩ := lookup_bool hm9 (int_keyed Try.underlying3) Try.underlying44 Try.underlying4 (zero_bool _) (keyOf_int_mk Try.underlying3 hpw)
            have hbb : bb = false := HSE.out.look hlt (by rw [← HPP.out]; exact hat)
            rw [hbb] at hlook
            have HM9 := Lib.hid hm9
            have HPW := Lib.hid hpw
            have HNL := Lib.hid (show n < maxLen by unfold maxLen; omega)
            clear hb e0 HT8 HU8 HM8 HB8 hm9 hat hbb hpw
            go_wp2_with (at_mapUpdate; refine wpList_mapUpdate_own _ rfl _ _ _ 44 rfl 3 4 (int_keyed Try.underlying3) Try.underlying44 (plainElem (H := Unit) Try.prog 4) mb n D rfl HM9.out HNL.out _ _ (.int .i64 P) rfl rfl (keyOf_int_mk Try.underlying3 HPW.out) (.lit (.bool true)) [] (plainElem_bool Try.underlying4 true) ?_)
            intro w10 hown hgrow
            have HT10 := Lib.hid (HT9.out.map HM9.out hgrow)
            have HU10 := Lib.hid (HU9.out.map HM9.out hgrow)
            have HB10 := Lib.hid (HB9.out.grown hgrow HB9.out.size (fun k hk => by cases hk; exact hmbw))
            have HM10 := Lib.hid hown
            clear hgrow hown hlook
            go_wp2_with (first | with_reducible refine wl_alloc ?_)
            go_roundw
            case rel => exact ⟨c + 1, n + 1, _, by omega, by go_num, by omega, by have := HSE.out.push; rw [← HPP.out] at this; exact this, HM10.out, HT10.out, HU10.out, HB10.out⟩
            case measure => simp [intOf]; omega
          · go_wp2_with (first | with_reducible refine wl_alloc ?_)
            go_ret
            exact ⟨rfl, hbr⟩

/-! ### THE ROW's STEP: WRITTEN OUT: LEAVE IT -/
set_option maxRecDepth 100000 in
theorem lifted (os : Os) (started : os.Started) (H : Type) (enc : TypeId × Value → H) :
    ReturnsInHanded {} Try.checked os 5 .any (Rows.tableApartSpec.pre6 enc Try.prog Try.f5 Rows.tableApartRow.domain false) (Rows.tableApartSpec.post enc Try.prog Try.f5 false true false false) := by
  refine returnsInHanded_of_change (C := Try.checked) own started (by kernel_rfl) Try.func5
    (ChangeSpec.witness6 (enc := enc) (C := Try.checked) false ⟨#[], #[.slice none 0 0], []⟩ 8 (by kernel_rfl) (by kernel_rfl) (by kernel_rfl) (by kernel_rfl)) ?_
  intro W base args ds gs before hval0 hW hcnd _
  have hval : ∀ (j : Nat) t v, Try.f5.params[j]? = some t → args[j]? = some v → Value.okWide Try.prog W .any base t v := hval0
  have hW' := hW
  obtain ⟨p, q, hA0, hV, rfl, hfz, hnd⟩ := hW
  have hA : DataW.TrodAll enc Try.prog W 0 (fun _ => true) true Try.f5.params.toList args.toList ds p := hA0
  rw [Try.params5] at hA hval
  obtain ⟨v0, vs0, d0, ds0, p0, q0, hargs, rfl, rfl, h0, r0⟩ := trodAll_cons hA
  obtain ⟨rfl, rfl, rfl⟩ := trodAll_nil r0
  obtain rfl : args = #[v0] := by cases args; simp_all
  obtain ⟨rfl, rfl⟩ := trodVars_none hV
  obtain ⟨a0, len0, cap0, rfl⟩ := okWide_slice Try.underlying42 (hval 0 42 v0 rfl rfl)
  have k0 := h0
  have lt0 : ∀ x ∈ p0, x.block < W.heap.size := by obtain ⟨m, hm⟩ := k0; exact DataW.trod_lt m _ _ _ hm
  obtain ⟨z0, w0⟩ : ∃ zs, IsRow .u8 W a0 len0 cap0 zs := by
    obtain ⟨fuel, hf⟩ := h0
    rcases open_ints Try.underlying42 Try.underlying5 (by kernel_rfl) hf with ⟨hcs, _⟩ | ⟨x, l, c, zs, hcs, _, hl, hm, hz, _, hcell, hwz⟩
    · simp [Value.cells] at hcs
      obtain ⟨rfl, rfl, rfl⟩ := hcs
      exact ⟨[], .inl ⟨rfl, rfl, rfl, rfl⟩⟩
    · simp [Value.cells] at hcs
      obtain ⟨rfl, rfl, rfl⟩ := hcs
      exact ⟨zs, .inr ⟨_, rfl, hl, hm, by simpa using hz, hcell, hwz⟩⟩
  clear hA0 hval0
  refine (walk a0 len0 cap0 z0 W w0).mono fun e W' ⟨he, bel⟩ => ?_
  subst he
  exact ⟨_, rfl, _, _, _, [], _, [], hW', trodAll_mk1 (shut_bool Try.underlying4 _), (trodAll_cons_mk (Below.trod laidOut (by kernel_rfl) (of_decide_eq_true (by kernel_rfl)) k0 bel lt0) trodAll_mk0), rfl, bel.frame _, fun h => by cases h⟩

theorem over : Rows.tableApartRow.holds Try.pinned (OpenSpec.ofChange Rows.tableApartSpec) :=
  OpenClaim.holds_of_wide 5 Try.f5 rfl rfl rfl rfl rfl rfl rfl ⟨rfl, rfl, rfl, rfl, rfl⟩ rfl rfl rfl rfl rfl (by kernel_rfl) Try.func5 (by kernel_rfl)
    (of_decide_eq_true (by kernel_rfl)) (by unfold Func.isWrapper; first | (rw [if_pos (by decide +kernel)]; kernel_rfl) | (rw [if_neg (by decide +kernel)]; exact ⟨rfl, rfl⟩))
    (fun os started H enc _ => lifted os started H enc)

/-- ████ THE STATEMENT ████ -/
theorem proved : Rows.TableApartSaid := over
#print axioms proved
end Go.Proofs.Ytonfafjacmifaaa.tableApart
