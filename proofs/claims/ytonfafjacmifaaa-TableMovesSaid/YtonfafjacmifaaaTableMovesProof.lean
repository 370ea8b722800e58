/-
  The law TableMoves holds: whatever blocks are moved, the answers, each block's place and the bytes are the document's; an elder table stays as it was. Conditions: none but the row's own.
-/
import Derived.Test.YtonfafjacmifaaaRows
import Derived.Test.YtonfafjacmifaaaTabL
import Derived.WalkKit
import Derived.ProofKit
import Derived.OpenShut
import Derived.ShutString
import Derived.ChangeOld
import Derived.Below
namespace Go.Proofs.Ytonfafjacmifaaa.tableMoves
open Go.ChangeShapes Go.WideShapes Go.ChangeAt Go.RowKit
open Go.ChangeMaps (open_string shut_string)
set_option linter.unusedVariables false

theorem own : ownKnob Try.prog.godebug = none := by kernel_rfl
theorem laidOut : laidOutB Try.prog = true := by kernel_rfl

/-- WHAT THE WALK IS TOLD OF A SLICE OF INTEGERS THAT CAME IN: it is nil; or it leads to a row of 'cap' cells, the numbers 'zs' (the first 'len' are its elements, the rest its spare room), each fitting its kind. -/
def IsRow (k : IntKind) (w : World) (a : Option Addr) (len cap : Nat) (zs : List Int) : Prop :=
  (a = none ∧ len = 0 ∧ cap = 0 ∧ zs = []) ∨
  ∃ x, a = some x ∧ len ≤ cap ∧ cap ≤ maxLen ∧ zs.length = cap ∧ (∀ i, i < zs.length → w.cell? (x.add i) = some (.int k (zs.getD i 0))) ∧ ∀ n ∈ zs, (Lit.int k n).wf = true

theorem isRow_row {k : IntKind} {w : World} {a : Option Addr} {len cap : Nat} {zs : List Int} (h : IsRow k w a len cap zs) :
    Row k w a len (zs.take len) ∧ len ≤ cap ∧ cap ≤ maxLen ∧ (∀ n ∈ zs.take len, (Lit.int k n).wf = true) := by
  rcases h with ⟨rfl, rfl, rfl, rfl⟩ | ⟨x, rfl, hl, hm, hz, hc, hwf⟩
  · exact ⟨⟨rfl, fun h => absurd h (by decide)⟩, Nat.le_refl _, by unfold maxLen; omega, by simp⟩
  · refine ⟨⟨by simp; omega, fun h => ?_⟩, hl, hm, fun n hn => hwf n (List.mem_of_mem_take hn)⟩
    obtain ⟨b, off, spot⟩ := x
    have h0 := hc 0 (by omega)
    have hs : spot = none := by simpa [Addr.add] using World.cell?_spot h0
    subst hs
    refine ⟨b, off, rfl, fun i hi => ?_⟩
    have := hc i (by omega)
    rw [Addr.add_lit] at this
    rw [this]
    simp [List.getD, hi]

theorem walk_wf {zs : List Int} (h : ∀ n ∈ zs, (Lit.int .u64 n).wf = true) : ∀ n ∈ zs, 0 ≤ n ∧ n < 18446744073709551616 := by
  intro n hn
  have := bounds_u64 (h n hn)
  omega
open Go.Proofs.Ytonfafjacmifaaa.Tab
theorem run_minC (P : Program) (w : World) (t : TypeId) (ts : Array TypeId) (a c : Nat) : (Builtin.min_ ts t #[.int .i64 (a : Nat), .int .i64 (c : Nat)]).run P w = .ok (.int .i64 ((min a c : Nat) : Int)) w := by
  have e : ∀ a b : Nat, (if (b : Int) < a then (b : Int) else a) = ((min a b : Nat) : Int) := by intro a b; split <;> omega
  simp only [Builtin.min_, Builtin.min2, List.foldlM, Sem.run_bind, Sem.run_pure, Result.andThen]
  rw [e]

/-! ### STEP 1: THE WALK: the Go text returns true, AND WRITES NOTHING THAT WAS THERE: 'Below w.heap.size w w'' (Derived/Below.lean: '.refl', '.alloc', '.drew', '.setCell' at a new block, '.trans'). Open each 'IsRow' by 'rcases' AHEAD of 'go_enter'; part every test ahead of the walk. -/
set_option maxHeartbeats 8000000 in
set_option maxRecDepth 100000 in
theorem walk (a0 : Int) (a1 : Int) (a2 : Option Addr) (len2 cap2 : Nat) (z2 : List Int) (w : World) (w0 : (Lit.int .i64 a0).wf = true) (w1 : (Lit.int .i64 a1).wf = true) (w2 : IsRow .i64 w a2 len2 cap2 z2) :
    Calls Try.prog 3 #[.int .i64 a0, .int .i64 a1, .slice a2 len2 cap2] w fun e w' => e = .returned (.bool true) ∧ Below w.heap.size w w' := by
  obtain ⟨hr0, hlc0, hcm0, hwf0⟩ := isRow_row w2
  have R0 := Lib.hid hr0
  have WA := Lib.hid w0
  have WB := Lib.hid w1
  clear hr0 hwf0 w0 w1 w2
  unfold maxLen at hcm0
  go_enter Try.func3, Try.ntmps3
  go_wp2_with (first | with_reducible refine wl_alloc ?_)
  refine (new_any a0 a1 _).mono ?_
  rintro e w3 ⟨rfl, hb⟩
  have HT := Lib.hid (TAt.made w3 (nwN a0 a1) (nwK a0 a1) [])
  have HB3 := Lib.hid (b_nw hb (.cells (ta (nwN a0 a1) (nwK a0 a1) []) 25))
  have e0 := HT.out.ld
  clear hb
  go_upto_region 2 with (first | with_reducible refine wl_alloc ?_)
  go_cut [7, 8, 44] (fun _ _ c wx => c = .bool false ∧ Below w.heap.size w wx)
  case first =>
    cases hm : mayB a0 a1 with
    | false =>
      obtain ⟨y1, y2, y3⟩ := nw_no hm
      have HM := Lib.hid hm
      rw [y2, y3] at HB3 e0
      rw [y1, y2, y3]
      clear hm y1 y2 y3
      go_wp2_with (first | with_reducible refine wl_alloc ?_)
      refine (refmay_any a0 a1 _).mono ?_
      rintro e w4 ⟨rfl, rfl⟩
      rw [HM.out]
      go_wp2_with (first | with_reducible refine wl_alloc ?_)
      refine (blocks_any _ _ _ _).mono ?_
      rintro e w4 ⟨rfl, hb⟩
      have HB2 := Lib.hid (b_on HB3.out hb)
      clear hb
      go_wp2_with (first | with_reducible refine wl_alloc ?_)
      go_meet
      exact ⟨rfl, HB2.out⟩
    | true =>
      obtain ⟨y1, y2, y3⟩ := nw_yes hm
      have HM := Lib.hid hm
      rw [y2, y3] at HB3 e0
      rw [y1, y2, y3]
      clear hm y1 y2 y3
      go_wp2_with (first | with_reducible refine wl_alloc ?_)
      refine (refmay_any a0 a1 _).mono ?_
      rintro e w4 ⟨rfl, rfl⟩
      rw [HM.out]
      go_wp2_with (first | with_reducible refine wl_alloc ?_)
      go_meet
      exact ⟨rfl, HB3.out⟩
  case rest =>
    obtain ⟨rfl, hcb⟩ := hcut
    clear e0 HT HB3
    go_upto_region 4 with (first | with_reducible refine wl_alloc ?_)
    go_cut [9, 10] (fun x y wx => ∃ n k : Int, x = .int .i64 n ∧ y = .int .i64 k ∧ (1 ≤ n ∧ n ≤ 12 ∧ 0 ≤ k ∧ k ≤ 5) ∧ Below w.heap.size w wx)
    case first =>
      go_wp2
      all_goals (go_meet; exact ⟨_, _, rfl, rfl, by omega, hcb⟩)
    case rest =>
      obtain ⟨n, k, rfl, rfl, ⟨n1, n2, k1, k2⟩, hcb⟩ := hcut
      have hmay : mayB n k = true := mayB_of (by omega) (by omega) (by omega) (by omega)
      obtain ⟨y1, y2, y3⟩ := nw_yes hmay
      have g0 := Tab.Good.nil hmay
      have HCB := Lib.hid hcb
      clear hcb hmay
      go_wp2_with (first | with_reducible refine wl_alloc ?_)
      refine (new_any n k _).mono ?_
      rintro e w3 ⟨rfl, hb⟩
      rw [y1, y2, y3]
      obtain ⟨p, hp⟩ : ∃ p, p = w3.heap.size := ⟨_, rfl⟩
      have ht : TAt (w3.alloc (.cells (ta n k []) 25)) p n k [] := by rw [hp]; exact TAt.made w3 n k []
      have HT := Lib.hid ht
      have HB := Lib.hid (b_nw (b_on HCB.out hb) (.cells (ta n k []) 25))
      have hpp : w.heap.size ≤ p := by rw [hp]; have := (b_on HCB.out hb).size; omega
      clear hb y1 y2 y3 ht HCB
      go_wp2_with (first | with_reducible refine wl_alloc ?_)
      rw [← hp]
      clear hp
      refine (wakes_any _).mono ?_
      rintro e w4 ⟨rfl, hb⟩
      have HT4 := Lib.hid (HT.out.on hb)
      have HB4 := Lib.hid (b_on HB.out hb)
      clear hb HT HB
      have e0 := HT4.out.ld
      go_wp2_with (first | with_reducible refine wl_alloc ?_)
      refine (same_any n k _ _ _ [] _ (Ints.none _) g0).mono ?_
      rintro e w5 ⟨rfl, hb⟩
      have HT5 := Lib.hid (HT4.out.on hb)
      have HB5 := Lib.hid (b_on HB4.out hb)
      clear hb HT4 HB4 e0
      obtain ⟨mm, hm⟩ : ∃ mm, mm = min len2 20 := ⟨_, rfl⟩
      have hmin : ∀ W ts, (Builtin.min_ ts 3 #[.int .i64 (len2 : Nat), .int .i64 20]).run Try.prog W = .ok (.int .i64 (mm : Int)) W := by
        intro W ts; rw [hm]; exact run_minC _ _ _ _ len2 20
      have hml : mm ≤ len2 := by omega
      have hml' : mm ≤ cap2 := by omega
      clear hm
      go_wp2_with (first | with_reducible refine wl_alloc ?_)
      clear hmin
      go_loopw [13, 78] (fun mv i wr => ∃ (c : Nat) (M : List Int) (ro : Option Addr) (rl rc : Nat), c ≤ mm ∧ i = .int .i64 c ∧ mv = .slice ro rl rc ∧ TAt wr p n k M ∧ Ints wr ro rl rc M ∧ (∀ a, ro = some a → a.block ≠ p) ∧ Tab.Good n k M ∧ Below w.heap.size w wr) (fun _ i _ => mm - (intOf i).toNat)
      case atStart => exact ⟨0, [], _, _, _, Nat.zero_le _, rfl, rfl, HT5.out, Ints.none _, (fun a h => by cases h), g0, HB5.out⟩
      case round =>
        obtain ⟨c, M, ro, rl, rc, hc, rfl, rfl, ht, hi, hoff, hg, hbr⟩ := hrel
        clear HT5 HB5
        by_cases hlt : c < mm
        · obtain ⟨zb, zo, rfl, hcell⟩ := (R0.out.below hbr (Nat.le_refl _)).at_ (by omega)
          have hz := hcell c (by omega)
          obtain ⟨x, hx⟩ : ∃ x, x = (z2.take len2).getD c 0 := ⟨_, rfl⟩
          rw [← hx] at hz
          have HT := Lib.hid ht
          have HI := Lib.hid hi
          have HG := Lib.hid hg
          have HB := Lib.hid hbr
          have HOF := Lib.hid hoff
          have bd := hg.bd
          have hll := hi.len_eq
          have hl32 : rl ≤ 32 := by omega
          have hlp : p < wr.heap.size := ht.lt
          have e0 := ht.ld
          clear hx hcell ht hi hg hbr hoff bd hll
          go_wp2_with (first | with_reducible refine wl_alloc ?_)
          refine (move_any n k x M _ HG.out).mono ?_
          rintro e w6 ⟨rfl, hb⟩
          have HT6 := Lib.hid ((HT.out.on hb).new (.cells (ta (mvN n k M x) (mvK n k M x) (mvM n k M x)) 25))
          have HI6 := Lib.hid ((HI.out.below hb).new (.cells (ta (mvN n k M x) (mvK n k M x) (mvM n k M x)) 25))
          have HU6 := Lib.hid (TAt.made w6 (mvN n k M x) (mvK n k M x) (mvM n k M x))
          have HB6 := Lib.hid (b_nw (b_on HB.out hb) (.cells (ta (mvN n k M x) (mvK n k M x) (mvM n k M x)) 25))
          have hlp6 : p < w6.heap.size := by have := hb.size; omega
          have hsz6 := hb.size
          clear hb HT HI HB e0 hz
          obtain ⟨q, hq⟩ : ∃ q, q = w6.heap.size := ⟨_, rfl⟩
          rw [← hq] at HU6
          go_wp2_with (first | with_reducible refine wl_alloc ?_)
          rw [← hq]
          clear hq
          refine (refmove_any n k x _ _ _ M _ HI6.out hl32 (by omega)).mono ?_
          rintro e w7 ⟨a2', l2, c2, rfl, hi2, hn2, hb⟩
          have HT7 := Lib.hid (HT6.out.on hb)
          have HI7 := Lib.hid (HI6.out.below hb)
          have HU7 := Lib.hid (HU6.out.on hb)
          have HB7 := Lib.hid (b_on HB6.out hb)
          have HI2 := Lib.hid hi2
          have HN2 := Lib.hid (show ∀ a, a2' = some a → a.block ≠ p from fun a ha => by
            rcases hn2 a ha with h | h
            · exact HOF.out a h
            · simp at h; omega)
          clear hi2 hn2 hb HT6 HI6 HU6 HB6
          have e0 := HT7.out.ld
          go_wp2_with (first | with_reducible refine wl_alloc ?_)
          refine (same_any n k _ _ _ M _ HI7.out HG.out).mono ?_
          rintro e w8 ⟨rfl, hb⟩
          have ht8 := HT7.out.on hb
          have HI8 := Lib.hid (HI7.out.below hb)
          have hu8 := HU7.out.on hb
          have hi8 := HI2.out.below hb
          have HB8 := Lib.hid (b_on HB7.out hb)
          clear hb HT7 HI7 HU7 HB7 HI2 e0
          by_cases hE : mvE n k M x = 0
          · obtain ⟨v1, v2, v3⟩ := mv_ok hE
            have hrm : rmL n k M x = M ++ [x] := by rw [rmL, if_pos hE]
            rw [v1, v2, v3] at hu8
            rw [hrm] at hi8
            rw [hE]
            have HT8 := Lib.hid ht8
            have HU8 := Lib.hid hu8
            have HR8 := Lib.hid hi8
            have HG2 := Lib.hid (HG.out.push hE).1
            have d0 := hu8.ld
            have e0 := ht8.ld
            have s0 := ht8.st n k (M ++ [x])
            have z0 := (ht8.put n k (M ++ [x])).ld
            clear ht8 hu8 hi8 hE v1 v2 v3 hrm
            go_wp2_with (first | with_reducible refine wl_alloc ?_)
            have HT9 := Lib.hid (HT8.out.put n k (M ++ [x]))
            have HR9 := Lib.hid (Ints.row_set HR8.out HN2.out (ta n k (M ++ [x])))
            have HB9 := Lib.hid (b_row HB8.out hpp (ta n k (M ++ [x])))
            refine (same_any n k _ _ _ (M ++ [x]) _ HR9.out HG2.out).mono ?_
            rintro e w9 ⟨rfl, hb⟩
            have HT10 := Lib.hid (HT9.out.on hb)
            have HR10 := Lib.hid (HR9.out.below hb)
            have HB10 := Lib.hid (b_on HB9.out hb)
            clear hb HT9 HR9 HB9
            go_wp2_with (first | with_reducible refine wl_alloc ?_)
            go_roundw
            case rel => exact ⟨c + 1, M ++ [x], _, _, _, by omega, by go_num, rfl, HT10.out, HR10.out, HN2.out, HG2.out, HB10.out⟩
            case measure => simp [intOf]; omega
          · have hrm : rmL n k M x = M := by rw [rmL, if_neg hE]
            have hE' : (mvE n k M x == 0) = false := by simpa using hE
            rw [hrm] at hi8
            have HT8 := Lib.hid ht8
            have e0 := ht8.ld
            clear ht8 hu8 hi8 hrm
            go_wp2_with (first | with_reducible refine wl_alloc ?_)
            refine (same_any n k _ _ _ M _ HI8.out HG.out).mono ?_
            rintro e w9 ⟨rfl, hb⟩
            have HT9 := Lib.hid (HT8.out.on hb)
            have HI9 := Lib.hid (HI8.out.below hb)
            have HB9 := Lib.hid (b_on HB8.out hb)
            clear hb e0
            go_wp2_with (first | with_reducible refine wl_alloc ?_)
            go_roundw
            case rel => exact ⟨c + 1, M, _, _, _, by omega, by go_num, rfl, HT9.out, HI9.out, HOF.out, HG.out, HB9.out⟩
            case measure => simp [intOf]; omega
        · go_wp2_with (first | with_reducible refine wl_alloc ?_)
          go_ret
          exact ⟨rfl, hbr⟩

/-! ### THE ROW's STEP: WRITTEN OUT: LEAVE IT -/
set_option maxRecDepth 100000 in
theorem lifted (os : Os) (started : os.Started) (H : Type) (enc : TypeId × Value → H) :
    ReturnsInHanded {} Try.checked os 3 .any (Rows.tableMovesSpec.pre6 enc Try.prog Try.f3 Rows.tableMovesRow.domain false) (Rows.tableMovesSpec.post enc Try.prog Try.f3 false true false false) := by
  refine returnsInHanded_of_change (C := Try.checked) own started (by kernel_rfl) Try.func3
    (ChangeSpec.witness6 (enc := enc) (C := Try.checked) false ⟨#[], #[.int .i64 0, .int .i64 0, .slice none 0 0], []⟩ 8 (by kernel_rfl) (by kernel_rfl) (by kernel_rfl) (by kernel_rfl)) ?_
  intro W base args ds gs before hval0 hW hcnd _
  have hval : ∀ (j : Nat) t v, Try.f3.params[j]? = some t → args[j]? = some v → Value.okWide Try.prog W .any base t v := hval0
  have hW' := hW
  obtain ⟨p, q, hA0, hV, rfl, hfz, hnd⟩ := hW
  have hA : DataW.TrodAll enc Try.prog W 0 (fun _ => true) true Try.f3.params.toList args.toList ds p := hA0
  rw [Try.params3] at hA hval
  obtain ⟨v0, vs0, d0, ds0, p0, q0, hargs, rfl, rfl, h0, r0⟩ := trodAll_cons hA
  obtain ⟨v1, vs1, d1, ds1, p1, q1, rfl, rfl, rfl, h1, r1⟩ := trodAll_cons r0
  obtain ⟨v2, vs2, d2, ds2, p2, q2, rfl, rfl, rfl, h2, r2⟩ := trodAll_cons r1
  obtain ⟨rfl, rfl, rfl⟩ := trodAll_nil r2
  obtain rfl : args = #[v0, v1, v2] := by cases args; simp_all
  obtain ⟨rfl, rfl⟩ := trodVars_none hV
  obtain ⟨a0, rfl, rfl, rfl, w0⟩ := open_int Try.underlying3 (hval 0 3 v0 rfl rfl) h0
  obtain ⟨a1, rfl, rfl, rfl, w1⟩ := open_int Try.underlying3 (hval 1 3 v1 rfl rfl) h1
  obtain ⟨a2, len2, cap2, rfl⟩ := okWide_slice Try.underlying22 (hval 2 22 v2 rfl rfl)
  have k2 := h2
  have lt2 : ∀ x ∈ p2, x.block < W.heap.size := by obtain ⟨m, hm⟩ := k2; exact DataW.trod_lt m _ _ _ hm
  obtain ⟨z2, w2⟩ : ∃ zs, IsRow .i64 W a2 len2 cap2 zs := by
    obtain ⟨fuel, hf⟩ := h2
    rcases open_ints Try.underlying22 Try.underlying3 (by kernel_rfl) hf with ⟨hcs, _⟩ | ⟨x, l, c, zs, hcs, _, hl, hm, hz, _, hcell, hwz⟩
    · simp [Value.cells] at hcs
      obtain ⟨rfl, rfl, rfl⟩ := hcs
      exact ⟨[], .inl ⟨rfl, rfl, rfl, rfl⟩⟩
    · simp [Value.cells] at hcs
      obtain ⟨rfl, rfl, rfl⟩ := hcs
      exact ⟨zs, .inr ⟨_, rfl, hl, hm, by simpa using hz, hcell, hwz⟩⟩
  clear hA0 hval0
  refine (walk a0 a1 a2 len2 cap2 z2 W w0 w1 w2).mono fun e W' ⟨he, bel⟩ => ?_
  subst he
  exact ⟨_, rfl, _, _, _, [], _, [], hW', trodAll_mk1 (shut_bool Try.underlying4 _), (trodAll_cons_mk (shut_int Try.underlying3 w0) (trodAll_cons_mk (shut_int Try.underlying3 w1) (trodAll_cons_mk (Below.trod laidOut (by kernel_rfl) (of_decide_eq_true (by kernel_rfl)) k2 bel lt2) trodAll_mk0))), rfl, bel.frame _, fun h => by cases h⟩

theorem over : Rows.tableMovesRow.holds Try.pinned (OpenSpec.ofChange Rows.tableMovesSpec) :=
  OpenClaim.holds_of_wide 3 Try.f3 rfl rfl rfl rfl rfl rfl rfl ⟨rfl, rfl, rfl, rfl, rfl⟩ rfl rfl rfl rfl rfl (by kernel_rfl) Try.func3 (by kernel_rfl)
    (of_decide_eq_true (by kernel_rfl)) (by unfold Func.isWrapper; first | (rw [if_pos (by decide +kernel)]; kernel_rfl) | (rw [if_neg (by decide +kernel)]; exact ⟨rfl, rfl⟩))
    (fun os started H enc _ => lifted os started H enc)

/-- ████ THE STATEMENT ████ -/
theorem proved : Rows.TableMovesSaid := over
#print axioms proved
end Go.Proofs.Ytonfafjacmifaaa.tableMoves
