/-
  The law TableLast holds: a block is at the spare that it was moved to last, all others where they were; each move takes one spare. Conditions: none but the row's own.
-/
import Derived.Test.YtonfafjacmifaaaRows
import Derived.Test.YtonfafjacmifaaaTabM
import Derived.Test.YtonfafjacmifaaaRegionW
import Derived.WalkKit
import Derived.ProofKit
import Derived.OpenShut
import Derived.ShutString
import Derived.ChangeOld
import Derived.Below
namespace Go.Proofs.Ytonfafjacmifaaa.tableLast
open Go.ChangeShapes Go.WideShapes Go.ChangeAt Go.RowKit
open Go.ChangeMaps (open_string shut_string)
set_option linter.unusedVariables false

theorem own : ownKnob Try.prog.godebug = none := by kernel_rfl
theorem laidOut : laidOutB Try.prog = true := by kernel_rfl

/-- WHAT THE WALK IS TOLD OF A SLICE OF INTEGERS THAT CAME IN: it is nil; or it leads to a row of 'cap' cells, the numbers 'zs' (the first 'len' are its elements, the rest its spare room), each fitting its kind. -/
def IsRow (k : IntKind) (w : World) (a : Option Addr) (len cap : Nat) (zs : List Int) : Prop :=
  (a = none ∧ len = 0 ∧ cap = 0 ∧ zs = []) ∨
  ∃ x, a = some x ∧ len ≤ cap ∧ cap ≤ maxLen ∧ zs.length = cap ∧ (∀ i, i < zs.length → w.cell? (x.add i) = some (.int k (zs.getD i 0))) ∧ ∀ n ∈ zs, (Lit.int k n).wf = true

theorem isRow_row {k : IntKind} {w : World} {a : Option Addr} {len cap : Nat} {zs : List Int} (h : IsRow k w a len cap zs) :
    Row k w a len (zs.take len) ∧ len ≤ cap ∧ cap ≤ maxLen ∧ (∀ n ∈ zs.take len, (Lit.int k n).wf = true) := by
  rcases h with ⟨rfl, rfl, rfl, rfl⟩ | ⟨x, rfl, hl, hm, hz, hc, hwf⟩
  · exact ⟨⟨rfl, fun h => absurd h (by decide)⟩, Nat.le_refl _, by unfold maxLen; omega, by simp⟩
  · refine ⟨⟨by simp; omega, fun h => ?_⟩, hl, hm, fun n hn => hwf n (List.mem_of_mem_take hn)⟩
    obtain ⟨b, off, spot⟩ := x
    have h0 := hc 0 (by omega)
    have hs : spot = none := by simpa [Addr.add] using World.cell?_spot h0
    subst hs
    refine ⟨b, off, rfl, fun i hi => ?_⟩
    have := hc i (by omega)
    rw [Addr.add_lit] at this
    rw [this]
    simp [List.getD, hi]

theorem walk_wf {zs : List Int} (h : ∀ n ∈ zs, (Lit.int .u64 n).wf = true) : ∀ n ∈ zs, 0 ≤ n ∧ n < 18446744073709551616 := by
  intro n hn
  have := bounds_u64 (h n hn)
  omega
open Go.Proofs.Ytonfafjacmifaaa.Tab
open Go.Maps (int_keyed keyOf_int_mk)
theorem run_minC (P : Program) (w : World) (t : TypeId) (ts : Array TypeId) (a c : Nat) : (Builtin.min_ ts t #[.int .i64 (a : Nat), .int .i64 (c : Nat)]).run P w = .ok (.int .i64 ((min a c : Nat) : Int)) w := by
  have e : ∀ a b : Nat, (if (b : Int) < a then (b : Int) else a) = ((min a b : Nat) : Int) := by intro a b; split <;> omega
  simp only [Builtin.min_, Builtin.min2, List.foldlM, Sem.run_bind, Sem.run_pure, Result.andThen]
  rw [e]

/-! ### STEP 1: THE WALK: the Go text returns true, AND WRITES NOTHING THAT WAS THERE: 'Below w.heap.size w w'' (Derived/Below.lean: '.refl', '.alloc', '.drew', '.setCell' at a new block, '.trans'). Open each 'IsRow' by 'rcases' AHEAD of 'go_enter'; part every test ahead of the walk. -/
set_option maxHeartbeats 8000000 in
set_option maxRecDepth 100000 in
theorem walk (a0 : Option Addr) (len0 cap0 : Nat) (z0 : List Int) (w : World) (w0 : IsRow .u8 w a0 len0 cap0 z0) :
    Calls Try.prog 6 #[.slice a0 len0 cap0] w fun e w' => e = .returned (.bool true) ∧ Below w.heap.size w w' := by
  obtain ⟨hr0, hlc0, hcm0, hwf0⟩ := isRow_row w0
  have R0 := Lib.hid hr0
  have WF := Lib.hid hwf0
  have HLZ := Lib.hid hr0.len_eq
  clear hr0 hwf0 w0
  unfold maxLen at hcm0
  have hmm := @run_makeMap Try.prog
  go_enter Try.func6, Try.ntmps6
  go_wp2_with (first | with_reducible refine wl_alloc ?_)
  refine (new_any 20 9 _).mono ?_
  rintro e w3 ⟨rfl, hb⟩
  rw [show nwE 20 9 = 0 from rfl, show nwN 20 9 = 20 from rfl, show nwK 20 9 = 9 from rfl]
  have g0 : Tab.Good 20 9 [] := Tab.Good.nil rfl
  obtain ⟨p, hp⟩ : ∃ p, p = w3.heap.size := ⟨_, rfl⟩
  have ht : TAt (w3.alloc (.cells (ta 20 9 []) 25)) p 20 9 [] := by rw [hp]; exact TAt.made w3 20 9 []
  have HT := Lib.hid ht
  have HB := Lib.hid (b_nw hb (.cells (ta 20 9 []) 25))
  have hpp : w.heap.size ≤ p := by rw [hp]; exact hb.size
  clear hb ht
  go_wp2_with (first | with_reducible refine wl_alloc ?_)
  rw [← hp]
  clear hp
  refine (wakes_any _).mono ?_
  rintro e w4 ⟨rfl, hb⟩
  have HT4 := Lib.hid ((HT.out.on hb).new (.map #[] 0))
  have HB4 := Lib.hid (b_nw (b_on HB.out hb) (.map #[] 0))
  obtain ⟨mb, hmb⟩ : ∃ b, b = w4.heap.size := ⟨_, rfl⟩
  have hmade := World.ownsMap_made (H := Unit) w4 Try.prog 3 (plainElem (H := Unit) Try.prog 3)
  rw [← hmb] at hmade
  have hmbw : w.heap.size ≤ mb := by rw [hmb]; exact (b_on HB.out hb).size
  have HM4 := Lib.hid hmade
  obtain ⟨mm, hm⟩ : ∃ mm, mm = min len0 9 := ⟨_, rfl⟩
  have hmin : ∀ W ts, (Builtin.min_ ts 3 #[.int .i64 (len0 : Nat), .int .i64 9]).run Try.prog W = .ok (.int .i64 (mm : Int)) W := by
    intro W ts; rw [hm]; exact run_minC _ _ _ _ len0 9
  have hml : mm ≤ len0 := by omega
  have hml' : mm ≤ cap0 := by omega
  have hm9 : mm ≤ 9 := by omega
  clear hm hb HT HB hmade
  go_wp2_with (first | with_reducible refine wl_alloc ?_)
  rw [← hmb]
  clear hmin hmb
  go_loopw [32] (fun i wr => ∃ (c n : Nat) (M : List Int) (D : DataW Unit), c ≤ mm ∧ M.length = c ∧ i = .int .i64 c ∧ n ≤ c ∧ Last M D ∧ Cnt M D ∧ wr.ownsMap Try.prog 3 (plainElem (H := Unit) Try.prog 3) mb n D ∧ TAt wr p 20 9 M ∧ Tab.Good 20 9 M ∧ Below w.heap.size w wr) (fun i _ => mm - (intOf i).toNat)
  case atStart => exact ⟨0, 0, [], _, Nat.zero_le _, rfl, rfl, Nat.le_refl _, Last.start, Cnt.start, HM4.out, HT4.out, g0, HB4.out⟩
  case round =>
    obtain ⟨c, n, M, D, hc, hll, rfl, hn, hla, hcn, hmp, ht, hg, hbr⟩ := hrel
    clear HT4 HB4 HM4
    have HT := Lib.hid ht
    have HG := Lib.hid hg
    have HB := Lib.hid hbr
    have HM := Lib.hid hmp
    have HLA := Lib.hid hla
    have HCN := Lib.hid hcn
    have HLL := Lib.hid hll
    have hlp : p < wr.heap.size := ht.lt
    have e0 := ht.ld
    clear ht hg hbr hmp hla hcn hll
    by_cases hlt : c < mm
    · obtain ⟨zb, zo, rfl, hcell⟩ := (R0.out.below HB.out (Nat.le_refl _)).at_ (by omega)
      have hz := hcell c (by omega)
      obtain ⟨y, hy⟩ : ∃ y, y = (z0.take len0).getD c 0 := ⟨_, rfl⟩
      have hyb : 0 ≤ y ∧ y ≤ 255 := by
        have := bounds_u8 (WF.out y (by rw [hy, List.getD_eq_getElem?_getD, List.getElem?_eq_getElem (by rw [HLZ.out]; omega)]; exact List.getElem_mem _))
        omega
      rw [← hy] at hz
      obtain ⟨x, hx⟩ : ∃ x : Nat, (x : Int) = y % 20 := ⟨(y % 20).toNat, by omega⟩
      have hx20 : x < 20 := by omega
      have hwy : IntKind.i64.wrap y = y := IntWalk.i64_in _ (by omega)
      have hmod : Int.tmod y 20 = (x : Int) := by rw [Int.tmod_eq_emod_of_nonneg hyb.1, hx]
      have hmod' : y % 20 = (x : Int) := hx.symm
      obtain ⟨hy0, hy1⟩ := hyb
      clear hcell hy hx
      go_wp2_with (first | with_reducible refine wl_alloc ?_)
      refine (move_any 20 9 x M _ HG.out).mono ?_
      rintro e w6 ⟨rfl, hb⟩
      obtain ⟨q, hq⟩ : ∃ q, q = w6.heap.size := ⟨_, rfl⟩
      have hE := mv_yes (n := 20) (k := 9) (m := M) (b := (x : Int)) (by omega) (by omega) (by have := HLL.out; omega)
      obtain ⟨v1, v2, v3⟩ := mv_ok hE
      rw [hE, v1, v2, v3]
      have HLF := Lib.hid (show (9 : Int) - ((M ++ [(x : Int)]).length : Int) = 8 - (c : Int) by rw [List.length_append, HLL.out]; simp; omega)
      have HL1 := Lib.hid (show (M ++ [(x : Int)]).length = c + 1 by rw [List.length_append, HLL.out]; rfl)
      have HG2 := Lib.hid (HG.out.push hE).1
      have ht7 := (HT.out.on hb).new (.cells (ta 20 9 (M ++ [(x : Int)])) 25)
      have hu7 := TAt.made w6 20 9 (M ++ [(x : Int)])
      rw [← hq] at hu7
      have hm7 := owns_map_on (owns_map_on HM.out hb) (b_new w6 (.cells (ta 20 9 (M ++ [(x : Int)])) 25))
      have HB7 := Lib.hid (b_nw (b_on HB.out hb) (.cells (ta 20 9 (M ++ [(x : Int)])) 25))
      have HT7 := Lib.hid ht7
      have HU7 := Lib.hid hu7
      have HM7 := Lib.hid hm7
      have hpw := int_wf (x := (x : Int)) (by omega) (by omega)
      have HPW := Lib.hid hpw
      have HNL := Lib.hid (show n < maxLen by unfold maxLen; omega)
      have h20w : (Lit.int .i64 (20 + (c : Int))).wf = true := int_wf (by omega) (by omega)
      have H20 := Lib.hid h20w
      clear e0 hb ht7 hE v1 v2 v3 hz hm7 hpw h20w
      have d0 := hu7.ld
      clear hu7
      go_upto_region 9 with (first | with_reducible refine wl_alloc ?_)
      rw [← hq]
      clear hq
      go_wp2_with (first | with_reducible refine wl_alloc ?_)
      refine (left_any 20 9 (M ++ [(x : Int)]) _ (by decide) (by decide) (by rw [HL1.out]; omega)).mono ?_
      rintro e w8 ⟨rfl, hb⟩
      rw [HLF.out]
      have ht8 := HT7.out.on hb
      have hu8 := HU7.out.on hb
      have HM8 := Lib.hid (owns_map_on HM7.out hb)
      have HB8 := Lib.hid (b_on HB7.out hb)
      have HT8 := Lib.hid ht8
      have HU8 := Lib.hid hu8
      clear d0
      have d0 := hu8.ld
      have s0 := ht8.st 20 9 (M ++ [(x : Int)])
      have hpm : p ≠ mb := map_ne HM8.out ht8.c0
      have HM9 := Lib.hid (owns_map_row HM8.out (fun e => hpm e.symm) (ta 20 9 (M ++ [(x : Int)])))
      have HT9 := Lib.hid (HT8.out.put 20 9 (M ++ [(x : Int)]))
      have HB9 := Lib.hid (b_row HB8.out hpp (ta 20 9 (M ++ [(x : Int)])))
      clear ht8 hu8 hb hpm
      go_wp2_with (at_mapUpdate; refine wpList_mapUpdate_own _ rfl _ _ _ 48 rfl 3 3 (int_keyed Try.underlying3) Try.underlying48 (plainElem (H := Unit) Try.prog 3) mb n D rfl HM9.out HNL.out _ _ (.int .i64 (x : Int)) rfl rfl (keyOf_int_mk Try.underlying3 HPW.out) (.lit (.int .i64 (20 + (c : Int)))) [] (plainElem_int Try.underlying3 H20.out) ?_)
      intro w10 hown hgrow
      have HT10 := Lib.hid (HT9.out.map HM9.out hgrow)
      have HB10 := Lib.hid (HB9.out.grown hgrow HB9.out.size (fun k hk => by cases hk; exact hmbw))
      have HM10 := Lib.hid hown
      have HLA2 := Lib.hid (show Last (M ++ [(x : Int)]) (D.put (.int .i64 (x : Int)) (.lit (.int .i64 (20 + (c : Int))))) by have := HLA.out.push x; rw [HLL.out] at this; exact this)
      have HCN2 := Lib.hid (show Cnt (M ++ [(x : Int)]) (D.put (.int .i64 (x : Int)) (.lit (.int .i64 (20 + (c : Int))))) by have := HCN.out.push HLA.out (HM.out.tidy (int_keyed Try.underlying3)) x hx20; rw [HLL.out] at this; exact this)
      clear hgrow hown d0 s0 HT7 HU7 HM7 HB7 HT8 HU8 HM8 HB8 HT9 HB9 HM9
      obtain ⟨M2, hM2⟩ : ∃ M2, M2 = M ++ [(x : Int)] := ⟨_, rfl⟩
      obtain ⟨D2, hD2⟩ : ∃ D2, D2 = D.put (.int .i64 (x : Int)) (.lit (.int .i64 (20 + (c : Int)))) := ⟨_, rfl⟩
      have HLM := Lib.hid (show M2.length = c + 1 by rw [hM2]; exact HL1.out)
      rw [← hM2] at HG2 HT10 HLA2 HCN2
      rw [← hD2] at HM10 HLA2 HCN2
      clear hM2 hD2 HLA HCN HT HM HB
      go_wp2_with (first | with_reducible refine wl_alloc ?_)
      go_loopw [61] (fun i wr => ∃ k : Nat, k ≤ 20 ∧ i = .int .i64 k ∧ Below w10.heap.size w10 wr) (fun i _ => 20 - (intOf i).toNat)
      case atStart => exact ⟨0, by decide, rfl, Below.refl _ _⟩
      case round =>
        obtain ⟨k, hk, rfl, hbi⟩ := hrel
        have HTi := Lib.hid (HT10.out.on hbi)
        have HMi := Lib.hid (owns_map_on HM10.out hbi)
        have HBi := Lib.hid hbi
        have e0 := HTi.out.ld
        clear hbi
        by_cases hlk : k < 20
        · have hkl : (k : Int) < 20 := by omega
          obtain ⟨v, hrun, hv⟩ := HLA2.out.look HMi.out (x := (k : Int)) (int_wf (by omega) (by omega))
          obtain ⟨y1, y2, y3⟩ := at_yes (m := M2) (n := 20) (b := (k : Int)) (by omega) hkl
          have HY2 := Lib.hid y2
          by_cases hmem : (k : Int) ∈ M2
          · have HY3 := Lib.hid (show atN 20 M2 k = v by rw [y3, hv hmem])
            have hdec : decide ((k : Int) ∈ M2) = true := decide_eq_true hmem
            rw [hdec] at hrun
            clear hmem hv y1 y2 y3 hdec
            go_wp2_with (first | with_reducible refine wl_alloc ?_)
            refine (at_any 20 9 _ M2 _ HG2.out).mono ?_
            rintro e w11 ⟨rfl, hb⟩
            rw [HY2.out, HY3.out]
            have HB11 := Lib.hid (b_on HBi.out hb)
            clear hb hrun
            go_wp2_with (first | with_reducible refine wl_alloc ?_)
            go_roundw
            case rel => exact ⟨k + 1, by omega, by go_num, HB11.out⟩
            case measure => simp [intOf]; omega
          · have HY3 := Lib.hid (show atN 20 M2 k = k by
              rw [y3]
              by_cases h : plc 20 M2 k = k
              · exact h
              · exact absurd ((plc_moved hkl).1 h) hmem)
            have hdec : decide ((k : Int) ∈ M2) = false := decide_eq_false hmem
            rw [hdec] at hrun
            clear hmem hv y1 y2 y3 hdec
            go_wp2_with (first | with_reducible refine wl_alloc ?_)
            refine (at_any 20 9 _ M2 _ HG2.out).mono ?_
            rintro e w11 ⟨rfl, hb⟩
            rw [HY2.out, HY3.out]
            have HB11 := Lib.hid (b_on HBi.out hb)
            clear hb hrun
            go_wp2_with (first | with_reducible refine wl_alloc ?_)
            go_roundw
            case rel => exact ⟨k + 1, by omega, by go_num, HB11.out⟩
            case measure => simp [intOf]; omega
        · go_wp2_with (first | with_reducible refine wl_alloc ?_)
          go_roundw
          case rel => exact ⟨c + 1, n + 1, M2, D2, by omega, HLM.out, by go_num, by omega, HLA2.out, HCN2.out, HMi.out, HTi.out, HG2.out, b_on HB10.out HBi.out⟩
          case measure => simp [intOf]; omega
    · go_wp2_with (first | with_reducible refine wl_alloc ?_)
      refine (moved_any 20 9 M _ HG.out).mono ?_
      rintro e w5 ⟨va, vl, vc, rfl, hv, _, hb⟩
      have hm5 := owns_map_on HM.out hb
      have hlen5 := fun ty => hm5.len Try.underlying48 ty
      have hvl : (mvd 20 M).length = vl := hv.len_eq
      rw [HCN.out, hvl] at hlen5
      have HB5 := Lib.hid (b_on HB.out hb)
      clear hb hv hm5 hvl
      go_wp2_with (first | with_reducible refine wl_alloc ?_)
      go_ret
      exact ⟨rfl, HB5.out⟩

/-! ### THE ROW's STEP: WRITTEN OUT: LEAVE IT -/
set_option maxRecDepth 100000 in
theorem lifted (os : Os) (started : os.Started) (H : Type) (enc : TypeId × Value → H) :
    ReturnsInHanded {} Try.checked os 6 .any (Rows.tableLastSpec.pre6 enc Try.prog Try.f6 Rows.tableLastRow.domain false) (Rows.tableLastSpec.post enc Try.prog Try.f6 false true false false) := by
  refine returnsInHanded_of_change (C := Try.checked) own started (by kernel_rfl) Try.func6
    (ChangeSpec.witness6 (enc := enc) (C := Try.checked) false ⟨#[], #[.slice none 0 0], []⟩ 8 (by kernel_rfl) (by kernel_rfl) (by kernel_rfl) (by kernel_rfl)) ?_
  intro W base args ds gs before hval0 hW hcnd _
  have hval : ∀ (j : Nat) t v, Try.f6.params[j]? = some t → args[j]? = some v → Value.okWide Try.prog W .any base t v := hval0
  have hW' := hW
  obtain ⟨p, q, hA0, hV, rfl, hfz, hnd⟩ := hW
  have hA : DataW.TrodAll enc Try.prog W 0 (fun _ => true) true Try.f6.params.toList args.toList ds p := hA0
  rw [Try.params6] at hA hval
  obtain ⟨v0, vs0, d0, ds0, p0, q0, hargs, rfl, rfl, h0, r0⟩ := trodAll_cons hA
  obtain ⟨rfl, rfl, rfl⟩ := trodAll_nil r0
  obtain rfl : args = #[v0] := by cases args; simp_all
  obtain ⟨rfl, rfl⟩ := trodVars_none hV
  obtain ⟨a0, len0, cap0, rfl⟩ := okWide_slice Try.underlying42 (hval 0 42 v0 rfl rfl)
  have k0 := h0
  have lt0 : ∀ x ∈ p0, x.block < W.heap.size := by obtain ⟨m, hm⟩ := k0; exact DataW.trod_lt m _ _ _ hm
  obtain ⟨z0, w0⟩ : ∃ zs, IsRow .u8 W a0 len0 cap0 zs := by
    obtain ⟨fuel, hf⟩ := h0
    rcases open_ints Try.underlying42 Try.underlying5 (by kernel_rfl) hf with ⟨hcs, _⟩ | ⟨x, l, c, zs, hcs, _, hl, hm, hz, _, hcell, hwz⟩
    · simp [Value.cells] at hcs
      obtain ⟨rfl, rfl, rfl⟩ := hcs
      exact ⟨[], .inl ⟨rfl, rfl, rfl, rfl⟩⟩
    · simp [Value.cells] at hcs
      obtain ⟨rfl, rfl, rfl⟩ := hcs
      exact ⟨zs, .inr ⟨_, rfl, hl, hm, by simpa using hz, hcell, hwz⟩⟩
  clear hA0 hval0
  refine (walk a0 len0 cap0 z0 W w0).mono fun e W' ⟨he, bel⟩ => ?_
  subst he
  exact ⟨_, rfl, _, _, _, [], _, [], hW', trodAll_mk1 (shut_bool Try.underlying4 _), (trodAll_cons_mk (Below.trod laidOut (by kernel_rfl) (of_decide_eq_true (by kernel_rfl)) k0 bel lt0) trodAll_mk0), rfl, bel.frame _, fun h => by cases h⟩

theorem over : Rows.tableLastRow.holds Try.pinned (OpenSpec.ofChange Rows.tableLastSpec) :=
  OpenClaim.holds_of_wide 6 Try.f6 rfl rfl rfl rfl rfl rfl rfl ⟨rfl, rfl, rfl, rfl, rfl⟩ rfl rfl rfl rfl rfl (by kernel_rfl) Try.func6 (by kernel_rfl)
    (of_decide_eq_true (by kernel_rfl)) (by unfold Func.isWrapper; first | (rw [if_pos (by decide +kernel)]; kernel_rfl) | (rw [if_neg (by decide +kernel)]; exact ⟨rfl, rfl⟩))
    (fun os started H enc _ => lifted os started H enc)

/-- ████ THE STATEMENT ████ -/
theorem proved : Rows.TableLastSaid := over
#print axioms proved
end Go.Proofs.Ytonfafjacmifaaa.tableLast
