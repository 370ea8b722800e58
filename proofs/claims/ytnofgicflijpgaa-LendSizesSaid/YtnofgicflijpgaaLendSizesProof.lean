/-
  The law LendSizes holds: for all lists of numbers and all places, the bytes of numbers in widths of 8 are as many as the widths together, and those of the first ones stand ahead of the others'. Conditions: none but the row's own.
-/
import Derived.Test.YtnofgicflijpgaaRows
import Derived.Test.YtnofgicflijpgaaLendJ
import Derived.WalkKit
import Derived.ProofKit
import Derived.OpenShut
import Derived.ShutString
import Derived.ChangeOld
import Derived.Below
namespace Go.Proofs.Ytnofgicflijpgaa.lendSizes
open Go.ChangeShapes Go.WideShapes Go.ChangeAt Go.RowKit
open Go.ChangeMaps (open_string shut_string)
set_option linter.unusedVariables false

theorem own : ownKnob Try.prog.godebug = none := by kernel_rfl
theorem laidOut : laidOutB Try.prog = true := by kernel_rfl

/-- WHAT THE WALK IS TOLD OF A SLICE OF INTEGERS THAT CAME IN: it is nil; or it leads to a row of 'cap' cells, the numbers 'zs' (the first 'len' are its elements, the rest its spare room), each fitting its kind. -/
def IsRow (k : IntKind) (w : World) (a : Option Addr) (len cap : Nat) (zs : List Int) : Prop :=
  (a = none ∧ len = 0 ∧ cap = 0 ∧ zs = []) ∨
  ∃ x, a = some x ∧ len ≤ cap ∧ cap ≤ maxLen ∧ zs.length = cap ∧ (∀ i, i < zs.length → w.cell? (x.add i) = some (.int k (zs.getD i 0))) ∧ ∀ n ∈ zs, (Lit.int k n).wf = true

open Go.Proofs.Ytnofgicflijpgaa.Lend
theorem isRow_row {k : IntKind} {w : World} {a : Option Addr} {len cap : Nat} {zs : List Int} (h : IsRow k w a len cap zs) :
    Row k w a len (zs.take len) ∧ len ≤ cap ∧ cap ≤ maxLen ∧ (∀ n ∈ zs.take len, (Lit.int k n).wf = true) := by
  rcases h with ⟨rfl, rfl, rfl, rfl⟩ | ⟨x, rfl, hl, hm, hz, hc, hwf⟩
  · exact ⟨⟨rfl, fun h => absurd h (by decide)⟩, Nat.le_refl _, by unfold maxLen; omega, by simp⟩
  · refine ⟨⟨by simp; omega, fun h => ?_⟩, hl, hm, fun n hn => hwf n (List.mem_of_mem_take hn)⟩
    obtain ⟨b, off, spot⟩ := x
    have h0 := hc 0 (by omega)
    have hs : spot = none := by simpa [Addr.add] using World.cell?_spot h0
    subst hs
    refine ⟨b, off, rfl, fun i hi => ?_⟩
    have := hc i (by omega)
    rw [Addr.add_lit] at this
    rw [this]
    simp [List.getD, hi]

theorem from_int (ao : Option Addr) (k cap j : Nat) (hj : j ≤ k) : ∃ ao' m c', (∀ w, (Instr.slice 22 (.slice ao k cap) (some (.int .i64 (j : Int))) none none).run Try.prog w = .ok (.slice ao' m c') w) ∧
    m = k - j ∧ c' = cap - j ∧ ao' = if cap = j then ao else Option.map (fun x => x.add j) ao := by
  refine ⟨_, _, _, fun w => ?_, rfl, rfl, rfl⟩
  have h0 : (0 : Int) ≤ (j : Int) := by omega
  have h1 : (j : Int) ≤ (k : Int) := by omega
  go_simp
theorem from_u64 (ao : Option Addr) (k cap j : Nat) (hj : j ≤ k) : ∃ ao' m c', (∀ w, (Instr.slice 23 (.slice ao k cap) (some (.int .i64 (j : Int))) none none).run Try.prog w = .ok (.slice ao' m c') w) ∧
    m = k - j ∧ c' = cap - j ∧ ao' = if cap = j then ao else Option.map (fun x => x.add j) ao := by
  refine ⟨_, _, _, fun w => ?_, rfl, rfl, rfl⟩
  have h0 : (0 : Int) ≤ (j : Int) := by omega
  have h1 : (j : Int) ≤ (k : Int) := by omega
  go_simp
theorem walk_wf {zs : List Int} (h : ∀ n ∈ zs, (Lit.int .u64 n).wf = true) : ∀ n ∈ zs, 0 ≤ n ∧ n < 18446744073709551616 := by
  intro n hn
  have := bounds_u64 (h n hn)
  omega

/-! ### STEP 1: THE WALK: the Go text returns true, AND WRITES NOTHING THAT WAS THERE: 'Below w.heap.size w w'' (Derived/Below.lean: '.refl', '.alloc', '.drew', '.setCell' at a new block, '.trans'). Open each 'IsRow' by 'rcases' AHEAD of 'go_enter'; part every test ahead of the walk. -/
set_option maxHeartbeats 2000000 in
set_option maxRecDepth 100000 in
theorem walk (a0 : Option Addr) (len0 cap0 : Nat) (z0 : List Int) (a1 : Int) (w : World) (w0 : IsRow .u64 w a0 len0 cap0 z0) (w1 : (Lit.int .u8 a1).wf = true) :
    Calls Try.prog 7 #[.slice a0 len0 cap0, .int .u8 a1] w fun e w' => e = .returned (.bool true) ∧ Below w.heap.size w w' := by
  obtain ⟨hr, hlc, hcm, hwf⟩ := isRow_row w0
  have hnb := Lib.hid (walk_wf hwf)
  have hu := bounds_u8 w1
  have HR := Lib.hid hr
  obtain ⟨i0, hi, hz0, hz1, hz2⟩ := info_parts info_int
  clear hwf hr w0 w1 hcm
  go_enter Try.func7, Try.ntmps7
  go_upto_region 2 with fail
  go_cut [0] (fun s wx => ∃ n : Nat, n ≤ 15 ∧ n ≤ len0 ∧ s = .slice a0 n cap0 ∧ wx = w)
  case first =>
    go_wp2
    all_goals (go_meet; first | exact ⟨15, by omega, by omega, rfl, rfl⟩ | exact ⟨len0, by omega, by omega, rfl, rfl⟩)
  case rest =>
    obtain ⟨n, hn15, hnl, rfl, rfl⟩ := hcut
    obtain ⟨xs, hxs⟩ : ∃ xs, xs = (z0.take len0).take n := ⟨_, rfl⟩
    have hrow : Row .u64 wc a0 n xs := by rw [hxs]; exact HR.out.take n hnl
    have hxb : ∀ m ∈ xs, 0 ≤ m ∧ m < 18446744073709551616 := fun m hm => hnb.out m (by rw [hxs] at hm; exact List.mem_of_mem_take hm)
    have HROW := Lib.hid hrow
    have HXB := Lib.hid hxb
    clear hxs HR hnb hrow hxb
    go_wp2
    go_loopw [5, 20] (fun v i wr => ∃ k : Nat, k ≤ n ∧ i = .int .i64 k ∧ wr.ownsRow wc.heap.size 3 1 v k ((eights k).map (Value.int .i64)) ∧ Below wc.heap.size wc wr) (fun _ i _ => n - (intOf i).toNat)
    case atStart => exact ⟨0, Nat.zero_le _, rfl, World.ownsRow_nil _ _ _ _, Below.refl _ _⟩
    case round =>
      obtain ⟨k, hk, rfl, hownr, hbel⟩ := hrel
      have hsz := hbel.size
      by_cases hlt : k < n
      · go_wp2_with (at_builtin; refine wpList_append_own _ rfl _ _ 22 rfl wc.heap.size 3 i0 (.int .i64 0) 1 8 Try.underlying22 hi hz0 hz1 hz2 rfl (by decide) _ _ _ rfl (hownr.alloc _) ⟨wr.heap.size, 0, none⟩ 1 1 [.int .i64 8] rfl rfl ?c1 ?c2 ?c3 ?c4 ?c5 ?_)
        case c1 =>
          intro j u hj
          match j, hj with
          | 0, hj => simp at hj; subst hj; simp [Addr.add]
        case c2 => intro u hu; simp at hu; subst hu; rfl
        case c3 => unfold maxLen; omega
        case c4 => omega
        case c5 => simp; omega
        intro v' w1 hown' hgrow _
        have hbel' : Below wc.heap.size wc w1 := (hbel.alloc (by omega) _).grown hgrow (by simp; omega) (fun q hq => (hownr.lt q hq).1)
        clear hownr hgrow
        go_wp2
        go_roundw
        case rel => exact ⟨k + 1, by omega, by go_num, by rw [eights_succ, List.map_append]; exact hown', hbel'⟩
        case measure => simp [intOf]; omega
      · obtain rfl : k = n := by omega
        obtain ⟨ao, cap, rfl, hkc⟩ := own_shape hownr
        have h8 := Lib.hid (Row.own hownr)
        clear hownr
        have hlx : xs.length = k := HROW.out.len_eq
        have hw8 := wr_8 xs (fun m hm => (HXB.out m hm).2)
        rw [hlx] at hw8
        have HW8 := Lib.hid hw8
        have hsz8 : (bytes8 xs).size ≤ 8 * k := by rw [bytes8_size]; omega
        have hsz8' : 8 * k ≤ (bytes8 xs).size := by rw [bytes8_size]; omega
        have HLX := Lib.hid hlx
        clear hw8 hlx
        have hrow := HROW.out.below hbel (Nat.le_refl _)
        go_wp2_with fail
        refine (write_any _ _ k cap k cap0 (eights k) xs _ h8.out hrow (by omega) (by omega) HXB.out).mono ?_
        rintro e w2 ⟨rfl, hb2⟩
        rw [HW8.out.1, HW8.out.2]
        have h8b := Lib.hid (h8.out.below hb2 (Nat.le_refl _))
        have hb2 : Below wc.heap.size wc w2 := hbel.trans (hb2.mono hsz)
        have hs2 := hb2.size
        clear hbel hsz hrow h8
        go_wp2_with fail
        refine (wakes_any _).mono ?_
        rintro e w3 ⟨rfl, hb3⟩
        have h8c := Lib.hid (h8b.out.below hb3 (Nat.le_refl _))
        have hb3 : Below wc.heap.size wc w3 := hb2.trans (hb3.mono hs2)
        have hs3 := hb3.size
        clear hb2 h8b
        go_wp2_with fail
        refine (size_any ao k cap (eights k) _ h8c.out (by omega)).mono ?_
        rintro e w4 ⟨rfl, rfl⟩
        rw [measN_yes (eights_ok k), eights_sum k]
        go_upto_region 11 with fail
        obtain ⟨j, hj⟩ := Int.eq_ofNat_of_zero_le (Int.emod_nonneg a1 (show (k : Int) + 1 ≠ 0 by omega))
        have hjk : j ≤ k := by have := Int.emod_lt_of_pos a1 (show (0 : Int) < (k : Int) + 1 by omega); omega
        rw [hj]
        clear hj
        have hra : Row .i64 w3.drew ao j (eights j) := by
          have := (h8c.out.take j hjk).below (B := w3.heap.size) (Below.drew (Below.refl _ _)) (Nat.le_refl _)
          rwa [eights_take _ _ hjk] at this
        have hrb : Row .u64 w3.drew a0 j (xs.take j) :=
          (HROW.out.take j hjk).below hb3.drew (Nat.le_refl _)
        have hxj := wr_8 (xs.take j) (fun m hm => (HXB.out m (List.mem_of_mem_take hm)).2)
        rw [show (xs.take j).length = j by rw [List.length_take, HLX.out]; omega] at hxj
        have HXJ := Lib.hid hxj
        have HRA := Lib.hid hra
        have HRB := Lib.hid hrb
        have HB3 := Lib.hid hb3
        clear hra hrb hxj hb3
        go_cut [9, 10] (fun s9 s10 wx => s9 = .string (bytes8 (xs.take j)) ∧ s10 = .bool true ∧ Below w3.heap.size w3 wx)
        case first =>
          go_region_with (go_at_call 8; refine (write_any _ _ j cap j cap0 (eights j) (xs.take j) _ HRA.out HRB.out (by omega) (by omega) (fun m hm => HXB.out m (List.mem_of_mem_take hm))).mono ?_; rintro e w4 ⟨rfl, hb4⟩; rw [HXJ.out.1, HXJ.out.2])
          all_goals (go_wp2; go_meet; exact ⟨rfl, rfl, (Below.refl _ w3).drew.trans hb4⟩)
        case rest =>
          obtain ⟨rfl, rfl, hb4⟩ := hcut
          have hs4 := hb4.size
          have HB4 := Lib.hid (HB3.out.trans (hb4.mono hs3))
          obtain ⟨a1', m1, c1', hs1, hm1, -, ha1⟩ := from_int ao k cap j hjk
          obtain ⟨a2', m2, c2', hs2', hm2, -, ha2⟩ := from_u64 a0 k cap0 j hjk
          have hra : Row .i64 wc.drew a1' m1 (eights (k - j)) := by
            have := ((h8c.out.below hb4 (Nat.le_refl _)).below (Below.drew (Below.refl wc.heap.size _)) (Nat.le_refl _)).dropIf cap j hjk hkc
            rw [eights_drop] at this
            rwa [hm1, ha1]
          have HRA2 := Lib.hid hra
          have hrb : Row .u64 wc.drew a2' m2 (xs.drop j) := by
            rw [hm2, ha2]
            exact ((HROW.out.below HB4.out (Nat.le_refl _)).below (Below.drew (Below.refl wc.heap.size _)) (Nat.le_refl _)).dropIf cap0 j hjk (by omega)
          have HRB2 := Lib.hid hrb
          have hxj := wr_8 (xs.drop j) (fun m hm => (HXB.out m (List.mem_of_mem_drop hm)).2)
          rw [show (xs.drop j).length = k - j by rw [List.length_drop, HLX.out]] at hxj
          have HXJ2 := Lib.hid hxj
          have hm1' : m1 ≤ 15 := by omega
          have hm2' : m2 ≤ 15 := by omega
          clear hb4 hra hrb hxj hm1 hm2 ha1 ha2
          go_upto_region 12 with fail
          go_cut [11, 12] (fun s9 s10 wx => s9 = .string (bytes8 (xs.drop j)) ∧ s10 = .bool true ∧ Below wc.heap.size wc wx)
          case first =>
            go_region_with (go_at_call 8; refine (write_any _ _ m1 c1' m2 c2' (eights (k - j)) (xs.drop j) _ HRA2.out HRB2.out (by omega) (by omega) (fun m hm => HXB.out m (List.mem_of_mem_drop hm))).mono ?_; rintro e w4 ⟨rfl, hb4⟩; rw [HXJ2.out.1, HXJ2.out.2])
            all_goals (go_wp2; go_meet; exact ⟨rfl, rfl, (Below.refl _ wc).drew.trans hb4⟩)
          case rest =>
            obtain ⟨rfl, rfl, hb5⟩ := hcut
            have heq : bytes8 (xs.take j) ++ bytes8 (xs.drop j) = bytes8 xs := by rw [bytes8_append, List.take_append_drop]
            have hs5 := hb5.size
            have HB5 := Lib.hid (HB4.out.trans (hb5.mono (by omega)))
            have hz1 : (bytes8 (xs.take j)).size ≤ 120 := by rw [bytes8_size]; have := List.length_take_le j xs; omega
            have hz2 : (bytes8 (xs.drop j)).size ≤ 120 := by rw [bytes8_size]; have := HLX.out; simp; omega
            clear hb5
            go_wp2
            go_ret
            exact ⟨rfl, HB5.out⟩

/-! ### THE ROW's STEP: WRITTEN OUT: LEAVE IT -/
set_option maxRecDepth 100000 in
theorem lifted (os : Os) (started : os.Started) (H : Type) (enc : TypeId × Value → H) :
    ReturnsInHanded {} Try.checked os 7 .any (Rows.lendSizesSpec.pre6 enc Try.prog Try.f7 Rows.lendSizesRow.domain false) (Rows.lendSizesSpec.post enc Try.prog Try.f7 false true false false) := by
  refine returnsInHanded_of_change (C := Try.checked) own started (by kernel_rfl) Try.func7
    (ChangeSpec.witness6 (enc := enc) (C := Try.checked) false ⟨#[], #[.slice none 0 0, .int .u8 0], []⟩ 8 (by kernel_rfl) (by kernel_rfl) (by kernel_rfl) (by kernel_rfl)) ?_
  intro W base args ds gs before hval0 hW hcnd _
  have hval : ∀ (j : Nat) t v, Try.f7.params[j]? = some t → args[j]? = some v → Value.okWide Try.prog W .any base t v := hval0
  have hW' := hW
  obtain ⟨p, q, hA0, hV, rfl, hfz, hnd⟩ := hW
  have hA : DataW.TrodAll enc Try.prog W 0 (fun _ => true) true Try.f7.params.toList args.toList ds p := hA0
  rw [Try.params7] at hA hval
  obtain ⟨v0, vs0, d0, ds0, p0, q0, hargs, rfl, rfl, h0, r0⟩ := trodAll_cons hA
  obtain ⟨v1, vs1, d1, ds1, p1, q1, rfl, rfl, rfl, h1, r1⟩ := trodAll_cons r0
  obtain ⟨rfl, rfl, rfl⟩ := trodAll_nil r1
  obtain rfl : args = #[v0, v1] := by cases args; simp_all
  obtain ⟨rfl, rfl⟩ := trodVars_none hV
  obtain ⟨a0, len0, cap0, rfl⟩ := okWide_slice Try.underlying23 (hval 0 23 v0 rfl rfl)
  have k0 := h0
  have lt0 : ∀ x ∈ p0, x.block < W.heap.size := by obtain ⟨m, hm⟩ := k0; exact DataW.trod_lt m _ _ _ hm
  obtain ⟨z0, w0⟩ : ∃ zs, IsRow .u64 W a0 len0 cap0 zs := by
    obtain ⟨fuel, hf⟩ := h0
    rcases open_ints Try.underlying23 Try.underlying31 (by kernel_rfl) hf with ⟨hcs, _⟩ | ⟨x, l, c, zs, hcs, _, hl, hm, hz, _, hcell, hwz⟩
    · simp [Value.cells] at hcs
      obtain ⟨rfl, rfl, rfl⟩ := hcs
      exact ⟨[], .inl ⟨rfl, rfl, rfl, rfl⟩⟩
    · simp [Value.cells] at hcs
      obtain ⟨rfl, rfl, rfl⟩ := hcs
      exact ⟨zs, .inr ⟨_, rfl, hl, hm, by simpa using hz, hcell, hwz⟩⟩
  obtain ⟨a1, rfl, rfl, rfl, w1⟩ := open_int Try.underlying5 (hval 1 5 v1 rfl rfl) h1
  clear hA0 hval0
  refine (walk a0 len0 cap0 z0 a1 W w0 w1).mono fun e W' ⟨he, bel⟩ => ?_
  subst he
  exact ⟨_, rfl, _, _, _, [], _, [], hW', trodAll_mk1 (shut_bool Try.underlying4 _), (trodAll_cons_mk (Below.trod laidOut (by kernel_rfl) (of_decide_eq_true (by kernel_rfl)) k0 bel lt0) (trodAll_cons_mk (shut_int Try.underlying5 w1) trodAll_mk0)), rfl, bel.frame _, fun h => by cases h⟩

theorem over : Rows.lendSizesRow.holds Try.pinned (OpenSpec.ofChange Rows.lendSizesSpec) :=
  OpenClaim.holds_of_wide 7 Try.f7 rfl rfl rfl rfl rfl rfl rfl ⟨rfl, rfl, rfl, rfl, rfl⟩ rfl rfl rfl rfl rfl (by kernel_rfl) Try.func7 (by kernel_rfl)
    (of_decide_eq_true (by kernel_rfl)) (by unfold Func.isWrapper; first | (rw [if_pos (by decide +kernel)]; kernel_rfl) | (rw [if_neg (by decide +kernel)]; exact ⟨rfl, rfl⟩))
    (fun os started H enc _ => lifted os started H enc)

/-- ████ THE STATEMENT ████ -/
theorem proved : Rows.LendSizesSaid := over
#print axioms proved
end Go.Proofs.Ytnofgicflijpgaa.lendSizes
