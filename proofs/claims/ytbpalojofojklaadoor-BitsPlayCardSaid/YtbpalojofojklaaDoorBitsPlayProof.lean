/-
  The law BitsPlay holds: whatever numbers are put, the answers, which are of the set, how many, and which come next, are the document's; a copy has nothing to do with what it is of. Conditions: none but the row's own.
-/
import Derived.Test.YtbpalojofojklaaDoorRows
import Derived.Test.YtbpalojofojklaaDoorBitM
import Derived.Test.YtbpalojofojklaaDoorCards
import Derived.Test.YtbpalojofojklaaDoorTie
import Derived.Test.YtbpalojofojklaaDoorStructs
import Derived.WalkKit
import Derived.ProofKit
import Derived.OpenShut
import Derived.ShutString
import Derived.ChangeOld
import Derived.Below
import Derived.Carry
import Derived.Deep.DeepHandedRow

import Derived.Lib.LaidTab
namespace Go.Proofs.YtbpalojofojklaaDoor.bitsPlay
open Go.ChangeShapes Go.WideShapes Go.ChangeAt Go.RowKit
open Go.Proofs.YtbpalojofojklaaDoor
open Go.ChangeMaps (open_string shut_string)
set_option linter.unusedVariables false

theorem own : ownKnob Tryd.prog.godebug = none := by kernel_rfl
theorem laidOut : laidOutB Tryd.prog = true := by kernel_rfl

/-- the elements of argument 1 -/
def AR1 (w : World) (a : Option Addr) (len : Nat) : Prop := 0 < len → ∃ b off, a = some ⟨b, off, none⟩ ∧ ∀ i, i < len → ∃ (x0 : Int) (x1 : Bool), w.cell? ⟨b, off + (i * 2 + 0), none⟩ = some (.int .i64 x0) ∧ (Lit.int .i64 x0).wf = true ∧ w.cell? ⟨b, off + (i * 2 + 1), none⟩ = some (.bool x1) ∧ True
theorem open_AR1 {H : Type} {enc : TypeId × Value → H} {w : World} {held : Bool} {c : Value} (h : ∃ m y, DataW.trod enc Tryd.prog w 0 (fun _ => true) held m 22 [c] = some y) :
    ∃ a len cap, c = .slice a len cap ∧ AR1 w a len ∧ len ≤ cap ∧ cap ≤ maxLen := by
  obtain ⟨a, len, cap, hc, hl, hm, hx⟩ := open_structs Tryd.underlying22 Tryd.underlying32 (by kernel_rfl) (by kernel_rfl) (by decide) h
  refine ⟨a, len, cap, hc, fun hpos => ?_, hl, hm⟩
  obtain ⟨b, off, ha, hf⟩ := hx hpos
  refine ⟨b, off, ha, fun i hi => ?_⟩
  obtain ⟨v0, hc0, ht0⟩ := hf i hi 0 _ rfl
  obtain ⟨x0, rfl, hw0⟩ := open_int_cell Tryd.underlying3 ht0
  obtain ⟨v1, hc1, ht1⟩ := hf i hi 1 _ rfl
  obtain ⟨x1, rfl⟩ := open_bool_cell Tryd.underlying4 ht1
  have hw1 : True := trivial
  exact ⟨x0, x1, hc0, hw0, hc1, hw1⟩

open Go.Proofs.YtbpalojofojklaaDoor.Bit
theorem run_minC (P : Program) (w : World) (t : TypeId) (ts : Array TypeId) (a c : Nat) : (Builtin.min_ ts t #[.int .i64 (a : Nat), .int .i64 (c : Nat)]).run P w = .ok (.int .i64 ((min a c : Nat) : Int)) w := by
  have e : ∀ a b : Nat, (if (b : Int) < a then (b : Int) else a) = ((min a b : Nat) : Int) := by intro a b; split <;> omega
  simp only [Builtin.min_, Builtin.min2, List.foldlM, Sem.run_bind, Sem.run_pure, Result.andThen]
  rw [e]

/-! ### STEP 1: THE WALK -/
set_option maxHeartbeats 8000000 in
set_option maxRecDepth 100000 in
theorem walk (a0 : Int) (a1 : Option Addr) (a1l a1c : Nat) (a2 : Int) (w : World) (w0 : (Lit.int .i64 a0).wf = true) (w1 : AR1 w a1 a1l) (w1l : a1l ≤ a1c) (w1m : a1c ≤ maxLen) (w2 : (Lit.int .i64 a2).wf = true) (hT : Bit.Tz w) :
    Calls Tryd.prog 3 #[.int .i64 a0, .slice a1 a1l a1c, .int .i64 a2] w fun e w' => e = .returned (.bool true) ∧ Below w.heap.size w w' := by
  have HZT := Lib.hid hT
  clear hT
  have W1 := Lib.hid w1
  clear w0 w1 w2
  unfold maxLen at w1m
  obtain ⟨i0, hi, hz0, hz1, hz2⟩ := info_parts info_bool9
  go_enter Tryd.func3, Tryd.ntmps3
  go_upto_region 1 with fail
  go_cut [7, 8] (fun s e wx => Below w.heap.size w wx ∧ ((mayS a0 = true ∧ (∃ p, s = .pointer (some ⟨p, 0, none⟩)) ∧ e = .int .i64 0) ∨ (mayS a0 = false ∧ s = .pointer none ∧ e = .int .i64 2)))
  case first =>
    cases hm : mayS a0 with
    | true =>
      have HM := Lib.hid hm
      clear hm
      go_wp2_with fail
      refine (new_yes a0 _ HM.out).mono ?_
      rintro e w3 ⟨p, R, rfl, _, _, hb⟩
      go_wp2_with fail
      go_meet
      exact ⟨hb, .inl ⟨HM.out, ⟨p, rfl⟩, rfl⟩⟩
    | false =>
      have HM := Lib.hid hm
      clear hm
      go_wp2_with fail
      refine (new_no a0 _ HM.out).mono ?_
      rintro e w3 ⟨rfl, hb⟩
      go_wp2_with fail
      go_meet
      exact ⟨hb, .inr ⟨HM.out, rfl, rfl⟩⟩
  case rest =>
    obtain ⟨hb1, hcs⟩ := hcut
    have HB1 := Lib.hid hb1
    go_upto_region 2 with fail
    go_cut [7, 8, 40] (fun _ _ c wx => c = .bool false ∧ Below w.heap.size w wx)
    case first =>
      rcases hcs with ⟨hm, ⟨p, rfl⟩, rfl⟩ | ⟨hm, rfl, rfl⟩
      all_goals
        have HM := Lib.hid hm
        clear hm hb1
        go_wp2_with fail
        refine (refmay_any a0 _).mono ?_
        rintro e w4 ⟨rfl, rfl⟩
        rw [HM.out]
        go_wp2_with fail
        go_meet
        exact ⟨rfl, HB1.out⟩
    case rest =>
      obtain ⟨rfl, hcb⟩ := hcut
      clear hcs hb1 HB1
      go_upto_region 4 with fail
      go_cut [9] (fun x wx => ∃ n : Nat, x = .int .i64 n ∧ (1 ≤ n ∧ n ≤ 150) ∧ Below w.heap.size w wx)
      case first =>
        go_wp2
        all_goals (go_meet; first | exact ⟨(1 + a0 % 150).toNat, by simp; omega, by omega, hcb⟩ | exact ⟨1, rfl, by omega, hcb⟩)
      case rest =>
        obtain ⟨n, rfl, ⟨n1, n2⟩, hcb⟩ := hcut
        have HCB := Lib.hid hcb
        clear hcb
        have hmy : mayS n = true := mayS_of (by omega) (by omega)
        go_wp2_with fail
        refine (new_yes n _ hmy).mono ?_
        rintro e w3 ⟨p, R, rfl, hs, hR, hb⟩
        rw [Int.toNat_natCast] at hs
        have HO := Lib.hid (Own.of (w0 := w) hs hR HCB.out.size)
        have HB := Lib.hid (b_on HCB.out hb)
        clear hs hR hb
        have hn0 : (0 : Int) ≤ (n : Int) := by omega
        go_wp2_with (at_make; refine wpList_make_full _ rfl _ _ 28 rfl w3.heap.size 4 i0 (.bool false) 1 Tryd.underlying28 hi hz0 hz1 _ _ _ _ n rfl rfl rfl rfl ?b1 ?b2 ?b3 ?_)
        case b1 => rw [hz2]; omega
        case b2 => unfold maxLen; omega
        case b3 => exact Nat.le_refl _
        intro w4 hown hgrow
        have hb4 : Below w3.heap.size w3 w4 := (Below.refl _ _).grown hgrow (Nat.le_refl _) (fun q hq => by cases hq)
        have HO4 := Lib.hid (HO.out.on hb4)
        have HB4 := Lib.hid (b_on HB.out hb4)
        have hval : (madeCells #[Value.bool false] n).toList = bV (List.replicate n false) := by rw [toList_madeCells_one]; simp [bV]
        rw [hval] at hown
        have HV4 := Lib.hid (Vals.own hown)
        have HA4 := Lib.hid (apart_new HO.out.at_.lt (NewM.own hown))
        have HL0 := Lib.hid (show (List.replicate n false).length = n by simp)
        clear hown hgrow hb4 hval HO HB hmy
        obtain ⟨g, hg⟩ : ∃ g, g = w3.heap.size := ⟨_, rfl⟩
        rw [← hg] at HV4 HA4
        go_wp2_with fail
        rw [← hg]
        clear hg
        refine (wakes_any _ (HZT.out.on HB4.out)).mono ?_
        rintro e w5 ⟨rfl, hb⟩
        have HO5 := Lib.hid (HO4.out.on hb)
        have HV5 := Lib.hid (HV4.out.below hb)
        have HB5 := Lib.hid (b_on HB4.out hb)
        clear hb HO4 HV4 HB4
        go_wp2_with fail
        refine (same_any p R _ _ n n a2 _ (HZT.out.on HB5.out) HO5.out.at_ HV5.out).mono ?_
        rintro e w6 ⟨rfl, hb⟩
        have HO6 := Lib.hid (HO5.out.on hb)
        have HV6 := Lib.hid (HV5.out.below hb)
        have HB6 := Lib.hid (b_on HB5.out hb)
        clear hb HO5 HV5 HB5
        obtain ⟨mm, hm⟩ : ∃ mm, mm = min a1l 40 := ⟨_, rfl⟩
        have hmin : ∀ W ts, (Builtin.min_ ts 3 #[.int .i64 (a1l : Nat), .int .i64 40]).run Tryd.prog W = .ok (.int .i64 (mm : Int)) W := by
          intro W ts; rw [hm]; exact run_minC _ _ _ _ a1l 40
        have hml : mm ≤ a1l := by omega
        have hml' : mm ≤ a1c := by omega
        clear hm
        go_wp2_with fail
        clear hmin
        go_loopw [12, 75] (fun mv i wr => ∃ (c : Nat) (l : List Bool) (R : List Nat) (ao : Option Addr) (cap : Nat), c ≤ mm ∧ i = .int .i64 c ∧ mv = .slice ao n cap ∧ Own w p R l wr ∧ Vals wr ao n cap (bV l) ∧ Apart R ao ∧ l.length = n ∧ Below w.heap.size w wr) (fun _ i _ => mm - (intOf i).toNat)
        case atStart => exact ⟨0, _, R, _, _, Nat.zero_le _, rfl, rfl, HO6.out, HV6.out, HA4.out, HL0.out, HB6.out⟩
        case round =>
          obtain ⟨c, l, R1, ao, cap, hc, rfl, rfl, ho, hv, hap, hll, hbr⟩ := hrel
          clear HO6 HV6 HB6
          have HO := Lib.hid ho
          have HV := Lib.hid hv
          have HAP := Lib.hid hap
          have HLL := Lib.hid hll
          have HB := Lib.hid hbr
          by_cases hlt : c < mm
          · obtain ⟨zb, zo, rfl, hel⟩ := W1.out (by omega)
            obtain ⟨x0, x1, hx0, _, hx1, _⟩ := hel c (by omega)
            have hz0' : wr.cell? ⟨zb, zo + c * 2, none⟩ = some (.int .i64 x0) := (hbr.cell (World.block_lt_of_cell? _ _ hx0)).trans hx0
            have hz1' : wr.cell? ⟨zb, zo + (c * 2 + 1), none⟩ = some (.bool x1) := (hbr.cell (World.block_lt_of_cell? _ _ hx1)).trans hx1
            have hz1'' : wr.cell? ⟨zb, zo + c * 2 + 1, none⟩ = some (.bool x1) := hz1'
            have hA := Has.new wr [.int .i64 x0, .bool x1] 32
            have HAa := Lib.hid hA
            have HO1 := Lib.hid (HO.out.on (b_new wr (.cells #[.int .i64 x0, .bool x1] 32)))
            have HV1 := Lib.hid (HV.out.new (.cells #[.int .i64 x0, .bool x1] 32))
            have HB1 := Lib.hid (b_nw HB.out (.cells #[.int .i64 x0, .bool x1] 32))
            clear ho hv hap hll hbr hel hx0 hx1 hA
            obtain ⟨q, hq⟩ : ∃ q, q = wr.heap.size := ⟨_, rfl⟩
            rw [← hq] at HAa
            go_wp2_with fail
            rw [← hq]
            clear hz0' hz1' hz1''
            refine (copy_any _ HO1.out.at_).mono ?_
            rintro e w7 ⟨p2, R2, rfl, hs2, hR2, hb⟩
            have HO2 := Lib.hid (HO1.out.on hb)
            have HV2 := Lib.hid (HV1.out.below hb)
            have HB2 := Lib.hid (b_on HB1.out hb)
            have HA2 := Lib.hid (HAa.out.below hb HAa.out.lt)
            have HC2 := Lib.hid (Own.of (w0 := w) hs2 hR2 HB1.out.size)
            have HD2 := Lib.hid (show ∀ k ∈ R2, k ∉ R1 from fun k hk hk1 => by have := HO1.out.at_.lt k hk1; have := hR2 k hk; omega)
            clear hs2 hR2 hb hq HO1 HV1 HB1 HAa
            have e0 := HA2.out.cell 0
            have e1 := HA2.out.cell 1
            simp only [List.getElem?_cons_zero, List.getElem?_cons_succ] at e0 e1
            go_wp2_with fail
            refine (refput9_any _ n _ l x0 x1 _ HV2.out (by omega)).mono ?_
            rintro e w8 ⟨ao2, cap2, rfl, hv2, hn2, hb⟩
            have HO3 := Lib.hid (HO2.out.on hb)
            have HV3 := Lib.hid (HV2.out.below hb)
            have HB3 := Lib.hid (b_on HB2.out hb)
            have HA3 := Lib.hid (HA2.out.below hb HA2.out.lt)
            have HC3 := Lib.hid (HC2.out.on hb)
            have HW3 := Lib.hid hv2
            have HN3 := Lib.hid (apart_new HO2.out.at_.lt hn2)
            clear hv2 hn2 hb e0 e1 HO2 HV2 HB2 HA2 HC2
            have e0 := HA3.out.cell 0
            have e1 := HA3.out.cell 1
            simp only [List.getElem?_cons_zero, List.getElem?_cons_succ] at e0 e1
            obtain ⟨B, hB⟩ : ∃ B, B = hasL l x0 := ⟨_, rfl⟩
            rw [← hB]
            go_wp2_with fail
            refine (put_any x0 x1 _ HO3.out.at_).mono ?_
            rintro e w9 ⟨R3, rfl, hs3, hR3, hc3⟩
            rw [← hB]
            have HO4 := Lib.hid (HO3.out.put hs3 hR3 HB3.out.size)
            have HV4 := Lib.hid (HV3.out.keep HAP.out fun k hk hkR => hc3.block k hk hkR)
            have HW4 := Lib.hid (HW3.out.keep HN3.out fun k hk hkR => hc3.block k hk hkR)
            have HC4 := Lib.hid (HC3.out.chg hc3 HD2.out)
            have HB4 := Lib.hid (b_chg HB3.out hc3 HO3.out.ge)
            have HN4 := Lib.hid (show Apart R3 ao2 from fun a ha hk => by
              rcases hR3 _ hk with h | h
              · exact HN3.out a ha h
              · obtain ⟨a', ha', hlt'⟩ := HW3.out.lt (by omega)
                rw [ha] at ha'
                cases ha'
                omega)
            clear hs3 hR3 hc3 e0 e1 HO3 HV3 HW3 HC3 HB3
            go_wp2_with fail
            refine (same_any p R3 (putL l x0 x1) _ n _ a2 _ (HZT.out.on HB4.out) HO4.out.at_ HW4.out).mono ?_
            rintro e w10 ⟨rfl, hb⟩
            have HO5 := Lib.hid (HO4.out.on hb)
            have HV5 := Lib.hid (HV4.out.below hb)
            have HW5 := Lib.hid (HW4.out.below hb)
            have HC5 := Lib.hid (HC4.out.on hb)
            have HB5 := Lib.hid (b_on HB4.out hb)
            clear hb HO4 HV4 HW4 HC4 HB4
            go_wp2_with fail
            refine (same_any p2 R2 l _ n _ a2 _ (HZT.out.on HB5.out) HC5.out.at_ HV5.out).mono ?_
            rintro e w11 ⟨rfl, hb⟩
            have HO6 := Lib.hid (HO5.out.on hb)
            have HW6 := Lib.hid (HW5.out.below hb)
            have HB6 := Lib.hid (b_on HB5.out hb)
            clear hb
            go_wp2_with fail
            go_roundw
            case rel => exact ⟨c + 1, putL l x0 x1, R3, _, _, by omega, by go_num, rfl, HO6.out, HW6.out, HN4.out, by rw [putL_length, HLL.out], HB6.out⟩
            case measure => simp [intOf]; omega
          · clear ho hv hap hll
            go_wp2_with fail
            go_ret
            exact ⟨rfl, hbr⟩

set_option maxRecDepth 100000 in
theorem contract (H : Type) (enc : TypeId × Value → H) (W : World) (base : Nat) (args : Array Value) (ds gs : List (DataW H)) (before : List MemPlace)
    (hval0 : ∀ (j : Nat) t v, Tryd.f3.params[j]? = some t → args[j]? = some v → Value.okWide Tryd.prog W .any base t v)
    (hW : DataW.Whole enc Tryd.prog Tryd.f3.params.toList Rows.bitsPlaySpec.vars false W args.toList ds gs before)
    (hlm : laidMet Tryd.prog Rows.bitsPlayRow.laid W) :
    Calls Tryd.prog 3 args W fun e W' => ∃ v, e = .returned v ∧ Rows.bitsPlaySpec.post enc Tryd.prog Tryd.f3 false true false false W args v W' := by
  have hval : ∀ (j : Nat) t v, Tryd.f3.params[j]? = some t → args[j]? = some v → Value.okWide Tryd.prog W .any base t v := hval0
  have hW' := hW
  obtain ⟨p, q, hA0, hV, rfl, hfz, hnd⟩ := hW
  have hA : DataW.TrodAll enc Tryd.prog W 0 (fun _ => true) true Tryd.f3.params.toList args.toList ds p := hA0
  rw [Tryd.params3] at hA hval
  obtain ⟨v0, vs0, d0, ds0, p0, q0, hargs, rfl, rfl, h0, r0⟩ := trodAll_cons hA
  obtain ⟨v1, vs1, d1, ds1, p1, q1, rfl, rfl, rfl, h1, r1⟩ := trodAll_cons r0
  obtain ⟨v2, vs2, d2, ds2, p2, q2, rfl, rfl, rfl, h2, r2⟩ := trodAll_cons r1
  obtain ⟨rfl, rfl, rfl⟩ := trodAll_nil r2
  obtain rfl : args = #[v0, v1, v2] := by cases args; simp_all
  obtain ⟨rfl, rfl⟩ := trodVars_none hV
  obtain ⟨a0, rfl, rfl, rfl, w0⟩ := open_int Tryd.underlying3 (hval 0 3 v0 rfl rfl) h0
  have k1 := h1
  have lt1 : ∀ x ∈ p1, x.block < W.heap.size := by obtain ⟨m, hm⟩ := k1; exact DataW.trod_lt m _ _ _ hm
  obtain ⟨a1', l1', c1', rfl⟩ := okWide_slice Tryd.underlying22 (hval 1 22 v1 rfl rfl)
  obtain ⟨a1, a1l, a1c, he1, w1, w1l, w1m⟩ := open_AR1 (c := .slice a1' l1' c1') (by obtain ⟨m, hm⟩ := h1; exact ⟨m, _, hm⟩)
  simp only [Value.slice.injEq] at he1
  obtain ⟨rfl, rfl, rfl⟩ := he1
  obtain ⟨a2, rfl, rfl, rfl, w2⟩ := open_int Tryd.underlying3 (hval 2 3 v2 rfl rfl) h2
  clear hA0 hval0
  refine (walk a0 a1' l1' c1' a2 W w0 w1 w1l w1m w2 (Bit.tz_of hlm)).mono fun e W' ⟨he, bel⟩ => ?_
  subst he
  exact ⟨_, rfl, _, _, _, [], _, [], hW', trodAll_mk1 (shut_bool Tryd.underlying4 _), (trodAll_cons_mk (shut_int Tryd.underlying3 w0) (trodAll_cons_mk (Below.trod laidOut (by kernel_rfl) (of_decide_eq_true (by kernel_rfl)) k1 bel lt1) (trodAll_cons_mk (shut_int Tryd.underlying3 w2) trodAll_mk0))), rfl, bel.frame _, fun h => by cases h⟩

noncomputable def laidWorld (os : Os) : World :=
  { World.holding Tryd.prog os ⟨#[], #[], []⟩ with heap := (((World.holding Tryd.prog os ⟨#[], #[], []⟩).heap).modify 0 fun | .cells _ t frozen => .cells (#[.int .u8 0, .int .u8 1, .int .u8 56, .int .u8 2, .int .u8 57, .int .u8 49, .int .u8 28, .int .u8 3, .int .u8 61, .int .u8 58, .int .u8 42, .int .u8 50, .int .u8 38, .int .u8 29, .int .u8 17, .int .u8 4, .int .u8 62, .int .u8 47, .int .u8 59, .int .u8 36, .int .u8 45, .int .u8 43, .int .u8 51, .int .u8 22, .int .u8 53, .int .u8 39, .int .u8 33, .int .u8 30, .int .u8 24, .int .u8 18, .int .u8 12, .int .u8 5, .int .u8 63, .int .u8 55, .int .u8 48, .int .u8 27, .int .u8 60, .int .u8 41, .int .u8 37, .int .u8 16, .int .u8 46, .int .u8 35, .int .u8 44, .int .u8 21, .int .u8 52, .int .u8 32, .int .u8 23, .int .u8 11, .int .u8 54, .int .u8 26, .int .u8 40, .int .u8 15, .int .u8 34, .int .u8 20, .int .u8 31, .int .u8 10, .int .u8 25, .int .u8 14, .int .u8 19, .int .u8 9, .int .u8 13, .int .u8 8, .int .u8 7, .int .u8 6]) t frozen | o => o) }
theorem laid_met (os : Os) : laidMet Tryd.prog Rows.bitsPlayRow.laid ((laidWorld os).forCall (fun _ _ => 0) ⟨#[], #[.int .i64 0, .slice none 0 0, .int .i64 0], []⟩).memory :=
  laidMet_of_run' 8 (by kernel_rfl) (by kernel_rfl)
theorem reads (os : Os) {H : Type} (enc : TypeId × Value → H) : ∃ places, DataW.whole enc Tryd.prog ((laidWorld os).forCall (fun _ _ => 0) ⟨#[], #[.int .i64 0, .slice none 0 0, .int .i64 0], []⟩).memory Tryd.f3.params.toList Rows.bitsPlaySpec.vars false (#[.int .i64 0, .slice none 0 0, .int .i64 0] : Array Value).toList 8 = some ([.lit (.int .i64 0), .nil, .lit (.int .i64 0)], [], places) :=
  ⟨[], by kernel_rfl⟩

set_option maxRecDepth 100000 in
theorem lifted (os : Os) (started : os.Started) (H : Type) (enc : TypeId × Value → H) (F : Stop.Interp) :
    ReturnsInHanded {} Tryd.checked os 3 .any ((OpenSpec.ofChange Rows.bitsPlaySpec).preRow enc Tryd.prog Tryd.f3 Rows.bitsPlayRow.domain false Rows.bitsPlayRow.laid) (((OpenSpec.ofChange Rows.bitsPlaySpec).at F).post enc Tryd.prog Tryd.f3 false true false false) := by
  obtain ⟨places, hx⟩ := reads os enc
  refine returnsInHanded_of_row (C := Tryd.checked) (s := OpenSpec.ofChange Rows.bitsPlaySpec) own started (by kernel_rfl) Tryd.func3
    (witness_row_at (enc := enc) (C := Tryd.checked) false (laidWorld os) #[.int .i64 0, .slice none 0 0, .int .i64 0] rfl (by kernel_rfl) (by kernel_rfl) (by kernel_rfl)
      (OpenSpec.preRow_of_cond 8 hx (by kernel_rfl) (fun k hk => by cases hk) (by kernel_rfl) (laid_met os))) ?_
  intro W base args ds gs before hval hW _ _ _ hL _ _
  exact contract H enc W base args ds gs before hval hW hL

theorem said : Rows.BitsPlaySaid :=
  OpenClaim.holds_of_cond 3 Tryd.f3 rfl rfl rfl rfl rfl rfl rfl ⟨rfl, rfl, rfl, rfl, rfl⟩ rfl rfl rfl rfl rfl (by kernel_rfl) Tryd.func3 (by kernel_rfl)
    (of_decide_eq_true (by kernel_rfl)) (by unfold Func.isWrapper; first | (rw [if_pos (by decide +kernel)]; kernel_rfl) | (rw [if_neg (by decide +kernel)]; exact ⟨rfl, rfl⟩))
    (fun os started H enc _ F => by rw [OpenClaim.pre_eq_preRow]; exact lifted os started H enc F)

theorem plain (f : FuncId) (fn : Func) (hf : Tryd.pinned.checked.prog.funcNamed "treenail/treenaillaw09.BitsPlay" = some f) (hfn : Tryd.pinned.checked.prog.funcs[f]? = some fn) :
    false = Tryd.pinned.checked.prog.looks [] ∧ ∀ (j : Nat) t, fn.params[j]? = some t → Tryd.pinned.checked.prog.wantsStandIn t = false := by
  obtain rfl : f = 3 := Option.some.inj ((show Tryd.prog.funcNamed "treenail/treenaillaw09.BitsPlay" = some 3 by kernel_rfl).symm.trans hf) |>.symm
  obtain rfl : fn = Tryd.f3 := (Option.some.inj (Tryd.func3.symm.trans hfn)).symm
  refine ⟨by kernel_rfl, fun j t ht => ?_⟩
  rw [Tryd.params3] at ht
  rcases j with _ | _ | _ | j
  · obtain rfl : t = 3 := by simpa using ht.symm
    exact (show Tryd.prog.wantsStandIn 3 = false by kernel_rfl)
  · obtain rfl : t = 22 := by simpa using ht.symm
    exact (show Tryd.prog.wantsStandIn 22 = false by kernel_rfl)
  · obtain rfl : t = 3 := by simpa using ht.symm
    exact (show Tryd.prog.wantsStandIn 3 = false by kernel_rfl)
  · simp at ht

/-- THE STATEMENT -/
theorem proved : Rows.BitsPlayCardSaid :=
  Claim7.holds_tied_plain_at .later [] _ _ _ _ said (fun _ h => by cases h) (by kernel_rfl) (fun _ h => by cases h) bitsPlay_row_tie rfl ⟨rfl, rfl⟩ (by kernel_rfl) rfl plain (by kernel_rfl)
#print axioms proved
end Go.Proofs.YtbpalojofojklaaDoor.bitsPlay
