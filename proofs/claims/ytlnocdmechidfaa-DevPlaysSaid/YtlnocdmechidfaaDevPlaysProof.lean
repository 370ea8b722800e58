/-
  The law DevPlays holds: whatever is written, flushed and read, whatever faults there are, and wherever the power fails, the answers, what lasts, and what was counted, are the document's. Conditions: none but the row's own.
-/
import Derived.Test.YtlnocdmechidfaaRows
import Derived.Test.YtlnocdmechidfaaRefDevP
import Derived.Deep.DeepCutAuto
import Derived.BigQuiet
import Derived.Deep.QuietTactic
import Derived.Test.YtlnocdmechidfaaRegionV
import Derived.Test.YtlnocdmechidfaaDevPlaysCA
import Derived.Test.YtlnocdmechidfaaDevPlaysCB
import Derived.Test.YtlnocdmechidfaaDevPlaysCC
import Derived.Test.YtlnocdmechidfaaDevPlaysCD
import Derived.Test.YtlnocdmechidfaaStructs
import Derived.WalkKit
import Derived.ProofKit
import Derived.OpenShut
import Derived.ShutString
import Derived.ChangeOld
import Derived.Below
import Derived.Carry
namespace Go.Proofs.Ytlnocdmechidfaa.devPlays
open Go.ChangeShapes Go.WideShapes Go.ChangeAt Go.RowKit
open Go.Proofs.Ytlnocdmechidfaa
open Go.ChangeMaps (open_string shut_string)
set_option linter.unusedVariables false

theorem own : ownKnob Try.prog.godebug = none := by kernel_rfl
theorem laidOut : laidOutB Try.prog = true := by kernel_rfl

/-- the elements of argument 0 -/
def AR0 (w : World) (a : Option Addr) (len : Nat) : Prop := 0 < len → ∃ b off, a = some ⟨b, off, none⟩ ∧ ∀ i, i < len → ∃ (x0 : Int) (x1 : Int) (x2 : Int) (x3 : ByteArray) (x4 : Option Addr) (x4l x4c : Nat) (x4z : List Int), w.cell? ⟨b, off + (i * 5 + 0), none⟩ = some (.int .i64 x0) ∧ (Lit.int .i64 x0).wf = true ∧ w.cell? ⟨b, off + (i * 5 + 1), none⟩ = some (.int .i64 x1) ∧ (Lit.int .i64 x1).wf = true ∧ w.cell? ⟨b, off + (i * 5 + 2), none⟩ = some (.int .i64 x2) ∧ (Lit.int .i64 x2).wf = true ∧ w.cell? ⟨b, off + (i * 5 + 3), none⟩ = some (.string x3) ∧ x3.size ≤ maxLen ∧ w.cell? ⟨b, off + (i * 5 + 4), none⟩ = some (.slice x4 x4l x4c) ∧ (Row .i64 w x4 x4l x4z ∧ x4l ≤ x4c ∧ x4c ≤ maxLen ∧ ∀ n ∈ x4z, (Lit.int .i64 n).wf = true)
theorem open_AR0 {H : Type} {enc : TypeId × Value → H} {w : World} {held : Bool} {c : Value} (h : ∃ m y, DataW.trod enc Try.prog w 0 (fun _ => true) held m 22 [c] = some y) :
    ∃ a len cap, c = .slice a len cap ∧ AR0 w a len ∧ len ≤ cap ∧ cap ≤ maxLen := by
  obtain ⟨a, len, cap, hc, hl, hm, hx⟩ := open_structs Try.underlying22 Try.underlying34 (by kernel_rfl) (by kernel_rfl) (by decide) h
  refine ⟨a, len, cap, hc, fun hpos => ?_, hl, hm⟩
  obtain ⟨b, off, ha, hf⟩ := hx hpos
  refine ⟨b, off, ha, fun i hi => ?_⟩
  obtain ⟨v0, hc0, ht0⟩ := hf i hi 0 _ rfl
  obtain ⟨x0, rfl, hw0⟩ := open_int_cell Try.underlying3 ht0
  obtain ⟨v1, hc1, ht1⟩ := hf i hi 1 _ rfl
  obtain ⟨x1, rfl, hw1⟩ := open_int_cell Try.underlying3 ht1
  obtain ⟨v2, hc2, ht2⟩ := hf i hi 2 _ rfl
  obtain ⟨x2, rfl, hw2⟩ := open_int_cell Try.underlying3 ht2
  obtain ⟨v3, hc3, ht3⟩ := hf i hi 3 _ rfl
  obtain ⟨x3, rfl, hw3⟩ := open_str_cell Try.underlying9 ht3
  obtain ⟨v4, hc4, ht4⟩ := hf i hi 4 _ rfl
  obtain ⟨x4, x4l, x4c, x4z, rfl, hw4⟩ := open_ints_cell Try.underlying32 Try.underlying3 (by kernel_rfl) ht4
  exact ⟨x0, x1, x2, x3, x4, x4l, x4c, x4z, hc0, hw0, hc1, hw1, hc2, hw2, hc3, hw3, hc4, hw4⟩

open Go.Proofs.Ytlnocdmechidfaa.Dev

/-! ### STEP 1: THE WALK -/
set_option maxHeartbeats 8000000 in
set_option maxRecDepth 100000 in
theorem walk (a0 : Option Addr) (a0l a0c : Nat) (w : World) (w0 : AR0 w a0 a0l) (w0l : a0l ≤ a0c) (w0m : a0c ≤ maxLen) :
    Calls Try.prog 3 #[.slice a0 a0l a0c] w fun e w' => e = .returned (.bool true) ∧ Below w.heap.size w w' := by
  have HZ := Lib.hid (by decide : shapeR 9 128 = true)
  go_enter Try.func3, Try.ntmps3
  go_wp2_with fail
  refine (new_yes 9 128 _ HZ.out).mono ?_
  rintro e w1 ⟨p, sb, hp, hsb, rfl, hd1, hb1⟩
  have HP := Lib.hid hp
  have HSB := Lib.hid hsb
  have HD1 := Lib.hid hd1
  have HB1 := Lib.hid hb1
  clear hp hsb hd1 hb1
  go_wp2_with fail
  refine (refnew_any _).mono ?_
  rintro e w2 ⟨m, B, hm, hmb, hbb, rfl, hr2, hb2⟩
  have HP2 := Lib.hid (Pair.start HP.out HSB.out rfl HD1.out HB1.out hm hmb hbb rfl hr2 hb2)
  clear hm hmb hbb hr2 hb2 HP HSB HD1 HB1
  go_wp2_with fail
  refine (wakes_any _).mono ?_
  rintro e w3 ⟨rfl, hb3⟩
  have HP3 := Lib.hid (HP2.out.later hb3)
  clear hb3 HP2
  obtain ⟨n, hn⟩ : ∃ n, n = min a0l 60 := ⟨_, rfl⟩
  have hmin : ∀ W ts, (Builtin.min_ ts 3 #[.int .i64 (a0l : Nat), .int .i64 60]).run Try.prog W = .ok (.int .i64 (n : Int)) W := by
    intro W ts; rw [hn]; exact run_minc _ _ _ _ a0l 60
  have hnl : n ≤ a0l := by omega
  have hnl' : n ≤ a0c := by omega
  have hn60 : n ≤ 60 := by omega
  clear hn
  go_wp2_with fail
  clear hmin
  have hfresh : (Dv.fresh 9 128).n = 9 := rfl
  go_loopw [37] (fun i wr => ∃ (t : Nat) (D : Dv), t ≤ n ∧ i = .int .i64 t ∧ D.n = 9 ∧ D.cache.length ≤ t ∧ Pair (fun _ => False) w p m D D wr) (fun i _ => n - (intOf i).toNat)
  case atStart => exact ⟨0, _, Nat.zero_le _, rfl, hfresh, Nat.zero_le _, HP3.out⟩
  case round =>
    obtain ⟨t, D, ht, rfl, h9, hlen, hpair⟩ := hrel
    clear HP3 hfresh
    by_cases hlt : t < n
    · have hti : (t : Int) < (n : Int) := by omega
      obtain ⟨ab, off, rfl, hel⟩ := w0 (by omega)
      obtain ⟨x0, x1, x2, x3, x4, x4l, x4c, x4z, d0, f0, d1, f1, d2, f2, d3, f3, d4, f4⟩ := hel t (by omega)
      have hbel := hpair.below
      have c0 : wr.cell? ⟨ab, off + t * 5, none⟩ = some (.int .i64 x0) := (hbel.cell (World.block_lt_of_cell? _ _ d0)).trans d0
      have c1 : wr.cell? ⟨ab, off + t * 5 + 1, none⟩ = some (.int .i64 x1) := by rw [Nat.add_assoc, hbel.cell (World.block_lt_of_cell? _ _ d1)]; exact d1
      have c2 : wr.cell? ⟨ab, off + t * 5 + 2, none⟩ = some (.int .i64 x2) := by rw [Nat.add_assoc, hbel.cell (World.block_lt_of_cell? _ _ d2)]; exact d2
      have c3 : wr.cell? ⟨ab, off + t * 5 + 3, none⟩ = some (.string x3) := by rw [Nat.add_assoc, hbel.cell (World.block_lt_of_cell? _ _ d3)]; exact d3
      have c4 : wr.cell? ⟨ab, off + t * 5 + 4, none⟩ = some (.slice x4 x4l x4c) := by rw [Nat.add_assoc, hbel.cell (World.block_lt_of_cell? _ _ d4)]; exact d4
      obtain ⟨hrow, hxl, hxm, hxw⟩ := f4
      have HROW := Lib.hid hrow
      have HXW := Lib.hid hxw
      have HF2 := Lib.hid (bounds_i64 f2)
      clear d0 d1 d2 d3 d4 f0 f1 f2 hel hbel hrow hxw
      obtain ⟨dl, hdl⟩ : ∃ x, x = min x3.size 140 := ⟨_, rfl⟩
      have hmin3 : min (x3.size : Int) 140 = (dl : Int) := by omega
      have hdl1 : dl ≤ x3.size := by omega
      have hdl2 : dl ≤ 140 := by omega
      have hdl3 : (dl : Int) ≤ (x3.size : Int) := by omega
      obtain ⟨M, hM⟩ : ∃ M : Nat, M = (max 0 x0).toNat := ⟨_, rfl⟩
      have hmax : max (0 : Int) x0 = (M : Int) := by omega
      obtain ⟨q, hq⟩ : ∃ q : Nat, q = M % 12 := ⟨_, rfl⟩
      have hq12 : q < 12 := by omega
      have hmod : Int.tmod (M : Int) 12 = (q : Int) := by rw [hq]; rfl
      have HDU := Lib.hid (⟨hpair.new _, Has.new wr [.int .i64 x0, .int .i64 x1, .int .i64 x2, .string x3, .slice x4 x4l x4c] 34⟩ : Duet wr.heap.size [.int .i64 x0, .int .i64 x1, .int .i64 x2, .string x3, .slice x4 x4l x4c] w p m D D (wr.alloc (.cells #[.int .i64 x0, .int .i64 x1, .int .i64 x2, .string x3, .slice x4 x4l x4c] 34)))
      clear hM hq hdl hpair
      obtain ⟨data, hdata⟩ : ∃ x, x = x3.extract 0 dl := ⟨_, rfl⟩
      have hds : data.size ≤ 140 := by rw [hdata]; simp; omega
      have HDATA := Lib.hid hdata
      clear hdata
      obtain ⟨cs, hcs⟩ : ∃ cs : List Value, cs = [.int .i64 x0, .int .i64 x1, .int .i64 x2, .string x3, .slice x4 x4l x4c] := ⟨_, rfl⟩
      obtain ⟨b2, hb2⟩ : ∃ b2, b2 = wr.heap.size := ⟨_, rfl⟩
      obtain ⟨W, hW⟩ : ∃ W, W = wr.alloc (.cells #[.int .i64 x0, .int .i64 x1, .int .i64 x2, .string x3, .slice x4 x4l x4c] 34) := ⟨_, rfl⟩
      rw [← hb2, ← hW, ← hcs] at HDU
      have HCS := Lib.hid hcs
      have HB2 := Lib.hid hb2
      have HWW := Lib.hid hW
      clear hcs hb2 hW
      go_upto_block 2 with fail
      rw [← HDATA.out, ← HWW.out, ← HB2.out]
      clear c0 c1 c2 c3 c4
      go_cut [9] (fun x wx => x = .bool true ∧ ∃ D', D'.n = 9 ∧ D'.cache.length ≤ D.cache.length + 1 ∧ Pair (fun k => k = b2) w p m D' D' wx)
      case first =>
        have hlen2 : D.cache.length ≤ 60 := by omega
        have c0 : W.cell? ⟨b2, 0, none⟩ = some (.int .i64 x0) := by rw [HDU.out.2.cell, HCS.out]; rfl
        have c1 : W.cell? ⟨b2, 1, none⟩ = some (.int .i64 x1) := by rw [HDU.out.2.cell, HCS.out]; rfl
        have c2 : W.cell? ⟨b2, 2, none⟩ = some (.int .i64 x2) := by rw [HDU.out.2.cell, HCS.out]; rfl
        have c4 : W.cell? ⟨b2, 4, none⟩ = some (.slice x4 x4l x4c) := by rw [HDU.out.2.cell, HCS.out]; rfl
        have HC1 := Lib.hid (show ∀ X E F, Duet b2 cs w p m E F X → X.cell? ⟨b2, 1, none⟩ = some (.int .i64 x1) from fun X E F h => by rw [h.2.cell, HCS.out]; rfl)
        have HC2 := Lib.hid (show ∀ X E F, Duet b2 cs w p m E F X → X.cell? ⟨b2, 2, none⟩ = some (.int .i64 x2) from fun X E F h => by rw [h.2.cell, HCS.out]; rfl)
        have HH9 := Lib.hid h9
        have hq' : q = 0 ∨ q = 1 ∨ q = 2 ∨ q = 3 ∨ q = 4 ∨ q = 5 ∨ q = 6 ∨ q = 7 ∨ q = 8 ∨ q = 9 ∨ q = 10 ∨ q = 11 := by omega
        clear hq12 h9
        rcases hq' with rfl | rfl | rfl | rfl | rfl | rfl | rfl | rfl | rfl | rfl | rfl | rfl
        · exact sw_case0 hlen2 hds hxl hxm HROW HXW HF2 HDU HCS c0 c1 c2 c4 HC1 HC2 HH9 hmax hmod (by assumption) (by assumption)
        · exact sw_case1 hlen2 hds hxl hxm HROW HXW HF2 HDU HCS c0 c1 c2 c4 HC1 HC2 HH9 hmax hmod (by assumption) (by assumption)
        · exact sw_case2 hlen2 hds hxl hxm HROW HXW HF2 HDU HCS c0 c1 c2 c4 HC1 HC2 HH9 hmax hmod (by assumption) (by assumption)
        · exact sw_case3 hlen2 hds hxl hxm HROW HXW HF2 HDU HCS c0 c1 c2 c4 HC1 HC2 HH9 hmax hmod (by assumption) (by assumption)
        · exact sw_case4 hlen2 hds hxl hxm HROW HXW HF2 HDU HCS c0 c1 c2 c4 HC1 HC2 HH9 hmax hmod (by assumption) (by assumption)
        · exact sw_case5 hlen2 hds hxl hxm HROW HXW HF2 HDU HCS c0 c1 c2 c4 HC1 HC2 HH9 hmax hmod (by assumption) (by assumption)
        · exact sw_case6 hlen2 hds hxl hxm HROW HXW HF2 HDU HCS c0 c1 c2 c4 HC1 HC2 HH9 hmax hmod (by assumption) (by assumption)
        · exact sw_case7 hlen2 hds hxl hxm HROW HXW HF2 HDU HCS c0 c1 c2 c4 HC1 HC2 HH9 hmax hmod (by assumption) (by assumption)
        · exact sw_case8 hlen2 hds hxl hxm HROW HXW HF2 HDU HCS c0 c1 c2 c4 HC1 HC2 HH9 hmax hmod (by assumption) (by assumption)
        · exact sw_case9 hlen2 hds hxl hxm HROW HXW HF2 HDU HCS c0 c1 c2 c4 HC1 HC2 HH9 hmax hmod (by assumption) (by assumption)
        · exact sw_case10 hlen2 hds hxl hxm HROW HXW HF2 HDU HCS c0 c1 c2 c4 HC1 HC2 HH9 hmax hmod (by assumption) (by assumption)
        · exact sw_case11 hlen2 hds hxl hxm HROW HXW HF2 HDU HCS c0 c1 c2 c4 HC1 HC2 HH9 hmax hmod (by assumption) (by assumption)
      case rest =>
        obtain ⟨rfl, D', h9', hl', hp'⟩ := hcut
        have HP' := Lib.hid hp'
        clear hp' h9
        go_wp2_with fail
        refine (same_p HP'.out h9').mono ?_
        rintro e ws ⟨rfl, n1, rfl⟩
        have HP2 := Lib.hid (show Pair (fun _ => False) w p m D' D' (wc.drewN n1) from Pair.sub (HP'.out.later ⟨rfl, rfl, rfl, Nat.le_refl _, fun _ _ => rfl⟩) (fun k (hk : False) => hk.elim))
        clear HP'
        go_wp2_with fail
        go_roundw
        case rel => exact ⟨t + 1, D', by omega, by go_num, h9', by omega, HP2.out⟩
        case measure => simp [intOf]; omega
    · obtain rfl : t = n := by omega
      have m1 : mediaN D (-1) = ⟨#[]⟩ := by unfold mediaN hasB; simp
      have m2 : mediaN D 9 = ⟨#[]⟩ := by unfold mediaN hasB; rw [h9]; simp
      have M1 := Lib.hid m1
      have M2 := Lib.hid m2
      have HPP := Lib.hid hpair
      clear m1 m2 hpair
      go_wp2_with fail
      refine (media_p HPP.out).mono ?_
      rintro e w' ⟨rfl, rfl⟩
      rw [M1.out]
      go_wp2_with fail
      refine (media_p HPP.out).mono ?_
      rintro e w' ⟨rfl, rfl⟩
      rw [M2.out]
      go_wp2_with fail
      go_ret
      exact ⟨rfl, HPP.out.below⟩

/-! ### THE ROW's STEP -/
set_option maxRecDepth 100000 in
theorem lifted (os : Os) (started : os.Started) (H : Type) (enc : TypeId × Value → H) :
    ReturnsInHanded {} Try.checked os 3 .any (Rows.devPlaysSpec.pre6 enc Try.prog Try.f3 Rows.devPlaysRow.domain false) (Rows.devPlaysSpec.post enc Try.prog Try.f3 false true false false) := by
  refine returnsInHanded_of_change (C := Try.checked) own started (by kernel_rfl) Try.func3
    (ChangeSpec.witness6 (enc := enc) (C := Try.checked) false ⟨#[], #[.slice none 0 0], []⟩ 8 (by kernel_rfl) (by kernel_rfl) (by kernel_rfl) (by kernel_rfl)) ?_
  intro W base args ds gs before hval0 hW hcnd _
  have hval : ∀ (j : Nat) t v, Try.f3.params[j]? = some t → args[j]? = some v → Value.okWide Try.prog W .any base t v := hval0
  have hW' := hW
  obtain ⟨p, q, hA0, hV, rfl, hfz, hnd⟩ := hW
  have hA : DataW.TrodAll enc Try.prog W 0 (fun _ => true) true Try.f3.params.toList args.toList ds p := hA0
  rw [Try.params3] at hA hval
  obtain ⟨v0, vs0, d0, ds0, p0, q0, hargs, rfl, rfl, h0, r0⟩ := trodAll_cons hA
  obtain ⟨rfl, rfl, rfl⟩ := trodAll_nil r0
  obtain rfl : args = #[v0] := by cases args; simp_all
  obtain ⟨rfl, rfl⟩ := trodVars_none hV
  have k0 := h0
  have lt0 : ∀ x ∈ p0, x.block < W.heap.size := by obtain ⟨m, hm⟩ := k0; exact DataW.trod_lt m _ _ _ hm
  obtain ⟨a0', l0', c0', rfl⟩ := okWide_slice Try.underlying22 (hval 0 22 v0 rfl rfl)
  obtain ⟨a0, a0l, a0c, he0, w0, w0l, w0m⟩ := open_AR0 (c := .slice a0' l0' c0') (by obtain ⟨m, hm⟩ := h0; exact ⟨m, _, hm⟩)
  simp only [Value.slice.injEq] at he0
  obtain ⟨rfl, rfl, rfl⟩ := he0
  clear hA0 hval0
  refine (walk a0' l0' c0' W w0 w0l w0m).mono fun e W' ⟨he, bel⟩ => ?_
  subst he
  exact ⟨_, rfl, _, _, _, [], _, [], hW', trodAll_mk1 (shut_bool Try.underlying4 _), (trodAll_cons_mk (Below.trod laidOut (by kernel_rfl) (of_decide_eq_true (by kernel_rfl)) k0 bel lt0) trodAll_mk0), rfl, bel.frame _, fun h => by cases h⟩

theorem over : Rows.devPlaysRow.holds Try.pinned (OpenSpec.ofChange Rows.devPlaysSpec) :=
  OpenClaim.holds_of_wide 3 Try.f3 rfl rfl rfl rfl rfl rfl rfl ⟨rfl, rfl, rfl, rfl, rfl⟩ rfl rfl rfl rfl rfl (by kernel_rfl) Try.func3 (by kernel_rfl)
    (of_decide_eq_true (by kernel_rfl)) (by unfold Func.isWrapper; first | (rw [if_pos (by decide +kernel)]; kernel_rfl) | (rw [if_neg (by decide +kernel)]; exact ⟨rfl, rfl⟩))
    (fun os started H enc _ => lifted os started H enc)

/-- THE STATEMENT -/
theorem proved : Rows.DevPlaysSaid := over
#print axioms proved
end Go.Proofs.Ytlnocdmechidfaa.devPlays
