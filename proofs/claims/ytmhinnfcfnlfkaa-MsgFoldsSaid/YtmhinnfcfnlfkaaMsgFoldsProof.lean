/-
  The law MsgFolds holds: updates that are joined, in whatever way they are put together, do what all do, one behind the other, of every value. Conditions: none but the row's own.
-/
import Derived.Test.YtmhinnfcfnlfkaaRows
import Derived.Test.YtmhinnfcfnlfkaaMsgQ
import Derived.Test.YtmhinnfcfnlfkaaStructs
import Derived.WalkKit
import Derived.ProofKit
import Derived.OpenShut
import Derived.ShutString
import Derived.ChangeOld
import Derived.Below
import Derived.Carry
namespace Go.Proofs.Ytmhinnfcfnlfkaa.msgFolds
open Go.ChangeShapes Go.WideShapes Go.ChangeAt Go.RowKit
open Go.Proofs.Ytmhinnfcfnlfkaa
open Go.ChangeMaps (open_string shut_string)
set_option linter.unusedVariables false

theorem own : ownKnob Try.prog.godebug = none := by kernel_rfl
theorem laidOut : laidOutB Try.prog = true := by kernel_rfl

theorem len4 {α : Type} : ∀ l : List α, l.length = 4 → ∃ z0 z1 z2 z3, l = [z0, z1, z2, z3]
  | [z0, z1, z2, z3], _ => ⟨z0, z1, z2, z3, rfl⟩
/-- the elements of field 2 of argument 0 -/
def AR0f2 (w : World) (a : Option Addr) (len : Nat) : Prop := 0 < len → ∃ b off, a = some ⟨b, off, none⟩ ∧ ∀ i, i < len → ∃ (x0 : Int) (x1 : ByteArray) (x2 : Int), w.cell? ⟨b, off + (i * 3 + 0), none⟩ = some (.int .u8 x0) ∧ (Lit.int .u8 x0).wf = true ∧ w.cell? ⟨b, off + (i * 3 + 1), none⟩ = some (.string x1) ∧ x1.size ≤ maxLen ∧ w.cell? ⟨b, off + (i * 3 + 2), none⟩ = some (.int .u64 x2) ∧ (Lit.int .u64 x2).wf = true
theorem open_AR0f2 {H : Type} {enc : TypeId × Value → H} {w : World} {held : Bool} {c : Value} (h : ∃ m y, DataW.trod enc Try.prog w 0 (fun _ => true) held m 22 [c] = some y) :
    ∃ a len cap, c = .slice a len cap ∧ AR0f2 w a len ∧ len ≤ cap ∧ cap ≤ maxLen := by
  obtain ⟨a, len, cap, hc, hl, hm, hx⟩ := open_structs Try.underlying22 Try.underlying26 (by kernel_rfl) (by kernel_rfl) (by decide) h
  refine ⟨a, len, cap, hc, fun hpos => ?_, hl, hm⟩
  obtain ⟨b, off, ha, hf⟩ := hx hpos
  refine ⟨b, off, ha, fun i hi => ?_⟩
  obtain ⟨v0, hc0, ht0⟩ := hf i hi 0 _ rfl
  obtain ⟨x0, rfl, hw0⟩ := open_int_cell Try.underlying5 ht0
  obtain ⟨v1, hc1, ht1⟩ := hf i hi 1 _ rfl
  obtain ⟨x1, rfl, hw1⟩ := open_str_cell Try.underlying9 ht1
  obtain ⟨v2, hc2, ht2⟩ := hf i hi 2 _ rfl
  obtain ⟨x2, rfl, hw2⟩ := open_int_cell Try.underlying24 ht2
  exact ⟨x0, x1, x2, hc0, hw0, hc1, hw1, hc2, hw2⟩

open Go.Proofs.Ytmhinnfcfnlfkaa.Msg Go.Proofs.Ytmhinnfcfnlfkaa.Rec

/-! ### STEP 1: THE WALK -/
set_option maxHeartbeats 8000000 in
set_option maxRecDepth 100000 in
theorem walk (a0f0 : ByteArray) (a0f1 : Bool) (a0f2 : Option Addr) (a0f2l a0f2c : Nat) (a0f3 : Int) (w : World) (w0f0 : a0f0.size ≤ maxLen) (w0f2 : AR0f2 w a0f2 a0f2l) (w0f2l : a0f2l ≤ a0f2c) (w0f2m : a0f2c ≤ maxLen) (w0f3 : (Lit.int .u8 a0f3).wf = true) :
    Calls Try.prog 6 #[.agg #[.string a0f0, .bool a0f1, .slice a0f2 a0f2l a0f2c, .int .u8 a0f3]] w fun e w' => e = .returned (.bool true) ∧ Below w.heap.size w w' := by
  obtain ⟨ia, hia, hza0, hza1, hza2⟩ := info_parts info_up
  obtain ⟨l, hl, hr⟩ := lr_of w0f2
  obtain ⟨V0, rfl⟩ : ∃ v, a0f0 = Lend.strOf v := ⟨a0f0.data.toList, Lend.strOf_ext rfl⟩
  have hat := u8_bd w0f3
  obtain ⟨hat0, hat1⟩ := hat
  unfold maxLen at w0f0 w0f2m
  have HVT := Lib.hid (takeN V0 60)
  have hvl : (V0.take 60).length ≤ 60 := by simp; omega
  obtain ⟨V, hV⟩ : ∃ x, x = V0.take 60 := ⟨_, rfl⟩
  rw [← hV] at HVT hvl
  obtain ⟨T0, hT0⟩ : ∃ x, x = Lend.strOf V0 := ⟨_, rfl⟩
  rw [← hT0] at HVT w0f0 ⊢
  obtain ⟨s0, hs0⟩ : ∃ x : Sv, x = (V, a0f1) := ⟨_, rfl⟩
  have HVL := Lib.hid (show s0.1.length ≤ 60 by rw [hs0]; exact hvl)
  have HS1 := Lib.hid (show s0.1 = V by rw [hs0])
  have HS2 := Lib.hid (show s0.2 = a0f1 by rw [hs0])
  obtain ⟨m, hm⟩ : ∃ m, m = min a0f2l 12 := ⟨_, rfl⟩
  have HM := Lib.hid hm
  have HN := Lib.hid hl
  obtain ⟨w1, hw1⟩ : ∃ x, x = w.alloc (.cells #[.string T0, .bool a0f1, .slice a0f2 a0f2l a0f2c, .int .u8 a0f3] 51) := ⟨_, rfl⟩
  have HX1 := Lib.hid (show Has w1 w.heap.size 51 [.string T0, .bool a0f1, .slice a0f2 a0f2l a0f2c, .int .u8 a0f3] by rw [hw1]; exact Has.new _ _ _)
  have HB1 := Lib.hid (show Below w.heap.size w w1 by rw [hw1]; exact below_new _ _)
  have HR := Lib.hid (show LR w1 a0f2 l by
    refine ⟨fun h0 => ?_, hr.wf⟩
    obtain ⟨g, off, ha, hc⟩ := hr.at_ h0
    exact ⟨g, off, ha, fun i hi => ⟨keep1 (hc i hi).1 HB1.out, keep1 (hc i hi).2.1 HB1.out, keep1 (hc i hi).2.2 HB1.out⟩⟩)
  clear hr hV hT0 w0f2 hs0 hvl hm hl w0f3
  go_enter Try.func6, Try.ntmps6
  go_upto_region 1 with fail
  rw [← hw1]
  clear hw1
  obtain ⟨F, hF⟩ : ∃ x, x = w.heap.size := ⟨_, rfl⟩
  rw [← hF] at HX1 ⊢
  clear hF
  have x0 : w1.cell? ⟨F, 0, none⟩ = some (.string T0) := HX1.out.cell 0
  have x2 : w1.cell? ⟨F, 2, none⟩ = some (.slice a0f2 a0f2l a0f2c) := HX1.out.cell 2
  go_cut [3] (fun s wx => s = .string (Lend.strOf V) ∧ wx = w1)
  case first =>
    have cV : (60 < T0.size ∧ min T0.size 60 = 60) ∨ (¬ 60 < T0.size ∧ min T0.size 60 = T0.size) := by omega
    rcases cV with ⟨hv, hmm⟩ | ⟨hv, hmm⟩
    all_goals
      have hve := HVT.out
      rw [hmm] at hve
      clear hmm
      go_wp2_with fail
      go_meet
      exact ⟨rfl, rfl⟩
  case rest =>
    obtain ⟨rfl, hww⟩ := hcut
    have hww := hww.symm
    subst hww
    clear HVT w0f0 x0
    go_upto_region 3 with fail
    go_cut [34, 35, 36] (fun s t i wx => ∃ a' cap', s = .slice a' m cap' ∧ t = .int .i64 m ∧ i = .int .i64 ((0 : Nat) : Int) ∧ (0 < m → a' = a0f2) ∧ wx = w1)
    case first =>
      go_wp2_with fail
      all_goals
        go_meet
        first
        | (have e : m = 12 := by have := HM.out; omega
           exact ⟨a0f2, a0f2c, by rw [e], by rw [e]; rfl, rfl, fun _ => rfl, rfl⟩)
        | (have e : m = a0f2l := by have := HM.out; omega
           exact ⟨a0f2, a0f2c, by rw [e], by rw [e], rfl, fun _ => rfl, rfl⟩)
    case rest =>
      obtain ⟨a', cap', rfl, rfl, rfl, haa, hww⟩ := hcut
      have hww := hww.symm
      subst hww
      have hml : m ≤ l.length ∧ m ≤ 12 := by have := HM.out; have := HN.out; omega
      obtain ⟨hml, hm12⟩ := hml
      have HAA := Lib.hid haa
      clear haa x2
      go_wp2_with fail
      go_loopw [4, 36] (fun av i wr => ∃ (k : Nat) (av' : Value), k ≤ m ∧ av' = av ∧ i = .int .i64 k ∧ RA wr w1.heap.size av' (tms (l.take k)) ∧ Below w1.heap.size w1 wr) (fun _ i _ => m - (intOf i).toNat)
      case atStart => exact ⟨0, _, Nat.zero_le _, rfl, rfl, World.ownsRow_nil _ _ _ _, Below.refl _ _⟩
      case round =>
        obtain ⟨k, av, hk, rfl, rfl, hra, hb⟩ := hrel
        have HB := Lib.hid hb
        have HRA := Lib.hid hra
        clear hra hb
        by_cases hlt : k < m
        · have hke : k < l.length := by omega
          have hki : (k : Int) < (m : Int) := by omega
          obtain ⟨g, off, hg, hcc⟩ := HR.out.at_ (by omega)
          obtain rfl : a' = some ⟨g, off, none⟩ := by rw [HAA.out (by omega), hg]
          have hcc := hcc k hke
          have hwu := HR.out.wf _ (List.getElem_mem hke)
          have hos := tms_snoc hke
          have hol : (tms (l.take k)).length = k := by rw [tms_len, List.length_take]; omega
          obtain ⟨u, hu⟩ : ∃ u, u = l[k] := ⟨_, rfl⟩
          rw [← hu] at hcc hwu hos
          have HOS := Lib.hid hos
          obtain ⟨M, hM⟩ : ∃ x, x = tms (l.take k) := ⟨_, rfl⟩
          rw [← hM] at HOS HRA hol
          have c0 : wr.cell? ⟨g, off + k * 3, none⟩ = some (.int .u8 u.kind) := keep1 hcc.1 HB.out
          have c1 : wr.cell? ⟨g, off + k * 3 + 1, none⟩ = some (.string (Lend.strOf u.val)) := keep1 hcc.2.1 HB.out
          have c2 : wr.cell? ⟨g, off + k * 3 + 2, none⟩ = some (.int .u64 u.delta) := keep1 hcc.2.2 HB.out
          have HTA := Lib.hid (fun W => tame_any u W hwu.1)
          have HOF := Lib.hid (fun W => of_any (tmM u) W (tmM_len hwu.2))
          generalize ag3 (tmM u) = tu at *
          obtain ⟨v, hv⟩ : ∃ x, x = ofM (tmM u) := ⟨_, rfl⟩
          rw [← hv] at HOF HOS
          unfold agU at HOF
          unfold ag3 at HTA
          have HEN := Lib.hid (show encU v = [.int .u8 v.kind, .string (Lend.strOf v.key), .string (Lend.strOf v.val), .int .u64 v.delta] from rfl)
          clear hcc hwu hu hos hM hke hg hv hml
          go_wp2_with fail
          refine (HTA.out _).mono ?_
          rintro e w2 ⟨rfl, hb2⟩
          have HB2 := Lib.hid (below_on (below_nw HB.out (.cells #[.int .u8 u.kind, .string (Lend.strOf u.val), .int .u64 u.delta] 26)) hb2)
          have HRA2 := Lib.hid (own_bel (HRA.out.alloc (.cells #[.int .u8 u.kind, .string (Lend.strOf u.val), .int .u64 u.delta] 26)) hb2)
          clear c0 c1 c2 hb2
          go_wp2_with fail
          refine (HOF.out _).mono ?_
          rintro e w3 ⟨rfl, hb3⟩
          have HB3 := Lib.hid (below_on HB2.out hb3)
          have HRA3 := Lib.hid (own_bel HRA2.out hb3)
          clear hb3
          generalize v.kind = v0 at *
          generalize Lend.strOf v.key = v1 at *
          generalize Lend.strOf v.val = v2 at *
          generalize v.delta = v3 at *
          have HNA := Lib.hid (show ∀ j x, (encU v)[j]? = some x → (((w3.alloc (.cells #[.int .u8 v0, .string v1, .string v2, .int .u64 v3] 29)).alloc (.cells #[.int .u8 v0, .string v1, .string v2, .int .u64 v3] 31)).alloc (.cells #[.int .u8 v0, .string v1, .string v2, .int .u64 v3] 29)).cell? ((⟨w3.heap.size + 1 + 1, 0, none⟩ : Addr).add j) = some x from by
            rw [HEN.out]
            have h := Has.new ((w3.alloc (.cells #[.int .u8 v0, .string v1, .string v2, .int .u64 v3] 29)).alloc (.cells #[.int .u8 v0, .string v1, .string v2, .int .u64 v3] 31)) [.int .u8 v0, .string v1, .string v2, .int .u64 v3] 29
            rw [World.size_alloc, World.size_alloc] at h
            exact has_news h)
          have HRA6 := Lib.hid (((HRA3.out.alloc (.cells #[.int .u8 v0, .string v1, .string v2, .int .u64 v3] 29)).alloc (.cells #[.int .u8 v0, .string v1, .string v2, .int .u64 v3] 31)).alloc (.cells #[.int .u8 v0, .string v1, .string v2, .int .u64 v3] 29))
          have HB6 := Lib.hid (below_nw (below_nw (below_nw HB3.out (.cells #[.int .u8 v0, .string v1, .string v2, .int .u64 v3] 29)) (.cells #[.int .u8 v0, .string v1, .string v2, .int .u64 v3] 31)) (.cells #[.int .u8 v0, .string v1, .string v2, .int .u64 v3] 29))
          go_wp2_with (at_builtin; refine wpList_append_own _ rfl _ _ 23 rfl w1.heap.size 29 ia _ 4 48 Try.underlying23 hia hza0 hza1 hza2 rfl (by decide) _ M.length (flatU M) rfl HRA6.out ⟨w3.heap.size + 1 + 1, 0, none⟩ 1 1 (encU v) rfl rfl HNA.out (enc_one _) ?c1 ?c2 ?c3 ?_)
          case c1 => unfold maxLen; omega
          case c2 => omega
          case c3 => exact HB6.out.size
          intro av2 w7 hown7 hgr _
          have HRA7 := Lib.hid (show RA w7 w1.heap.size av2 (M ++ [v]) by unfold RA; rw [flatU_snoc, List.length_append, hol]; exact hown7)
          have HB7 := Lib.hid (HB6.out.grown hgr HB6.out.size (fun q hq => (HRA6.out.lt q hq).1))
          clear hown7 hgr
          go_wp2_with fail
          go_roundw
          case rel => exact ⟨k + 1, _, by omega, rfl, by go_num, by rw [HOS.out]; exact HRA7.out, HB7.out⟩
          case measure => simp [intOf]; omega
        · obtain rfl : k = m := by omega
          have hki : ¬ (k : Int) < (k : Int) := by omega
          have htm : ∀ u ∈ tms (l.take k), Tm u := tms_tm (fun u hu => HR.out.wf u (List.mem_of_mem_take hu))
          have hlm : (tms (l.take k)).length = k := by rw [tms_len, List.length_take]; omega
          obtain ⟨M, hM⟩ : ∃ x, x = tms (l.take k) := ⟨_, rfl⟩
          rw [← hM] at HRA hlm htm
          have HTM := Lib.hid htm
          clear hM htm hml HM HN HAA HR
          have hx := HX1.out.below HB.out HX1.out.lt
          have x1 : wr.cell? ⟨F, 1, none⟩ = some (.bool a0f1) := hx.cell 1
          have HXR := Lib.hid hx
          have HMW := Lib.hid (show ∀ u ∈ M, WfU u ∧ u.val.length ≤ 1000000 from fun u hu => ⟨(HTM.out u hu).wf, by have := (HTM.out u hu).len; omega⟩)
          have HALL := Lib.hid (all_any s0 wr (UR.of_own HRA.out) (by omega) (by have := HVL.out; omega) HMW.out)
          rw [HS1.out, HS2.out] at HALL
          unfold rtS at HALL
          obtain ⟨sA, hsA⟩ : ∃ x, x = allU s0 M := ⟨_, rfl⟩
          rw [← hsA] at HALL
          have HSA := Lib.hid hsA
          clear hx hsA
          go_wp2_with fail
          refine HALL.out.mono ?_
          rintro e w2 ⟨rfl, hb2⟩
          have HB2 := Lib.hid (below_on HB.out hb2)
          have HRA2 := Lib.hid (own_bel HRA.out hb2)
          have HX2 := Lib.hid (HXR.out.below hb2 HXR.out.lt)
          clear hb2 x1 HALL
          go_wp2_with fail
          refine (wakes_any _).mono ?_
          rintro e w3 ⟨rfl, hb3⟩
          have HB3 := Lib.hid (below_on HB2.out hb3)
          have HRA3 := Lib.hid (own_bel HRA2.out hb3)
          have HX3 := Lib.hid (HX2.out.below hb3 HX2.out.lt)
          clear hb3
          by_cases h0 : k = 0
          · obtain ⟨ao, cap, rfl, hac⟩ := own_shape HRA3.out
            subst h0
            rw [hlm]
            go_wp2_with fail
            refine (wakes_any _).mono ?_
            rintro e w9 ⟨rfl, hb9⟩
            have HB9 := Lib.hid (below_on (below_on HB1.out HB3.out) hb9)
            clear hb9
            go_wp2_with fail
            go_ret
            exact ⟨rfl, HB9.out⟩
          · obtain ⟨g, cap, rfl, hac, hgb⟩ := own_some HRA3.out (by omega)
            obtain ⟨n, rfl⟩ : ∃ n, k = n + 1 := ⟨k - 1, by omega⟩
            rw [hlm] at hac ⊢
            have HRA4 := Lib.hid (show RA w3 w1.heap.size (.slice (some ⟨g, 0, none⟩) (n + 1) cap) M by rw [← hlm]; exact HRA3.out)
            have hrc0 := ra_cells HRA4.out 0 (by omega)
            have hrcn := ra_cells HRA4.out n (by omega)
            rw [Nat.zero_mul] at hrc0
            obtain ⟨u0, hu0⟩ : ∃ x, x = M[0]'(by omega) := ⟨_, rfl⟩
            obtain ⟨z, hz⟩ : ∃ x, x = M[n]'(by omega) := ⟨_, rfl⟩
            rw [← hu0] at hrc0
            rw [← hz] at hrcn
            obtain ⟨Mt, hMt⟩ : ∃ x, x = M.drop 1 := ⟨_, rfl⟩
            obtain ⟨P, hP⟩ : ∃ x, x = M.take n := ⟨_, rfl⟩
            have HM1 := Lib.hid (show M = u0 :: Mt by
              rw [hMt, hu0]
              have := List.drop_eq_getElem_cons (l := M) (i := 0) (by omega)
              simpa using this)
            have HM2 := Lib.hid (show M = P ++ [z] by
              rw [hP, hz]
              have := List.take_succ_eq_append_getElem (l := M) (i := n) (by omega)
              rw [← this, List.take_of_length_le (by omega)])
            have HLT := Lib.hid (show Mt.length = n by rw [hMt, List.length_drop]; omega)
            have HLP := Lib.hid (show P.length = n by rw [hP, List.length_take]; omega)
            have HLM := Lib.hid hlm
            have HC0 := Lib.hid hrc0
            have HCN := Lib.hid hrcn
            have HWN := Lib.hid (show IntKind.i64.wrap (n : Int) = (n : Int) by simp [IntKind.wrap, IntKind.bits, IntKind.signed]; omega)
            clear hMt hP hu0 hz hlm hrc0 hrcn HRA3 HRA2 HRA HX2 HXR HB2 HB hlt h0
            go_upto_region 12 with fail
            go_cut [11, 12] (fun s t wx => ∃ g1 g2, s = .pointer (some ⟨g1, 0, none⟩) ∧ t = .pointer (some ⟨g2, 0, none⟩) ∧ g1 ≠ g2 ∧ w3.heap.size ≤ g1 ∧ w3.heap.size ≤ g2 ∧ Has wx g1 29 (encU u0) ∧ Has wx g2 29 (encU z) ∧ Below w3.heap.size w3 wx)
            case first =>
              refine Reg.region_vals3 (by kernel_rfl) [(67, .slice (some ⟨g, 0, none⟩) (n + 1) cap), (68, .pointer (some ⟨g, 0, none⟩)), (69, .agg #[.int .u8 u0.kind, .string (Lend.strOf u0.key), .string (Lend.strOf u0.val), .int .u64 u0.delta]), (70, .slice (some ⟨g, 0, none⟩) (n + 1) cap), (71, .slice (some ⟨g, 0, none⟩) (n + 1) cap), (72, .int .i64 ((n : Int) + 1)), (73, .int .i64 (n : Int)), (74, .pointer (some ⟨g, n * 4, none⟩)), (75, .agg #[.int .u8 z.kind, .string (Lend.strOf z.key), .string (Lend.strOf z.val), .int .u64 z.delta])] [11, 12]
                (Duo w3 11 12 9 10 11 12 29 29 (.int .u8 u0.kind) (.string (Lend.strOf u0.key)) (.string (Lend.strOf u0.val)) (.int .u64 u0.delta) (.int .u8 z.kind) (.string (Lend.strOf z.key)) (.string (Lend.strOf z.val)) (.int .u64 z.delta)) ?a1 ?a2 ?a3 ?a4 ?a5 ?a6 ?a7 ?hend
              case a1 => kernel_rfl
              case a2 => kernel_rfl
              case a3 => kernel_rfl
              case a4 => kernel_rfl
              case a5 => kernel_rfl
              case a6 => exact Duo.start _
              case a7 =>
                refine ⟨?_, ?_, ?_, ?_, ?_, ?_, ?_, ?_, ?_, ?_, ?_, ?_, ?_, trivial⟩
                · -- 0: 67 := move 4
                  intro aq wq lq hz hI hl hdone hlater hold hd ho
                  have h3 : aq.tmps.getD 4 undef = .slice (some ⟨g, 0, none⟩) (n + 1) cap := ho 4 (by kernel_rfl)
                  clear hd ho hdone hlater hold
                  have hc : 67 < aq.tmps.size := (by have hz' : aq.tmps.size = 147 := hz; omega)
                  refine Reg.step3_move (.tmp 4) rfl h3 ?_ trivial
                  show Duo w3 11 12 9 10 11 12 _ _ _ _ _ _ _ _ _ _ (Reg.lset lq 0) (aq.put (some 67) _) wq
                  exact hI.keep _ (Below.refl _ _) (by decide) (by decide) (by decide) (by decide) (by decide) (by decide) hc
                · -- 1: 68
                  intro aq wq lq hz hI hl hdone hlater hold hd ho
                  have h67 : aq.tmps.getD 67 undef = .slice (some ⟨g, 0, none⟩) (n + 1) cap := hd 67 (by kernel_rfl)
                  clear hd ho hdone hlater hold
                  rw [Array.getD_eq_getD_getElem?] at h67
                  refine Reg.step3_val (.pointer (some ⟨g, 0, none⟩)) ?_ rfl (hI.keep _ (Below.refl _ _) (by decide) (by decide) (by decide) (by decide) (by decide) (by decide) (by have hz' : aq.tmps.size = 147 := hz; omega)) trivial
                  clear hz hI
                  simp [execOp]
                  go_simp
                · -- 2: 69
                  intro aq wq lq hz hI hl hdone hlater hold hd ho
                  have h68 : aq.tmps.getD 68 undef = .pointer (some ⟨g, 0, none⟩) := hd 68 (by kernel_rfl)
                  clear hd ho hdone hlater hold
                  rw [Array.getD_eq_getD_getElem?] at h68
                  obtain ⟨c0, c1, c2, c3⟩ := HC0.out
                  have e0 := keep1 c0 hI.1
                  have e1 := keep1 c1 hI.1
                  have e2 := keep1 c2 hI.1
                  have e3 := keep1 c3 hI.1
                  clear c0 c1 c2 c3
                  refine Reg.step3_val (.agg #[.int .u8 u0.kind, .string (Lend.strOf u0.key), .string (Lend.strOf u0.val), .int .u64 u0.delta]) ?_ rfl (hI.keep _ (Below.refl _ _) (by decide) (by decide) (by decide) (by decide) (by decide) (by decide) (by have hz' : aq.tmps.size = 147 := hz; omega)) trivial
                  clear hz hI
                  simp [execOp]
                  go_simp
                · -- 3: 70 := move 4
                  intro aq wq lq hz hI hl hdone hlater hold hd ho
                  have h3 : aq.tmps.getD 4 undef = .slice (some ⟨g, 0, none⟩) (n + 1) cap := ho 4 (by kernel_rfl)
                  clear hd ho hdone hlater hold
                  have hc : 70 < aq.tmps.size := (by have hz' : aq.tmps.size = 147 := hz; omega)
                  refine Reg.step3_move (.tmp 4) rfl h3 ?_ trivial
                  show Duo w3 11 12 9 10 11 12 _ _ _ _ _ _ _ _ _ _ (Reg.lset lq 3) (aq.put (some 70) _) wq
                  exact hI.keep _ (Below.refl _ _) (by decide) (by decide) (by decide) (by decide) (by decide) (by decide) hc
                · -- 4: 71 := move 4
                  intro aq wq lq hz hI hl hdone hlater hold hd ho
                  have h3 : aq.tmps.getD 4 undef = .slice (some ⟨g, 0, none⟩) (n + 1) cap := ho 4 (by kernel_rfl)
                  clear hd ho hdone hlater hold
                  have hc : 71 < aq.tmps.size := (by have hz' : aq.tmps.size = 147 := hz; omega)
                  refine Reg.step3_move (.tmp 4) rfl h3 ?_ trivial
                  show Duo w3 11 12 9 10 11 12 _ _ _ _ _ _ _ _ _ _ (Reg.lset lq 4) (aq.put (some 71) _) wq
                  exact hI.keep _ (Below.refl _ _) (by decide) (by decide) (by decide) (by decide) (by decide) (by decide) hc
                · -- 5: 72
                  intro aq wq lq hz hI hl hdone hlater hold hd ho
                  have h71 : aq.tmps.getD 71 undef = .slice (some ⟨g, 0, none⟩) (n + 1) cap := hd 71 (by kernel_rfl)
                  clear hd ho hdone hlater hold
                  rw [Array.getD_eq_getD_getElem?] at h71
                  refine Reg.step3_val (.int .i64 ((n : Int) + 1)) ?_ rfl (hI.keep _ (Below.refl _ _) (by decide) (by decide) (by decide) (by decide) (by decide) (by decide) (by have hz' : aq.tmps.size = 147 := hz; omega)) trivial
                  clear hz hI
                  simp [execOp]
                  go_simp
                · -- 6: 73
                  intro aq wq lq hz hI hl hdone hlater hold hd ho
                  have h72 : aq.tmps.getD 72 undef = .int .i64 ((n : Int) + 1) := hd 72 (by kernel_rfl)
                  clear hd ho hdone hlater hold
                  rw [Array.getD_eq_getD_getElem?] at h72
                  refine Reg.step3_val (.int .i64 (n : Int)) ?_ rfl (hI.keep _ (Below.refl _ _) (by decide) (by decide) (by decide) (by decide) (by decide) (by decide) (by have hz' : aq.tmps.size = 147 := hz; omega)) trivial
                  clear hz hI
                  simp [execOp]
                  go_simp
                  exact HWN.out
                · -- 7: 74
                  intro aq wq lq hz hI hl hdone hlater hold hd ho
                  have h70 : aq.tmps.getD 70 undef = .slice (some ⟨g, 0, none⟩) (n + 1) cap := hd 70 (by kernel_rfl)
                  have h73 : aq.tmps.getD 73 undef = .int .i64 (n : Int) := hd 73 (by kernel_rfl)
                  clear hd ho hdone hlater hold
                  rw [Array.getD_eq_getD_getElem?] at h70 h73
                  refine Reg.step3_val (.pointer (some ⟨g, n * 4, none⟩)) ?_ rfl (hI.keep _ (Below.refl _ _) (by decide) (by decide) (by decide) (by decide) (by decide) (by decide) (by have hz' : aq.tmps.size = 147 := hz; omega)) trivial
                  clear hz hI
                  simp [execOp]
                  go_simp
                  intro h9
                  omega
                · -- 8: 75
                  intro aq wq lq hz hI hl hdone hlater hold hd ho
                  have h74 : aq.tmps.getD 74 undef = .pointer (some ⟨g, n * 4, none⟩) := hd 74 (by kernel_rfl)
                  clear hd ho hdone hlater hold
                  rw [Array.getD_eq_getD_getElem?] at h74
                  obtain ⟨c0, c1, c2, c3⟩ := HCN.out
                  have e0 := keep1 c0 hI.1
                  have e1 := keep1 c1 hI.1
                  have e2 := keep1 c2 hI.1
                  have e3 := keep1 c3 hI.1
                  clear c0 c1 c2 c3
                  refine Reg.step3_val (.agg #[.int .u8 z.kind, .string (Lend.strOf z.key), .string (Lend.strOf z.val), .int .u64 z.delta]) ?_ rfl (hI.keep _ (Below.refl _ _) (by decide) (by decide) (by decide) (by decide) (by decide) (by decide) (by have hz' : aq.tmps.size = 147 := hz; omega)) trivial
                  clear hz hI
                  simp [execOp]
                  go_simp
                · -- 9: 11 := alloc
                  intro aq wq lq hz hI hl hdone hlater hold hd ho
                  have hst : lq 11 = false := hlater 11 (by kernel_rfl)
                  clear hd ho hdone hlater hold
                  have hc : 11 < aq.tmps.size := (by have hz' : aq.tmps.size = 147 := hz; omega)
                  refine Reg.step3_do (.pointer (some ⟨wq.heap.size, 0, none⟩)) (wq.alloc (.cells #[.int .u8 0, .string ⟨#[]⟩, .string ⟨#[]⟩, .int .u64 0] 29)) ?_ trivial (Duo.mk hI _ _ _ _ hst (by decide) (by decide) (by decide) (by decide) hc) trivial
                  clear hz hc
                  simp [execOp]
                  go_simp
                · -- 10: 12 := alloc
                  intro aq wq lq hz hI hl hdone hlater hold hd ho
                  have hst : lq 12 = false := hlater 12 (by kernel_rfl)
                  clear hd ho hdone hlater hold
                  have hc : 12 < aq.tmps.size := (by have hz' : aq.tmps.size = 147 := hz; omega)
                  refine Reg.step3_do (.pointer (some ⟨wq.heap.size, 0, none⟩)) (wq.alloc (.cells #[.int .u8 0, .string ⟨#[]⟩, .string ⟨#[]⟩, .int .u64 0] 29)) ?_ trivial (Duo.swap (Duo.mk hI.swap _ _ _ _ hst (by decide) (by decide) (by decide) (by decide) hc)) trivial
                  clear hz hc
                  simp [execOp]
                  go_simp
                · -- 11: store 69
                  intro aq wq lq hz hI hl hdone hlater hold hd ho
                  have h3 : aq.tmps.getD 69 undef = .agg #[.int .u8 u0.kind, .string (Lend.strOf u0.key), .string (Lend.strOf u0.val), .int .u64 u0.delta] := hd 69 (by kernel_rfl)
                  have hia : lq 9 = true := hdone 9 (by kernel_rfl)
                  clear hd ho hdone hlater hold hz
                  obtain ⟨q, h4, ⟨u0', u1', u2', u3', hx⟩, hD⟩ := hI.st hia (by decide) (by decide) (by decide)
                  rw [Array.getD_eq_getD_getElem?] at h3 h4
                  have e0 := hx.cell 0
                  have e1 := hx.cell 1
                  have e2 := hx.cell 2
                  have e3 := hx.cell 3
                  have f0 := hx.frozen 0
                  have f1 := hx.frozen 1
                  have f2 := hx.frozen 2
                  have f3 := hx.frozen 3
                  simp only [List.getElem?_cons_zero, List.getElem?_cons_succ] at e0 e1 e2 e3
                  refine Reg.step3_skip ((((wq.setCell ⟨q, 0, none⟩ (.int .u8 u0.kind)).setCell ⟨q, 1, none⟩ (.string (Lend.strOf u0.key))).setCell ⟨q, 2, none⟩ (.string (Lend.strOf u0.val))).setCell ⟨q, 3, none⟩ (.int .u64 u0.delta)) rfl ?_ hD trivial
                  clear hx hI hD
                  simp [execOp]
                  go_simp
                · -- 12: store 75
                  intro aq wq lq hz hI hl hdone hlater hold hd ho
                  have h3 : aq.tmps.getD 75 undef = .agg #[.int .u8 z.kind, .string (Lend.strOf z.key), .string (Lend.strOf z.val), .int .u64 z.delta] := hd 75 (by kernel_rfl)
                  have hia : lq 10 = true := hdone 10 (by kernel_rfl)
                  clear hd ho hdone hlater hold hz
                  obtain ⟨q, h4, ⟨u0', u1', u2', u3', hx⟩, hD⟩ := hI.swap.st hia (by decide) (by decide) (by decide)
                  rw [Array.getD_eq_getD_getElem?] at h3 h4
                  have e0 := hx.cell 0
                  have e1 := hx.cell 1
                  have e2 := hx.cell 2
                  have e3 := hx.cell 3
                  have f0 := hx.frozen 0
                  have f1 := hx.frozen 1
                  have f2 := hx.frozen 2
                  have f3 := hx.frozen 3
                  simp only [List.getElem?_cons_zero, List.getElem?_cons_succ] at e0 e1 e2 e3
                  refine Reg.step3_skip ((((wq.setCell ⟨q, 0, none⟩ (.int .u8 z.kind)).setCell ⟨q, 1, none⟩ (.string (Lend.strOf z.key))).setCell ⟨q, 2, none⟩ (.string (Lend.strOf z.val))).setCell ⟨q, 3, none⟩ (.int .u64 z.delta)) rfl ?_ hD.swap trivial
                  clear hx hI hD
                  simp [execOp]
                  go_simp
              case hend =>
                intro wx v aq hv hI
                obtain ⟨hbx, q, r, k1, k2, k3⟩ := hI
                have hne := k3 rfl rfl
                obtain ⟨e1, hq1, p0, p1, p2, p3, hn1, ee1⟩ := k1 rfl
                obtain ⟨e2, hq2, r0, r1, r2, r3, hn2, ee2⟩ := k2 rfl
                obtain ⟨rfl, rfl, rfl, rfl⟩ := ee1 rfl
                obtain ⟨rfl, rfl, rfl, rfl⟩ := ee2 rfl
                rw [hv 11 (by decide)] at e1
                rw [hv 12 (by decide)] at e2
                clear hv
                have HN1 := Lib.hid hn1
                have HN2 := Lib.hid hn2
                have HBX := Lib.hid hbx
                clear hn1 hn2 hbx k1 k2 k3 ee1 ee2
                simp only [Reg.fill, List.map_cons, List.map_nil, List.foldl_cons, List.foldl_nil, List.setIfInBounds_toArray, List.set_cons_zero, List.set_cons_succ]
                rw [e1, e2]
                go_wp2
                go_meet
                exact ⟨q, r, rfl, rfl, hne, hq1, hq2, HN1.out, HN2.out, HBX.out⟩
            case rest =>
              obtain ⟨G1, G2, rfl, rfl, hne, hq1, hq2, hN1, hN2, hbx⟩ := hcut
              have hra5 := own_bel HRA4.out hbx
              have hlt5 : ∀ q, w3.heap.size ≤ q → ∀ b, (Value.slice (some ⟨g, 0, none⟩) (n + 1) cap).ownBlock = some b → b ≠ q := fun q hq b e => by have := (HRA4.out.lt b e).2; omega
              have HH1 := Lib.hid (show Hold w1 (.slice (some ⟨g, 0, none⟩) (n + 1) cap) M G1 u0 wc from ⟨hra5, hN1, below_on HB3.out hbx, by have := HB3.out.size; omega, hlt5 G1 hq1⟩)
              have HH2 := Lib.hid (show Hold w1 (.slice (some ⟨g, 0, none⟩) (n + 1) cap) M G2 z wc from ⟨hra5, hN2, below_on HB3.out hbx, by have := HB3.out.size; omega, hlt5 G2 hq2⟩)
              have HX5 := Lib.hid (HX3.out.below hbx HX3.out.lt)
              have HNE := Lib.hid hne
              have HFN := Lib.hid (show F < w3.heap.size from HX3.out.lt)
              have HG1 := Lib.hid hq1
              have HG2 := Lib.hid hq2
              have HT0 := Lib.hid (show Tm u0 from HTM.out _ (by rw [HM1.out]; simp))
              have HTZ := Lib.hid (show Tm z from HTM.out _ (by rw [HM2.out]; simp))
              have HTT := Lib.hid (show ∀ u ∈ Mt, Tm u from fun u hu => HTM.out u (by rw [HM1.out]; simp [hu]))
              have HTP := Lib.hid (show ∀ u ∈ P, Tm u from fun u hu => HTM.out u (by rw [HM2.out]; simp [hu]))
              clear hne hq1 hq2 hN1 hN2 hbx hra5 hlt5 HC0 HCN
              obtain ⟨w5, hw5⟩ : ∃ x, x = wc := ⟨_, rfl⟩
              rw [← hw5] at HH1 HH2 HX5 ⊢
              clear hw5
              go_upto_region 13 with fail
              go_cut [4, 76, 77, 78, 79] (fun x1 x2 s t i wx => x1 = .slice (some ⟨g, 0, none⟩) (n + 1) cap ∧ x2 = .slice (some ⟨g, 0, none⟩) (n + 1) cap ∧ ∃ a'' c'', s = .slice a'' n c'' ∧ t = .int .i64 (n : Int) ∧ i = .int .i64 ((0 : Nat) : Int) ∧ (0 < n → a'' = some ⟨g, 4, none⟩) ∧ wx = w5)
              case first =>
                go_wp2_with fail
                · have hc1 : cap = 1 := by assumption
                  go_meet
                  exact ⟨by rw [hc1], by rw [hc1], _, _, rfl, rfl, rfl, fun h => by omega, rfl⟩
                · go_meet
                  exact ⟨rfl, rfl, _, _, rfl, rfl, rfl, fun _ => rfl, rfl⟩
              case rest =>
                obtain ⟨rfl, rfl, a'', c'', rfl, rfl, rfl, haa, hww⟩ := hcut
                have hww := hww.symm
                subst hww
                have HAB := Lib.hid haa
                clear haa
                go_wp2_with fail
                go_loopw [79] (fun i wx => ∃ j : Nat, j ≤ n ∧ i = .int .i64 j ∧ Hold w1 (.slice (some ⟨g, 0, none⟩) (n + 1) cap) M G1 (jlU u0 (Mt.take j)) wx ∧ Hold w1 (.slice (some ⟨g, 0, none⟩) (n + 1) cap) M G2 z wx ∧ Has wx F 51 [.string T0, .bool a0f1, .slice a0f2 a0f2l a0f2c, .int .u8 a0f3]) (fun i _ => n - (intOf i).toNat)
                case atStart => exact ⟨0, Nat.zero_le _, rfl, HH1.out, HH2.out, HX5.out⟩
                case round =>
                  obtain ⟨j, hj, rfl, hh, hh2, hhx⟩ := hrel
                  have HO := Lib.hid hh
                  have HP := Lib.hid hh2
                  have HX := Lib.hid hhx
                  have HTJ := Lib.hid (jl_tm HT0.out (fun u hu => HTT.out u (List.mem_of_mem_take hu) : ∀ x ∈ Mt.take j, Tm x))
                  clear hh hh2 hhx
                  by_cases hlt2 : j < n
                  · have hje : j < Mt.length := by rw [HLT.out]; exact hlt2
                    have hki2 : (j : Int) < (n : Int) := by omega
                    obtain rfl : a'' = some ⟨g, 4, none⟩ := HAB.out (by omega)
                    have hcs := ra_cells HO.out.ra (j + 1) (by rw [HM1.out, List.length_cons, HLT.out]; omega)
                    have hme : M[j + 1]'(by rw [HM1.out, List.length_cons, HLT.out]; omega) = Mt[j] := by simp [HM1.out]
                    rw [hme] at hcs
                    have hjs : jlU u0 (Mt.take (j + 1)) = joU (jlU u0 (Mt.take j)) Mt[j] := by rw [List.take_succ_eq_append_getElem hje, jlU_snoc]
                    have htm := HTT.out _ (List.getElem_mem hje)
                    obtain ⟨v, hv⟩ : ∃ x, x = Mt[j] := ⟨_, rfl⟩
                    obtain ⟨y, hy⟩ : ∃ x, x = jlU u0 (Mt.take j) := ⟨_, rfl⟩
                    rw [← hv, show (j + 1) * 4 = 4 + j * 4 by omega] at hcs
                    rw [← hv, ← hy] at hjs
                    rw [← hv] at htm
                    rw [← hy] at HO HTJ
                    have HJS := Lib.hid hjs
                    obtain ⟨c0, c1, c2, c3⟩ := hcs
                    have hz := HO.out.box.alloc (.cells #[.int .u8 v.kind, .string (Lend.strOf v.key), .string (Lend.strOf v.val), .int .u64 v.delta] 29)
                    have e0 := hz.cell 0
                    have e1 := hz.cell 1
                    have e2 := hz.cell 2
                    have e3 := hz.cell 3
                    simp only [encU, List.getElem?_cons_zero, List.getElem?_cons_succ] at e0 e1 e2 e3
                    have HJO := Lib.hid (fun W => join_any y v W HTJ.out htm)
                    unfold agU at HJO
                    have HO1 := Lib.hid (HO.out.on (below_new _ (.cells #[.int .u8 v.kind, .string (Lend.strOf v.key), .string (Lend.strOf v.val), .int .u64 v.delta] 29)))
                    have HP1 := Lib.hid (HP.out.on (below_new _ (.cells #[.int .u8 v.kind, .string (Lend.strOf v.key), .string (Lend.strOf v.val), .int .u64 v.delta] 29)))
                    have HX1' := Lib.hid (HX.out.alloc (.cells #[.int .u8 v.kind, .string (Lend.strOf v.key), .string (Lend.strOf v.val), .int .u64 v.delta] 29))
                    clear hme hjs htm hv hy hz
                    go_wp2_with fail
                    refine (HJO.out _).mono ?_
                    rintro e w6 ⟨rfl, hb6⟩
                    have HO5 := Lib.hid (HO1.out.on hb6)
                    have HP5 := Lib.hid (HP1.out.on hb6)
                    have HX5' := Lib.hid (HX1'.out.below hb6 HX1'.out.lt)
                    have HO6 := Lib.hid (HO5.out.set (joU y v))
                    have HP6 := Lib.hid (HP5.out.far HO5.out HNE.out (joU y v))
                    have HX6 := Lib.hid (oth4 (v0 := .int .u8 (joU y v).kind) (v1 := .string (Lend.strOf (joU y v).key)) (v2 := .string (Lend.strOf (joU y v).val)) (v3 := .int .u64 (joU y v).delta) HX5'.out (show G1 ≠ F by have := HFN.out; have := HG1.out; omega))
                    clear e0 e1 e2 e3 c0 c1 c2 c3 hb6
                    have e0 := HO5.out.box.cell 0
                    have e1 := HO5.out.box.cell 1
                    have e2 := HO5.out.box.cell 2
                    have e3 := HO5.out.box.cell 3
                    have f0 := HO5.out.box.frozen 0
                    have f1 := HO5.out.box.frozen 1
                    have f2 := HO5.out.box.frozen 2
                    have f3 := HO5.out.box.frozen 3
                    simp only [encU, List.getElem?_cons_zero, List.getElem?_cons_succ] at e0 e1 e2 e3
                    go_wp2_with fail
                    go_roundw
                    case rel => exact ⟨j + 1, by omega, by go_num, by rw [HJS.out]; exact HO6.out, HP6.out, HX6.out⟩
                    case measure => simp [intOf]; omega
                  · obtain rfl : n = j := by omega
                    have hki2 : ¬ (n : Int) < (n : Int) := by omega
                    have etk : Mt.take n = Mt := List.take_of_length_le (by rw [HLT.out]; omega)
                    rw [etk] at HO HTJ
                    have x3 : wr.cell? ⟨F, 3, none⟩ = some (.int .u8 a0f3) := HX.out.cell 3
                    obtain ⟨kk, hkk⟩ := Int.eq_ofNat_of_zero_le (Int.emod_nonneg a0f3 (show ((n : Int) + 1) ≠ 0 by omega))
                    have hkn : kk ≤ n := by have := Int.emod_lt_of_pos a0f3 (show 0 < ((n : Int) + 1) by omega); omega
                    obtain ⟨y1, hy1⟩ : ∃ x, x = jlU u0 Mt := ⟨_, rfl⟩
                    rw [← hy1] at HO HTJ
                    have HY1 := Lib.hid hy1
                    have HJR := Lib.hid (fun i => jr_tm HTZ.out (fun u hu => HTP.out u (List.mem_of_mem_drop hu) : ∀ x ∈ P.drop i, Tm x))
                    have HPD := Lib.hid (show P.drop (kk + (n - kk)) = [] from List.drop_of_length_le (by rw [HLP.out]; omega))
                    clear hy1 etk
                    go_wp2_with fail
                    clear x3
                    go_loopw [16] (fun iv wx => ∃ (r : Nat) (x : Int), x = (kk : Int) - 1 + r ∧ kk + r ≤ n ∧ iv = .int .i64 x ∧ Hold w1 (.slice (some ⟨g, 0, none⟩) (n + 1) cap) M G1 y1 wx ∧ Hold w1 (.slice (some ⟨g, 0, none⟩) (n + 1) cap) M G2 (jrU (P.drop (kk + r)) z) wx ∧ Has wx F 51 [.string T0, .bool a0f1, .slice a0f2 a0f2l a0f2c, .int .u8 a0f3]) (fun i _ => (intOf i + 1 - kk).toNat)
                    case atStart => exact ⟨n - kk, _, by omega, by omega, rfl, HO.out, by rw [HPD.out]; exact HP.out, HX.out⟩
                    case round =>
                      obtain ⟨r, x, hx, hr, rfl, hh, hh2, hhx⟩ := hrel
                      have HO := Lib.hid hh
                      have HP := Lib.hid hh2
                      have HX := Lib.hid hhx
                      clear hh hh2 hhx
                      by_cases hr0 : r = 0
                      · subst hr0
                        have hge : ¬ (kk : Int) ≤ x := by omega
                        have hge2 : x < (kk : Int) := by omega
                        have HP : Hid (Hold w1 (.slice (some ⟨g, 0, none⟩) (n + 1) cap) M G2 (jrU (P.drop kk) z) wr) := HP
                        have x1 : wr.cell? ⟨F, 1, none⟩ = some (.bool a0f1) := HX.out.cell 1
                        have e0 := HO.out.box.cell 0
                        have e1 := HO.out.box.cell 1
                        have e2 := HO.out.box.cell 2
                        have e3 := HO.out.box.cell 3
                        simp only [encU, List.getElem?_cons_zero, List.getElem?_cons_succ] at e0 e1 e2 e3
                        have HSE := Lib.hid (show onU s0 y1 = sA by
                          rw [HY1.out, on_jl s0 HT0.out HTT.out, ← HM1.out, HSA.out, HM1.out, all_cons])
                        have HON := Lib.hid (fun W => on_any s0 y1 W (by have := HVL.out; omega) HTJ.wf)
                        obtain ⟨y2, hy2⟩ : ∃ x, x = jrU (P.drop kk) z := ⟨_, rfl⟩
                        have HTY := Lib.hid (show Tm y2 by rw [hy2]; exact HJR.out kk)
                        have HLL := Lib.hid (show allU s0 (M.take kk ++ [y2]) = sA by
                          rw [HSA.out]
                          unfold allU
                          rw [fo_app]
                          show onU (foU (stU s0) (M.take kk)) y2 = _
                          rw [hy2, on_jr _ HTZ.out (fun u hu => HTP.out u (List.mem_of_mem_drop hu)), ← fo_app, HM2.out]
                          congr 1
                          rw [List.take_append_of_le_length (by rw [HLP.out]; exact hkn), ← List.append_assoc, List.take_append_drop])
                        rw [← hy2] at HP
                        unfold agU rtS at HON
                        rw [HS1.out, HS2.out, HSE.out] at HON
                        clear hy2 hx
                        go_wp2_with fail
                        refine (HON.out _).mono ?_
                        rintro e w8 ⟨rfl, hb8⟩
                        have HP8 := Lib.hid (HP.out.on hb8)
                        have HX8 := Lib.hid (HX.out.below hb8 HX.out.lt)
                        clear hb8 e0 e1 e2 e3 x1
                        go_upto_region 24 with fail
                        have HRA8 := Lib.hid HP8.out.ra
                        have HMK := Lib.hid (show kk ≤ M.length by rw [HM2.out, List.length_append, HLP.out]; omega)
                        have HLW := Lib.hid (show ∀ u ∈ M.take kk ++ [y2], WfU u ∧ u.val.length ≤ 1000000 from fun u hu => by
                          rcases List.mem_append.1 hu with h | h
                          · exact HMW.out u (List.mem_of_mem_take h)
                          · rw [List.mem_singleton] at h; subst h; exact ⟨HTY.out.wf, by have := HTY.out.len; omega⟩)
                        have HLN := Lib.hid (show (M.take kk ++ [y2]).length ≤ 1000 by rw [List.length_append, List.length_take]; simp only [List.length_cons, List.length_nil]; omega)
                        have hkk1 : (kk : Int) ≤ (n : Int) + 1 := by omega
                        have hkk2 : (kk : Int) ≤ (cap : Int) := by omega
                        have hkk3 : kk ≤ cap := by omega
                        have hkk4 : kk ≤ n + 1 := by omega
                        go_cut [19, 20] (fun s t wx => s = .string (Lend.strOf sA.1) ∧ t = .bool sA.2 ∧ Below w8.heap.size w8 wx)
                        case first =>
                          refine Reg.region_vals3 (by kernel_rfl) [(116, .string (Lend.strOf V)), (117, .pointer (some ⟨F, 1, none⟩)), (118, .bool a0f1), (119, .slice (some ⟨g, 0, none⟩) (n + 1) cap), (120, .int .i64 (kk : Int)), (121, .int .i64 (kk : Int)), (122, .slice (some ⟨g, 0, none⟩) kk kk), (123, .agg #[.int .u8 y2.kind, .string (Lend.strOf y2.key), .string (Lend.strOf y2.val), .int .u64 y2.delta]), (124, .slice (some ⟨w8.heap.size, 0, none⟩) 1 1), (126, .tuple #[.string (Lend.strOf sA.1), .bool sA.2]), (115, .tuple #[.string (Lend.strOf sA.1), .bool sA.2]), (127, .string (Lend.strOf sA.1)), (128, .bool sA.2), (19, .string (Lend.strOf sA.1)), (20, .bool sA.2)] [125]
                            (Apd w8 w8.heap.size y2 (M.take kk ++ [y2])) ?a1 ?a2 ?a3 ?a4 ?a5 ?a6 ?a7 ?hend
                          case a1 => kernel_rfl
                          case a2 => kernel_rfl
                          case a3 => kernel_rfl
                          case a4 => kernel_rfl
                          case a5 => kernel_rfl
                          case a6 => exact Apd.start _
                          case a7 =>
                            refine ⟨?_, ?_, ?_, ?_, ?_, ?_, ?_, ?_, ?_, ?_, ?_, ?_, ?_, ?_, ?_, ?_, trivial⟩
                            · -- 0: 116
                              intro aq wq lq hz hI hl hdone hlater hold hd ho
                              have h3 : aq.tmps.getD 3 undef = .string (Lend.strOf V) := ho 3 (by kernel_rfl)
                              clear hd ho hdone hlater hold
                              refine Reg.step3_move (.tmp 3) rfl h3 ?_ trivial
                              show Apd w8 w8.heap.size y2 (M.take kk ++ [y2]) (Reg.lset lq 0) (aq.put (some 116) _) wq
                              exact (hI.keep _ (by decide) (by decide) (by decide) (by have hz' : aq.tmps.size = 147 := hz; omega))
                            · -- 1: 117
                              intro aq wq lq hz hI hl hdone hlater hold hd ho
                              have h1 : aq.tmps.getD 1 undef = .pointer (some ⟨F, 0, none⟩) := ho 1 (by kernel_rfl)
                              clear hd ho hdone hlater hold
                              rw [Array.getD_eq_getD_getElem?] at h1
                              refine Reg.step3_val (.pointer (some ⟨F, 1, none⟩)) ?_ rfl (hI.keep _ (by decide) (by decide) (by decide) (by have hz' : aq.tmps.size = 147 := hz; omega)) trivial
                              clear hz hI
                              simp [execOp]
                              go_simp
                            · -- 2: 118
                              intro aq wq lq hz hI hl hdone hlater hold hd ho
                              have h117 : aq.tmps.getD 117 undef = .pointer (some ⟨F, 1, none⟩) := hd 117 (by kernel_rfl)
                              clear hd ho hdone hlater hold
                              rw [Array.getD_eq_getD_getElem?] at h117
                              have e1 : wq.cell? ⟨F, 1, none⟩ = some (.bool a0f1) := (HX8.out.below hI.bel HX8.out.lt).cell 1
                              refine Reg.step3_val (.bool a0f1) ?_ rfl (hI.keep _ (by decide) (by decide) (by decide) (by have hz' : aq.tmps.size = 147 := hz; omega)) trivial
                              clear hz hI
                              simp [execOp]
                              go_simp
                            · -- 3: 119
                              intro aq wq lq hz hI hl hdone hlater hold hd ho
                              have h4 : aq.tmps.getD 4 undef = .slice (some ⟨g, 0, none⟩) (n + 1) cap := ho 4 (by kernel_rfl)
                              clear hd ho hdone hlater hold
                              refine Reg.step3_move (.tmp 4) rfl h4 ?_ trivial
                              show Apd w8 w8.heap.size y2 (M.take kk ++ [y2]) (Reg.lset lq 3) (aq.put (some 119) _) wq
                              exact (hI.keep _ (by decide) (by decide) (by decide) (by have hz' : aq.tmps.size = 147 := hz; omega))
                            · -- 4: 120
                              intro aq wq lq hz hI hl hdone hlater hold hd ho
                              have h15 : aq.tmps.getD 15 undef = .int .i64 (kk : Int) := ho 15 (by kernel_rfl)
                              clear hd ho hdone hlater hold
                              refine Reg.step3_move (.tmp 15) rfl h15 ?_ trivial
                              show Apd w8 w8.heap.size y2 (M.take kk ++ [y2]) (Reg.lset lq 4) (aq.put (some 120) _) wq
                              exact (hI.keep _ (by decide) (by decide) (by decide) (by have hz' : aq.tmps.size = 147 := hz; omega))
                            · -- 5: 121
                              intro aq wq lq hz hI hl hdone hlater hold hd ho
                              have h15 : aq.tmps.getD 15 undef = .int .i64 (kk : Int) := ho 15 (by kernel_rfl)
                              clear hd ho hdone hlater hold
                              refine Reg.step3_move (.tmp 15) rfl h15 ?_ trivial
                              show Apd w8 w8.heap.size y2 (M.take kk ++ [y2]) (Reg.lset lq 5) (aq.put (some 121) _) wq
                              exact (hI.keep _ (by decide) (by decide) (by decide) (by have hz' : aq.tmps.size = 147 := hz; omega))
                            · -- 6: 122
                              intro aq wq lq hz hI hl hdone hlater hold hd ho
                              have h119 : aq.tmps.getD 119 undef = .slice (some ⟨g, 0, none⟩) (n + 1) cap := hd 119 (by kernel_rfl)
                              have h120 : aq.tmps.getD 120 undef = .int .i64 (kk : Int) := hd 120 (by kernel_rfl)
                              have h121 : aq.tmps.getD 121 undef = .int .i64 (kk : Int) := hd 121 (by kernel_rfl)
                              clear hd ho hdone hlater hold
                              rw [Array.getD_eq_getD_getElem?] at h119 h120 h121
                              refine Reg.step3_val (.slice (some ⟨g, 0, none⟩) kk kk) ?_ rfl (hI.keep _ (by decide) (by decide) (by decide) (by have hz' : aq.tmps.size = 147 := hz; omega)) trivial
                              clear hz hI
                              simp [execOp]
                              go_simp
                            · -- 7: 123
                              intro aq wq lq hz hI hl hdone hlater hold hd ho
                              have h12 : aq.tmps.getD 12 undef = .pointer (some ⟨G2, 0, none⟩) := ho 12 (by kernel_rfl)
                              clear hd ho hdone hlater hold
                              rw [Array.getD_eq_getD_getElem?] at h12
                              have hx := HP8.out.box.below hI.bel HP8.out.box.lt
                              have e0 := hx.cell 0
                              have e1 := hx.cell 1
                              have e2 := hx.cell 2
                              have e3 := hx.cell 3
                              simp only [encU, List.getElem?_cons_zero, List.getElem?_cons_succ] at e0 e1 e2 e3
                              clear hx
                              refine Reg.step3_val (.agg #[.int .u8 y2.kind, .string (Lend.strOf y2.key), .string (Lend.strOf y2.val), .int .u64 y2.delta]) ?_ rfl (hI.keep _ (by decide) (by decide) (by decide) (by have hz' : aq.tmps.size = 147 := hz; omega)) trivial
                              clear hz hI
                              simp [execOp]
                              go_simp
                            · -- 8: 124 := buildSlice
                              intro aq wq lq hz hI hl hdone hlater hold hd ho
                              have h123 : aq.tmps.getD 123 undef = .agg #[.int .u8 y2.kind, .string (Lend.strOf y2.key), .string (Lend.strOf y2.val), .int .u64 y2.delta] := hd 123 (by kernel_rfl)
                              have h9 : lq 9 = false := hlater 9 (by kernel_rfl)
                              clear hd ho hdone hlater hold
                              rw [Array.getD_eq_getD_getElem?] at h123
                              have hc : 124 < aq.tmps.size := (by have hz' : aq.tmps.size = 147 := hz; omega)
                              have hs := hI.sz hl
                              refine Reg.step3_do (.slice (some ⟨w8.heap.size, 0, none⟩) 1 1) (wq.alloc (.cells (encU y2).toArray 29)) ?_ rfl (hI.lay hl h9 _ hc) trivial
                              rw [← hs]
                              clear hz hc hI hs hl h9
                              show _ = Result.ok (Next.value (.slice (some ⟨wq.heap.size, 0, none⟩) 1 1)) (wq.alloc (.cells #[.int .u8 y2.kind, .string (Lend.strOf y2.key), .string (Lend.strOf y2.val), .int .u64 y2.delta] 29))
                              simp [execOp]
                              go_simp
                            · -- 9: 125 := append
                              intro aq wq lq hz hI hl hdone hlater hold hd ho
                              have h122 : aq.tmps.getD 122 undef = .slice (some ⟨g, 0, none⟩) kk kk := hd 122 (by kernel_rfl)
                              have h124 : aq.tmps.getD 124 undef = .slice (some ⟨w8.heap.size, 0, none⟩) 1 1 := hd 124 (by kernel_rfl)
                              have h8 : lq 8 = true := hdone 8 (by kernel_rfl)
                              clear hd ho hdone hlater hold
                              have hc : 125 < aq.tmps.size := (by have hz' : aq.tmps.size = 147 := hz; omega)
                              obtain ⟨v', w', hrun, hur, hb⟩ := app_cut (own_bel HRA8.out hI.bel) (hI.one h8) kk HMK.out (by omega)
                              refine Reg.step3_do v' w' ?_ trivial (hI.app h8 hur hb hc) trivial
                              have e1 : Act.eval aq (.tmp 122) = .slice (some ⟨g, 0, none⟩) kk kk := h122
                              have e2 : Act.eval aq (.tmp 124) = .slice (some ⟨w8.heap.size, 0, none⟩) 1 1 := h124
                              unfold execOp
                              simp only [resolve, invoke, builtin, Sem.run_bind, Sem.run_pure, Result.andThen_ok, List.map_toArray, List.map_cons, List.map_nil, e1, e2, hrun]
                            · -- 10: 126 := All
                              intro aq wq lq hz hI hl hdone hlater hold hd ho
                              have h116 : aq.tmps.getD 116 undef = .string (Lend.strOf V) := hd 116 (by kernel_rfl)
                              have h118 : aq.tmps.getD 118 undef = .bool a0f1 := hd 118 (by kernel_rfl)
                              have h9 : lq 9 = true := hdone 9 (by kernel_rfl)
                              have h8 : lq 8 = true := hI.ord h9
                              clear hd ho hdone hlater hold
                              have hc : 126 < aq.tmps.size := (by have hz' : aq.tmps.size = 147 := hz; omega)
                              have hu := hI.two h9
                              obtain ⟨v5, hv5⟩ : ∃ v, aq.tmps.getD 125 undef = v := ⟨_, rfl⟩
                              rw [hv5] at hu
                              have hal := all_any s0 wq hu (by have := HLN.out; omega) (by have := HVL.out; omega) HLW.out
                              rw [HS1.out, HS2.out, HLL.out] at hal
                              unfold rtS at hal
                              refine Reg.step3_call 11 #[.string (Lend.strOf V), .bool a0f1, v5] ?_ (hal.mono ?_)
                              · rw [Array.getD_eq_getD_getElem?] at h116 h118 hv5
                                clear hz hc hI hal hu
                                simp [execOp]
                                go_simp
                              · rintro e w' ⟨rfl, hb⟩
                                exact ⟨_, rfl, rfl, hI.call h8 hb _ (by decide) (by decide) (by decide) hc, trivial⟩
                            · -- 11: 115
                              intro aq wq lq hz hI hl hdone hlater hold hd ho
                              have h126 : aq.tmps.getD 126 undef = .tuple #[.string (Lend.strOf sA.1), .bool sA.2] := hd 126 (by kernel_rfl)
                              clear hd ho hdone hlater hold
                              refine Reg.step3_move (.tmp 126) rfl h126 ?_ trivial
                              show Apd w8 w8.heap.size y2 (M.take kk ++ [y2]) (Reg.lset lq 11) (aq.put (some 115) _) wq
                              exact (hI.keep _ (by decide) (by decide) (by decide) (by have hz' : aq.tmps.size = 147 := hz; omega))
                            · -- 12: 127
                              intro aq wq lq hz hI hl hdone hlater hold hd ho
                              have h115 : aq.tmps.getD 115 undef = .tuple #[.string (Lend.strOf sA.1), .bool sA.2] := hd 115 (by kernel_rfl)
                              clear hd ho hdone hlater hold
                              rw [Array.getD_eq_getD_getElem?] at h115
                              refine Reg.step3_val (.string (Lend.strOf sA.1)) ?_ rfl (hI.keep _ (by decide) (by decide) (by decide) (by have hz' : aq.tmps.size = 147 := hz; omega)) trivial
                              clear hz hI
                              simp [execOp]
                              go_simp
                            · -- 13: 128
                              intro aq wq lq hz hI hl hdone hlater hold hd ho
                              have h115 : aq.tmps.getD 115 undef = .tuple #[.string (Lend.strOf sA.1), .bool sA.2] := hd 115 (by kernel_rfl)
                              clear hd ho hdone hlater hold
                              rw [Array.getD_eq_getD_getElem?] at h115
                              refine Reg.step3_val (.bool sA.2) ?_ rfl (hI.keep _ (by decide) (by decide) (by decide) (by have hz' : aq.tmps.size = 147 := hz; omega)) trivial
                              clear hz hI
                              simp [execOp]
                              go_simp
                            · -- 14: 19
                              intro aq wq lq hz hI hl hdone hlater hold hd ho
                              have h127 : aq.tmps.getD 127 undef = .string (Lend.strOf sA.1) := hd 127 (by kernel_rfl)
                              clear hd ho hdone hlater hold
                              refine Reg.step3_assign (.tmp 127) rfl h127 ?_ trivial
                              show Apd w8 w8.heap.size y2 (M.take kk ++ [y2]) (Reg.lset lq 14) (aq.put (some 19) _) wq
                              exact (hI.keep _ (by decide) (by decide) (by decide) (by have hz' : aq.tmps.size = 147 := hz; omega))
                            · -- 15: 20
                              intro aq wq lq hz hI hl hdone hlater hold hd ho
                              have h128 : aq.tmps.getD 128 undef = .bool sA.2 := hd 128 (by kernel_rfl)
                              clear hd ho hdone hlater hold
                              refine Reg.step3_assign (.tmp 128) rfl h128 ?_ trivial
                              show Apd w8 w8.heap.size y2 (M.take kk ++ [y2]) (Reg.lset lq 15) (aq.put (some 20) _) wq
                              exact (hI.keep _ (by decide) (by decide) (by decide) (by have hz' : aq.tmps.size = 147 := hz; omega))
                          case hend =>
                            intro wx v aq hv hI
                            have hbx := hI.bel
                            clear hI hv
                            simp only [Reg.fill, List.map_cons, List.map_nil, List.foldl_cons, List.foldl_nil, List.setIfInBounds_toArray, List.set_cons_zero, List.set_cons_succ]
                            go_wp2
                            go_meet
                            exact ⟨rfl, rfl, hbx⟩
                        case rest =>
                          obtain ⟨rfl, rfl, hbx⟩ := hcut
                          have HB9 := Lib.hid (below_on HB1.out (below_on HP8.out.bel hbx))
                          generalize Lend.strOf sA.1 = E1 at *
                          generalize sA.2 = E2 at *
                          clear hbx
                          go_wp2_with fail
                          go_ret
                          exact ⟨rfl, HB9.out⟩
                      · obtain ⟨r', rfl⟩ : ∃ r', r = r' + 1 := ⟨r - 1, by omega⟩
                        obtain ⟨i0, hi0⟩ : ∃ i, i = kk + r' := ⟨_, rfl⟩
                        obtain rfl : x = ((i0 : Nat) : Int) := by omega
                        have hge : (kk : Int) ≤ (i0 : Int) := by omega
                        have hi1 : i0 < n := by omega
                        have hpi : i0 < P.length := by rw [HLP.out]; exact hi1
                        have hcs := ra_cells HO.out.ra i0 (by rw [HM2.out, List.length_append, HLP.out]; omega)
                        have hme : M[i0]'(by rw [HM2.out, List.length_append, HLP.out]; omega) = P[i0] := by simp [HM2.out, List.getElem_append_left hpi]
                        rw [hme] at hcs
                        have hjs := jr_step (z := z) hpi
                        have htm := HTP.out _ (List.getElem_mem hpi)
                        have htj := HJR.out (i0 + 1)
                        obtain ⟨v, hv⟩ : ∃ x, x = P[i0] := ⟨_, rfl⟩
                        rw [show kk + (r' + 1) = i0 + 1 by omega] at HP
                        obtain ⟨y, hy⟩ : ∃ x, x = jrU (P.drop (i0 + 1)) z := ⟨_, rfl⟩
                        rw [← hv] at hcs htm hjs
                        rw [← hy] at hjs HP htj
                        have HJS := Lib.hid hjs
                        obtain ⟨c0, c1, c2, c3⟩ := hcs
                        have d0 : wr.drew.cell? ⟨g, i0 * 4, none⟩ = some (.int .u8 v.kind) := c0
                        have d1 : wr.drew.cell? ⟨g, i0 * 4 + 1, none⟩ = some (.string (Lend.strOf v.key)) := c1
                        have d2 : wr.drew.cell? ⟨g, i0 * 4 + 2, none⟩ = some (.string (Lend.strOf v.val)) := c2
                        have d3 : wr.drew.cell? ⟨g, i0 * 4 + 3, none⟩ = some (.int .u64 v.delta) := c3
                        have e0 : wr.drew.cell? ⟨G2, 0, none⟩ = some (.int .u8 y.kind) := HP.out.box.cell 0
                        have e1 : wr.drew.cell? ⟨G2, 1, none⟩ = some (.string (Lend.strOf y.key)) := HP.out.box.cell 1
                        have e2 : wr.drew.cell? ⟨G2, 2, none⟩ = some (.string (Lend.strOf y.val)) := HP.out.box.cell 2
                        have e3 : wr.drew.cell? ⟨G2, 3, none⟩ = some (.int .u64 y.delta) := HP.out.box.cell 3
                        have HJO := Lib.hid (fun W => join_any v y W htm htj)
                        unfold agU at HJO
                        have HO1 := Lib.hid (HO.out.on ((Below.refl _ _).drew : Below wr.heap.size wr wr.drew))
                        have HP1 := Lib.hid (HP.out.on ((Below.refl _ _).drew : Below wr.heap.size wr wr.drew))
                        have HXD := Lib.hid (HX.out.drew)
                        have hi12 : i0 ≤ 12 := by omega
                        have hib1 : (i0 : Int) < (n : Int) + 1 := by omega
                        have hib2 : ¬ (n : Int) + 1 ≤ (i0 : Int) := by omega
                        have hib3 : (i0 : Int) ≤ (n : Int) := by omega
                        have HI0 := Lib.hid hi0
                        clear hme hjs htm htj hv hy hx hpi c0 c1 c2 c3 hi0
                        go_wp2_with fail
                        refine Reg.still_tail 5 (by kernel_rfl) (by kernel_rfl) ?_
                        simp only [List.take_succ_cons, List.take_zero, List.drop_succ_cons, List.drop_zero]
                        repeat still_step
                        try refine wpStill_nil ?_
                        go_wp2_with fail
                        refine (HJO.out _).mono ?_
                        rintro e w6 ⟨rfl, hb6⟩
                        have HO5 := Lib.hid (HO1.out.on hb6)
                        have HP5 := Lib.hid (HP1.out.on hb6)
                        have HX5' := Lib.hid (HXD.out.below hb6 HXD.out.lt)
                        have HP6 := Lib.hid (HP5.out.set (joU v y))
                        have HO6 := Lib.hid (HO5.out.far HP5.out (fun e => HNE.out e.symm) (joU v y))
                        have HX6 := Lib.hid (oth4 (v0 := .int .u8 (joU v y).kind) (v1 := .string (Lend.strOf (joU v y).key)) (v2 := .string (Lend.strOf (joU v y).val)) (v3 := .int .u64 (joU v y).delta) HX5'.out (show G2 ≠ F by have := HFN.out; have := HG2.out; omega))
                        clear e0 e1 e2 e3 d0 d1 d2 d3 hb6
                        have e0 := HP5.out.box.cell 0
                        have e1 := HP5.out.box.cell 1
                        have e2 := HP5.out.box.cell 2
                        have e3 := HP5.out.box.cell 3
                        have f0 := HP5.out.box.frozen 0
                        have f1 := HP5.out.box.frozen 1
                        have f2 := HP5.out.box.frozen 2
                        have f3 := HP5.out.box.frozen 3
                        simp only [encU, List.getElem?_cons_zero, List.getElem?_cons_succ] at e0 e1 e2 e3
                        go_wp2_with fail
                        go_roundw
                        case rel => exact ⟨r', _, by have := HI0.out; omega, by have := HI0.out; omega, rfl, HO6.out, by rw [← HI0.out, HJS.out]; exact HP6.out, HX6.out⟩
                        case measure => have := HI0.out; simp [intOf]; omega

/-! ### THE ROW's STEP -/
set_option maxRecDepth 100000 in
theorem lifted (os : Os) (started : os.Started) (H : Type) (enc : TypeId × Value → H) :
    ReturnsInHanded {} Try.checked os 6 .any (Rows.msgFoldsSpec.pre6 enc Try.prog Try.f6 Rows.msgFoldsRow.domain false) (Rows.msgFoldsSpec.post enc Try.prog Try.f6 false true false false) := by
  refine returnsInHanded_of_change (C := Try.checked) own started (by kernel_rfl) Try.func6
    (ChangeSpec.witness6 (enc := enc) (C := Try.checked) false ⟨#[], #[.agg #[.string ByteArray.empty, .bool false, .slice none 0 0, .int .u8 0]], []⟩ 8 (by kernel_rfl) (by kernel_rfl) (by kernel_rfl) (by kernel_rfl)) ?_
  intro W base args ds gs before hval0 hW hcnd _
  have hval : ∀ (j : Nat) t v, Try.f6.params[j]? = some t → args[j]? = some v → Value.okWide Try.prog W .any base t v := hval0
  have hW' := hW
  obtain ⟨p, q, hA0, hV, rfl, hfz, hnd⟩ := hW
  have hA : DataW.TrodAll enc Try.prog W 0 (fun _ => true) true Try.f6.params.toList args.toList ds p := hA0
  rw [Try.params6] at hA hval
  obtain ⟨v0, vs0, d0, ds0, p0, q0, hargs, rfl, rfl, h0, r0⟩ := trodAll_cons hA
  obtain ⟨rfl, rfl, rfl⟩ := trodAll_nil r0
  obtain rfl : args = #[v0] := by cases args; simp_all
  obtain ⟨rfl, rfl⟩ := trodVars_none hV
  have k0 := h0
  have lt0 : ∀ x ∈ p0, x.block < W.heap.size := by obtain ⟨m, hm⟩ := k0; exact DataW.trod_lt m _ _ _ hm
  obtain ⟨cs0, rfl, hl0, hc0⟩ := open_struct_cells Try.underlying51 (by kernel_rfl) (by kernel_rfl) (hval 0 51 v0 rfl rfl) h0
  obtain ⟨y0_0, y0_1, y0_2, y0_3, rfl⟩ := len4 cs0 hl0
  obtain ⟨a0f0, rfl, w0f0⟩ := open_str_cell Try.underlying9 (hc0 0 _ _ rfl rfl)
  obtain ⟨a0f1, rfl⟩ := open_bool_cell Try.underlying4 (hc0 1 _ _ rfl rfl)
  obtain ⟨a0f2, a0f2l, a0f2c, rfl, w0f2, w0f2l, w0f2m⟩ := open_AR0f2 (hc0 2 _ _ rfl rfl)
  obtain ⟨a0f3, rfl, w0f3⟩ := open_int_cell Try.underlying5 (hc0 3 _ _ rfl rfl)
  clear hA0 hval0
  refine (walk a0f0 a0f1 a0f2 a0f2l a0f2c a0f3 W w0f0 w0f2 w0f2l w0f2m w0f3).mono fun e W' ⟨he, bel⟩ => ?_
  subst he
  exact ⟨_, rfl, _, _, _, [], _, [], hW', trodAll_mk1 (shut_bool Try.underlying4 _), (trodAll_cons_mk (Below.trod laidOut (by kernel_rfl) (of_decide_eq_true (by kernel_rfl)) k0 bel lt0) trodAll_mk0), rfl, bel.frame _, fun h => by cases h⟩

theorem over : Rows.msgFoldsRow.holds Try.pinned (OpenSpec.ofChange Rows.msgFoldsSpec) :=
  OpenClaim.holds_of_wide 6 Try.f6 rfl rfl rfl rfl rfl rfl rfl ⟨rfl, rfl, rfl, rfl, rfl⟩ rfl rfl rfl rfl rfl (by kernel_rfl) Try.func6 (by kernel_rfl)
    (of_decide_eq_true (by kernel_rfl)) (by unfold Func.isWrapper; first | (rw [if_pos (by decide +kernel)]; kernel_rfl) | (rw [if_neg (by decide +kernel)]; exact ⟨rfl, rfl⟩))
    (fun os started H enc _ => lifted os started H enc)

/-- THE STATEMENT -/
theorem proved : Rows.MsgFoldsSaid := over
#print axioms proved
end Go.Proofs.Ytmhinnfcfnlfkaa.msgFolds
