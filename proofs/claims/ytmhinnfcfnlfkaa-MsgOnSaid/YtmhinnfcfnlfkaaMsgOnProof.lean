/-
  The law MsgOn holds: what every update, and a list of them, makes of every value, there or not, is the document's. Conditions: none but the row's own.
-/
import Derived.Test.YtmhinnfcfnlfkaaRows
import Derived.Test.YtmhinnfcfnlfkaaMsgK
import Derived.Test.YtmhinnfcfnlfkaaStructs
import Derived.WalkKit
import Derived.ProofKit
import Derived.OpenShut
import Derived.ShutString
import Derived.ChangeOld
import Derived.Below
import Derived.Carry
namespace Go.Proofs.Ytmhinnfcfnlfkaa.msgOn
open Go.ChangeShapes Go.WideShapes Go.ChangeAt Go.RowKit
open Go.Proofs.Ytmhinnfcfnlfkaa
open Go.ChangeMaps (open_string shut_string)
set_option linter.unusedVariables false

theorem own : ownKnob Try.prog.godebug = none := by kernel_rfl
theorem laidOut : laidOutB Try.prog = true := by kernel_rfl

/-- the elements of argument 2 -/
def AR2 (w : World) (a : Option Addr) (len : Nat) : Prop := 0 < len → ∃ b off, a = some ⟨b, off, none⟩ ∧ ∀ i, i < len → ∃ (x0 : Int) (x1 : ByteArray) (x2 : Int), w.cell? ⟨b, off + (i * 3 + 0), none⟩ = some (.int .u8 x0) ∧ (Lit.int .u8 x0).wf = true ∧ w.cell? ⟨b, off + (i * 3 + 1), none⟩ = some (.string x1) ∧ x1.size ≤ maxLen ∧ w.cell? ⟨b, off + (i * 3 + 2), none⟩ = some (.int .u64 x2) ∧ (Lit.int .u64 x2).wf = true
theorem open_AR2 {H : Type} {enc : TypeId × Value → H} {w : World} {held : Bool} {c : Value} (h : ∃ m y, DataW.trod enc Try.prog w 0 (fun _ => true) held m 22 [c] = some y) :
    ∃ a len cap, c = .slice a len cap ∧ AR2 w a len ∧ len ≤ cap ∧ cap ≤ maxLen := by
  obtain ⟨a, len, cap, hc, hl, hm, hx⟩ := open_structs Try.underlying22 Try.underlying26 (by kernel_rfl) (by kernel_rfl) (by decide) h
  refine ⟨a, len, cap, hc, fun hpos => ?_, hl, hm⟩
  obtain ⟨b, off, ha, hf⟩ := hx hpos
  refine ⟨b, off, ha, fun i hi => ?_⟩
  obtain ⟨v0, hc0, ht0⟩ := hf i hi 0 _ rfl
  obtain ⟨x0, rfl, hw0⟩ := open_int_cell Try.underlying5 ht0
  obtain ⟨v1, hc1, ht1⟩ := hf i hi 1 _ rfl
  obtain ⟨x1, rfl, hw1⟩ := open_str_cell Try.underlying9 ht1
  obtain ⟨v2, hc2, ht2⟩ := hf i hi 2 _ rfl
  obtain ⟨x2, rfl, hw2⟩ := open_int_cell Try.underlying24 ht2
  exact ⟨x0, x1, x2, hc0, hw0, hc1, hw1, hc2, hw2⟩

open Go.Proofs.Ytmhinnfcfnlfkaa.Msg Go.Proofs.Ytmhinnfcfnlfkaa.Rec

/-! ### STEP 1: THE WALK -/
set_option maxHeartbeats 4000000 in
set_option maxRecDepth 100000 in
theorem walk (a0 : ByteArray) (a1 : Bool) (a2 : Option Addr) (a2l a2c : Nat) (w : World) (w0 : a0.size ≤ maxLen) (w2 : AR2 w a2 a2l) (w2l : a2l ≤ a2c) (w2m : a2c ≤ maxLen) :
    Calls Try.prog 3 #[.string a0, .bool a1, .slice a2 a2l a2c] w fun e w' => e = .returned (.bool true) ∧ Below w.heap.size w w' := by
  obtain ⟨ia, hia, hza0, hza1, hza2⟩ := info_parts info_up
  obtain ⟨l, hl, hr⟩ := lr_of w2
  obtain ⟨V0, rfl⟩ : ∃ v, a0 = Lend.strOf v := ⟨a0.data.toList, Lend.strOf_ext rfl⟩
  unfold maxLen at w0 w2m
  have HR := Lib.hid hr
  have HVT := Lib.hid (takeN V0 60)
  have hvl : (V0.take 60).length ≤ 60 := by simp; omega
  obtain ⟨V, hV⟩ : ∃ x, x = V0.take 60 := ⟨_, rfl⟩
  rw [← hV] at HVT hvl
  obtain ⟨T0, hT0⟩ : ∃ x, x = Lend.strOf V0 := ⟨_, rfl⟩
  rw [← hT0] at HVT w0 ⊢
  clear hr hV hT0 w2
  obtain ⟨s0, hs0⟩ : ∃ x : Sv, x = (V, a1) := ⟨_, rfl⟩
  have HVL := Lib.hid (show s0.1.length ≤ 60 by rw [hs0]; exact hvl)
  have HS1 := Lib.hid (show s0.1 = V by rw [hs0])
  have HS2 := Lib.hid (show s0.2 = a1 by rw [hs0])
  clear hs0 hvl
  obtain ⟨m, hm⟩ : ∃ m, m = min a2l 20 := ⟨_, rfl⟩
  have HM := Lib.hid hm
  have HN := Lib.hid hl
  clear hm hl
  go_enter Try.func3, Try.ntmps3
  go_upto_region 1 with fail
  go_cut [0] (fun s wx => s = .string (Lend.strOf V) ∧ wx = w)
  case first =>
    have cV : (60 < T0.size ∧ min T0.size 60 = 60) ∨ (¬ 60 < T0.size ∧ min T0.size 60 = T0.size) := by omega
    rcases cV with ⟨hv, hmm⟩ | ⟨hv, hmm⟩
    all_goals
      have hve := HVT.out
      rw [hmm] at hve
      clear hmm
      go_wp2_with fail
      go_meet
      exact ⟨rfl, rfl⟩
  case rest =>
    obtain ⟨rfl, hww⟩ := hcut
    have hww := hww.symm
    subst hww
    clear HVT w0
    cases a1
    all_goals
      go_upto_region 6 with fail
      go_cut [31, 32, 33] (fun s t i wx => ∃ a' cap', s = .slice a' m cap' ∧ t = .int .i64 m ∧ i = .int .i64 ((0 : Nat) : Int) ∧ (0 < m → a' = a2) ∧ wx = w)
      case first =>
        go_wp2_with fail
        all_goals
          go_meet
          first
          | (have e : m = 20 := by have := HM.out; omega
             exact ⟨a2, a2c, by rw [e], by rw [e]; rfl, rfl, fun _ => rfl, rfl⟩)
          | (have e : m = a2l := by have := HM.out; omega
             exact ⟨a2, a2c, by rw [e], by rw [e], rfl, fun _ => rfl, rfl⟩)
      case rest =>
        obtain ⟨a', cap', rfl, rfl, rfl, haa, hww⟩ := hcut
        have hww := hww.symm
        subst hww
        have hml : m ≤ l.length ∧ m ≤ 20 := by have := HM.out; have := HN.out; omega
        obtain ⟨hml, hm20⟩ := hml
        have HAA := Lib.hid haa
        clear haa
        go_wp2_with fail
        go_loopw [7, 8, 9, 33] (fun sv bv av i wr => ∃ (k : Nat) (av' : Value), k ≤ m ∧ av' = av ∧ i = .int .i64 k ∧ sv = .string (Lend.strOf (allU s0 (ofs (l.take k))).1) ∧ bv = .bool (allU s0 (ofs (l.take k))).2 ∧ RA wr w.heap.size av' (ofs (l.take k)) ∧ Below w.heap.size w wr) (fun _ _ _ i _ => m - (intOf i).toNat)
        case atStart => exact ⟨0, _, Nat.zero_le _, rfl, rfl, by have h1 := HS1.out; have h2 := HS2.out; simp [ofs, allU, foU, stU, h1, h2, strOf0], by have h2 := HS2.out; simp [ofs, allU, foU, stU, h2], World.ownsRow_nil _ _ _ _, Below.refl _ _⟩
        case round =>
          obtain ⟨k, av, hk, rfl, rfl, rfl, rfl, hra, hb⟩ := hrel
          have HB := Lib.hid hb
          have HRA := Lib.hid hra
          clear hra hb
          by_cases hlt : k < m
          · have hke : k < l.length := by omega
            have hki : (k : Int) < (m : Int) := by omega
            obtain ⟨g, off, hg, hcc⟩ := HR.out.at_ (by omega)
            obtain rfl : a' = some ⟨g, off, none⟩ := by rw [HAA.out (by omega), hg]
            have hcc := hcc k hke
            have hwu := HR.out.wf _ (List.getElem_mem hke)
            have hsn : allU s0 (ofs (l.take (k + 1))) = onU (allU s0 (ofs (l.take k))) (ofM l[k]) := by
              rw [ofs_snoc hke]; unfold allU; rw [fo_snoc]
            have hos := ofs_snoc hke
            have hln : (allU s0 (ofs (l.take k))).1.length ≤ 60 := fo_len (by omega) (st_len HVL.out) (fun u hu => by
              have := (ofs_wf (fun u hu => HR.out.wf u (List.mem_of_mem_take hu)) u hu).2; omega)
            have hol : (ofs (l.take k)).length = k := by rw [ofs_len, List.length_take]; omega
            obtain ⟨u, hu⟩ : ∃ u, u = l[k] := ⟨_, rfl⟩
            rw [← hu] at hcc hwu hsn hos
            obtain ⟨sk, hsk⟩ : ∃ x, x = allU s0 (ofs (l.take k)) := ⟨_, rfl⟩
            rw [← hsk] at hln hsn ⊢
            have HSN := Lib.hid hsn
            have HOS := Lib.hid hos
            obtain ⟨M, hM⟩ : ∃ x, x = ofs (l.take k) := ⟨_, rfl⟩
            rw [← hM] at HOS HRA hol
            have c0 : wr.cell? ⟨g, off + k * 3, none⟩ = some (.int .u8 u.kind) := keep1 hcc.1 HB.out
            have c1 : wr.cell? ⟨g, off + k * 3 + 1, none⟩ = some (.string (Lend.strOf u.val)) := keep1 hcc.2.1 HB.out
            have c2 : wr.cell? ⟨g, off + k * 3 + 2, none⟩ = some (.int .u64 u.delta) := keep1 hcc.2.2 HB.out
            have HOF := Lib.hid (fun W => of_any u W hwu.2)
            obtain ⟨v, hv⟩ : ∃ x, x = ofM u := ⟨_, rfl⟩
            rw [← hv] at HOF HOS HSN
            have hvw : WfU v := by rw [hv]; exact ofM_wf hwu.1
            have HON := Lib.hid (fun W => on_any sk v W (by omega) hvw)
            have HRO := Lib.hid (fun W => refon_any sk v W (by omega) hvw)
            unfold agU at HOF HON HRO
            unfold ag3 at HOF
            unfold rtS at HON HRO
            rw [← HSN.out] at HON HRO
            have HEN := Lib.hid (show encU v = [.int .u8 v.kind, .string (Lend.strOf v.key), .string (Lend.strOf v.val), .int .u64 v.delta] from rfl)
            clear hcc hwu hu hsk hsn hos hM hke hg hvw hv hln hml
            go_wp2_with fail
            refine (HOF.out _).mono ?_
            rintro e w2 ⟨rfl, hb2⟩
            have HB2 := Lib.hid (below_on (below_nw HB.out (.cells #[.int .u8 u.kind, .string (Lend.strOf u.val), .int .u64 u.delta] 26)) hb2)
            have HRA2 := Lib.hid (own_bel (HRA.out.alloc (.cells #[.int .u8 u.kind, .string (Lend.strOf u.val), .int .u64 u.delta] 26)) hb2)
            clear c0 c1 c2 hb2
            generalize v.kind = v0 at *
            generalize Lend.strOf v.key = v1 at *
            generalize Lend.strOf v.val = v2 at *
            generalize v.delta = v3 at *
            obtain ⟨sn, hsn⟩ : ∃ x, x = allU s0 (ofs (l.take (k + 1))) := ⟨_, rfl⟩
            rw [← hsn] at HON HRO
            have HSE := Lib.hid hsn
            clear hsn HSN
            have hA := Has.new w2 [.int .u8 v0, .string v1, .string v2, .int .u64 v3] 29
            have hA2 := Has.new (w2.alloc (.cells #[.int .u8 v0, .string v1, .string v2, .int .u64 v3] 29)) [.int .u8 v0, .string v1, .string v2, .int .u64 v3] 31
            rw [World.size_alloc] at hA2
            obtain ⟨w3, hw3⟩ : ∃ x, x = (w2.alloc (.cells #[.int .u8 v0, .string v1, .string v2, .int .u64 v3] 29)).alloc (.cells #[.int .u8 v0, .string v1, .string v2, .int .u64 v3] 31) := ⟨_, rfl⟩
            have HB3 := Lib.hid (show Below w.heap.size w w3 by rw [hw3]; exact below_nw (below_nw HB2.out _) _)
            have HRA3 := Lib.hid (show RA w3 w.heap.size av M by rw [hw3]; exact (HRA2.out.alloc _).alloc _)
            have HA3 := Lib.hid (show Has w3 w2.heap.size 29 [.int .u8 v0, .string v1, .string v2, .int .u64 v3] by rw [hw3]; exact hA.alloc _)
            have HR3 := Lib.hid (show Has w3 (w2.heap.size + 1) 31 [.int .u8 v0, .string v1, .string v2, .int .u64 v3] by rw [hw3]; exact hA2)
            clear hA hA2
            go_wp2_with fail
            rw [← hw3]
            refine (HON.out _).mono ?_
            rintro e w4 ⟨rfl, hb4⟩
            have HB4 := Lib.hid (below_on HB3.out hb4)
            have HRA4 := Lib.hid (own_bel HRA3.out hb4)
            have HA4 := Lib.hid (HA3.out.below hb4 HA3.out.lt)
            have hr4 := HR3.out.below hb4 HR3.out.lt
            have e0 := hr4.cell 0
            have e1 := hr4.cell 1
            have e2 := hr4.cell 2
            have e3 := hr4.cell 3
            simp only [List.getElem?_cons_zero, List.getElem?_cons_succ] at e0 e1 e2 e3
            clear hb4 hw3 hr4
            go_wp2_with fail
            refine (HRO.out _).mono ?_
            rintro e w5 ⟨rfl, hb5⟩
            have HB5 := Lib.hid (below_on HB4.out hb5)
            have HRA5 := Lib.hid (own_bel HRA4.out hb5)
            have ha5 := HA4.out.below hb5 HA4.out.lt
            clear e0 e1 e2 e3
            have e0 := ha5.cell 0
            have e1 := ha5.cell 1
            have e2 := ha5.cell 2
            have e3 := ha5.cell 3
            simp only [List.getElem?_cons_zero, List.getElem?_cons_succ] at e0 e1 e2 e3
            have HNA := Lib.hid (show ∀ j x, (encU v)[j]? = some x → (w5.alloc (.cells #[.int .u8 v0, .string v1, .string v2, .int .u64 v3] 29)).cell? ((⟨w5.heap.size, 0, none⟩ : Addr).add j) = some x from by rw [HEN.out]; exact has_news (Has.new w5 [.int .u8 v0, .string v1, .string v2, .int .u64 v3] _))
            have HRA6 := Lib.hid (HRA5.out.alloc (.cells #[.int .u8 v0, .string v1, .string v2, .int .u64 v3] 29))
            have HB6 := Lib.hid (below_nw HB5.out (.cells #[.int .u8 v0, .string v1, .string v2, .int .u64 v3] 29))
            clear hb5 ha5
            go_wp2_with (at_builtin; refine wpList_append_own _ rfl _ _ 23 rfl w.heap.size 29 ia _ 4 48 Try.underlying23 hia hza0 hza1 hza2 rfl (by decide) _ M.length (flatU M) rfl HRA6.out ⟨w5.heap.size, 0, none⟩ 1 1 (encU v) rfl rfl HNA.out (enc_one _) ?c1 ?c2 ?c3 ?_)
            case c1 => unfold maxLen; omega
            case c2 => omega
            case c3 => exact HB6.out.size
            intro av2 w7 hown7 hgr _
            have HRA7 := Lib.hid (show RA w7 w.heap.size av2 (M ++ [v]) by unfold RA; rw [flatU_snoc, List.length_append, hol]; exact hown7)
            have HB7 := Lib.hid (HB6.out.grown hgr HB6.out.size (fun q hq => (HRA6.out.lt q hq).1))
            clear hown7 hgr e0 e1 e2 e3
            go_wp2_with fail
            go_roundw
            case rel => exact ⟨k + 1, _, by omega, rfl, by go_num, by rw [HSE.out], by rw [HSE.out], by rw [HOS.out]; exact HRA7.out, HB7.out⟩
            case measure => simp [intOf]; omega
          · obtain rfl : k = m := by omega
            have hki : ¬ (k : Int) < (k : Int) := by omega
            obtain ⟨M, hM⟩ : ∃ x, x = ofs (l.take k) := ⟨_, rfl⟩
            have HMW := Lib.hid (show ∀ u ∈ M, WfU u ∧ u.val.length ≤ 40 by rw [hM]; exact ofs_wf (fun u hu => HR.out.wf u (List.mem_of_mem_take hu)))
            have hml2 : M.length ≤ 20 := by rw [hM, ofs_len, List.length_take]; omega
            rw [← hM] at HRA ⊢
            have HALL := Lib.hid (fun W (h : Below wr.heap.size wr W) => all_any s0 W ((UR.of_own HRA.out).below h) (by omega) (by have := HVL.out; omega) (fun u hu => ⟨(HMW.out u hu).1, by have := (HMW.out u hu).2; omega⟩))
            rw [HS1.out, HS2.out] at HALL
            unfold rtS at HALL
            generalize allU s0 M = sn at *
            clear hM
            go_wp2_with fail
            refine (HALL.out _ (Below.refl _ _)).mono ?_
            rintro e w8 ⟨rfl, hb8⟩
            have HB8 := Lib.hid (below_on HB.out hb8)
            clear hb8
            go_wp2_with fail
            refine (wakes_any _).mono ?_
            rintro e w9 ⟨rfl, hb9⟩
            have HB9 := Lib.hid (below_on HB8.out hb9)
            clear hb9
            go_wp2_with fail
            go_ret
            exact ⟨rfl, HB9.out⟩

/-! ### THE ROW's STEP -/
set_option maxRecDepth 100000 in
theorem lifted (os : Os) (started : os.Started) (H : Type) (enc : TypeId × Value → H) :
    ReturnsInHanded {} Try.checked os 3 .any (Rows.msgOnSpec.pre6 enc Try.prog Try.f3 Rows.msgOnRow.domain false) (Rows.msgOnSpec.post enc Try.prog Try.f3 false true false false) := by
  refine returnsInHanded_of_change (C := Try.checked) own started (by kernel_rfl) Try.func3
    (ChangeSpec.witness6 (enc := enc) (C := Try.checked) false ⟨#[], #[.string ByteArray.empty, .bool false, .slice none 0 0], []⟩ 8 (by kernel_rfl) (by kernel_rfl) (by kernel_rfl) (by kernel_rfl)) ?_
  intro W base args ds gs before hval0 hW hcnd _
  have hval : ∀ (j : Nat) t v, Try.f3.params[j]? = some t → args[j]? = some v → Value.okWide Try.prog W .any base t v := hval0
  have hW' := hW
  obtain ⟨p, q, hA0, hV, rfl, hfz, hnd⟩ := hW
  have hA : DataW.TrodAll enc Try.prog W 0 (fun _ => true) true Try.f3.params.toList args.toList ds p := hA0
  rw [Try.params3] at hA hval
  obtain ⟨v0, vs0, d0, ds0, p0, q0, hargs, rfl, rfl, h0, r0⟩ := trodAll_cons hA
  obtain ⟨v1, vs1, d1, ds1, p1, q1, rfl, rfl, rfl, h1, r1⟩ := trodAll_cons r0
  obtain ⟨v2, vs2, d2, ds2, p2, q2, rfl, rfl, rfl, h2, r2⟩ := trodAll_cons r1
  obtain ⟨rfl, rfl, rfl⟩ := trodAll_nil r2
  obtain rfl : args = #[v0, v1, v2] := by cases args; simp_all
  obtain ⟨rfl, rfl⟩ := trodVars_none hV
  obtain ⟨a0, rfl, rfl, rfl, w0⟩ := open_string Try.underlying9 (hval 0 9 v0 rfl rfl) h0
  obtain ⟨a1, rfl, rfl, rfl⟩ := open_bool Try.underlying4 (hval 1 4 v1 rfl rfl) h1
  have k2 := h2
  have lt2 : ∀ x ∈ p2, x.block < W.heap.size := by obtain ⟨m, hm⟩ := k2; exact DataW.trod_lt m _ _ _ hm
  obtain ⟨a2', l2', c2', rfl⟩ := okWide_slice Try.underlying22 (hval 2 22 v2 rfl rfl)
  obtain ⟨a2, a2l, a2c, he2, w2, w2l, w2m⟩ := open_AR2 (c := .slice a2' l2' c2') (by obtain ⟨m, hm⟩ := h2; exact ⟨m, _, hm⟩)
  simp only [Value.slice.injEq] at he2
  obtain ⟨rfl, rfl, rfl⟩ := he2
  clear hA0 hval0
  refine (walk a0 a1 a2' l2' c2' W w0 w2 w2l w2m).mono fun e W' ⟨he, bel⟩ => ?_
  subst he
  exact ⟨_, rfl, _, _, _, [], _, [], hW', trodAll_mk1 (shut_bool Try.underlying4 _), (trodAll_cons_mk (shut_string Try.underlying9 w0) (trodAll_cons_mk (shut_bool Try.underlying4 _) (trodAll_cons_mk (Below.trod laidOut (by kernel_rfl) (of_decide_eq_true (by kernel_rfl)) k2 bel lt2) trodAll_mk0))), rfl, bel.frame _, fun h => by cases h⟩

theorem over : Rows.msgOnRow.holds Try.pinned (OpenSpec.ofChange Rows.msgOnSpec) :=
  OpenClaim.holds_of_wide 3 Try.f3 rfl rfl rfl rfl rfl rfl rfl ⟨rfl, rfl, rfl, rfl, rfl⟩ rfl rfl rfl rfl rfl (by kernel_rfl) Try.func3 (by kernel_rfl)
    (of_decide_eq_true (by kernel_rfl)) (by unfold Func.isWrapper; first | (rw [if_pos (by decide +kernel)]; kernel_rfl) | (rw [if_neg (by decide +kernel)]; exact ⟨rfl, rfl⟩))
    (fun os started H enc _ => lifted os started H enc)

/-- THE STATEMENT -/
theorem proved : Rows.MsgOnSaid := over
#print axioms proved
end Go.Proofs.Ytmhinnfcfnlfkaa.msgOn
