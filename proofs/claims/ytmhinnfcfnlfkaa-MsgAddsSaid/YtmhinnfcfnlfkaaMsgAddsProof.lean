/-
  The law MsgAdds holds: Adds on nothing make the number that they are together; on a number, that and they; what is no number stays. Conditions: none but the row's own.
-/
import Derived.Test.YtmhinnfcfnlfkaaRows
import Derived.Test.YtmhinnfcfnlfkaaMsgN
import Derived.WalkKit
import Derived.ProofKit
import Derived.OpenShut
import Derived.ShutString
import Derived.ChangeOld
import Derived.Below
namespace Go.Proofs.Ytmhinnfcfnlfkaa.msgAdds
open Go.ChangeShapes Go.WideShapes Go.ChangeAt Go.RowKit
open Go.ChangeMaps (open_string shut_string)
set_option linter.unusedVariables false

theorem own : ownKnob Try.prog.godebug = none := by kernel_rfl
theorem laidOut : laidOutB Try.prog = true := by kernel_rfl

/-- WHAT THE WALK IS TOLD OF A SLICE OF INTEGERS THAT CAME IN: it is nil; or it leads to a row of 'cap' cells, the numbers 'zs' (the first 'len' are its elements, the rest its spare room), each fitting its kind. -/
def IsRow (k : IntKind) (w : World) (a : Option Addr) (len cap : Nat) (zs : List Int) : Prop :=
  (a = none ∧ len = 0 ∧ cap = 0 ∧ zs = []) ∨
  ∃ x, a = some x ∧ len ≤ cap ∧ cap ≤ maxLen ∧ zs.length = cap ∧ (∀ i, i < zs.length → w.cell? (x.add i) = some (.int k (zs.getD i 0))) ∧ ∀ n ∈ zs, (Lit.int k n).wf = true

theorem isRow_row {k : IntKind} {w : World} {a : Option Addr} {len cap : Nat} {zs : List Int} (h : IsRow k w a len cap zs) :
    Row k w a len (zs.take len) ∧ len ≤ cap ∧ cap ≤ maxLen ∧ (∀ n ∈ zs.take len, (Lit.int k n).wf = true) := by
  rcases h with ⟨rfl, rfl, rfl, rfl⟩ | ⟨x, rfl, hl, hm, hz, hc, hwf⟩
  · exact ⟨⟨rfl, fun h => absurd h (by decide)⟩, Nat.le_refl _, by unfold maxLen; omega, by simp⟩
  · refine ⟨⟨by simp; omega, fun h => ?_⟩, hl, hm, fun n hn => hwf n (List.mem_of_mem_take hn)⟩
    obtain ⟨b, off, spot⟩ := x
    have h0 := hc 0 (by omega)
    have hs : spot = none := by simpa [Addr.add] using World.cell?_spot h0
    subst hs
    refine ⟨b, off, rfl, fun i hi => ?_⟩
    have := hc i (by omega)
    rw [Addr.add_lit] at this
    rw [this]
    simp [List.getD, hi]

theorem walk_wf {zs : List Int} (h : ∀ n ∈ zs, (Lit.int .u64 n).wf = true) : ∀ n ∈ zs, 0 ≤ n ∧ n < 18446744073709551616 := by
  intro n hn
  have := bounds_u64 (h n hn)
  omega
open Go.Proofs.Ytmhinnfcfnlfkaa.Msg Go.Proofs.Ytmhinnfcfnlfkaa.Rec

/-! ### STEP 1: THE WALK: the Go text returns true, AND WRITES NOTHING THAT WAS THERE: 'Below w.heap.size w w'' (Derived/Below.lean: '.refl', '.alloc', '.drew', '.setCell' at a new block, '.trans'). Open each 'IsRow' by 'rcases' AHEAD of 'go_enter'; part every test ahead of the walk. -/
set_option maxHeartbeats 4000000 in
set_option maxRecDepth 100000 in
theorem walk (a0 : Option Addr) (len0 cap0 : Nat) (z0 : List Int) (a1 : Int) (a2 : ByteArray) (w : World) (w0 : IsRow .u64 w a0 len0 cap0 z0) (w1 : (Lit.int .u64 a1).wf = true) (w2 : a2.size ≤ maxLen) :
    Calls Try.prog 7 #[.slice a0 len0 cap0, .int .u64 a1, .string a2] w fun e w' => e = .returned (.bool true) ∧ Below w.heap.size w w' := by
  obtain ⟨ia, hia, hza0, hza1, hza2⟩ := info_parts info_up
  obtain ⟨hr, hlc, hcm, hwf⟩ := isRow_row w0
  have hnb := walk_wf hwf
  have hn1 := bounds_u64 w1
  have hn0 : 0 ≤ a1 := by omega
  have hn1 : a1 < 18446744073709551616 := by omega
  unfold maxLen at w2 hcm
  obtain ⟨zs, hzs⟩ : ∃ x, x = z0.take len0 := ⟨_, rfl⟩
  rw [← hzs] at hr hnb
  have hzl : zs.length = len0 := hr.len_eq
  obtain ⟨m, hm⟩ : ∃ m, m = min len0 20 := ⟨_, rfl⟩
  have HM := Lib.hid hm
  have HR := Lib.hid hr
  have HI := Lib.hid (show Inn zs from hnb)
  obtain ⟨O0, rfl⟩ : ∃ v, a2 = Lend.strOf v := ⟨a2.data.toList, Lend.strOf_ext rfl⟩
  have HOT := Lib.hid (takeN O0 7)
  have hol : (O0.take 7).length ≤ 7 := by simp; omega
  obtain ⟨o, ho⟩ : ∃ x, x = O0.take 7 := ⟨_, rfl⟩
  rw [← ho] at HOT hol
  obtain ⟨T0, hT0⟩ : ∃ x, x = Lend.strOf O0 := ⟨_, rfl⟩
  rw [← hT0] at HOT w2 ⊢
  have hv : ∀ W, Calls Try.prog 18 #[.int .u64 a1] W fun e w' => e = .returned (.string (Lend.strOf (Lend.encN a1 8))) ∧ Below W.heap.size W w' := fun W => value_any a1 W hn0 hn1
  have HVA := Lib.hid hv
  clear hv hr hnb hwf w0 w1 hzs hm ho hT0
  go_enter Try.func7, Try.ntmps7
  go_upto_region 3 with fail
  go_cut [24, 25, 26] (fun s t i wx => ∃ a' cap', s = .slice a' m cap' ∧ t = .int .i64 m ∧ i = .int .i64 ((0 : Nat) : Int) ∧ (0 < m → a' = a0) ∧ wx = w)
  case first =>
    go_wp2_with fail
    all_goals
      go_meet
      first
      | (have e : m = 20 := by have := HM.out; omega
         exact ⟨a0, cap0, by rw [e], by rw [e]; rfl, rfl, fun _ => rfl, rfl⟩)
      | (have e : m = len0 := by have := HM.out; omega
         exact ⟨a0, cap0, by rw [e], by rw [e], rfl, fun _ => rfl, rfl⟩)
  case rest =>
    obtain ⟨a', cap', rfl, rfl, rfl, haa, hww⟩ := hcut
    have hww := hww.symm
    subst hww
    have hml : m ≤ zs.length ∧ m ≤ 20 := by have := HM.out; omega
    obtain ⟨hml, hm20⟩ := hml
    have HAA := Lib.hid haa
    clear haa
    go_wp2_with fail
    go_loopw [7, 8, 26] (fun av sv i wr => ∃ (k : Nat) (av' : Value), k ≤ m ∧ av' = av ∧ i = .int .i64 k ∧ sv = .int .u64 (smN (zs.take k)) ∧ RA wr w.heap.size av' (adL (zs.take k)) ∧ Below w.heap.size w wr) (fun _ _ i _ => m - (intOf i).toNat)
    case atStart => exact ⟨0, _, Nat.zero_le _, rfl, rfl, rfl, World.ownsRow_nil _ _ _ _, Below.refl _ _⟩
    case round =>
      obtain ⟨k, av, hk, rfl, rfl, rfl, hra, hb⟩ := hrel
      have HB := Lib.hid hb
      have HRA := Lib.hid hra
      clear hra hb
      by_cases hlt : k < m
      · have hke : k < zs.length := by omega
        have hki : (k : Int) < (m : Int) := by omega
        obtain ⟨g, off, hg, hcc⟩ := HR.out.at_ (by omega)
        obtain rfl : a' = some ⟨g, off, none⟩ := by rw [HAA.out (by omega), hg]
        have c0 := keep1 (hcc k (by omega)) HB.out
        have hsn := Lend.take_snoc' zs k hke
        obtain ⟨d, hd⟩ : ∃ d, d = zs.getD k 0 := ⟨_, rfl⟩
        rw [← hd] at c0 hsn
        have HSN := Lib.hid (show smN (zs.take (k + 1)) = addN (smN (zs.take k)) d by rw [hsn, smN_snoc])
        have HOS := Lib.hid (show adL (zs.take (k + 1)) = adL (zs.take k) ++ [adU d] by rw [hsn, adL_snoc])
        have hol2 : (adL (zs.take k)).length = k := by rw [adL_len, List.length_take]; omega
        obtain ⟨M, hM⟩ : ∃ x, x = adL (zs.take k) := ⟨_, rfl⟩
        rw [← hM] at HOS HRA hol2
        have HWR := Lib.hid (u64_add (smN (zs.take k)) d)
        generalize smN (zs.take k) = S at *
        have HNA := Lib.hid (show ∀ j x, (encU (adU d))[j]? = some x → (wr.alloc (.cells #[.int .u8 3, .string ⟨#[107]⟩, .string ⟨#[]⟩, .int .u64 d] 29)).cell? ((⟨wr.heap.size, 0, none⟩ : Addr).add j) = some x from has_news (Has.new wr [.int .u8 3, .string ⟨#[107]⟩, .string ⟨#[]⟩, .int .u64 d] _))
        have HRA6 := Lib.hid (HRA.out.alloc (.cells #[.int .u8 3, .string ⟨#[107]⟩, .string ⟨#[]⟩, .int .u64 d] 29))
        have HB6 := Lib.hid (below_nw HB.out (.cells #[.int .u8 3, .string ⟨#[107]⟩, .string ⟨#[]⟩, .int .u64 d] 29))
        clear hcc hsn hd hM hke hg hml
        go_wp2_with (at_builtin; refine wpList_append_own _ rfl _ _ 23 rfl w.heap.size 29 ia _ 4 48 Try.underlying23 hia hza0 hza1 hza2 rfl (by decide) _ M.length (flatU M) rfl HRA6.out ⟨wr.heap.size, 0, none⟩ 1 1 (encU (adU d)) rfl rfl HNA.out (enc_one _) ?c1 ?c2 ?c3 ?_)
        case c1 => unfold maxLen; omega
        case c2 => omega
        case c3 => exact HB6.out.size
        intro av2 w7 hown7 hgr _
        have HRA7 := Lib.hid (show RA w7 w.heap.size av2 (M ++ [adU d]) by unfold RA; rw [flatU_snoc, List.length_append, hol2]; exact hown7)
        have HB7 := Lib.hid (HB6.out.grown hgr HB6.out.size (fun q hq => (HRA6.out.lt q hq).1))
        clear hown7 hgr c0
        go_wp2_with fail
        go_roundw
        case rel => exact ⟨k + 1, _, by omega, rfl, by go_num, by rw [HSN.out, ← HWR.out], by rw [HOS.out]; exact HRA7.out, HB7.out⟩
        case measure => simp [intOf]; omega
      · obtain rfl : k = m := by omega
        have hki : ¬ (k : Int) < (k : Int) := by omega
        have hii : Inn (zs.take k) := fun d hd => HI.out d (List.mem_of_mem_take hd)
        have hlk : (zs.take k).length = k := by rw [List.length_take]; omega
        obtain ⟨xs, hxs⟩ : ∃ x, x = zs.take k := ⟨_, rfl⟩
        rw [← hxs] at hii hlk HRA ⊢
        have hbd := smN_bd xs
        have hal : (adL xs).length = k := by rw [adL_len, hlk]
        by_cases h0 : k = 0
        · obtain ⟨ao, cap, rfl, hac⟩ := own_shape HRA.out
          subst h0
          rw [hal]
          go_wp2_with fail
          refine (wakes_any _).mono ?_
          rintro e w9 ⟨rfl, hb9⟩
          have HB9 := Lib.hid (below_on HB.out hb9)
          clear hb9
          go_wp2_with fail
          go_ret
          exact ⟨rfl, HB9.out⟩
        · obtain ⟨g, cap, rfl, hac, hgb⟩ := own_some HRA.out (by omega)
          have hac : k ≤ cap := by omega
          have hxn : xs ≠ [] := fun e => by rw [e] at hlk; exact h0 hlk.symm
          have HA1 := Lib.hid (all_none hii hxn)
          have HA2 := Lib.hid (all_num hn0 hn1 xs)
          have HA3 := Lib.hid (all_oth (o := o) (by omega) xs)
          have HTM := Lib.hid (adL_tm hii)
          obtain ⟨d0, ds, hds⟩ : ∃ d ds, xs = d :: ds := by
            cases xs with
            | nil => exact absurd rfl hxn
            | cons d ds => exact ⟨d, ds, rfl⟩
          have hd0 := hii d0 (by rw [hds]; simp)
          have HJL := Lib.hid (show jlU (adU d0) (adL ds) = adU (smN xs) by rw [hds]; exact jl_ad hd0.1 hd0.2 ds)
          have hMe : adL xs = adU d0 :: adL ds := by rw [hds]; rfl
          have HV1 := Lib.hid (fun W => value_any (smN xs) W hbd.1 hbd.2)
          have HV2 := Lib.hid (fun W => value_any (addN a1 (smN xs)) W (addN_bd _ _).1 (addN_bd _ _).2)
          have HWR := Lib.hid (u64_add a1 (smN xs))
          generalize smN xs = S at *
          obtain ⟨M, hM⟩ : ∃ x, x = adL xs := ⟨_, rfl⟩
          obtain ⟨Mt, hMt⟩ : ∃ x, x = adL ds := ⟨_, rfl⟩
          rw [← hM, ← hMt] at hMe
          rw [← hMt] at HJL
          rw [← hM] at HRA hal HA1 HA2 HA3 HTM ⊢
          rw [hal]
          have HME := Lib.hid hMe
          have HAL := Lib.hid hal
          have htl : Mt.length = k - 1 := by have := congrArg List.length hMe; rw [hal, List.length_cons] at this; omega
          have HTL := Lib.hid htl
          obtain ⟨u0, hu0⟩ : ∃ x, x = adU d0 := ⟨_, rfl⟩
          rw [← hu0] at HME HJL
          have HT0 := Lib.hid (show Tm u0 from HTM.out _ (by rw [HME.out]; simp))
          have HTT := Lib.hid (show ∀ u ∈ Mt, Tm u from fun u hu => HTM.out u (by rw [HME.out]; simp [hu]))
          have hra0 := ra_cells HRA.out 0 (by omega)
          have hm0 : M[0]'(by omega) = u0 := by simp [HME.out]
          rw [hm0] at hra0
          obtain ⟨c0, c1, c2, c3⟩ := hra0
          rw [Nat.zero_mul] at c0 c1 c2 c3
          obtain ⟨w1, hw1⟩ : ∃ x, x = wr.alloc (.cells #[.int .u8 u0.kind, .string (Lend.strOf u0.key), .string (Lend.strOf u0.val), .int .u64 u0.delta] 29) := ⟨_, rfl⟩
          have HH := Lib.hid (show Hold w (.slice (some ⟨g, 0, none⟩) M.length cap) M wr.heap.size u0 w1 by rw [hw1]; exact Hold.new HRA.out HB.out u0)
          rw [hal] at HH
          have hk1 : 1 ≤ k := by omega
          clear hxn hds hd0 hMe hM hMt hu0 hm0 htl hal hbd hlk hii
          go_upto_region 12 with fail
          rw [← hw1]
          clear hw1 c0 c1 c2 c3
          obtain ⟨G, hG⟩ : ∃ x, x = wr.heap.size := ⟨_, rfl⟩
          rw [← hG] at HH ⊢
          clear hG
          go_cut [7, 39, 43, 46, 47, 48, 49] (fun x1 x2 x3 x4 s t i wx => x1 = .slice (some ⟨g, 0, none⟩) k cap ∧ x2 = .slice (some ⟨g, 0, none⟩) k cap ∧ x3 = .slice (some ⟨g, 0, none⟩) k cap ∧ x4 = .slice (some ⟨g, 0, none⟩) k cap ∧ ∃ a'' c'', s = .slice a'' (k - 1) c'' ∧ t = .int .i64 ((k - 1 : Nat) : Int) ∧ i = .int .i64 ((0 : Nat) : Int) ∧ (1 < k → a'' = some ⟨g, 4, none⟩) ∧ wx = w1)
          case first =>
            go_wp2_with fail
            · have hc1 : cap = 1 := by assumption
              go_meet
              exact ⟨by rw [hc1], by rw [hc1], by rw [hc1], by rw [hc1], _, _, rfl, rfl, rfl, fun h => by omega, rfl⟩
            · go_meet
              exact ⟨rfl, rfl, rfl, rfl, _, _, rfl, rfl, rfl, fun _ => rfl, rfl⟩
          case rest =>
            obtain ⟨rfl, rfl, rfl, rfl, a'', c'', rfl, rfl, rfl, haa, hww⟩ := hcut
            have hww := hww.symm
            subst hww
            have HAB := Lib.hid haa
            clear haa
            go_wp2_with fail
            go_loopw [49] (fun i wx => ∃ j : Nat, j ≤ k - 1 ∧ i = .int .i64 j ∧ Hold w (.slice (some ⟨g, 0, none⟩) k cap) M G (jlU u0 (Mt.take j)) wx) (fun i _ => k - 1 - (intOf i).toNat)
            case atStart => exact ⟨0, Nat.zero_le _, rfl, HH.out⟩
            case round =>
              obtain ⟨j, hj, rfl, hh⟩ := hrel
              have HO := Lib.hid hh
              have HTJ := Lib.hid (jl_tm HT0.out (fun u hu => HTT.out u (List.mem_of_mem_take hu) : ∀ x ∈ Mt.take j, Tm x))
              clear hh
              by_cases hlt2 : j < k - 1
              · have hje : j < Mt.length := by rw [HTL.out]; exact hlt2
                have hki2 : (j : Int) < ((k - 1 : Nat) : Int) := by omega
                obtain rfl : a'' = some ⟨g, 4, none⟩ := HAB.out (by omega)
                have hcs := ra_cells HO.out.ra (j + 1) (by rw [HAL.out]; omega)
                have hme : M[j + 1]'(by rw [HAL.out]; omega) = Mt[j] := by simp [HME.out]
                rw [hme] at hcs
                have hjs : jlU u0 (Mt.take (j + 1)) = joU (jlU u0 (Mt.take j)) Mt[j] := by rw [List.take_succ_eq_append_getElem hje, jlU_snoc]
                have htm := HTT.out _ (List.getElem_mem hje)
                obtain ⟨v, hv⟩ : ∃ x, x = Mt[j] := ⟨_, rfl⟩
                obtain ⟨y, hy⟩ : ∃ x, x = jlU u0 (Mt.take j) := ⟨_, rfl⟩
                rw [← hv, show (j + 1) * 4 = 4 + j * 4 by omega] at hcs
                rw [← hv, ← hy] at hjs
                rw [← hv] at htm
                rw [← hy] at HO HTJ
                have HJS := Lib.hid hjs
                obtain ⟨c0, c1, c2, c3⟩ := hcs
                have hz := HO.out.box.alloc (.cells #[.int .u8 v.kind, .string (Lend.strOf v.key), .string (Lend.strOf v.val), .int .u64 v.delta] 29)
                have e0 := hz.cell 0
                have e1 := hz.cell 1
                have e2 := hz.cell 2
                have e3 := hz.cell 3
                simp only [encU, List.getElem?_cons_zero, List.getElem?_cons_succ] at e0 e1 e2 e3
                have HJO := Lib.hid (fun W => join_any y v W HTJ.out htm)
                unfold agU at HJO
                have HO1 := Lib.hid (HO.out.on (below_new _ (.cells #[.int .u8 v.kind, .string (Lend.strOf v.key), .string (Lend.strOf v.val), .int .u64 v.delta] 29)))
                clear hme hjs htm hv hy hz
                go_wp2_with fail
                refine (HJO.out _).mono ?_
                rintro e w5 ⟨rfl, hb5⟩
                have HO5 := Lib.hid (HO1.out.on hb5)
                have HO6 := Lib.hid (HO5.out.set (joU y v))
                clear e0 e1 e2 e3 c0 c1 c2 c3 hb5
                have e0 := HO5.out.box.cell 0
                have e1 := HO5.out.box.cell 1
                have e2 := HO5.out.box.cell 2
                have e3 := HO5.out.box.cell 3
                have f0 := HO5.out.box.frozen 0
                have f1 := HO5.out.box.frozen 1
                have f2 := HO5.out.box.frozen 2
                have f3 := HO5.out.box.frozen 3
                simp only [encU, List.getElem?_cons_zero, List.getElem?_cons_succ] at e0 e1 e2 e3
                go_wp2_with fail
                go_roundw
                case rel => exact ⟨j + 1, by omega, by go_num, by rw [HJS.out]; exact HO6.out⟩
                case measure => simp [intOf]; omega
              · obtain rfl : j = k - 1 := by omega
                have hki2 : ¬ ((k - 1 : Nat) : Int) < ((k - 1 : Nat) : Int) := by omega
                have etk : Mt.take (k - 1) = Mt := List.take_of_length_le (by rw [HTL.out]; omega)
                rw [etk, HJL.out] at HO
                have HMW := Lib.hid (show ∀ u ∈ M, WfU u ∧ u.val.length ≤ 1000000 from fun u hu => ⟨(HTM.out u hu).wf, by have := (HTM.out u hu).len; omega⟩)
                have HUR := Lib.hid (show UR wr (.slice (some ⟨g, 0, none⟩) k cap) M by have := UR.of_own HO.out.ra; exact this)
                have HL1 := Lib.hid (show ∀ W, Below wr.heap.size wr W → Calls Try.prog 11 #[.string ⟨#[]⟩, .bool false, .slice (some ⟨g, 0, none⟩) k cap] W fun e w' => e = .returned (.tuple #[.string (Lend.strOf (Lend.encN S 8)), .bool true]) ∧ Below W.heap.size W w' from fun W h => by
                  have h1 := all_any ([], false) W (HUR.out.below h) (by rw [HAL.out]; omega) (by show ([] : List UInt8).length ≤ _; simp) HMW.out
                  rw [HA1.out] at h1
                  exact h1)
                have HL2 := Lib.hid (show ∀ W, Below wr.heap.size wr W → Calls Try.prog 11 #[.string (Lend.strOf (Lend.encN a1 8)), .bool true, .slice (some ⟨g, 0, none⟩) k cap] W fun e w' => e = .returned (.tuple #[.string (Lend.strOf (Lend.encN (addN a1 S) 8)), .bool true]) ∧ Below W.heap.size W w' from fun W h => by
                  have h1 := all_any (Lend.encN a1 8, true) W (HUR.out.below h) (by rw [HAL.out]; omega) (by rw [Lend.encN_length]; omega) HMW.out
                  rw [HA2.out] at h1
                  exact h1)
                have HL3 := Lib.hid (show ∀ W, Below wr.heap.size wr W → Calls Try.prog 11 #[.string (Lend.strOf o), .bool true, .slice (some ⟨g, 0, none⟩) k cap] W fun e w' => e = .returned (.tuple #[.string (Lend.strOf o), .bool true]) ∧ Below W.heap.size W w' from fun W h => by
                  have h1 := all_any (o, true) W (HUR.out.below h) (by rw [HAL.out]; omega) (by show o.length ≤ _; omega) HMW.out
                  rw [HA3.out] at h1
                  exact h1)
                have hsz : (Lend.strOf o).size ≤ 7 := by rw [ssize]; exact hol
                generalize Lend.strOf (Lend.encN S 8) = E1 at *
                generalize Lend.strOf (Lend.encN a1 8) = E2 at *
                generalize Lend.strOf (Lend.encN (addN a1 S) 8) = E3 at *
                generalize Lend.strOf o = E4 at *
                clear HA1 HA2 HA3 etk HMW HUR HTM HTT HT0 HTJ HTL HAL HJL
                go_wp2_with fail
                refine (HL1.out _ (Below.refl _ _)).mono ?_
                rintro e w3 ⟨rfl, hb3⟩
                have HB3 := Lib.hid hb3
                clear hb3
                go_wp2_with fail
                refine (HVA.out _).mono ?_
                rintro e w4 ⟨rfl, hb4⟩
                have HB4 := Lib.hid (below_on HB3.out hb4)
                clear hb4
                go_wp2_with fail
                refine (HL2.out _ HB4.out).mono ?_
                rintro e w5 ⟨rfl, hb5⟩
                have HB5 := Lib.hid (below_on HB4.out hb5)
                clear hb5
                go_upto_region 19 with fail
                go_cut [2] (fun s wx => s = .string E4 ∧ wx = w5)
                case first =>
                  have cV : (7 < T0.size ∧ min T0.size 7 = 7) ∨ (¬ 7 < T0.size ∧ min T0.size 7 = T0.size) := by omega
                  rcases cV with ⟨hv, hmm⟩ | ⟨hv, hmm⟩
                  all_goals
                    have hve := HOT.out
                    rw [hmm] at hve
                    clear hmm
                    go_wp2_with fail
                    go_meet
                    exact ⟨rfl, rfl⟩
                case rest =>
                  obtain ⟨rfl, hww⟩ := hcut
                  have hww := hww.symm
                  subst hww
                  go_wp2_with fail
                  refine (HL3.out _ HB5.out).mono ?_
                  rintro e w6 ⟨rfl, hb6⟩
                  have HB6 := Lib.hid (below_on HB5.out hb6)
                  clear hb6
                  go_wp2_with fail
                  refine (wakes_any _).mono ?_
                  rintro e w7 ⟨rfl, hb7⟩
                  have HB7 := Lib.hid (below_on HB6.out hb7)
                  clear hb7
                  go_wp2_with fail
                  refine (HV1.out _).mono ?_
                  rintro e w8 ⟨rfl, hb8⟩
                  have HB8 := Lib.hid (below_on HB7.out hb8)
                  clear hb8
                  go_wp2_with fail
                  rw [HWR.out]
                  refine (HV2.out _).mono ?_
                  rintro e w9 ⟨rfl, hb9⟩
                  have HB9 := Lib.hid (below_on HB8.out hb9)
                  clear hb9
                  have HO9 := Lib.hid (HO.out.on HB9.out)
                  have e0 : w9.cell? ⟨G, 0, none⟩ = some (.int .u8 3) := HO9.out.box.cell 0
                  have e3 : w9.cell? ⟨G, 3, none⟩ = some (.int .u64 S) := HO9.out.box.cell 3
                  go_wp2_with fail
                  go_ret
                  exact ⟨rfl, HO9.out.bel⟩

/-! ### THE ROW's STEP: WRITTEN OUT: LEAVE IT -/
set_option maxRecDepth 100000 in
theorem lifted (os : Os) (started : os.Started) (H : Type) (enc : TypeId × Value → H) :
    ReturnsInHanded {} Try.checked os 7 .any (Rows.msgAddsSpec.pre6 enc Try.prog Try.f7 Rows.msgAddsRow.domain false) (Rows.msgAddsSpec.post enc Try.prog Try.f7 false true false false) := by
  refine returnsInHanded_of_change (C := Try.checked) own started (by kernel_rfl) Try.func7
    (ChangeSpec.witness6 (enc := enc) (C := Try.checked) false ⟨#[], #[.slice none 0 0, .int .u64 0, .string ByteArray.empty], []⟩ 8 (by kernel_rfl) (by kernel_rfl) (by kernel_rfl) (by kernel_rfl)) ?_
  intro W base args ds gs before hval0 hW hcnd _
  have hval : ∀ (j : Nat) t v, Try.f7.params[j]? = some t → args[j]? = some v → Value.okWide Try.prog W .any base t v := hval0
  have hW' := hW
  obtain ⟨p, q, hA0, hV, rfl, hfz, hnd⟩ := hW
  have hA : DataW.TrodAll enc Try.prog W 0 (fun _ => true) true Try.f7.params.toList args.toList ds p := hA0
  rw [Try.params7] at hA hval
  obtain ⟨v0, vs0, d0, ds0, p0, q0, hargs, rfl, rfl, h0, r0⟩ := trodAll_cons hA
  obtain ⟨v1, vs1, d1, ds1, p1, q1, rfl, rfl, rfl, h1, r1⟩ := trodAll_cons r0
  obtain ⟨v2, vs2, d2, ds2, p2, q2, rfl, rfl, rfl, h2, r2⟩ := trodAll_cons r1
  obtain ⟨rfl, rfl, rfl⟩ := trodAll_nil r2
  obtain rfl : args = #[v0, v1, v2] := by cases args; simp_all
  obtain ⟨rfl, rfl⟩ := trodVars_none hV
  obtain ⟨a0, len0, cap0, rfl⟩ := okWide_slice Try.underlying53 (hval 0 53 v0 rfl rfl)
  have k0 := h0
  have lt0 : ∀ x ∈ p0, x.block < W.heap.size := by obtain ⟨m, hm⟩ := k0; exact DataW.trod_lt m _ _ _ hm
  obtain ⟨z0, w0⟩ : ∃ zs, IsRow .u64 W a0 len0 cap0 zs := by
    obtain ⟨fuel, hf⟩ := h0
    rcases open_ints Try.underlying53 Try.underlying24 (by kernel_rfl) hf with ⟨hcs, _⟩ | ⟨x, l, c, zs, hcs, _, hl, hm, hz, _, hcell, hwz⟩
    · simp [Value.cells] at hcs
      obtain ⟨rfl, rfl, rfl⟩ := hcs
      exact ⟨[], .inl ⟨rfl, rfl, rfl, rfl⟩⟩
    · simp [Value.cells] at hcs
      obtain ⟨rfl, rfl, rfl⟩ := hcs
      exact ⟨zs, .inr ⟨_, rfl, hl, hm, by simpa using hz, hcell, hwz⟩⟩
  obtain ⟨a1, rfl, rfl, rfl, w1⟩ := open_int Try.underlying24 (hval 1 24 v1 rfl rfl) h1
  obtain ⟨a2, rfl, rfl, rfl, w2⟩ := open_string Try.underlying9 (hval 2 9 v2 rfl rfl) h2
  clear hA0 hval0
  refine (walk a0 len0 cap0 z0 a1 a2 W w0 w1 w2).mono fun e W' ⟨he, bel⟩ => ?_
  subst he
  exact ⟨_, rfl, _, _, _, [], _, [], hW', trodAll_mk1 (shut_bool Try.underlying4 _), (trodAll_cons_mk (Below.trod laidOut (by kernel_rfl) (of_decide_eq_true (by kernel_rfl)) k0 bel lt0) (trodAll_cons_mk (shut_int Try.underlying24 w1) (trodAll_cons_mk (shut_string Try.underlying9 w2) trodAll_mk0))), rfl, bel.frame _, fun h => by cases h⟩

theorem over : Rows.msgAddsRow.holds Try.pinned (OpenSpec.ofChange Rows.msgAddsSpec) :=
  OpenClaim.holds_of_wide 7 Try.f7 rfl rfl rfl rfl rfl rfl rfl ⟨rfl, rfl, rfl, rfl, rfl⟩ rfl rfl rfl rfl rfl (by kernel_rfl) Try.func7 (by kernel_rfl)
    (of_decide_eq_true (by kernel_rfl)) (by unfold Func.isWrapper; first | (rw [if_pos (by decide +kernel)]; kernel_rfl) | (rw [if_neg (by decide +kernel)]; exact ⟨rfl, rfl⟩))
    (fun os started H enc _ => lifted os started H enc)

/-- ████ THE STATEMENT ████ -/
theorem proved : Rows.MsgAddsSaid := over
#print axioms proved
end Go.Proofs.Ytmhinnfcfnlfkaa.msgAdds
