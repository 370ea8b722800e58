/- Layer 17 (node): the document's ChildOf, Right, Text. -/
import Derived.Test.YtfclecbhfamomaaNoMath
import Derived.Test.YtfclecbhfamomaaBufE
import Derived.Test.YtfclecbhfamomaaRefRecT
import Derived.Test.YtfclecbhfamomaaRefLendB
import Derived.Test.YtfclecbhfamomaaRowsM
import Derived.Test.YtfclecbhfamomaaLendJ
namespace Go.Proofs.Ytfclecbhfamomaa.Node
open Go Go.RowKit Go.Proofs.Ytfclecbhfamomaa Go.Proofs.Ytfclecbhfamomaa.Lend Go.Proofs.Ytfclecbhfamomaa.Rec Go.Proofs.Ytfclecbhfamomaa.Msg Go.Proofs.Ytfclecbhfamomaa.Buf
set_option linter.unusedVariables false

theorem cr_low {w : World} {g off m c : Nat} {l : List Ch} (h : CR w (.slice (some ⟨g, off, none⟩) m c) l) (i : Nat) (hi : i < l.length) : w.cell? ⟨g, off + i * 4, none⟩ = some (.string (Lend.strOf l[i].low)) := by
  obtain ⟨g', off', he, c0, _⟩ := cr_cells h i hi
  simp only [Option.some.injEq, Addr.mk.injEq, and_true] at he
  obtain ⟨rfl, rfl⟩ := he
  exact c0
theorem leq_cases (a b : List UInt8) : (kLt b a = true ∧ Op.bytesLess (Lend.strOf a).toList (Lend.strOf b).toList = false ∧ ((Lend.strOf a).toList == (Lend.strOf b).toList) = false) ∨
    (kLt b a = false ∧ Op.bytesLess (Lend.strOf a).toList (Lend.strOf b).toList = true) ∨ (kLt b a = false ∧ Op.bytesLess (Lend.strOf a).toList (Lend.strOf b).toList = false ∧ ((Lend.strOf a).toList == (Lend.strOf b).toList) = true) := by
  rw [bl_str, eq_str]
  cases h : kLt b a with
  | true =>
    refine .inl ⟨rfl, kLt_asym h, ?_⟩
    rw [beq_eq_false_iff_ne]
    rintro rfl
    rw [kLt_irr] at h; cases h
  | false =>
    cases h2 : kLt a b with
    | true => exact .inr (.inl ⟨rfl, rfl⟩)
    | false => exact .inr (.inr ⟨rfl, rfl, by rw [beq_iff_eq]; exact kLt_tri h2 h⟩)
set_option maxRecDepth 100000 in
set_option maxHeartbeats 4000000 in
theorem chof_any {w : World} {kv bv : Value} {l : List Ch} (k : List UInt8) (h : CR w kv l) (hl : l.length ≤ 1000000) : Calls Try.prog 14 #[.agg #[kv, bv], .string (Lend.strOf k)] w fun e w' => e = .returned (.int .i64 (chI l k)) ∧ Below w.heap.size w w' := by
  obtain ⟨a, cap, rfl⟩ := h.slice
  obtain ⟨w1, hw1⟩ : ∃ x, x = w.alloc (.cells #[.slice a l.length cap, bv] 35) := ⟨_, rfl⟩
  have HX := Lib.hid (show Has w1 w.heap.size 35 [.slice a l.length cap, bv] by rw [hw1]; exact Has.new w _ _)
  have HB := Lib.hid (show Below w.heap.size w w1 by rw [hw1]; exact below_new w _)
  have HU := Lib.hid (h.below HB.out)
  obtain ⟨n, hn⟩ : ∃ n, n = l.length := ⟨_, rfl⟩
  have HN := Lib.hid hn
  rw [← hn] at hl hw1 HX HU ⊢
  clear h hn
  obtain ⟨KY, hKY⟩ : ∃ z, z = Lend.strOf k := ⟨_, rfl⟩
  rw [← hKY]
  have HKY := Lib.hid hKY
  go_enter Try.func14, Try.ntmps14
  go_wp2_with fail
  rw [← hw1]
  clear hw1 hKY
  go_loopw [5, 6] (fun at_ i wr => ∃ j : Nat, j ≤ n ∧ i = .int .i64 j ∧ at_ = .int .i64 ((chN (l.take j) k : Int) - 1) ∧ wr = w1) (fun _ i _ => n - (intOf i).toNat)
  case atStart => exact ⟨0, Nat.zero_le _, rfl, rfl, rfl⟩
  case round =>
    obtain ⟨j, hj, rfl, rfl, rfl⟩ := hrel
    have x0 := HX.out.cell 0
    simp only [List.getElem?_cons_zero] at x0
    have z1 := HX.out.lt
    by_cases hlt : j < n
    · have hji : (j : Int) < (n : Int) := by omega
      have hj0 : 0 ≤ (j : Int) := by omega
      have hjl : j < l.length := by rw [← HN.out]; exact hlt
      obtain ⟨g, off, rfl, c0, -⟩ := cr_cells HU.out j hjl
      have hct := chN_take hjl k
      obtain ⟨c, hc⟩ : ∃ c, c = l[j].low := ⟨_, rfl⟩
      rw [← hc] at c0 hct
      have hcs := leq_cases c k
      rw [← HKY.out] at hcs
      obtain ⟨LW, hLW⟩ : ∃ z, z = Lend.strOf c := ⟨_, rfl⟩
      rw [← hLW] at c0 hcs
      clear hc hLW hjl
      rcases hcs with ⟨hk, hb, he⟩ | ⟨hk, hb⟩ | ⟨hk, hb, he⟩
      · rw [if_pos hk] at hct
        have HCT := Lib.hid hct
        clear hct hk
        go_wp2_with fail
        go_roundw
        case rel => exact ⟨j + 1, by omega, by go_num, by rw [HCT.out], trivial⟩
        case measure => simp [intOf]; omega
      all_goals
        rw [if_neg (by rw [hk]; simp)] at hct
        have HCT := Lib.hid hct
        clear hct hk
        go_wp2_with fail
        go_roundw
        case rel => exact ⟨j + 1, by omega, by go_num, by rw [HCT.out]; congr 1; omega, trivial⟩
        case measure => simp [intOf]; omega
    · obtain rfl : j = n := by omega
      have hji : ¬ ((j : Int) < (j : Int)) := by omega
      have e : l.take j = l := List.take_of_length_le (by have := HN.out; omega)
      have HE := Lib.hid e
      clear e
      go_wp2_with fail
      go_ret
      exact ⟨by rw [HE.out]; rfl, HB.out⟩
theorem nodB_k {cs : List Ch} {us : List Up} (h : kidB cs = false) : nodB cs us = false := by unfold nodB; rw [h]; rfl
theorem nodB_len {cs : List Ch} {us : List Up} (h : ¬ ((1 ≤ cs.length ∧ cs.length ≤ 16) ∧ us.length ≤ 64)) : nodB cs us = false := by
  cases g : nodB cs us with
  | false => rfl
  | true =>
    unfold nodB at g
    simp only [Bool.and_eq_true, decide_eq_true_eq] at g
    exact absurd ⟨((kidB_iff cs).1 g.1).1, g.2.1⟩ h
theorem ret_b {a b : Bool} (h : a = b) : Ending.returned (.bool a) = .returned (.bool b) := by rw [h]
set_option maxRecDepth 100000 in
set_option maxHeartbeats 8000000 in
theorem nright_any {w : World} {kv bv : Value} {cs : List Ch} {us : List Up} (h : CR w kv cs) (hu : UR w bv us) (hwf : ∀ u ∈ us, WfU u) : Calls Try.prog 12 #[.agg #[kv, bv]] w fun e w' => e = .returned (.bool (nodB cs us)) ∧ Below w.heap.size w w' := by
  obtain ⟨a, cap, rfl⟩ := h.slice
  obtain ⟨b, cbp, rfl⟩ := hu.slice
  obtain ⟨w1, hw1⟩ : ∃ x, x = w.alloc (.cells #[.slice a cs.length cap, .slice b us.length cbp] 35) := ⟨_, rfl⟩
  have HX := Lib.hid (show Has w1 w.heap.size 35 [.slice a cs.length cap, .slice b us.length cbp] by rw [hw1]; exact Has.new w _ _)
  have HB := Lib.hid (show Below w.heap.size w w1 by rw [hw1]; exact below_new w _)
  have HC := Lib.hid (h.below HB.out)
  have HU := Lib.hid (hu.below HB.out)
  have HW := Lib.hid hwf
  have HNL := Lib.hid (fun h => nodB_len (cs := cs) (us := us) h)
  obtain ⟨n, hn⟩ : ∃ n, n = cs.length := ⟨_, rfl⟩
  obtain ⟨m, hm⟩ : ∃ m, m = us.length := ⟨_, rfl⟩
  have HN := Lib.hid hn
  have HM := Lib.hid hm
  rw [← hn] at hw1 HX HC HNL
  rw [← hm] at hw1 HX HU HNL
  rw [← hn, ← hm]
  clear h hu hwf hn hm
  go_enter Try.func12, Try.ntmps12
  by_cases h1 : n < 1
  · have h1' : (n : Int) < 1 := by omega
    have HR := Lib.hid (HNL.out (by omega))
    go_wp2_with fail
    rw [← hw1]
    go_ret
    exact ⟨by rw [HR.out]; first | done | rfl, HB.out⟩
  by_cases h2 : 16 < n
  · have h1' : ¬ (n : Int) < 1 := by omega
    have h2' : (16 : Int) < n := by omega
    have HR := Lib.hid (HNL.out (by omega))
    go_wp2_with fail
    rw [← hw1]
    go_ret
    exact ⟨by rw [HR.out]; first | done | rfl, HB.out⟩
  by_cases h3 : 64 < m
  · have h1' : ¬ (n : Int) < 1 := by omega
    have h2' : ¬ (16 : Int) < n := by omega
    have h3' : (64 : Int) < m := by omega
    have HR := Lib.hid (HNL.out (by omega))
    go_wp2_with fail
    rw [← hw1]
    go_ret
    exact ⟨by rw [HR.out]; first | done | rfl, HB.out⟩
  have h1' : ¬ (n : Int) < 1 := by omega
  have h2' : ¬ (16 : Int) < n := by omega
  have h3' : ¬ (64 : Int) < m := by omega
  go_wp2_with fail
  rw [← hw1]
  clear hw1 h1' h2' h3' HNL
  go_loopw [3] (fun i wr => ∃ j : Nat, j ≤ n ∧ i = .int .i64 j ∧ Hid (kidUp cs j) ∧ Below w1.heap.size w1 wr) (fun i _ => n - (intOf i).toNat)
  case atStart => exact ⟨0, Nat.zero_le _, rfl, Lib.hid (kidUp_zero cs), Below.refl _ _⟩
  case round =>
    obtain ⟨j, hj, rfl, HK, hb⟩ := hrel
    rename World => wr
    have HBR := Lib.hid hb
    have x0 : wr.cell? ⟨w.heap.size, 0, none⟩ = some (.slice a n cap) := keep1 (HX.out.cell 0) hb
    have z1 : w.heap.size < wr.heap.size := Nat.lt_of_lt_of_le HX.out.lt hb.size
    by_cases hlt : j < n
    · have hji : (j : Int) < (n : Int) := by omega
      have hj0 : 0 ≤ (j : Int) := by omega
      have hjl : j < cs.length := by rw [← HN.out]; exact hlt
      obtain ⟨g, off, rfl, c0, c1, c2, c3⟩ := cr_cells (HC.out.below hb) j hjl
      have HS := Lib.hid (kidUp_succ hjl)
      have HNO := Lib.hid (fun (hno : ¬ kidUp cs (j + 1)) => nodB_k (us := us) (kidB_no (show j + 1 ≤ cs.length from hjl) hno))
      obtain ⟨x, hx⟩ : ∃ x, x = cs[j] := ⟨_, rfl⟩
      have HXE := Lib.hid hx
      rw [← hx] at c0 c1 c2 c3 HS
      obtain ⟨w2, hw2⟩ : ∃ z, z = wr.alloc (.cells #[.string (Lend.strOf x.low), .int .i64 x.addr, .int .u64 x.gen, .int .u32 x.sum] 50) := ⟨_, rfl⟩
      have HB2 := Lib.hid (show Below w1.heap.size w1 w2 by rw [hw2]; exact below_nw hb _)
      have HX2 := Lib.hid (show Has w2 wr.heap.size 50 (encC x) by rw [hw2]; exact Has.new wr _ _)
      have y0 : w2.cell? ⟨wr.heap.size, 0, none⟩ = some (.string (Lend.strOf x.low)) := HX2.out.cell 0
      have y1 : w2.cell? ⟨wr.heap.size, 1, none⟩ = some (.int .i64 x.addr) := HX2.out.cell 1
      have hsz := ssize x.low
      clear hx hb
      go_upto_region 7 with fail
      rw [← hw2]
      clear hw2 c0 c1 c2 c3 x0 z1
      by_cases ha0 : x.addr < 0
      · have HR := Lib.hid (HNO.out fun hk => by
          have h := (HS.out.1 hk).2.1
          simp only [okC, Env.adB, Bool.and_eq_true, decide_eq_true_eq] at h
          omega)
        go_wp2_with fail
        go_ret
        exact ⟨by rw [HR.out]; first | done | rfl, HB.out.trans (HB2.out.mono HB.out.size)⟩
      by_cases ha1 : 2147483647 < x.addr
      · have HR := Lib.hid (HNO.out fun hk => by
          have h := (HS.out.1 hk).2.1
          simp only [okC, Env.adB, Bool.and_eq_true, decide_eq_true_eq] at h
          omega)
        go_wp2_with fail
        go_ret
        exact ⟨by rw [HR.out]; first | done | rfl, HB.out.trans (HB2.out.mono HB.out.size)⟩
      by_cases hs : 16 < x.low.length
      · have HR := Lib.hid (HNO.out fun hk => by
          have h := (HS.out.1 hk).2.1
          simp only [okC, Env.adB, Bool.and_eq_true, decide_eq_true_eq] at h
          omega)
        have hs' : (16 : Int) < ((Lend.strOf x.low).size : Int) := by omega
        go_wp2_with fail
        go_ret
        exact ⟨by rw [HR.out]; first | done | rfl, HB.out.trans (HB2.out.mono HB.out.size)⟩
      have hs' : ¬ (16 : Int) < ((Lend.strOf x.low).size : Int) := by omega
      have HOK := Lib.hid (show okC x = true by
        simp only [okC, Env.adB, Bool.and_eq_true, decide_eq_true_eq]
        omega)
      by_cases ht1 : j = 0
      · subst ht1
        by_cases hl0 : x.low = []
        · have hk1 : (Lend.strOf x.low).toList = [] := by rw [hl0, ByteArray.toList_eq]; rfl
          have hk2 : (Lend.strOf x.low).toList.isEmpty = true := by rw [hk1]; rfl
          have HK1 := Lib.hid (HS.out.2 ⟨HK.out, HOK.out, fun _ => hl0, fun h => by omega⟩)
          clear hl0
          go_wp2_with fail
          go_quiet (fail)
          go_wp2_with fail
          go_roundw
          case rel => exact ⟨1, by omega, by go_num, HK1, bel_q HB2.out⟩
          case measure => simp [intOf]; omega
        · have hk1 : ¬ (Lend.strOf x.low).toList = [] := str_ne hl0
          have hk2 : (Lend.strOf x.low).toList.isEmpty = false := by rw [List.isEmpty_eq_false_iff]; exact hk1
          have HR := Lib.hid (HNO.out fun hk => hl0 ((HS.out.1 hk).2.2.1 rfl))
          go_wp2_with fail
          go_ret
          exact ⟨by rw [HR.out]; first | done | rfl, HB.out.trans (HB2.out.mono HB.out.size)⟩
      · obtain ⟨v, rfl⟩ : ∃ v, j = v + 1 := ⟨j - 1, by omega⟩
        have hvl : v < cs.length := by omega
        have hb2' : Below w1.heap.size w1 w2 := HB2.out
        have b1 : w2.cell? ⟨g, off + v * 4, none⟩ = some (.string (Lend.strOf cs[v].low)) := cr_low (HC.out.below hb2') v hvl
        have x2 : w2.cell? ⟨w.heap.size, 0, none⟩ = some (.slice (some ⟨g, off, none⟩) n cap) := keep1 (HX.out.cell 0) hb2'
        have hcs := leq_cases x.low cs[v].low
        have hwr : IntKind.i64.wrap (((v + 1 : Nat) : Int) - 1) = (v : Int) := by rw [show ((v + 1 : Nat) : Int) - 1 = v by omega]; exact IntWalk.i64_in _ (by omega)
        have hr0 : 0 ≤ (v : Int) := by omega
        have hr1 : (v : Int) < (n : Int) := by omega
        have hrz : (0 : Int) < ((v + 1 : Nat) : Int) := by omega
        have hne : ¬ ((v + 1 : Nat) : Int) = 0 := by omega
        have HK1 := Lib.hid (fun hk : kLt cs[v].low x.low = true => HS.out.2 ⟨HK.out, HOK.out, (fun h => by omega), fun _ => by simpa using hk⟩)
        have HR := Lib.hid (fun hk : kLt cs[v].low x.low = false => HNO.out fun hk' => by
          have := (HS.out.1 hk').2.2.2 (Nat.succ_pos _)
          simp only [Nat.add_sub_cancel] at this
          rw [hk] at this; cases this)
        clear hb2'
        rcases hcs with ⟨hk, hb, he⟩ | ⟨hk, hb⟩ | ⟨hk, hb, he⟩
        · have HK1 := Lib.hid (HK1.out hk)
          clear hk HR
          generalize Lend.strOf cs[v].low = K0 at *
          generalize Lend.strOf x.low = K1 at *
          go_wp2_with fail
          go_quiet (fail)
          go_wp2_with fail
          go_roundw
          case rel => exact ⟨v + 2, by omega, by go_num, HK1, bel_q HB2.out⟩
          case measure => simp [intOf]; omega
        all_goals
          have HR := Lib.hid (HR.out hk)
          clear hk HK1
          generalize Lend.strOf cs[v].low = K0 at *
          generalize Lend.strOf x.low = K1 at *
          go_wp2_with fail
          go_quiet (fail)
          go_wp2_with fail
          go_ret
          exact ⟨by rw [HR.out]; first | done | rfl, HB.out.trans ((bel_q HB2.out).mono HB.out.size)⟩
    · obtain rfl : j = n := by omega
      have hji : ¬ ((j : Int) < (j : Int)) := by omega
      have x1 : wr.cell? ⟨w.heap.size, 1, none⟩ = some (.slice b m cbp) := keep1 (HX.out.cell 1) hb
      have HKB := Lib.hid ((kidB_iff cs).2 ⟨by have := HN.out; omega, by have := HK.out; rw [HN.out] at this; exact this⟩)
      have HT := Lib.hid (reftext_any (HU.out.below hb) (by have := HM.out; omega) (fun u hu => HW.out u hu))
      clear hb
      go_wp2_with fail
      refine HT.out.mono ?_
      clear HT
      rintro e w2 ⟨rfl, hb2⟩
      have HB2 := Lib.hid (below_on HBR.out hb2)
      have x2 : w2.cell? ⟨w.heap.size, 1, none⟩ = some (.slice b m cbp) := keep1 (HX.out.cell 1) HB2.out
      have z2 : w.heap.size < w2.heap.size := Nat.lt_of_lt_of_le HX.out.lt HB2.out.size
      have HRI := Lib.hid (refrising_any (HU.out.below HB2.out) (by have := HM.out; omega))
      clear hb2 x1 x0 z1
      go_wp2_with fail
      refine HRI.out.mono ?_
      clear HRI
      rintro e w3 ⟨rfl, q, rfl⟩
      have HB3 := Lib.hid (HB.out.trans ((bel_q (q := q) HB2.out).mono HB.out.size))
      have HE : Hid (nodB cs us = (decide (errL us = 0) && risB us)) := Lib.hid (by
        unfold nodB
        rw [HKB.out, show decide (us.length ≤ 64) = true from by have := HM.out; simpa using (by omega : us.length ≤ 64)]
        simp)
      by_cases he : errL us = 0
      · go_wp2_with fail
        go_ret
        exact ⟨by rw [HE.out, he]; simp, HB3.out⟩
      · go_wp2_with fail
        go_ret
        exact ⟨by rw [HE.out]; simp [he], HB3.out⟩
end Go.Proofs.Ytfclecbhfamomaa.Node
/- Layer 17 (node): the document's Text. -/
namespace Go.Proofs.Ytfclecbhfamomaa.Node
open Go Go.RowKit Go.Proofs.Ytfclecbhfamomaa Go.Proofs.Ytfclecbhfamomaa.Lend Go.Proofs.Ytfclecbhfamomaa.Rec Go.Proofs.Ytfclecbhfamomaa.Msg Go.Proofs.Ytfclecbhfamomaa.Buf
set_option linter.unusedVariables false

theorem txb_le : ∀ (l : List Up), errL l = 0 → (txL l).length ≤ 51 * l.length
  | [], _ => by simp [txL]
  | u :: l, h => by
    unfold errL at h
    by_cases hc : chkU u = 0
    · rw [if_pos hc] at h
      have h1 := txb_le l h
      have h2 := txU_le hc
      have e : txL (u :: l) = txU u ++ txL l := by simp [txL]
      rw [e, List.length_append, List.length_cons]
      omega
    · rw [if_neg hc] at h; exact absurd h hc
/-- string of one byte -/
theorem conv_has {w : World} {g n : Nat} (hn : n ≤ 255) (h : Has w g 5 [.int .u8 n]) : (convert 54 9 (.slice (some ⟨g, 0, none⟩) 1 1)).run Try.prog w = .ok (.string (Lend.strOf [UInt8.ofNat n])) w := by
  refine run_string_own w 0 _ 1 [UInt8.ofNat n] ⟨rfl, .inr ⟨g, 1, #[.int .u8 n], rfl, Nat.zero_le _, h, Nat.le_refl _, by unfold maxLen; omega, rfl, ?_⟩⟩
  have e : (UInt8.ofNat n).toNat = n := by simp; omega
  simp [Lend.u8V, e]
theorem txC_len {c : Ch} (h : c.low.length ≤ 16) : (txC c).length ≤ 33 := by
  unfold txC len8
  have : ((encL Env.ptrW [c.addr, c.gen, c.sum]).length : Int) = sumW Env.ptrW := encL_length _ _ Env.ptrW_ok rfl
  have e : sumW Env.ptrW = 16 := rfl
  rw [List.length_append, List.length_cons]
  omega
theorem txK_len : ∀ {l : List Ch}, (∀ c ∈ l, c.low.length ≤ 16) → (txK l).length ≤ 33 * l.length
  | [], _ => by simp [txK]
  | c :: l, h => by
    have h1 := txC_len (h c (by simp))
    have h2 := txK_len (l := l) fun x hx => h x (by simp [hx])
    have e : txK (c :: l) = txC c ++ txK l := by unfold txK; simp
    rw [e, List.length_append, List.length_cons]
    omega
theorem kid_at {l : List Ch} (h : kidB l = true) {j : Nat} (hj : j < l.length) : 0 ≤ l[j].addr ∧ l[j].addr ≤ 2147483647 ∧ l[j].low.length ≤ 16 := by
  have := ((kidB_iff l).1 h).2.1 j hj hj
  simp only [okC, Env.adB, Bool.and_eq_true, decide_eq_true_eq] at this
  exact ⟨this.1.1, this.1.2, this.2⟩
theorem nod_parts {cs : List Ch} {us : List Up} (h : nodB cs us = true) : kidB cs = true ∧ us.length ≤ 64 ∧ errL us = 0 ∧ risB us = true := by
  unfold nodB at h
  simp only [Bool.and_eq_true, decide_eq_true_eq] at h
  exact ⟨h.1, h.2.1, h.2.2.1, h.2.2.2⟩
set_option maxRecDepth 100000 in
set_option maxHeartbeats 8000000 in
theorem ntext_any {w : World} {kv bv : Value} {cs : List Ch} {us : List Up} (h : CR w kv cs) (hu : UR w bv us) (hwf : ∀ u ∈ us, WfU u) (hwc : ∀ c ∈ cs, WfC c) : Calls Try.prog 10 #[.agg #[kv, bv]] w fun e w' => e = .returned (.tuple #[.string (Lend.strOf (ttN cs us)), .int .i64 (teN cs us)]) ∧ Below w.heap.size w w' := by
  obtain ⟨a, cap, rfl⟩ := h.slice
  obtain ⟨b, cbp, rfl⟩ := hu.slice
  obtain ⟨w1, hw1⟩ : ∃ x, x = w.alloc (.cells #[.slice a cs.length cap, .slice b us.length cbp] 35) := ⟨_, rfl⟩
  have HX := Lib.hid (show Has w1 w.heap.size 35 [.slice a cs.length cap, .slice b us.length cbp] by rw [hw1]; exact Has.new w _ _)
  have HB := Lib.hid (show Below w.heap.size w w1 by rw [hw1]; exact below_new w _)
  have HC := Lib.hid (h.below HB.out)
  have HU := Lib.hid (hu.below HB.out)
  have HW := Lib.hid hwf
  have HWC := Lib.hid hwc
  have HRT := Lib.hid (nright_any HC.out HU.out hwf)
  obtain ⟨n, hn⟩ : ∃ n, n = cs.length := ⟨_, rfl⟩
  obtain ⟨m, hm⟩ : ∃ m, m = us.length := ⟨_, rfl⟩
  have HN := Lib.hid hn
  have HM := Lib.hid hm
  rw [← hn] at hw1 HX HC HRT
  rw [← hm] at hw1 HX HU HRT
  rw [← hn, ← hm]
  clear h hu hwf hwc hn hm
  go_enter Try.func10, Try.ntmps10
  go_wp2_with fail
  rw [← hw1]
  clear hw1
  refine HRT.out.mono ?_
  clear HRT
  rintro e w2 ⟨rfl, hb2⟩
  have HB2 := Lib.hid hb2
  have x0 : w2.cell? ⟨w.heap.size, 0, none⟩ = some (.slice a n cap) := keep1 (HX.out.cell 0) hb2
  have z1 : w.heap.size < w2.heap.size := Nat.lt_of_lt_of_le HX.out.lt hb2.size
  cases hN : nodB cs us with
  | false =>
    have HE : Hid (ttN cs us = [] ∧ teN cs us = 2) := Lib.hid (by unfold ttN teN; rw [hN]; exact ⟨rfl, rfl⟩)
    clear hN hb2
    go_wp2_with fail
    go_ret2
    exact ⟨ret_te (by rw [HE.out.1]; rfl) (by rw [HE.out.2]), HB.out.trans (HB2.out.mono HB.out.size)⟩
  | true =>
    have HE : Hid (ttN cs us = txN cs us ∧ teN cs us = 0) := Lib.hid (by unfold ttN teN; rw [hN]; exact ⟨rfl, rfl⟩)
    have HP := Lib.hid (nod_parts hN)
    have HKA := Lib.hid (fun (j : Nat) (hj : j < cs.length) => kid_at HP.out.1 hj)
    have hnb : 1 ≤ n ∧ n ≤ 16 := by have := ((kidB_iff cs).1 HP.out.1).1; have := HN.out; omega
    have hw8 : IntKind.u8.wrap (n : Int) = n := by rw [IntKind.wrap_u8]; omega
    obtain ⟨w3, hw3⟩ : ∃ z, z = w2.alloc (.cells #[.int .u8 n] 5) := ⟨_, rfl⟩
    have hh3 : Has w3 w2.heap.size 5 [.int .u8 n] := by rw [hw3]; exact Has.new w2 _ _
    have hcv := conv_has (n := n) (by omega) hh3
    have HB3 := Lib.hid (show Below w1.heap.size w1 w3 by rw [hw3]; exact below_nw hb2 _)
    obtain ⟨P, hP⟩ : ∃ z, z = Lend.strOf [UInt8.ofNat n] := ⟨_, rfl⟩
    have HPE := Lib.hid hP
    rw [← hP] at hcv
    rw [hw3] at hcv
    clear hN hb2 hh3 hP
    go_wp2_with fail
    rw [← hw3]
    clear hw3 hcv x0 z1
    go_loopw [5, 6] (fun s i wr => ∃ j : Nat, j ≤ n ∧ i = .int .i64 j ∧ s = .string (Lend.strOf (UInt8.ofNat n :: txK (cs.take j))) ∧ Below w1.heap.size w1 wr) (fun _ i _ => n - (intOf i).toNat)
    case atStart => exact ⟨0, Nat.zero_le _, rfl, by rw [HPE.out]; rfl, HB3.out⟩
    case round =>
      obtain ⟨j, hj, rfl, rfl, hb⟩ := hrel
      rename World => wr
      have HBR := Lib.hid hb
      have x0 : wr.cell? ⟨w.heap.size, 0, none⟩ = some (.slice a n cap) := keep1 (HX.out.cell 0) hb
      have z1 : w.heap.size < wr.heap.size := Nat.lt_of_lt_of_le HX.out.lt hb.size
      by_cases hlt : j < n
      · have hji : (j : Int) < (n : Int) := by omega
        have hj0 : 0 ≤ (j : Int) := by omega
        have hjl : j < cs.length := by rw [← HN.out]; exact hlt
        obtain ⟨g, off, rfl, c0, c1, c2, c3⟩ := cr_cells (HC.out.below hb) j hjl
        obtain ⟨q0, q1, q2⟩ := HKA.out j hjl
        have hwx := HWC.out _ (List.getElem_mem hjl)
        have hts := txK_take hjl
        have hln : (txK (cs.take j)).length ≤ 33 * 16 := by
          have h1 := txK_len (l := cs.take j) (fun c hc => by
            obtain ⟨i, hi, rfl⟩ := List.mem_iff_getElem.1 (List.mem_of_mem_take hc)
            exact (HKA.out i hi).2.2)
          rw [List.length_take] at h1
          omega
        obtain ⟨x, hx⟩ : ∃ x, x = cs[j] := ⟨_, rfl⟩
        rw [← hx] at c0 c1 c2 c3 q0 q1 q2 hwx hts
        obtain ⟨lb, hlb⟩ : ∃ z, z = x.low.length := ⟨_, rfl⟩
        have hlz : (Lend.strOf x.low).size = lb := by rw [ssize, hlb]
        have hlb16 : lb ≤ 16 := by omega
        obtain ⟨hwa, hwg, hws⟩ := hwx
        have HF := Lib.hid (Env.ptr_fits (a := x.addr) (g := x.gen) (c := x.sum) (by omega) hwg.2 hws.2)
        have hwu : IntKind.u64.wrap x.addr = x.addr := by rw [IntKind.wrap_u64]; omega
        have hwv : IntKind.u64.wrap x.sum = x.sum := by rw [IntKind.wrap_u64]; omega
        have hw8l : IntKind.u8.wrap (lb : Int) = lb := by rw [IntKind.wrap_u8]; omega
        obtain ⟨w4, hw4⟩ : ∃ z, z = wr.alloc (.cells #[.string (Lend.strOf x.low), .int .i64 x.addr, .int .u64 x.gen, .int .u32 x.sum] 50) := ⟨_, rfl⟩
        have HB4 := Lib.hid (show Below w1.heap.size w1 w4 by rw [hw4]; exact below_nw hb _)
        have HX4 := Lib.hid (show Has w4 wr.heap.size 50 (encC x) by rw [hw4]; exact Has.new wr _ _)
        have y0 : w4.cell? ⟨wr.heap.size, 0, none⟩ = some (.string (Lend.strOf x.low)) := HX4.out.cell 0
        have y1 : w4.cell? ⟨wr.heap.size, 1, none⟩ = some (.int .i64 x.addr) := HX4.out.cell 1
        have y2 : w4.cell? ⟨wr.heap.size, 2, none⟩ = some (.int .u64 x.gen) := HX4.out.cell 2
        have y3 : w4.cell? ⟨wr.heap.size, 3, none⟩ = some (.int .u32 x.sum) := HX4.out.cell 3
        have hlt4 : wr.heap.size < w4.heap.size := HX4.out.lt
        have R1 := Lib.hid (Row.new (Row.threeAt .i64 w4 4 8 4 3 _ rfl) (.cells #[.int .u64 x.addr, .int .u64 x.gen, .int .u64 x.sum] 47))
        have r2 := Row.threeAt .u64 (w4.alloc (.cells #[.int .i64 4, .int .i64 8, .int .i64 4] 3)) x.addr x.gen x.sum 47 _ rfl
        rw [World.size_alloc] at r2
        have R2 := Lib.hid r2
        have HB5 := Lib.hid (below_nw (below_nw HB4.out (.cells #[.int .i64 4, .int .i64 8, .int .i64 4] 3)) (.cells #[.int .u64 x.addr, .int .u64 x.gen, .int .u64 x.sum] 47))
        have hb45 : Below w4.heap.size w4 ((w4.alloc (.cells #[.int .i64 4, .int .i64 8, .int .i64 4] 3)).alloc (.cells #[.int .u64 x.addr, .int .u64 x.gen, .int .u64 x.sum] 47)) := below_nw (below_new _ _) _
        have HX5 := Lib.hid (HX4.out.below hb45 HX4.out.lt)
        have HNN := Lib.hid (show ∀ n ∈ [x.addr, x.gen, x.sum], 0 ≤ n ∧ n < 18446744073709551616 by
          intro z hz
          simp only [List.mem_cons, List.mem_nil_iff, or_false] at hz
          rcases hz with rfl | rfl | rfl <;> omega)
        have HLB := Lib.hid hlb
        have HTS := Lib.hid hts
        clear hx hb hb45 r2 hts hjl hwa hwg hws q0 q1 q2 hlb
        go_upto_region 9 with fail
        rw [← hw4]
        clear hw4 c0 c1 c2 c3 x0 z1
        go_wp2_with fail
        refine (refwrite_any _ _ 3 3 3 3 [4, 8, 4] [x.addr, x.gen, x.sum] _ R1.out R2.out (by decide) (by decide) HNN.out).mono ?_
        rintro e w5 ⟨rfl, hb5⟩
        have e1 : wrB [4, 8, 4] [x.addr, x.gen, x.sum] = true := HF.out.1
        have e2 : wrS [4, 8, 4] [x.addr, x.gen, x.sum] = Lend.strOf (encL Env.ptrW [x.addr, x.gen, x.sum]) := HF.out.2
        rw [e1, e2]
        clear e1 e2 y0 y1 y2 y3 hlt4 hwu hwv
        have HB6 := Lib.hid (below_on HB5.out hb5)
        have hx6 := HX5.out.below hb5 HX5.out.lt
        have y0 : w5.cell? ⟨wr.heap.size, 0, none⟩ = some (.string (Lend.strOf x.low)) := hx6.cell 0
        have z5 := hx6.lt
        obtain ⟨w6, hw6⟩ : ∃ z, z = w5.alloc (.cells #[.int .u8 lb] 5) := ⟨_, rfl⟩
        have hh6 : Has w6 w5.heap.size 5 [.int .u8 lb] := by rw [hw6]; exact Has.new w5 _ _
        have hcv := conv_has (n := lb) (by omega) hh6
        have HB7 := Lib.hid (show Below w1.heap.size w1 w6 by rw [hw6]; exact below_nw HB6.out _)
        obtain ⟨Q', hQ'⟩ : ∃ z, z = Lend.strOf [UInt8.ofNat lb] := ⟨_, rfl⟩
        rw [← hQ'] at hcv
        rw [hw6] at hcv
        have hqz : Q'.size = 1 := by rw [hQ', ssize]; rfl
        obtain ⟨PT, hPT⟩ : ∃ z, z = Lend.strOf (encL Env.ptrW [x.addr, x.gen, x.sum]) := ⟨_, rfl⟩
        have hpz : PT.size = 16 := by
          rw [hPT, ssize]
          have : ((encL Env.ptrW [x.addr, x.gen, x.sum]).length : Int) = sumW Env.ptrW := encL_length _ _ Env.ptrW_ok rfl
          have e : sumW Env.ptrW = 16 := rfl
          omega
        obtain ⟨T, hT⟩ : ∃ z, z = Lend.strOf (UInt8.ofNat n :: txK (cs.take j)) := ⟨_, rfl⟩
        have htz : T.size ≤ 600 := by rw [hT, ssize, List.length_cons]; omega
        obtain ⟨K, hK⟩ : ∃ z, z = Lend.strOf x.low := ⟨_, rfl⟩
        have HFN := Lib.hid (show T ++ Q' ++ K ++ PT = Lend.strOf (UInt8.ofNat n :: txK (cs.take (j + 1))) by
          rw [hT, hQ', hK, hPT, sapp, sapp, sapp, HTS.out]
          unfold txC len8
          rw [HLB.out]
          simp)
        rw [← hT, ← hPT]
        rw [← hK] at y0 hlz
        have hz1 : ¬ 9223372036854775807 < T.size + Q'.size := by omega
        have z1 : (T ++ Q').size = T.size + Q'.size := ByteArray.size_append
        have hz2 : ¬ 9223372036854775807 < (T ++ Q').size + K.size := by omega
        have z2 : (T ++ Q' ++ K).size = (T ++ Q').size + K.size := ByteArray.size_append
        have hz3 : ¬ 9223372036854775807 < (T ++ Q' ++ K).size + PT.size := by omega
        clear hb5 hx6 hh6 hQ' hPT hT hK hqz hpz htz z1 z2 hln
        go_wp2_with fail
        rw [← hw6]
        clear hw6
        go_roundw
        case rel => exact ⟨j + 1, by omega, by go_num, by rw [HFN.out], HB7.out⟩
        case measure => simp [intOf]; omega
      · obtain rfl : j = n := by omega
        have hji : ¬ ((j : Int) < (j : Int)) := by omega
        have x1 : wr.cell? ⟨w.heap.size, 1, none⟩ = some (.slice b m cbp) := keep1 (HX.out.cell 1) hb
        have HT := Lib.hid (reftext_any (HU.out.below hb) (by have := HM.out; have := HP.out.2.1; omega) (fun u hu => HW.out u hu))
        have ht : txT us = txL us := by unfold txT; rw [if_pos HP.out.2.2.1]
        rw [ht, HP.out.2.2.1] at HT
        have htz : (Lend.strOf (txL us)).size ≤ 4000 := by rw [ssize]; have := txb_le us HP.out.2.2.1; have := HP.out.2.1; omega
        have hln : (Lend.strOf (UInt8.ofNat j :: txK (cs.take j))).size ≤ 4000 := by
          rw [ssize, List.length_cons]
          have h1 := txK_len (l := cs.take j) (fun c hc => by
            obtain ⟨i, hi, rfl⟩ := List.mem_iff_getElem.1 (List.mem_of_mem_take hc)
            exact (HKA.out i hi).2.2)
          rw [List.length_take] at h1
          omega
        have htk : cs.take j = cs := List.take_of_length_le (by have := HN.out; omega)
        rw [htk] at hln ⊢
        have HFN := Lib.hid (show Lend.strOf (UInt8.ofNat j :: txK cs) ++ Lend.strOf (txL us) = Lend.strOf (txN cs us) by
          rw [sapp]
          unfold txN
          rw [← HN.out]; rfl)
        generalize Lend.strOf (UInt8.ofNat j :: txK cs) = T at *
        generalize Lend.strOf (txL us) = U at *
        have hz1 : ¬ 9223372036854775807 < T.size + U.size := by omega
        clear hb ht htz hln htk
        go_wp2_with fail
        refine HT.out.mono ?_
        clear HT
        rintro e w4 ⟨rfl, hb4⟩
        have HB4 := Lib.hid (HB.out.trans ((below_on HBR.out hb4).mono HB.out.size))
        clear hb4 x1 x0 z1
        go_wp2_with fail
        go_ret2
        exact ⟨ret_te (by rw [HE.out.1, HFN.out]) (by rw [HE.out.2]), HB4.out⟩
end Go.Proofs.Ytfclecbhfamomaa.Node
