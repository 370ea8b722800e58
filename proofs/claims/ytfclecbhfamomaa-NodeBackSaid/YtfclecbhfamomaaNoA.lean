/- Layer 17 (node): rightChildren, Right, Range, a child's text. -/
import Derived.Test.YtfclecbhfamomaaNoT
import Derived.Test.YtfclecbhfamomaaPtrE
import Derived.Test.YtfclecbhfamomaaLendJ
namespace Go.Proofs.Ytfclecbhfamomaa.Node
open Go Go.RowKit Go.Proofs.Ytfclecbhfamomaa Go.Proofs.Ytfclecbhfamomaa.Lend Go.Proofs.Ytfclecbhfamomaa.Rec Go.Proofs.Ytfclecbhfamomaa.Msg Go.Proofs.Ytfclecbhfamomaa.Buf
set_option linter.unusedVariables false

theorem kidB_short {l : List Ch} (h : l.length < 1) : kidB l = false := by
  cases g : kidB l with
  | false => rfl
  | true => have := ((kidB_iff l).1 g).1; omega
theorem kidB_long {l : List Ch} (h : 16 < l.length) : kidB l = false := by
  cases g : kidB l with
  | false => rfl
  | true => have := ((kidB_iff l).1 g).1; omega
theorem kidB_head {l : List Ch} (h0 : 0 < l.length) (h : (l[0]'h0).low ≠ []) : kidB l = false := by
  cases g : kidB l with
  | false => rfl
  | true => exact absurd (((kidB_iff l).1 g).2.2.1 h0 h0) h
set_option maxRecDepth 100000 in
set_option maxHeartbeats 8000000 in
theorem rightch_any {w : World} {kv : Value} {cs : List Ch} (h : CR w kv cs) (hwf : ∀ c ∈ cs, WfC c) : Calls Try.prog 30 #[kv] w fun e w' => e = .returned (.bool (kidB cs)) ∧ Below w.heap.size w w' := by
  obtain ⟨a, cap, rfl⟩ := h.slice
  have HC := Lib.hid h
  have HW := Lib.hid hwf
  have HS1 := Lib.hid (fun h => kidB_short (l := cs) h)
  have HS2 := Lib.hid (fun h => kidB_long (l := cs) h)
  obtain ⟨n, hn⟩ : ∃ n, n = cs.length := ⟨_, rfl⟩
  have HN := Lib.hid hn
  rw [← hn] at HC HS1 HS2 ⊢
  clear h hwf hn
  go_enter Try.func30, Try.ntmps30
  by_cases h1 : n < 1
  · have h1' : (n : Int) < 1 := by omega
    have HR := Lib.hid (HS1.out h1)
    go_wp2_with fail
    go_ret
    exact ⟨by rw [HR.out]; first | done | rfl, Below.refl _ _⟩
  by_cases h2 : 16 < n
  · have h1' : ¬ (n : Int) < 1 := by omega
    have h2' : (16 : Int) < n := by omega
    have HR := Lib.hid (HS2.out h2)
    go_wp2_with fail
    go_ret
    exact ⟨by rw [HR.out]; first | done | rfl, Below.refl _ _⟩
  have h1' : ¬ (n : Int) < 1 := by omega
  have h2' : ¬ (16 : Int) < n := by omega
  have hjl : 0 < cs.length := by rw [← HN.out]; omega
  have hn0 : (0 : Int) < n := by omega
  obtain ⟨g, off, rfl, c0, -⟩ := cr_cells HC.out 0 hjl
  rw [Nat.zero_mul, Nat.add_zero] at c0
  by_cases hl0 : (cs[0]'hjl).low = []
  · have HL0 := Lib.hid hl0
    have hk1 : (Lend.strOf (cs[0]'hjl).low).toList = [] := by rw [hl0, ByteArray.toList_eq]; rfl
    have hk2 : (Lend.strOf (cs[0]'hjl).low).toList.isEmpty = true := by rw [hk1]; rfl
    generalize Lend.strOf (cs[0]'hjl).low = K0 at *
    clear hl0
    go_wp2_with fail
    clear c0 hk1 hk2 h1' h2'
    go_loopw [24] (fun i wr => ∃ j : Nat, j ≤ n ∧ i = .int .i64 j ∧ Hid (kidUp cs j) ∧ Below w.heap.size w wr) (fun i _ => n - (intOf i).toNat)
    case atStart => exact ⟨0, Nat.zero_le _, rfl, Lib.hid (kidUp_zero cs), Below.refl _ _⟩
    case round =>
      obtain ⟨j, hj, rfl, HK, hb⟩ := hrel
      rename World => wr
      by_cases hlt : j < n
      · have hji : (j : Int) < (n : Int) := by omega
        have hj0 : 0 ≤ (j : Int) := by omega
        have hjl' : j < cs.length := by rw [← HN.out]; exact hlt
        obtain ⟨g', off', he, c0, c1, c2, c3⟩ := cr_cells (HC.out.below hb) j hjl'
        simp only [Option.some.injEq, Addr.mk.injEq, and_true] at he
        obtain ⟨rfl, rfl⟩ := he
        have HS := Lib.hid (kidUp_succ hjl')
        have HNO := Lib.hid (fun (hno : ¬ kidUp cs (j + 1)) => kidB_no (show j + 1 ≤ cs.length from hjl') hno)
        have hwc := HW.out _ (List.getElem_mem hjl')
        have HLJ := Lib.hid (fun h0 : j = 0 => (by subst h0; exact HL0.out : cs[j].low = []))
        obtain ⟨x, hx⟩ : ∃ x, x = cs[j] := ⟨_, rfl⟩
        have HXE := Lib.hid hx
        rw [← hx] at c0 c1 c2 c3 HS hwc HLJ
        obtain ⟨w2, hw2⟩ : ∃ z, z = wr.alloc (.cells #[.string (Lend.strOf x.low), .int .i64 x.addr, .int .u64 x.gen, .int .u32 x.sum] 76) := ⟨_, rfl⟩
        have HB2 := Lib.hid (show Below w.heap.size w w2 by rw [hw2]; exact below_nw hb _)
        have HX2 := Lib.hid (show Has w2 wr.heap.size 76 (encC x) by rw [hw2]; exact Has.new wr _ _)
        have y1 : w2.cell? ⟨wr.heap.size, 1, none⟩ = some (.int .i64 x.addr) := HX2.out.cell 1
        have y2 : w2.cell? ⟨wr.heap.size, 2, none⟩ = some (.int .u64 x.gen) := HX2.out.cell 2
        have y3 : w2.cell? ⟨wr.heap.size, 3, none⟩ = some (.int .u32 x.sum) := HX2.out.cell 3
        have hsz := ssize x.low
        have HT := Lib.hid (PtrE.text_any x.addr x.gen x.sum w2 hwc.2.1.1 hwc.2.1.2 hwc.2.2.1 hwc.2.2.2)
        clear hx hb hwc
        go_upto_region 8 with fail
        rw [← hw2]
        clear hw2 c0 c1 c2 c3
        go_wp2_with fail
        refine HT.out.mono ?_
        clear HT y1 y2 y3
        rintro e w3 ⟨rfl, hb3⟩
        have HB3 := Lib.hid (below_on HB2.out hb3)
        have hx3 := HX2.out.below hb3 HX2.out.lt
        have y0 : w3.cell? ⟨wr.heap.size, 0, none⟩ = some (.string (Lend.strOf x.low)) := hx3.cell 0
        have z3 := hx3.lt
        generalize PtrE.ptS x.addr x.gen x.sum = PT
        clear hb3 hx3
        cases hok : Env.adB x.addr with
        | false =>
          have HR := Lib.hid (HNO.out fun hk => by
            have h := (HS.out.1 hk).2.1
            simp only [okC, hok, Bool.false_and] at h
            cases h)
          clear hok
          go_wp2_with fail
          go_ret
          exact ⟨by rw [HR.out]; first | done | rfl, HB3.out⟩
        | true =>
          by_cases hs : 16 < x.low.length
          · have HR := Lib.hid (HNO.out fun hk => by
              have h := (HS.out.1 hk).2.1
              simp only [okC, Bool.and_eq_true, decide_eq_true_eq] at h
              omega)
            have hs' : (16 : Int) < ((Lend.strOf x.low).size : Int) := by omega
            clear hok
            go_wp2_with fail
            go_ret
            exact ⟨by rw [HR.out]; first | done | rfl, HB3.out⟩
          have hs' : ¬ (16 : Int) < ((Lend.strOf x.low).size : Int) := by omega
          have HOK := Lib.hid (show okC x = true by
            simp only [okC, hok, Bool.true_and, decide_eq_true_eq]
            omega)
          clear hok
          by_cases ht1 : j = 0
          · subst ht1
            have HK1 := Lib.hid (HS.out.2 ⟨HK.out, HOK.out, fun _ => HLJ.out rfl, fun h => by omega⟩)
            generalize Lend.strOf x.low = K1 at *
            go_wp2_with fail
            go_quiet (fail)
            go_wp2_with fail
            go_roundw
            case rel => exact ⟨1, by omega, by go_num, HK1, bel_q HB3.out⟩
            case measure => simp [intOf]; omega
          · obtain ⟨v, rfl⟩ : ∃ v, j = v + 1 := ⟨j - 1, by omega⟩
            have hvl : v < cs.length := by omega
            have b1 : w3.cell? ⟨g, off + v * 4, none⟩ = some (.string (Lend.strOf cs[v].low)) := cr_low (HC.out.below HB3.out) v hvl
            have hwr : IntKind.i64.wrap (((v + 1 : Nat) : Int) - 1) = (v : Int) := by rw [show ((v + 1 : Nat) : Int) - 1 = v by omega]; exact IntWalk.i64_in _ (by omega)
            have hr0 : 0 ≤ (v : Int) := by omega
            have hr1 : (v : Int) < (n : Int) := by omega
            have hrz : (0 : Int) < ((v + 1 : Nat) : Int) := by omega
            have HK1 := Lib.hid (fun hk : kLt cs[v].low x.low = true => HS.out.2 ⟨HK.out, HOK.out, (fun h => by omega), fun _ => by simpa using hk⟩)
            have HR := Lib.hid (fun hk : kLt cs[v].low x.low = false => HNO.out fun hk' => by
              have := (HS.out.1 hk').2.2.2 (Nat.succ_pos _)
              simp only [Nat.add_sub_cancel] at this
              rw [hk] at this; cases this)
            have hbl := bl_str cs[v].low x.low
            cases hk : kLt cs[v].low x.low with
            | true =>
              have HK1 := Lib.hid (HK1.out hk)
              rw [hk] at hbl
              clear hk HR
              generalize Lend.strOf cs[v].low = K0 at *
              generalize Lend.strOf x.low = K1 at *
              go_wp2_with fail
              go_quiet (fail)
              go_wp2_with fail
              go_roundw
              case rel => exact ⟨v + 2, by omega, by go_num, HK1, bel_q HB3.out⟩
              case measure => simp [intOf]; omega
            | false =>
              have HR := Lib.hid (HR.out hk)
              rw [hk] at hbl
              clear hk HK1
              generalize Lend.strOf cs[v].low = K0 at *
              generalize Lend.strOf x.low = K1 at *
              go_wp2_with fail
              go_quiet (fail)
              go_wp2_with fail
              go_ret
              exact ⟨by rw [HR.out]; first | done | rfl, bel_q HB3.out⟩
      · obtain rfl : j = n := by omega
        have hji : ¬ ((j : Int) < (j : Int)) := by omega
        have HKB := Lib.hid ((kidB_iff cs).2 ⟨by have := HN.out; omega, by have := HK.out; rw [HN.out] at this; exact this⟩)
        go_wp2_with fail
        go_ret
        exact ⟨by rw [HKB.out]; first | done | rfl, hb⟩
  · have hk1 : ¬ (Lend.strOf (cs[0]'hjl).low).toList = [] := str_ne hl0
    have hk2 : (Lend.strOf (cs[0]'hjl).low).toList.isEmpty = false := by rw [List.isEmpty_eq_false_iff]; exact hk1
    have HR := Lib.hid (kidB_head hjl hl0)
    generalize Lend.strOf (cs[0]'hjl).low = K0 at *
    go_wp2_with fail
    go_ret
    exact ⟨by rw [HR.out]; first | done | rfl, Below.refl _ _⟩
theorem nodB_kb {cs : List Ch} {us : List Up} (h : nodB cs us = true) : kidB cs = true := (nod_parts h).1
theorem nodB_long {cs : List Ch} {us : List Up} (h : 64 < us.length) : nodB cs us = false := nodB_len (by omega)
set_option maxRecDepth 100000 in
set_option maxHeartbeats 8000000 in
/-- Right, of a node whose messages rise -/
theorem right_any {w : World} {kv bv : Value} {cs : List Ch} {us : List Up} (h : CR w kv cs) (hu : UR w bv us) (hwc : ∀ c ∈ cs, WfC c) (hwf : ∀ u ∈ us, WfU u) (hr : risB us = true) :
    Calls Try.prog 11 #[.agg #[kv, bv]] w fun e w' => e = .returned (.bool (nodB cs us)) ∧ Below w.heap.size w w' := by
  obtain ⟨a, cap, rfl⟩ := h.slice
  obtain ⟨b, cbp, rfl⟩ := hu.slice
  obtain ⟨w1, hw1⟩ : ∃ x, x = w.alloc (.cells #[.slice a cs.length cap, .slice b us.length cbp] 31) := ⟨_, rfl⟩
  have HX := Lib.hid (show Has w1 w.heap.size 31 [.slice a cs.length cap, .slice b us.length cbp] by rw [hw1]; exact Has.new w _ _)
  have HB := Lib.hid (show Below w.heap.size w w1 by rw [hw1]; exact below_new w _)
  have HC := Lib.hid (h.below HB.out)
  have HU := Lib.hid (hu.below HB.out)
  have HRC := Lib.hid (rightch_any HC.out hwc)
  have HW := Lib.hid hwf
  have HE : Hid (kidB cs = true → us.length ≤ 64 → nodB cs us = decide (errL us = 0)) := Lib.hid fun h1 h2 => by
    unfold nodB
    rw [h1, hr, show decide (us.length ≤ 64) = true from by simpa using h2]
    simp
  have HKN := Lib.hid (fun h => nodB_k (cs := cs) (us := us) h)
  have HLN := Lib.hid (fun h => nodB_long (cs := cs) (us := us) h)
  obtain ⟨n, hn⟩ : ∃ n, n = cs.length := ⟨_, rfl⟩
  obtain ⟨m, hm⟩ : ∃ m, m = us.length := ⟨_, rfl⟩
  have HM := Lib.hid hm
  rw [← hn] at hw1 HX HC HRC
  rw [← hm] at hw1 HX HU HE HLN
  rw [← hn, ← hm]
  have x0 : w1.cell? ⟨w.heap.size, 0, none⟩ = some (.slice a n cap) := HX.out.cell 0
  clear h hu hwf hwc hn hm hr
  go_enter Try.func11, Try.ntmps11
  go_wp2_with fail
  rw [← hw1]
  clear hw1
  refine HRC.out.mono ?_
  clear HRC
  rintro e w2 ⟨rfl, hb2⟩
  have HB2 := Lib.hid (below_on HB.out hb2)
  have HX2 := Lib.hid (HX.out.below hb2 HX.out.lt)
  have HU2 := Lib.hid (HU.out.below hb2)
  clear hb2 x0
  cases hk : kidB cs with
  | false =>
    have HR := Lib.hid (HKN.out hk)
    clear hk
    go_wp2_with fail
    go_ret
    exact ⟨by rw [HR.out]; first | done | rfl, HB2.out⟩
  | true =>
    have HLE := Lib.hid (by have h := len_any (w := w2) HU2.out; rw [← HM.out] at h; exact h)
    have x1 : w2.cell? ⟨w.heap.size, 1, none⟩ = some (.slice b m cbp) := HX2.out.cell 1
    have HKB := Lib.hid hk
    clear hk
    go_wp2_with fail
    refine HLE.out.mono ?_
    clear HLE
    rintro e w3 ⟨rfl, hb3⟩
    have HB3 := Lib.hid (below_on HB2.out hb3)
    have HX3 := Lib.hid (HX2.out.below hb3 HX2.out.lt)
    have HU3 := Lib.hid (HU2.out.below hb3)
    clear hb3 x1
    by_cases h64 : 64 < m
    · have h64' : (64 : Int) < (m : Int) := by omega
      have HR := Lib.hid (HLN.out h64)
      go_wp2_with fail
      go_ret
      exact ⟨by rw [HR.out]; first | done | rfl, HB3.out⟩
    · have h64' : ¬ (64 : Int) < (m : Int) := by omega
      have x1 : w3.cell? ⟨w.heap.size, 1, none⟩ = some (.slice b m cbp) := HX3.out.cell 1
      have HT := Lib.hid (btext_any (w := w3) HU3.out (by have := HM.out; omega) HW.out)
      have HR := Lib.hid (HE.out HKB.out (by omega))
      go_wp2_with fail
      refine HT.out.mono ?_
      clear HT
      rintro e w4 ⟨rfl, hb4⟩
      have HB4 := Lib.hid (below_on HB3.out hb4)
      clear hb4
      generalize Lend.strOf (txT us) = T at *
      generalize errL us = E at *
      go_wp2_with fail
      go_ret
      exact ⟨by rw [HR.out]; rfl, HB4.out⟩
theorem loC_no {l : List Ch} {i : Int} (h : i < 0 ∨ (l.length : Int) ≤ i) : loC l i = [] ∧ hiC l i = [] := by
  unfold loC hiC
  rw [if_neg (by omega), if_neg (by omega)]
  exact ⟨rfl, rfl⟩
theorem loC_at {l : List Ch} {i : Nat} (h : i < l.length) : loC l (i : Int) = l[i].low := by
  unfold loC
  rw [if_pos ⟨by omega, by omega⟩, Int.toNat_natCast, List.getElem?_eq_getElem h]
theorem hiC_last {l : List Ch} {i : Nat} (h : i + 1 = l.length) : hiC l (i : Int) = [] := by
  unfold hiC
  rw [if_neg (by omega)]
theorem hiC_at {l : List Ch} {i : Nat} (h : i + 1 < l.length) : hiC l (i : Int) = l[i + 1].low := by
  unfold hiC
  rw [if_pos ⟨by omega, by omega⟩, Int.toNat_natCast, List.getElem?_eq_getElem h]
theorem ret_ss {a b c d : ByteArray} (h1 : a = c) (h2 : b = d) : Ending.returned (.tuple #[.string a, .string b]) = .returned (.tuple #[.string c, .string d]) := by rw [h1, h2]
set_option maxRecDepth 100000 in
set_option maxHeartbeats 8000000 in
theorem range_any {w : World} {kv bv : Value} {cs : List Ch} (i : Int) (h : CR w kv cs) (hl : cs.length ≤ 1000000) :
    Calls Try.prog 15 #[.agg #[kv, bv], .int .i64 i] w fun e w' => e = .returned (.tuple #[.string (Lend.strOf (loC cs i)), .string (Lend.strOf (hiC cs i))]) ∧ Below w.heap.size w w' := by
  obtain ⟨a, cap, rfl⟩ := h.slice
  obtain ⟨w1, hw1⟩ : ∃ x, x = w.alloc (.cells #[.slice a cs.length cap, bv] 31) := ⟨_, rfl⟩
  have HX := Lib.hid (show Has w1 w.heap.size 31 [.slice a cs.length cap, bv] by rw [hw1]; exact Has.new w _ _)
  have HB := Lib.hid (show Below w.heap.size w w1 by rw [hw1]; exact below_new w _)
  have HC := Lib.hid (h.below HB.out)
  have HNO := Lib.hid (fun h => loC_no (l := cs) (i := i) h)
  obtain ⟨n, hn⟩ : ∃ n, n = cs.length := ⟨_, rfl⟩
  have HN := Lib.hid hn
  rw [← hn] at hw1 HX HC HNO hl ⊢
  have x0 : w1.cell? ⟨w.heap.size, 0, none⟩ = some (.slice a n cap) := HX.out.cell 0
  have hwr : IntKind.i64.wrap ((n : Int) - 1) = (n : Int) - 1 := IntWalk.i64_in _ (by omega)
  clear h hn
  go_enter Try.func15, Try.ntmps15
  go_upto_region 1 with fail
  rw [← hw1]
  clear hw1
  by_cases h0 : i < 0
  · have HR := Lib.hid (HNO.out (.inl h0))
    go_wp2_with fail
    go_ret2
    exact ⟨ret_ss (by rw [HR.out.1]; rfl) (by rw [HR.out.2]; rfl), HB.out⟩
  by_cases h1 : (n : Int) - 1 < i
  · have HR := Lib.hid (HNO.out (.inr (by omega)))
    go_wp2_with fail
    go_ret2
    exact ⟨ret_ss (by rw [HR.out.1]; rfl) (by rw [HR.out.2]; rfl), HB.out⟩
  obtain ⟨k, rfl⟩ : ∃ k : Nat, i = k := ⟨i.toNat, by omega⟩
  have hkl : k < cs.length := by rw [← HN.out]; omega
  have hk0 : 0 ≤ (k : Int) := by omega
  have hk1 : (k : Int) < (n : Int) := by omega
  obtain ⟨g, off, rfl⟩ := cr_some HC.out (by omega)
  have c0 := cr_low HC.out k hkl
  by_cases h2 : k + 1 = n
  · have HR := Lib.hid (And.intro (loC_at hkl) (hiC_last (l := cs) (i := k) (by rw [← HN.out]; exact h2)))
    subst h2
    clear hwr h1
    have hwr : IntKind.i64.wrap (((k + 1 : Nat) : Int) - 1) = (k : Int) := by rw [show ((k + 1 : Nat) : Int) - 1 = k by omega]; exact IntWalk.i64_in _ (by omega)
    go_wp2_with fail
    go_ret2
    exact ⟨ret_ss (by rw [HR.out.1]) (by rw [HR.out.2]; rfl), HB.out⟩
  · have h2' : ¬ (k : Int) = (n : Int) - 1 := by omega
    have hk2 : k + 1 < cs.length := by rw [← HN.out]; omega
    have c1 := cr_low HC.out (k + 1) hk2
    have HR := Lib.hid (And.intro (loC_at hkl) (hiC_at hk2))
    have hw2 : IntKind.i64.wrap ((k : Int) + 1) = ((k + 1 : Nat) : Int) := IntWalk.i64_in _ (by omega)
    have hk3 : 0 ≤ ((k + 1 : Nat) : Int) := by omega
    have hk4 : ((k + 1 : Nat) : Int) < (n : Int) := by omega
    generalize cs[k].low = K0 at *
    generalize cs[k + 1].low = K1 at *
    go_wp2_with fail
    go_quiet (fail)
    go_wp2_with fail
    exact bodyPost_ret (v := .tuple #[.string (Lend.strOf K0), .string (Lend.strOf K1)]) (by simp [results, Try.results15, go_sem]) rfl ⟨ret_ss (by rw [HR.out.1]) (by rw [HR.out.2]), bel_q HB.out⟩
set_option maxRecDepth 100000 in
set_option maxHeartbeats 8000000 in
theorem ctext_any {c : Ch} (w : World) (hwc : WfC c) (hl : c.low.length ≤ 255) (ha : Env.adB c.addr = true) :
    Calls Try.prog 26 #[.agg #[.string (Lend.strOf c.low), .int .i64 c.addr, .int .u64 c.gen, .int .u32 c.sum]] w fun e w' => e = .returned (.string (Lend.strOf (txC c))) ∧ Below w.heap.size w w' := by
  obtain ⟨w1, hw1⟩ : ∃ x, x = w.alloc (.cells #[.string (Lend.strOf c.low), .int .i64 c.addr, .int .u64 c.gen, .int .u32 c.sum] 76) := ⟨_, rfl⟩
  have HX := Lib.hid (show Has w1 w.heap.size 76 (encC c) by rw [hw1]; exact Has.new w _ _)
  have HB := Lib.hid (show Below w.heap.size w w1 by rw [hw1]; exact below_new w _)
  have HJ := Lib.hid (show Calls Try.prog 46 #[.string (Lend.strOf c.low)] w1 fun e w' => e = .returned (.tuple #[.string (Lend.strOf (len8 c.low)), .bool true]) ∧ Below w1.heap.size w1 w' by
    have h := join_any (Lend.strOf c.low) w1 (by rw [ssize]; omega)
    rw [Lend.strOf_data] at h
    rw [show jnS c.low = len8 c.low by unfold jnS len8; rw [if_pos hl], show jnB c.low = true by unfold jnB; simpa using hl] at h
    exact h)
  have HF := Lib.hid (show PtrE.ptS c.addr c.gen c.sum = Lend.strOf (encL Env.ptrW [c.addr, c.gen, c.sum]) by unfold PtrE.ptS; rw [if_pos ha])
  have HPT := Lib.hid (fun W => PtrE.text_any c.addr c.gen c.sum W hwc.2.1.1 hwc.2.1.2 hwc.2.2.1 hwc.2.2.2)
  have HTX := Lib.hid (show Lend.strOf (len8 c.low) ++ Lend.strOf (encL Env.ptrW [c.addr, c.gen, c.sum]) = Lend.strOf (txC c) from sapp _ _)
  have hs1 := ssize (len8 c.low)
  have hs2 := ssize (encL Env.ptrW [c.addr, c.gen, c.sum])
  have hs3 : (len8 c.low).length ≤ 256 := by unfold len8; rw [List.length_cons]; omega
  have hs4 : (encL Env.ptrW [c.addr, c.gen, c.sum]).length ≤ 16 := by
    have : ((encL Env.ptrW [c.addr, c.gen, c.sum]).length : Int) = sumW Env.ptrW := encL_length _ _ Env.ptrW_ok rfl
    have e : sumW Env.ptrW = 16 := rfl
    omega
  have y0 : w1.cell? ⟨w.heap.size, 0, none⟩ = some (.string (Lend.strOf c.low)) := HX.out.cell 0
  clear hwc hl ha
  generalize Lend.strOf (len8 c.low) = T at *
  generalize Lend.strOf (txC c) = R at *
  go_enter Try.func26, Try.ntmps26
  go_wp2_with fail
  rw [← hw1]
  clear hw1
  go_wp2_with fail
  refine HJ.out.mono ?_
  clear HJ y0
  rintro e w2 ⟨rfl, hb2⟩
  have HB2 := Lib.hid (below_on HB.out hb2)
  have HX2 := Lib.hid (HX.out.below hb2 HX.out.lt)
  have y1 : w2.cell? ⟨w.heap.size, 1, none⟩ = some (.int .i64 c.addr) := HX2.out.cell 1
  have y2 : w2.cell? ⟨w.heap.size, 2, none⟩ = some (.int .u64 c.gen) := HX2.out.cell 2
  have y3 : w2.cell? ⟨w.heap.size, 3, none⟩ = some (.int .u32 c.sum) := HX2.out.cell 3
  have HP2 := Lib.hid (HPT.out w2)
  rw [HF.out] at HP2
  clear hb2
  generalize Lend.strOf (encL Env.ptrW [c.addr, c.gen, c.sum]) = U at *
  have hz : ¬ 9223372036854775807 < T.size + U.size := by omega
  clear hs1 hs2 hs3 hs4
  go_wp2_with fail
  refine HP2.out.mono ?_
  clear HP2
  rintro e w3 ⟨rfl, hb3⟩
  have HB3 := Lib.hid (below_on HB2.out hb3)
  clear hb3 y1 y2 y3
  go_wp2_with fail
  go_ret
  exact ⟨by rw [← HTX.out]; rfl, HB3.out⟩
end Go.Proofs.Ytfclecbhfamomaa.Node
