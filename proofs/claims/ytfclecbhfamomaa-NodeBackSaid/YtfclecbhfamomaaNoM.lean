/- Layer 17 (node): the law's tame. -/
import Derived.BigRegion
import Derived.Test.YtfclecbhfamomaaNoF
import Derived.Test.YtfclecbhfamomaaNoB
namespace Go.Proofs.Ytfclecbhfamomaa.Node
open Go Go.RowKit Go.Proofs.Ytfclecbhfamomaa Go.Proofs.Ytfclecbhfamomaa.Lend Go.Proofs.Ytfclecbhfamomaa.Rec Go.Proofs.Ytfclecbhfamomaa.Msg Go.Proofs.Ytfclecbhfamomaa.Buf
set_option linter.unusedVariables false
set_option linter.unusedSimpArgs false

/-- what tame makes -/
def tm1 (i : Nat) (c : Ch) : Ch := ⟨UInt8.ofNat (4 * i + 4 + c.low.length % 4) :: c.low.take 10, max 0 c.addr % 2147483648, c.gen, c.sum⟩
def tmJ (cs : List Ch) (j : Nat) : List Ch := ⟨[], 1, 0, 0⟩ :: (List.range j).map fun i => tm1 i (chG cs i)
def tmC (cs : List Ch) : List Ch := tmJ cs (min cs.length 15)
theorem tmJ_succ {cs : List Ch} {j : Nat} (h : j < cs.length) : tmJ cs (j + 1) = tmJ cs j ++ [tm1 j cs[j]] := by
  unfold tmJ
  rw [List.range_succ, List.map_append, List.map_cons, List.map_nil, chG_at h, List.cons_append]
theorem tmJ_len (cs : List Ch) (j : Nat) : (tmJ cs j).length = j + 1 := by simp [tmJ]
theorem isC_l : IsC 72 := by unfold IsC; kernel_rfl
theorem und_l : Try.prog.underlying 22 = some (.slice 72) := Try.underlying22
set_option maxRecDepth 100000 in
set_option maxHeartbeats 16000000 in
theorem tame_any {w : World} {a : Option Addr} {cap : Nat} {cs : List Ch} (h : CR w (.slice a cs.length cap) cs) (hc1 : cs.length ≤ cap) (hc2 : cap ≤ 9223372036854775807) (hq : ∀ c ∈ cs, c.low.length ≤ 140737488355327) (hwf : ∀ c ∈ cs, WfC c) :
    Calls Try.prog 7 #[.slice a cs.length cap] w fun e w' => ∃ v, e = .returned v ∧ CO 72 w' w.heap.size v (tmC cs) ∧ Below w.heap.size w w' := by
  obtain ⟨w1, hw1⟩ : ∃ z, z = w.alloc (.cells #[.string ⟨#[]⟩, .int .i64 1, .int .u64 0, .int .u32 0] 72) := ⟨_, rfl⟩
  have HO1 := Lib.hid (show CO 72 w1 w.heap.size (.slice (some ⟨w.heap.size, 0, none⟩) 1 1) (tmJ cs 0) by
    rw [hw1]
    exact ⟨rfl, .inr ⟨w.heap.size, 1, _, rfl, Nat.le_refl _, World.alloc_heap_new w _, Nat.le_refl _, by unfold maxLen; omega, rfl, rfl⟩⟩)
  have HB1 := Lib.hid (show Below w.heap.size w w1 by rw [hw1]; exact below_new w _)
  have HC := Lib.hid (fun (W : World) (hb : Below w.heap.size w W) => h.below hb)
  have HQ := Lib.hid hq
  have HWF := Lib.hid hwf
  have HCA := Lib.hid (And.intro hc1 hc2)
  obtain ⟨p, hp⟩ : ∃ n, n = cs.length := ⟨_, rfl⟩
  have HP := Lib.hid hp
  rw [← hp] at HC HCA ⊢
  obtain ⟨n, hn⟩ : ∃ n, n = min p 15 := ⟨_, rfl⟩
  have HNN := Lib.hid hn
  clear h hc1 hc2 hq hwf hp hn
  go_enter Try.func7, Try.ntmps7
  go_upto_region 2 with fail
  rw [← hw1]
  clear hw1
  go_cut [12, 13, 14] (fun s t i wx => ∃ a' cap', s = .slice a' n cap' ∧ t = .int .i64 n ∧ i = .int .i64 ((0 : Nat) : Int) ∧ (0 < n → a' = a) ∧ wx = w1)
  case first =>
    have hnc := HCA.out
    go_wp2_with fail
    all_goals
      go_meet
      first
      | (have e : n = 15 := by have := HNN.out; omega
         exact ⟨_, _, by rw [e], by rw [e]; rfl, rfl, fun _ => rfl, rfl⟩)
      | (have e1 : (min (p : Int) 15).toNat = n := by have := HNN.out; omega
         have e2 : max (min (p : Int) 15) 0 = (n : Int) := by have := HNN.out; omega
         exact ⟨_, _, by rw [e1], by rw [e2], rfl, fun _ => rfl, rfl⟩)
      | (have e : n = p := by have := HNN.out; omega
         exact ⟨_, _, by rw [e], by rw [e], rfl, fun _ => rfl, rfl⟩)
  case rest =>
    obtain ⟨s, c, rfl, rfl, rfl, haa, hww⟩ := hcut
    have hww := hww.symm
    subst hww
    have hnl : n ≤ cs.length ∧ n ≤ 15 := by have := HNN.out; have := HP.out; omega
    obtain ⟨hnl, hn15⟩ := hnl
    have HAA := Lib.hid haa
    clear haa
    go_wp2_with fail
    go_loopw [3, 14] (fun v i wr => ∃ j : Nat, j ≤ n ∧ i = .int .i64 j ∧ CO 72 wr w.heap.size v (tmJ cs j) ∧ Below w.heap.size w wr) (fun _ i _ => n - (intOf i).toNat)
    case atStart => exact ⟨0, Nat.zero_le _, rfl, HO1.out, HB1.out⟩
    case round =>
      obtain ⟨j, hj, rfl, ho, hb⟩ := hrel
      rename World => wr
      have HO := Lib.hid ho
      have HB := Lib.hid hb
      clear ho hb
      by_cases hlt : j < n
      · have hji : (j : Int) < (n : Int) := by omega
        have hj0 : 0 ≤ (j : Int) := by omega
        have hjl : j < cs.length := by omega
        obtain ⟨g, off, ha, c0, c1, c2, c3⟩ := cr_cells (HC.out wr HB.out) j hjl
        have hs := HAA.out (by omega)
        rw [ha] at hs
        subst hs
        clear ha
        have hst := tmJ_succ hjl
        have hlow := HQ.out _ (List.getElem_mem hjl)
        have hwf := HWF.out _ (List.getElem_mem hjl)
        obtain ⟨x, hx⟩ : ∃ x, x = cs[j] := ⟨_, rfl⟩
        rw [← hx] at c0 c1 c2 c3 hst hlow hwf
        obtain ⟨K, hK⟩ : ∃ z, z = Lend.strOf x.low := ⟨_, rfl⟩
        obtain ⟨r, hr⟩ : ∃ z : Nat, z = x.low.length % 4 := ⟨_, rfl⟩
        have hKS : K.size ≤ 140737488355327 := by rw [hK, ssize]; exact hlow
        obtain ⟨w2, hw2⟩ : ∃ z, z = wr.alloc (.cells #[.string K, .int .i64 x.addr, .int .u64 x.gen, .int .u32 x.sum] 72) := ⟨_, rfl⟩
        have HX2 := Lib.hid (show Has w2 wr.heap.size 72 [.string K, .int .i64 x.addr, .int .u64 x.gen, .int .u32 x.sum] by rw [hw2]; exact Has.new wr _ _)
        have HB2 := Lib.hid (show Below wr.heap.size wr w2 by rw [hw2]; exact below_new _ _)
        rw [← hK] at c0
        have y0 : w2.cell? ⟨wr.heap.size, 0, none⟩ = some (.string K) := HX2.out.cell 0
        have f0 : w2.frozen? ⟨wr.heap.size, 0, none⟩ = false := HX2.out.frozen 0
        have z0 : wr.heap.size < w2.heap.size := HX2.out.lt
        have hrm : Int.tmod (K.size : Int) 4 = (r : Int) := by rw [hr, hK, ssize, Int.tmod_eq_emod_of_nonneg (by omega)]; omega
        have hr4 : r ≤ 3 := by omega
        have hA : IntKind.i64.wrap (4 * (j : Int)) = 4 * (j : Int) := IntWalk.i64_in _ (by omega)
        have hA2 : IntKind.i64.wrap (4 * (j : Int) + 4) = 4 * (j : Int) + 4 := IntWalk.i64_in _ (by omega)
        have hA3 : IntKind.i64.wrap (4 * (j : Int) + 4 + (r : Int)) = 4 * (j : Int) + 4 + (r : Int) := IntWalk.i64_in _ (by omega)
        obtain ⟨nb, hnb⟩ : ∃ z : Nat, z = 4 * j + 4 + r := ⟨_, rfl⟩
        have hU : IntKind.u8.wrap (4 * (j : Int) + 4 + (r : Int)) = (nb : Int) := by rw [IntKind.wrap_u8]; omega
        have hKK := Lib.hid hK
        have HST := Lib.hid hst
        have HRR := Lib.hid hr
        have HNB := Lib.hid hnb
        have HWX := Lib.hid hwf
        clear hst hwf hx hlow hr hnb hK
        go_upto_region 5 with fail
        rw [← hw2]
        clear hw2 c0 c1 c2 c3
        go_cut [] (fun wx => Has wx wr.heap.size 72 [.string (Lend.strOf (tm1 j x).low), .int .i64 x.addr, .int .u64 x.gen, .int .u32 x.sum] ∧ Below wr.heap.size wr wx)
        case first =>
          obtain ⟨Q', hQ'⟩ : ∃ z, z = Lend.strOf [UInt8.ofNat nb] := ⟨_, rfl⟩
          have hcv := conv_has (n := nb) (by have := HNB.out; omega) (Has.new w2 [.int .u8 nb] 5).drew
          rw [← hQ'] at hcv
          have hcv2 : (convert 54 9 (.slice (some ⟨w2.heap.size, 0, none⟩) 1 1)).run Try.prog (w2.alloc (.cells #[.int .u8 nb] 5)).drew = .ok (.string Q') (w2.alloc (.cells #[.int .u8 nb] 5)).drew := hcv
          clear hcv
          have hqz : Q'.size = 1 := by rw [hQ', ssize]; rfl
          have HE1 := Lib.hid (show 10 ≤ K.size → Q' ++ K.extract 0 10 = Lend.strOf (tm1 j x).low from fun h10 => by
            have e1 : (10 : Nat) = min K.size 10 := by omega
            rw [e1, hKK.out, takeS, hQ', sapp]
            unfold tm1
            rw [HNB.out, HRR.out]
            rfl)
          have HE2 := Lib.hid (show K.size ≤ 10 → Q' ++ K = Lend.strOf (tm1 j x).low from fun h10 => by
            have e1 : x.low.take 10 = x.low := List.take_of_length_le (by rw [hKK.out, ssize] at h10; exact h10)
            rw [hKK.out, hQ', sapp]
            unfold tm1
            rw [HNB.out, HRR.out, e1]
            rfl)
          clear hQ'
          go_region
          go_wp2_with fail
          all_goals go_meet
          all_goals first
          | (rw [HE1.out (by omega)]; exact ⟨((HX2.out.set 0 _).alloc _).drew, ((HB2.out.setCell (Nat.le_refl _) _).alloc (by simp; omega) _).drew⟩)
          | (rw [HE2.out (by omega)]; exact ⟨((HX2.out.set 0 _).alloc _).drew, ((HB2.out.setCell (Nat.le_refl _) _).alloc (by simp; omega) _).drew⟩)
        case rest =>
          obtain ⟨hx3, hb3⟩ := hcut
          rename World => w3
          have HX3 := Lib.hid hx3
          have HB3 := Lib.hid hb3
          have y1 : w3.cell? ⟨wr.heap.size, 1, none⟩ = some (.int .i64 x.addr) := HX3.out.cell 1
          have f1 : w3.frozen? ⟨wr.heap.size, 1, none⟩ = false := HX3.out.frozen 1
          clear hx3 hb3 y0 f0 hrm hA hA2 hA3 hU hr4 z0
          go_upto_region 6 with fail
          obtain ⟨ad, had⟩ : ∃ z, z = max 0 x.addr % 2147483648 := ⟨_, rfl⟩
          go_cut [] (fun wx => Has wx wr.heap.size 72 (encC (tm1 j x)) ∧ Below wr.heap.size wr wx)
          case first =>
            go_wp2_with fail
            all_goals go_meet
            all_goals first
            | (have e : max 0 x.addr % 2147483648 = x.addr % 2147483648 := by rw [show max 0 x.addr = x.addr by omega]
               rw [← e]
               exact ⟨HX3.out.set 1 _, HB3.out.setCell (Nat.le_refl _) _⟩)
            | (have e : max 0 x.addr % 2147483648 = 0 := by rw [show max 0 x.addr = 0 by omega]; rfl
               rw [← e]
               exact ⟨HX3.out.set 1 _, HB3.out.setCell (Nat.le_refl _) _⟩)
          case rest =>
            obtain ⟨hx4, hb4⟩ := hcut
            rename World => w4
            have HO4 := Lib.hid (own_bel HO.out hb4)
            have HB4 := Lib.hid (below_on HB.out hb4)
            obtain ⟨y, hy⟩ : ∃ z, z = tm1 j x := ⟨_, rfl⟩
            rw [← hy] at hx4 HST
            have HX4 := Lib.hid hx4
            obtain ⟨va, vc, hv, _⟩ := own_shape HO4.out
            subst hv
            obtain ⟨Cj, hCj⟩ : ∃ z, z = tmJ cs j := ⟨_, rfl⟩
            have hjl2 := tmJ_len cs j
            rw [← hCj] at HST HO4 hjl2
            rw [hjl2] at HO4
            have HJL := Lib.hid hjl2
            have y0 : w4.cell? ⟨wr.heap.size, 0, none⟩ = some (.string (Lend.strOf y.low)) := HX4.out.cell 0
            have y1 : w4.cell? ⟨wr.heap.size, 1, none⟩ = some (.int .i64 y.addr) := HX4.out.cell 1
            have y2 : w4.cell? ⟨wr.heap.size, 2, none⟩ = some (.int .u64 y.gen) := HX4.out.cell 2
            have y3 : w4.cell? ⟨wr.heap.size, 3, none⟩ = some (.int .u32 y.sum) := HX4.out.cell 3
            rw [← hCj, hjl2]
            clear hx4 hb4 hy hCj hjl2
            obtain ⟨i0, hi, hz0, hz1, hz2⟩ := info_parts isC_l
            have HNW := Lib.hid (has_news (Has.new w4 (encC y) 72))
            go_wp2_with (at_builtin; refine wpList_append_own _ rfl _ _ 22 rfl w.heap.size 72 i0 _ 4 40 und_l hi hz0 hz1 hz2 rfl (by decide) _ (j + 1) (flatC Cj) rfl (HO4.out.alloc _) ⟨w4.heap.size, 0, none⟩ 1 1 (encC y) rfl rfl HNW.out (encC_one y) ?c1 ?c2 ?c3 ?_)
            case c1 => unfold maxLen; omega
            case c2 => omega
            case c3 => exact Nat.le_trans HB4.out.size (by simp)
            intro v6 w6 hown6 hgr6 _
            have HB6 := Lib.hid ((below_nw HB4.out (.cells #[.string (Lend.strOf y.low), .int .i64 y.addr, .int .u64 y.gen, .int .u32 y.sum] 72)).grown hgr6 (Nat.le_trans HB4.out.size (by simp)) (fun q hq => (HO4.out.lt q hq).1))
            have HO6 := Lib.hid (show CO 72 w6 w.heap.size v6 (tmJ cs (j + 1)) by
              rw [HST.out]
              unfold CO
              rw [flatC_snoc, List.length_append, HJL.out]
              exact hown6)
            clear hown6 hgr6 y0 y1 y2 y3 hi hz0 hz1 hz2
            go_wp2_with fail
            go_roundw
            case rel => exact ⟨j + 1, by omega, by go_num, HO6.out, HB6.out⟩
            case measure => simp [intOf]; omega
      · obtain rfl : j = n := by omega
        have hji : ¬ ((j : Int) < (j : Int)) := by omega
        have he : tmJ cs j = tmC cs := by
          unfold tmC
          rw [show j = min cs.length 15 by have := HNN.out; have := HP.out; omega]
        rw [he] at HO
        go_wp2_with fail
        go_ret
        exact ⟨_, rfl, HO.out, HB.out⟩
end Go.Proofs.Ytfclecbhfamomaa.Node
/- Layer 17 (node): plain mathematics: what tame makes may be; the bytes told again, and cut. -/
namespace Go.Proofs.Ytfclecbhfamomaa.Node
open Go Go.RowKit Go.Proofs.Ytfclecbhfamomaa Go.Proofs.Ytfclecbhfamomaa.Lend Go.Proofs.Ytfclecbhfamomaa.Rec Go.Proofs.Ytfclecbhfamomaa.Msg Go.Proofs.Ytfclecbhfamomaa.Buf
set_option linter.unusedVariables false

theorem tmJ_zero (cs : List Ch) (k : Nat) (h : 0 < (tmJ cs k).length) : (tmJ cs k)[0] = ⟨[], 1, 0, 0⟩ := rfl
theorem tmJ_at (cs : List Ch) (k j : Nat) (h : j + 1 < (tmJ cs k).length) : (tmJ cs k)[j + 1]'h = tm1 j (chG cs j) := by
  have e : (tmJ cs k)[j + 1]? = some (tm1 j (chG cs j)) := by
    have hj : j < k := by rw [tmJ_len] at h; omega
    show ((List.range k).map fun i => tm1 i (chG cs i))[j]? = _
    rw [List.getElem?_map, List.getElem?_range hj]; rfl
  rw [List.getElem?_eq_getElem h] at e
  exact Option.some.inj e
theorem tm1_low (j : Nat) (c : Ch) : (tm1 j c).low = UInt8.ofNat (4 * j + 4 + c.low.length % 4) :: c.low.take 10 := rfl
theorem tmC_len (cs : List Ch) : (tmC cs).length = min cs.length 15 + 1 := tmJ_len cs _
theorem tmC_mem {cs : List Ch} (hw : ∀ c ∈ cs, WfC c) {x : Ch} (hx : x ∈ tmC cs) : WfC x ∧ x.low.length ≤ 11 ∧ okC x = true := by
  unfold tmC tmJ at hx
  rcases List.mem_cons.1 hx with rfl | hx
  · exact ⟨⟨by decide, by decide, by decide⟩, by decide, by decide⟩
  · obtain ⟨j, hj, rfl⟩ := List.mem_map.1 hx
    rw [List.mem_range] at hj
    have hjl : j < cs.length := by omega
    have hw1 := hw _ (List.getElem_mem hjl)
    rw [chG_at hjl]
    refine ⟨⟨?_, hw1.2.1, hw1.2.2⟩, ?_, ?_⟩
    · show -9223372036854775808 ≤ max 0 cs[j].addr % 2147483648 ∧ _
      have : max 0 cs[j].addr % 2147483648 ≤ 2147483647 := by omega
      have : 0 ≤ max 0 cs[j].addr % 2147483648 := by omega
      show -9223372036854775808 ≤ max 0 cs[j].addr % 2147483648 ∧ max 0 cs[j].addr % 2147483648 ≤ 9223372036854775807
      omega
    · rw [tm1_low, List.length_cons, List.length_take]; omega
    · unfold okC Env.adB
      rw [tm1_low, List.length_cons, List.length_take]
      show (decide (0 ≤ max 0 cs[j].addr % 2147483648) && decide (max 0 cs[j].addr % 2147483648 ≤ 2147483647) && _) = true
      simp only [Bool.and_eq_true, decide_eq_true_eq]
      omega
theorem tmC_kid {cs : List Ch} (hw : ∀ c ∈ cs, WfC c) : kidB (tmC cs) = true := by
  rw [kidB_iff]
  have hl := tmC_len cs
  refine ⟨by omega, fun j hj _ => (tmC_mem hw (List.getElem_mem hj)).2.2, fun h _ => rfl, fun j hj _ => ?_⟩
  have hl2 : (tmJ cs (min cs.length 15)).length = min cs.length 15 + 1 := tmJ_len cs _
  have hj' : j + 1 < (tmJ cs (min cs.length 15)).length := hj
  show kLt ((tmJ cs (min cs.length 15))[j]'(by omega)).low ((tmJ cs (min cs.length 15))[j + 1]'hj').low = true
  rw [tmJ_at cs _ j hj', tm1_low]
  cases j with
  | zero => rfl
  | succ i =>
    rw [tmJ_at cs _ i (by omega), tm1_low, kLt_cons]
    have : UInt8.ofNat (4 * i + 4 + (chG cs i).low.length % 4) < UInt8.ofNat (4 * (i + 1) + 4 + (chG cs (i + 1)).low.length % 4) := by
      rw [UInt8.lt_iff_toNat_lt, UInt8.toNat_ofNat', UInt8.toNat_ofNat']
      omega
    rw [decide_eq_true this, Bool.true_or]
theorem ofC_wf {cs : List Ch} (hw : ∀ c ∈ cs, WfC c) : ∀ c ∈ ofC cs, WfC c := by
  intro c hc
  obtain ⟨x, hx, rfl⟩ := List.mem_map.1 hc
  exact hw x (List.mem_of_mem_take hx)
theorem ofC_len (cs : List Ch) : (ofC cs).length ≤ 20 := by unfold ofC; rw [List.length_map, List.length_take]; omega
theorem ofC_tm {cs : List Ch} (hw : ∀ c ∈ cs, WfC c) : ofC (tmC cs) = tmC cs := by
  unfold ofC
  rw [List.take_of_length_le (by rw [tmC_len]; omega)]
  refine (List.map_congr_left (g := id) fun x hx => ?_).trans (List.map_id _)
  unfold ct
  rw [List.take_of_length_le (by have := (tmC_mem hw hx).2.1; omega)]
  rfl
theorem ofM_ok {ms : List Up} (hwf : ∀ u ∈ ms, WfU u) : Srt (ofM ms) ∧ (∀ x ∈ ofM ms, Tm x) ∧ (ofM ms).length ≤ 10 := by
  have h := fwU_ok (l := (ms.take 10).map upD) (fun u hu => by
    obtain ⟨v, hv, rfl⟩ := List.mem_map.1 hu
    exact upD_tm (hwf v (List.mem_of_mem_take hv)).1)
  rw [List.length_map, List.length_take] at h
  exact ⟨h.1, h.2.1, by unfold ofM; omega⟩
/- the bytes -/
theorem chB_cons (b : UInt8) (t : List UInt8) : chB (b :: t) = decide (b.toNat + 16 ≤ t.length) := by
  unfold chB splB splR
  by_cases h : b.toNat ≤ t.length
  · simp only [h, decide_true, Bool.true_and, if_true, List.length_drop]
    rw [Bool.eq_iff_iff, decide_eq_true_eq, decide_eq_true_eq]
    omega
  · simp only [h, decide_false, Bool.false_and]
    rw [eq_comm, decide_eq_false_iff_not]
    omega
/-- a child that Text writes -/
def Kd (c : Ch) : Prop := c.low.length ≤ 16 ∧ (0 ≤ c.addr ∧ c.addr ≤ 2147483647) ∧ (0 ≤ c.gen ∧ c.gen < 18446744073709551616) ∧ (0 ≤ c.sum ∧ c.sum < 4294967296)
theorem kd_of {cs : List Ch} (hk : kidB cs = true) (hw : ∀ c ∈ cs, WfC c) : ∀ c ∈ cs, Kd c := by
  intro c hc
  obtain ⟨j, hj, rfl⟩ := List.mem_iff_getElem.1 hc
  have h := kid_at hk hj
  have hw1 := hw _ hc
  exact ⟨h.2.2, ⟨h.1, h.2.1⟩, hw1.2⟩
theorem ptr_len (x y z : Int) : (encL Env.ptrW [x, y, z]).length = 16 := by
  have : ((encL Env.ptrW [x, y, z]).length : Int) = sumW Env.ptrW := encL_length _ _ Env.ptrW_ok rfl
  have e : sumW Env.ptrW = 16 := rfl
  omega
theorem txC_form (c : Ch) : txC c = UInt8.ofNat c.low.length :: (c.low ++ encL Env.ptrW [c.addr, c.gen, c.sum]) := rfl
theorem txC_size (c : Ch) : (txC c).length = c.low.length + 17 := by rw [txC_form, List.length_cons, List.length_append, ptr_len]
theorem low_nat {n : Nat} (h : n ≤ 16) : (UInt8.ofNat n).toNat = n := by rw [UInt8.toNat_ofNat']; omega
theorem txC_back {c : Ch} (h : Kd c) (s : List UInt8) : chB (txC c ++ s) = true ∧ chU (txC c ++ s) = c ∧ chR (txC c ++ s) = s := by
  obtain ⟨h1, ⟨h2, h3⟩, ⟨h4, h5⟩, h6, h7⟩ := h
  have hn := low_nat h1
  have hP := ptr_len c.addr c.gen c.sum
  have e0 : txC c ++ s = UInt8.ofNat c.low.length :: (c.low ++ (encL Env.ptrW [c.addr, c.gen, c.sum] ++ s)) := by rw [txC_form, List.cons_append, List.append_assoc]
  obtain ⟨P, hPe⟩ : ∃ P, P = encL Env.ptrW [c.addr, c.gen, c.sum] := ⟨_, rfl⟩
  have hrd := rd_enc s Env.ptrW [c.addr, c.gen, c.sum] rfl Env.ptrW_ok (by
    have := (Env.ptr_fits (a := c.addr) (g := c.gen) (c := c.sum) (by omega) h5 h7).1
    unfold wrB at this
    simp only [Bool.and_eq_true, decide_eq_true_eq] at this
    exact this.2.2) (by
    intro n hx
    simp only [List.mem_cons, List.mem_nil_iff, or_false] at hx
    rcases hx with rfl | rfl | rfl
    · exact h2
    · exact h4
    · exact h6)
  rw [← hPe] at hP hrd e0
  have hsT : splT (txC c ++ s) = c.low ∧ splR (txC c ++ s) = P ++ s := by
    rw [e0]
    unfold splT splR
    simp only [hn, List.length_append]
    rw [if_pos (by omega), if_pos (by omega)]
    exact ⟨List.take_left' rfl, List.drop_left' rfl⟩
  refine ⟨?_, ?_, ?_⟩
  · rw [e0, chB_cons, hn, decide_eq_true_eq]
    simp only [List.length_append]
    omega
  · unfold chU
    rw [hsT.1, hsT.2]
    simp only [Env.ptrW, rdL, List.cons.injEq, and_true] at hrd
    obtain ⟨r1, r2, r3⟩ := hrd
    rw [List.drop_drop] at r3
    cases c
    simp only at r1 r2 r3
    congr 1
  · unfold chR
    rw [hsT.2]
    exact List.drop_left' hP
theorem kids_back : ∀ {cs : List Ch}, (∀ c ∈ cs, Kd c) → ∀ s, kidsL cs.length (txK cs ++ s) = some (cs, s)
  | [], _, s => rfl
  | c :: cs, h, s => by
    have e : txK (c :: cs) ++ s = txC c ++ (txK cs ++ s) := by unfold txK; rw [List.flatMap_cons, List.append_assoc]
    obtain ⟨h1, h2, h3⟩ := txC_back (h c (by simp)) (txK cs ++ s)
    rw [List.length_cons, e]
    unfold kidsL
    rw [if_pos h1, h3, kids_back (fun x hx => h x (by simp [hx])) s, h2]
theorem chB_cut {c : Ch} (h : Kd c) {k : Nat} (hk : k < (txC c).length) : chB ((txC c).take k) = false := by
  have hl := txC_size c
  rw [txC_form]
  cases k with
  | zero => rfl
  | succ k =>
    rw [List.take_succ_cons, chB_cons, low_nat h.1, decide_eq_false_iff_not, List.length_take, List.length_append, ptr_len]
    omega
theorem kids_cut : ∀ {cs : List Ch}, (∀ c ∈ cs, Kd c) → ∀ {k}, k < (txK cs).length → kidsL cs.length ((txK cs).take k) = none
  | [], _, k, hk => by simp [txK] at hk
  | c :: cs, h, k, hk => by
    have e : txK (c :: cs) = txC c ++ txK cs := by unfold txK; rw [List.flatMap_cons]
    rw [e, List.length_append] at hk
    rw [List.length_cons, e]
    unfold kidsL
    by_cases hc : k < (txC c).length
    · rw [List.take_append_of_le_length (by omega), chB_cut (h c (by simp)) hc]
      simp
    · rw [List.take_append, List.take_of_length_le (by omega)]
      obtain ⟨h1, h2, h3⟩ := txC_back (h c (by simp)) ((txK cs).take (k - (txC c).length))
      rw [if_pos h1, h3, kids_cut (fun x hx => h x (by simp [hx])) (by omega)]
theorem nod_okl {us : List Up} (h : errL us = 0) (hw : ∀ u ∈ us, WfU u) : OkL us := by
  intro u hu
  obtain ⟨j, hj, rfl⟩ := List.mem_iff_getElem.1 hu
  refine ⟨?_, (hw _ hu).2.2.1, (hw _ hu).2.2.2⟩
  apply Classical.byContradiction
  intro hc
  have main : ∀ k, k ≤ j → errL (us.take k) = 0 := by
    intro k
    induction k with
    | zero => intro _; rfl
    | succ k ih =>
      intro hk
      have i1 := ih (by omega)
      apply Classical.byContradiction
      intro h2
      rw [errL_step (by omega) i1] at h2
      have := errL_at (by omega : k < us.length) i1 h2
      rw [h] at this
      exact h2 this.symm
  have := errL_at hj (main j (Nat.le_refl _)) hc
  rw [h] at this
  exact hc this.symm
theorem pa_some {t : List UInt8} {l : List Up} (h : parL t = some l) (hr : risB l = true) : paN t = 0 ∧ paU t = l := by
  unfold paN paU
  rw [h]
  simp only [hr, if_true]
  exact ⟨trivial, trivial⟩
/-- told again -/
theorem pn_back {cs : List Ch} {us : List Up} (h : nodB cs us = true) (hw : ∀ c ∈ cs, WfC c) (hu : ∀ u ∈ us, WfU u) : pnK (txN cs us) = some (cs, us) := by
  obtain ⟨h1, h2, h3, h4⟩ := nod_parts h
  have hk := ((kidB_iff cs).1 h1).1
  have hb : (UInt8.ofNat cs.length).toNat = cs.length := low_nat (by omega)
  unfold txN
  rw [pnK_at (by rw [hb]; exact kids_back (kd_of h1 hw) (txL us))]
  obtain ⟨p1, p2⟩ := pa_some (parL_tx (nod_okl h3 hu)) h4
  rw [p1, p2, if_pos ⟨rfl, h⟩]
/-- cut -/
theorem pn_cut {cs : List Ch} {us : List Up} (h : nodB cs us = true) (hw : ∀ c ∈ cs, WfC c) (hu : ∀ u ∈ us, WfU u) {c : Nat} (hc : c < (txN cs us).length) : pnK ((txN cs us).take c) = none ∨ ∃ m, pnK ((txN cs us).take c) = some (cs, m) ∧ m.length < us.length := by
  obtain ⟨h1, h2, h3, h4⟩ := nod_parts h
  have hk := ((kidB_iff cs).1 h1).1
  have hb : (UInt8.ofNat cs.length).toNat = cs.length := low_nat (by omega)
  unfold txN at hc ⊢
  cases c with
  | zero => exact .inl rfl
  | succ c =>
    rw [List.take_succ_cons]
    rw [List.length_cons, List.length_append] at hc
    by_cases hcut : c < (txK cs).length
    · refine .inl (pnK_kids ?_)
      rw [hb, List.take_append_of_le_length (by omega)]
      exact kids_cut (kd_of h1 hw) hcut
    · rw [List.take_append, List.take_of_length_le (by omega)]
      rw [pnK_at (by rw [hb]; exact kids_back (kd_of h1 hw) _)]
      by_cases hp : paN ((txL us).take (c - (txK cs).length)) = 0 ∧ nodB cs (paU ((txL us).take (c - (txK cs).length))) = true
      · rw [if_pos hp]
        refine .inr ⟨_, rfl, ?_⟩
        have hp1 := hp.1
        unfold paN at hp1
        cases hq : parL ((txL us).take (c - (txK cs).length)) with
        | none => rw [hq] at hp1; cases hp1
        | some m =>
          rw [hq] at hp1
          simp only at hp1
          have hr : risB m = true := by
            cases g : risB m with
            | true => rfl
            | false => rw [g] at hp1; cases hp1
          rw [(pa_some hq hr).2]
          exact parL_cut (nod_okl h3 hu) (by omega) hq
      · rw [if_neg hp]
        exact .inl rfl
end Go.Proofs.Ytfclecbhfamomaa.Node
