/- Layer 17 (node): the law's wakes and same. -/
import Derived.BigQuiet
import Derived.Test.YtfclecbhfamomaaNoM
import Derived.Test.YtfclecbhfamomaaNoS
import Derived.Test.YtfclecbhfamomaaNoB
import Derived.Test.YtfclecbhfamomaaBufJ
namespace Go.Proofs.Ytfclecbhfamomaa.Node
open Go Go.RowKit Go.Proofs.Ytfclecbhfamomaa Go.Proofs.Ytfclecbhfamomaa.Lend Go.Proofs.Ytfclecbhfamomaa.Rec Go.Proofs.Ytfclecbhfamomaa.Msg Go.Proofs.Ytfclecbhfamomaa.Buf
set_option linter.unusedVariables false
set_option linter.unusedSimpArgs false

def wk : List Ch := [⟨[], 0, 0, 0⟩, ⟨[109], 3, 1, 0⟩]
theorem wk_wf : ∀ c ∈ wk, WfC c := by
  intro c hc
  simp only [wk, List.mem_cons, List.mem_nil_iff, or_false] at hc
  rcases hc with rfl | rfl <;> exact ⟨by decide, by decide, by decide⟩
theorem wk_nod : nodB wk [] = true := by decide
theorem wk_len : (txN wk []).length = 36 := by decide
theorem wk_parts : ttN wk [] = txN wk [] ∧ teN wk [] = 0 ∧ pnN (txN wk []) = 0 ∧ pnC (txN wk []) = wk ∧ pnU (txN wk []) = [] := by
  obtain ⟨h1, h2, h3⟩ := pn_some (pn_back wk_nod wk_wf (fun u hu => by cases hu))
  refine ⟨?_, ?_, h1, h2, h3⟩
  · unfold ttN; rw [wk_nod]; rfl
  · unfold teN; rw [wk_nod]; rfl
theorem wk_more : chI wk [109] = 1 ∧ chI wk [97] = 0 ∧ loC wk 0 = [] ∧ hiC wk 0 = [109] := by decide
set_option maxRecDepth 100000 in
set_option maxHeartbeats 16000000 in
theorem wakes_any (w : World) : Calls Try.prog 16 #[] w fun e w' => e = .returned (.bool true) ∧ Below w.heap.size w w' := by
  obtain ⟨w1, hw1⟩ : ∃ z, z = w.alloc (.cells #[.string ⟨#[]⟩, .int .i64 0, .int .u64 0, .int .u32 0, .string ⟨#[109]⟩, .int .i64 3, .int .u64 1, .int .u32 0] 76) := ⟨_, rfl⟩
  have hk : CR w1 (.slice (some ⟨w.heap.size, 0, none⟩) 2 2) wk := by
    rw [hw1]
    exact cr_has (l := wk) (Has.new w (flatC wk) _)
  obtain ⟨w2, hw2⟩ : ∃ z, z = w1.alloc (.cells #[.slice (some ⟨w.heap.size, 0, none⟩) 2 2, .slice none 0 0] 31) := ⟨_, rfl⟩
  have HB1 := Lib.hid (show Below w.heap.size w w1 by rw [hw1]; exact below_new _ _)
  have hb2 : Below w1.heap.size w1 w2 := by rw [hw2]; exact below_new _ _
  have HB2 := Lib.hid (below_on HB1.out hb2)
  have HK2 := Lib.hid (hk.below hb2)
  have HX2 := Lib.hid (show Has w2 w1.heap.size 31 [.slice (some ⟨w.heap.size, 0, none⟩) 2 2, .slice none 0 0] by rw [hw2]; exact Has.new w1 _ _)
  have HS := Lib.hid (show w1.heap.size = w.heap.size + 1 by rw [hw1]; simp)
  have HU : ∀ W : World, UR W (.slice none 0 0) [] := fun W => UR.nil W
  have HUH := Lib.hid HU
  clear hk hb2 HU
  rw [HS.out] at HX2
  have HTX := Lib.hid (text_any (bv := .slice none 0 0) HK2.out (HUH.out w2) wk_wf (fun u hu => by cases hu) rfl)
  rw [wk_parts.1, wk_parts.2.1] at HTX
  have HPA := Lib.hid (fun W => parse_any (txN wk []) W (by rw [wk_len]; omega))
  have HRA := Lib.hid (fun (W : World) (hb : Below w2.heap.size w2 W) => range_any (w := W) (bv := .slice none 0 0) 0 (HK2.out.below hb) (by decide))
  rw [wk_more.2.2.1, wk_more.2.2.2] at HRA
  have HRI := Lib.hid (fun (W : World) (hb : Below w2.heap.size w2 W) => right_any (w := W) (bv := .slice none 0 0) (HK2.out.below hb) (HUH.out W) wk_wf (fun u hu => by cases hu) rfl)
  rw [wk_nod] at HRI
  have HC1 := Lib.hid (fun (W : World) (hb : Below w2.heap.size w2 W) => child_any (w := W) (bv := .slice none 0 0) [109] (HK2.out.below hb) (by decide))
  rw [wk_more.1] at HC1
  have HC2 := Lib.hid (fun (W : World) (hb : Below w2.heap.size w2 W) => child_any (w := W) (bv := .slice none 0 0) [97] (HK2.out.below hb) (by decide))
  rw [wk_more.2.1] at HC2
  obtain ⟨T, hT⟩ : ∃ T, T = Lend.strOf (txN wk []) := ⟨_, rfl⟩
  have hTz : T.size = 36 := by rw [hT, ssize, wk_len]
  rw [← hT] at HTX HPA
  have HPP := Lib.hid wk_parts.2.2
  obtain ⟨S, hS⟩ : ∃ S, S = w.heap.size := ⟨_, rfl⟩
  rw [← hS] at HX2 HK2 hw2 HTX HRA HRI HC1 HC2
  have x0 : w2.cell? ⟨S + 1, 0, none⟩ = some (.slice (some ⟨S, 0, none⟩) 2 2) := HX2.out.cell 0
  have x1 : w2.cell? ⟨S + 1, 1, none⟩ = some (.slice none 0 0) := HX2.out.cell 1
  go_enter Try.func16, Try.ntmps16
  go_upto_region 2 with fail
  rw [← hw1, ← hS, ← hw2]
  clear hw1 hw2 hS hT
  go_wp2_with fail
  refine HTX.out.mono ?_
  clear HTX x0 x1
  rintro e w3 ⟨rfl, hb3⟩
  have HB3 := Lib.hid hb3
  have HX3 := Lib.hid (HX2.out.below hb3 HX2.out.lt)
  clear hb3
  go_wp2_with fail
  refine (HPA.out w3).mono ?_
  clear HPA
  rintro e w4 ⟨kv, bv, rfl, hkv, hbv, hb4⟩
  rw [HPP.out.2.1] at hkv
  rw [HPP.out.1]
  obtain ⟨ka, kc, hks, _⟩ := own_shape hkv
  subst hks
  obtain ⟨ba, bc, hbs, _⟩ := own_shape hbv
  subst hbs
  have HB4 := Lib.hid (below_on HB3.out hb4)
  have HX4 := Lib.hid (HX3.out.below hb4 HX3.out.lt)
  have hkl : wk.length = 2 := rfl
  rw [hkl]
  generalize (pnU (txN wk [])).length = bn
  obtain ⟨w5, hw5⟩ : ∃ z, z = w4.alloc (.cells #[.slice ka 2 kc, .slice ba bn bc] 31) := ⟨_, rfl⟩
  have HH5 := Lib.hid (show Has w5 w4.heap.size 31 [.slice ka 2 kc, .slice ba bn bc] by rw [hw5]; exact Has.new w4 _ _)
  have hb5 : Below w4.heap.size w4 w5 := by rw [hw5]; exact below_new w4 _
  have HX5 := Lib.hid (HX4.out.below hb5 HX4.out.lt)
  have HB5 := Lib.hid (below_on HB4.out hb5)
  clear hkv hbv hb4 hb5 hkl
  go_upto_region 4 with fail
  rw [← hw5]
  clear hw5
  have x0 : w5.cell? ⟨S + 1, 0, none⟩ = some (.slice (some ⟨S, 0, none⟩) 2 2) := HX5.out.cell 0
  have x1 : w5.cell? ⟨S + 1, 1, none⟩ = some (.slice none 0 0) := HX5.out.cell 1
  go_wp2_with fail
  refine (HRA.out w5 HB5.out).mono ?_
  clear HRA x0 x1
  rintro e w6 ⟨rfl, hb6⟩
  have HB6 := Lib.hid (below_on HB5.out hb6)
  have HX6 := Lib.hid (HX5.out.below hb6 HX5.out.lt)
  have HH6 := Lib.hid (HH5.out.below hb6 HH5.out.lt)
  have x0 : w6.cell? ⟨S + 1, 0, none⟩ = some (.slice (some ⟨S, 0, none⟩) 2 2) := HX6.out.cell 0
  have x1 : w6.cell? ⟨S + 1, 1, none⟩ = some (.slice none 0 0) := HX6.out.cell 1
  clear hb6
  have e1 : Lend.strOf [] = ⟨#[]⟩ := rfl
  have e2 : Lend.strOf [109] = ⟨#[109]⟩ := rfl
  have e3 : Lend.strOf [97] = ⟨#[97]⟩ := rfl
  rw [e2] at HC1
  rw [e3] at HC2
  rw [e1, e2]
  clear e1 e2 e3
  go_wp2_with fail
  refine (HRI.out w6 HB6.out).mono ?_
  clear HRI x0 x1
  rintro e w7 ⟨rfl, hb7⟩
  have HB7 := Lib.hid (below_on HB6.out hb7)
  have HX7 := Lib.hid (HX6.out.below hb7 HX6.out.lt)
  have HH7 := Lib.hid (HH6.out.below hb7 HH6.out.lt)
  have x0 : w7.cell? ⟨S + 1, 0, none⟩ = some (.slice (some ⟨S, 0, none⟩) 2 2) := HX7.out.cell 0
  have x1 : w7.cell? ⟨S + 1, 1, none⟩ = some (.slice none 0 0) := HX7.out.cell 1
  clear hb7
  go_wp2_with fail
  refine (HC1.out w7 HB7.out).mono ?_
  clear HC1 x0 x1
  rintro e w8 ⟨rfl, hb8⟩
  have HB8 := Lib.hid (below_on HB7.out hb8)
  have HX8 := Lib.hid (HX7.out.below hb8 HX7.out.lt)
  have HH8 := Lib.hid (HH7.out.below hb8 HH7.out.lt)
  have x0 : w8.cell? ⟨S + 1, 0, none⟩ = some (.slice (some ⟨S, 0, none⟩) 2 2) := HX8.out.cell 0
  have x1 : w8.cell? ⟨S + 1, 1, none⟩ = some (.slice none 0 0) := HX8.out.cell 1
  clear hb8
  go_wp2_with fail
  refine (HC2.out w8 HB8.out).mono ?_
  clear HC2 x0 x1
  rintro e w9 ⟨rfl, hb9⟩
  have HB9 := Lib.hid (HB2.out.trans ((below_on HB8.out hb9).mono HB2.out.size))
  have HH9 := Lib.hid (HH8.out.below hb9 HH8.out.lt)
  have z0 : w9.cell? ⟨w4.heap.size, 0, none⟩ = some (.slice ka 2 kc) := HH9.out.cell 0
  clear hb9
  go_wp2_with fail
  go_ret
  exact ⟨rfl, HB9.out⟩
set_option maxRecDepth 100000 in
set_option maxHeartbeats 16000000 in
theorem same_any {w : World} {kv bv kv' bv' : Value} {cs : List Ch} {us : List Up} (h : CR w kv cs) (hu : UR w bv us) (h' : CR w kv' cs) (hu' : UR w bv' us) (hl : us.length ≤ 100000) (hlc : cs.length ≤ 100000) :
    Calls Try.prog 19 #[.agg #[kv, bv], .agg #[kv', bv']] w fun e w' => e = .returned (.bool true) ∧ Below w.heap.size w w' := by
  obtain ⟨a, ac, rfl⟩ := h.slice
  obtain ⟨b, bc, rfl⟩ := hu.slice
  obtain ⟨a', ac', rfl⟩ := h'.slice
  obtain ⟨b', bc', rfl⟩ := hu'.slice
  obtain ⟨n, hn⟩ : ∃ n, n = cs.length := ⟨_, rfl⟩
  obtain ⟨m, hm⟩ : ∃ m, m = us.length := ⟨_, rfl⟩
  have HN := Lib.hid hn
  have HM := Lib.hid hm
  have h1 := Has.new w [.slice a cs.length ac, .slice b us.length bc] 31
  have h2 := Has.new (w.alloc (.cells [.slice a cs.length ac, .slice b us.length bc].toArray 31)) [.slice a' cs.length ac', .slice b' us.length bc'] 35
  simp only [World.size_alloc] at h2
  obtain ⟨w1, hw1⟩ : ∃ z, z = (w.alloc (.cells #[.slice a cs.length ac, .slice b us.length bc] 31)).alloc (.cells #[.slice a' cs.length ac', .slice b' us.length bc'] 35) := ⟨_, rfl⟩
  have HX := Lib.hid (show Has w1 w.heap.size 31 [.slice a cs.length ac, .slice b us.length bc] by rw [hw1]; exact h1.alloc _)
  have HY := Lib.hid (show Has w1 (w.heap.size + 1) 35 [.slice a' cs.length ac', .slice b' us.length bc'] by rw [hw1]; exact h2)
  have HB := Lib.hid (show Below w.heap.size w w1 by rw [hw1]; exact below_nw (below_new _ _) _)
  have HC := Lib.hid (h.below HB.out)
  have HC' := Lib.hid (h'.below HB.out)
  have HU := Lib.hid (hu.below HB.out)
  have HU' := Lib.hid (hu'.below HB.out)
  have HLI := Lib.hid (list_any HU.out (by omega))
  rw [← hn] at HX HY HC HC' hw1 hlc
  rw [← hm] at HX HY HU HU' HLI hw1 hl
  rw [← hn, ← hm]
  have x1 : w1.cell? ⟨w.heap.size, 1, none⟩ = some (.slice b m bc) := HX.out.cell 1
  clear h hu h' hu' h1 h2 hn hm
  go_enter Try.func19, Try.ntmps19
  go_upto_region 1 with fail
  rw [← hw1]
  clear hw1
  go_wp2_with fail
  refine HLI.out.mono ?_
  clear HLI x1
  rintro e w2 ⟨lv, rfl, hlv, hb2⟩
  have HLV := Lib.hid (UR.of_own hlv)
  obtain ⟨la, lc, hls, _⟩ := own_shape hlv
  subst hls
  rw [← HM.out]
  have HLV2 : Hid (UR w2 (.slice la m lc) us) := Lib.hid (by rw [HM.out]; exact HLV.out)
  have HX2 := Lib.hid (HX.out.below hb2 HX.out.lt)
  have HY2 := Lib.hid (HY.out.below hb2 HY.out.lt)
  have HB2 := Lib.hid (below_on HB.out hb2)
  have HC2 := Lib.hid (HC.out.below hb2)
  have HC2' := Lib.hid (HC'.out.below hb2)
  have HU2' := Lib.hid (HU'.out.below hb2)
  have x0 : w2.cell? ⟨w.heap.size, 0, none⟩ = some (.slice a n ac) := HX2.out.cell 0
  have z0 : w2.cell? ⟨w.heap.size + 1, 0, none⟩ = some (.slice a' n ac') := HY2.out.cell 0
  have z1 : w2.cell? ⟨w.heap.size + 1, 1, none⟩ = some (.slice b' m bc') := HY2.out.cell 1
  clear hlv hb2
  go_wp2_with fail
  clear x0 z0 z1
  go_loopw [31] (fun i wr => ∃ j : Nat, j ≤ n ∧ i = .int .i64 j ∧ Below w2.heap.size w2 wr) (fun i _ => n - (intOf i).toNat)
  case atStart => exact ⟨0, Nat.zero_le _, rfl, Below.refl _ _⟩
  case round =>
    obtain ⟨j, hj, rfl, hb⟩ := hrel
    rename World => wr
    have HBR := Lib.hid hb
    clear hb
    by_cases hlt : j < n
    · have hji : (j : Int) < (n : Int) := by omega
      have hj0 : 0 ≤ (j : Int) := by omega
      have hjl : j < cs.length := by rw [← HN.out]; exact hlt
      obtain ⟨g, off, rfl, c0, c1, c2, c3⟩ := cr_cells (HC2.out.below HBR.out) j hjl
      obtain ⟨w3, hw3⟩ : ∃ z, z = wr.alloc (.cells #[.string (Lend.strOf cs[j].low), .int .i64 cs[j].addr, .int .u64 cs[j].gen, .int .u32 cs[j].sum] 76) := ⟨_, rfl⟩
      have HB3 := Lib.hid (show Below w2.heap.size w2 w3 by rw [hw3]; exact below_nw HBR.out _)
      have HX3 := Lib.hid (show Has w3 wr.heap.size 76 (encC cs[j]) by rw [hw3]; exact Has.new wr _ _)
      go_upto_region 7 with fail
      rw [← hw3]
      clear hw3 c0 c1 c2 c3
      obtain ⟨g', off', rfl, d0, d1, d2, d3⟩ := cr_cells (HC2'.out.below HB3.out) j hjl
      have y0 : w3.cell? ⟨wr.heap.size, 0, none⟩ = some (.string (Lend.strOf cs[j].low)) := HX3.out.cell 0
      have y1 : w3.cell? ⟨wr.heap.size, 1, none⟩ = some (.int .i64 cs[j].addr) := HX3.out.cell 1
      have y2 : w3.cell? ⟨wr.heap.size, 2, none⟩ = some (.int .u64 cs[j].gen) := HX3.out.cell 2
      have y3 : w3.cell? ⟨wr.heap.size, 3, none⟩ = some (.int .u32 cs[j].sum) := HX3.out.cell 3
      have z0 : w3.cell? ⟨w.heap.size + 1, 0, none⟩ = some (.slice (some ⟨g', off', none⟩) n ac') := keep1 (HY2.out.cell 0) HB3.out
      obtain ⟨K, hK⟩ : ∃ z, z = Lend.strOf cs[j].low := ⟨_, rfl⟩
      obtain ⟨A1, hA1⟩ : ∃ z, z = cs[j].addr := ⟨_, rfl⟩
      obtain ⟨A2, hA2⟩ : ∃ z, z = cs[j].gen := ⟨_, rfl⟩
      obtain ⟨A3, hA3⟩ : ∃ z, z = cs[j].sum := ⟨_, rfl⟩
      rw [← hK] at d0 y0
      rw [← hA1] at d1 y1
      rw [← hA2] at d2 y2
      rw [← hA3] at d3 y3
      clear hK hA1 hA2 hA3
      go_quiet (fail)
      go_wp2_with fail
      go_roundw
      case rel => exact ⟨j + 1, by omega, by go_num, bel_q HB3.out⟩
      case measure => simp [intOf]; omega
    · obtain rfl : j = n := by omega
      have hji : ¬ ((j : Int) < (j : Int)) := by omega
      go_wp2_with fail
      go_loopw [57] (fun i wq => ∃ k : Nat, k ≤ m ∧ i = .int .i64 k ∧ Below w2.heap.size w2 wq) (fun i _ => m - (intOf i).toNat)
      case atStart => exact ⟨0, Nat.zero_le _, rfl, HBR.out⟩
      case round =>
        obtain ⟨k, hk, rfl, hb⟩ := hrel
        rename World => wq
        have HBR := Lib.hid hb
        clear hb
        by_cases hlt : k < m
        · have hji : (k : Int) < (m : Int) := by omega
          have hj0 : 0 ≤ (k : Int) := by omega
          have hjl : k < us.length := by rw [← HM.out]; exact hlt
          obtain ⟨g, off, rfl⟩ : ∃ g off, la = some ⟨g, off, none⟩ := by
            obtain ⟨g', off', e, _⟩ := UR.at_ HLV2.out (by omega)
            exact ⟨g', off', e⟩
          obtain ⟨g', off', rfl⟩ : ∃ g off, b' = some ⟨g, off, none⟩ := by
            obtain ⟨g', off', e, _⟩ := UR.at_ HU2'.out (by omega)
            exact ⟨g', off', e⟩
          obtain ⟨c0, c1, c2, c3⟩ := ur_cells (HLV2.out.below HBR.out) k hjl
          obtain ⟨w3, hw3⟩ : ∃ z, z = wq.alloc (.cells #[.int .u8 us[k].kind, .string (Lend.strOf us[k].key), .string (Lend.strOf us[k].val), .int .u64 us[k].delta] 70) := ⟨_, rfl⟩
          have HB3 := Lib.hid (show Below w2.heap.size w2 w3 by rw [hw3]; exact below_nw HBR.out _)
          have HX3 := Lib.hid (show Has w3 wq.heap.size 70 (encU us[k]) by rw [hw3]; exact Has.new wq _ _)
          go_upto_region 13 with fail
          rw [← hw3]
          clear hw3 c0 c1 c2 c3
          obtain ⟨d0, d1, d2, d3⟩ := ur_cells (HU2'.out.below HB3.out) k hjl
          have y0 : w3.cell? ⟨wq.heap.size, 0, none⟩ = some (.int .u8 us[k].kind) := HX3.out.cell 0
          have y1 : w3.cell? ⟨wq.heap.size, 1, none⟩ = some (.string (Lend.strOf us[k].key)) := HX3.out.cell 1
          have y2 : w3.cell? ⟨wq.heap.size, 2, none⟩ = some (.string (Lend.strOf us[k].val)) := HX3.out.cell 2
          have y3 : w3.cell? ⟨wq.heap.size, 3, none⟩ = some (.int .u64 us[k].delta) := HX3.out.cell 3
          have z0 : w3.cell? ⟨w.heap.size + 1, 1, none⟩ = some (.slice (some ⟨g', off', none⟩) m bc') := keep1 (HY2.out.cell 1) HB3.out
          obtain ⟨K, hK⟩ : ∃ z, z = Lend.strOf us[k].key := ⟨_, rfl⟩
          obtain ⟨V, hV⟩ : ∃ z, z = Lend.strOf us[k].val := ⟨_, rfl⟩
          obtain ⟨A1, hA1⟩ : ∃ z, z = us[k].kind := ⟨_, rfl⟩
          obtain ⟨A2, hA2⟩ : ∃ z, z = us[k].delta := ⟨_, rfl⟩
          rw [← hK] at d1 y1
          rw [← hV] at d2 y2
          rw [← hA1] at d0 y0
          rw [← hA2] at d3 y3
          clear hK hA1 hA2 hV
          go_quiet (fail)
          go_wp2_with fail
          go_roundw
          case rel => exact ⟨k + 1, by omega, by go_num, bel_q HB3.out⟩
          case measure => simp [intOf]; omega
        · obtain rfl : k = m := by omega
          have hji : ¬ ((k : Int) < (k : Int)) := by omega
          have HE := Lib.hid (HB2.out.trans (HBR.out.mono HB2.out.size))
          go_wp2_with fail
          go_ret
          exact ⟨rfl, HE.out⟩
end Go.Proofs.Ytfclecbhfamomaa.Node
/- Layer 17 (node): for the laws' walks: what came in; both nodes in the law's blocks. -/
namespace Go.Proofs.Ytfclecbhfamomaa.Node
open Go Go.RowKit Go.Proofs.Ytfclecbhfamomaa Go.Proofs.Ytfclecbhfamomaa.Lend Go.Proofs.Ytfclecbhfamomaa.Rec Go.Proofs.Ytfclecbhfamomaa.Msg Go.Proofs.Ytfclecbhfamomaa.Buf
set_option linter.unusedVariables false

theorem i64_bd {x : Int} (h : (Lit.int .i64 x).wf = true) : -9223372036854775808 ≤ x ∧ x ≤ 9223372036854775807 := by
  simp only [Lit.wf, Bool.and_eq_true, decide_eq_true_eq, show IntKind.i64.min = -9223372036854775808 from rfl, show IntKind.i64.max = 9223372036854775807 from rfl] at h
  omega
def Qc (c : Ch) : Prop := WfC c ∧ c.low.length ≤ 140737488355327
def Qm (u : Up) : Prop := WfU u ∧ u.key.length ≤ 140737488355327
theorem chs_of {w : World} {a : Option Addr} {len cap : Nat} (h : 0 < len → ∃ b off, a = some ⟨b, off, none⟩ ∧ ∀ i, i < len → ∃ (x0 : ByteArray) (x1 : Int) (x2 : Int) (x3 : Int), w.cell? ⟨b, off + (i * 4 + 0), none⟩ = some (.string x0) ∧ x0.size ≤ 140737488355327 ∧ w.cell? ⟨b, off + (i * 4 + 1), none⟩ = some (.int .i64 x1) ∧ (Lit.int .i64 x1).wf = true ∧ w.cell? ⟨b, off + (i * 4 + 2), none⟩ = some (.int .u64 x2) ∧ (Lit.int .u64 x2).wf = true ∧ w.cell? ⟨b, off + (i * 4 + 3), none⟩ = some (.int .u32 x3) ∧ (Lit.int .u32 x3).wf = true) :
    ∃ l, len = l.length ∧ CR w (.slice a len cap) l ∧ ∀ u ∈ l, Qc u := by
  refine cr_of Qc fun h0 => ?_
  obtain ⟨b, off, ha, hx⟩ := h h0
  refine ⟨b, off, ha, fun i hi => ?_⟩
  obtain ⟨x0, x1, x2, x3, c0, h0, c1, h1, c2, h2, c3, h3⟩ := hx i hi
  exact ⟨_, ⟨⟨i64_bd h1, u64_bd h2, u32_bd h3⟩, by simpa using h0⟩, ch_cells c0 c1 c2 c3⟩
theorem ups_of {w : World} {a : Option Addr} {len cap : Nat} (h : 0 < len → ∃ b off, a = some ⟨b, off, none⟩ ∧ ∀ i, i < len → ∃ (x0 : Int) (x1 : ByteArray) (x2 : ByteArray) (x3 : Int), w.cell? ⟨b, off + (i * 4 + 0), none⟩ = some (.int .u8 x0) ∧ (Lit.int .u8 x0).wf = true ∧ w.cell? ⟨b, off + (i * 4 + 1), none⟩ = some (.string x1) ∧ x1.size ≤ 140737488355327 ∧ w.cell? ⟨b, off + (i * 4 + 2), none⟩ = some (.string x2) ∧ x2.size ≤ 140737488355327 ∧ w.cell? ⟨b, off + (i * 4 + 3), none⟩ = some (.int .u64 x3) ∧ (Lit.int .u64 x3).wf = true) :
    ∃ l, len = l.length ∧ UR w (.slice a len cap) l ∧ ∀ u ∈ l, Qm u := by
  refine ur_of Qm fun h0 => ?_
  obtain ⟨b, off, ha, hx⟩ := h h0
  refine ⟨b, off, ha, fun i hi => ?_⟩
  obtain ⟨x0, x1, x2, x3, c0, h0, c1, h1, c2, h2, c3, h3⟩ := hx i hi
  exact ⟨_, ⟨⟨(u8_bd h0).1, (u8_bd h0).2, (u64_bd h3).1, (u64_bd h3).2⟩, by simpa using h1⟩, up_cells c0 c1 c2 c3⟩
/-- both nodes -/
structure Nx (G : Nat) (kv bv kv' bv' : Value) (C : List Ch) (L : List Up) (w : World) : Prop where
  n : Has w G 31 [kv, bv]
  x : Has w (G + 1) 35 [kv', bv']
  ck : CR w kv C
  dk : CR w kv' C
  cb : UR w bv L
  db : UR w bv' L
theorem Nx.on {G : Nat} {kv bv kv' bv' : Value} {C : List Ch} {L : List Up} {w w' : World} (h : Nx G kv bv kv' bv' C L w) (hb : Below w.heap.size w w') : Nx G kv bv kv' bv' C L w' :=
  ⟨h.n.below hb h.n.lt, h.x.below hb h.x.lt, h.ck.below hb, h.dk.below hb, h.cb.below hb, h.db.below hb⟩
theorem Nx.new {w : World} {B : Nat} {kv bv kv' bv' : Value} {C : List Ch} {L : List Up} (h1 : CO 76 w B kv C) (h2 : RA w B bv L) (h3 : CO 50 w B kv' C) (h4 : RU w B bv' L) :
    Nx w.heap.size kv bv kv' bv' C L ((w.alloc (.cells #[kv, bv] 31)).alloc (.cells #[kv', bv'] 35)) := by
  have g1 := Has.new w [kv, bv] 31
  have g2 := Has.new (w.alloc (.cells [kv, bv].toArray 31)) [kv', bv'] 35
  simp only [World.size_alloc] at g2
  have hb : Below w.heap.size w ((w.alloc (.cells #[kv, bv] 31)).alloc (.cells #[kv', bv'] 35)) := below_nw (below_new _ _) _
  exact ⟨g1.alloc _, g2, (CR.of_own h1).below hb, (CR.of_own h3).below hb, (UR.of_own h2).below hb, (UR.of_own h4).below hb⟩
/-- what of made of children and messages that came in -/
structure Kq (C : List Ch) (L : List Up) : Prop where
  wc : ∀ c ∈ C, WfC c
  cl : C.length ≤ 20
  srt : Srt L
  tm : ∀ u ∈ L, Tm u
  ll : L.length ≤ 10
theorem Kq.wf {C : List Ch} {L : List Up} (h : Kq C L) : ∀ u ∈ L, WfU u := fun u hu => (h.tm u hu).wf
theorem Kq.ris {C : List Ch} {L : List Up} (h : Kq C L) : risB L = true := (ris_iff _).2 h.srt
theorem kq_of {cs : List Ch} {ms : List Up} (hc : ∀ c ∈ cs, WfC c) (hm : ∀ u ∈ ms, WfU u) : Kq (ofC cs) (ofM ms) :=
  ⟨ofC_wf hc, ofC_len _, (ofM_ok hm).1, (ofM_ok hm).2.1, (ofM_ok hm).2.2⟩
end Go.Proofs.Ytfclecbhfamomaa.Node
/- Layer 17 (node): each key is within just one range; the messages cut by the ranges. -/
namespace Go.Proofs.Ytfclecbhfamomaa.Node
open Go Go.RowKit Go.Proofs.Ytfclecbhfamomaa Go.Proofs.Ytfclecbhfamomaa.Lend Go.Proofs.Ytfclecbhfamomaa.Rec Go.Proofs.Ytfclecbhfamomaa.Msg Go.Proofs.Ytfclecbhfamomaa.Buf
set_option linter.unusedVariables false

theorem kid_rise {C : List Ch} (h : kidB C = true) : ∀ {i j : Nat} (hi : i < C.length) (hj : j < C.length), i < j → kLt C[i].low C[j].low = true := by
  obtain ⟨_, hk⟩ := (kidB_iff C).1 h
  intro i j hi hj hij
  induction j with
  | zero => omega
  | succ j ih =>
    have h1 := hk.2.2 j hj (by omega)
    by_cases e : i = j
    · subst e; exact h1
    · exact kLt_trans (ih (by omega) (by omega)) h1
theorem chN_pos {C : List Ch} (h : kidB C = true) (k : List UInt8) : 0 < chN C k := by
  obtain ⟨⟨h1, _⟩, hk⟩ := (kidB_iff C).1 h
  apply Classical.byContradiction
  intro hn
  have e := (chN_spec C k).1 0 (by omega) (by omega)
  rw [hk.2.1 (by omega) (by omega), kLt_nil] at e
  cases e
/-- a key is within a child's range just if it belongs to that child -/
theorem in_iff {C : List Ch} (h : kidB C = true) (k : List UInt8) {i : Nat} (hi : i < C.length) : inB (loC C (i : Int)) (hiC C (i : Int)) k = true ↔ chI C k = (i : Int) := by
  have hp := chN_pos h k
  have hle := chN_le C k
  obtain ⟨s1, s2⟩ := chN_spec C k
  have s2 := s2 hp
  rw [loC_at hi]
  unfold chI
  constructor
  · intro hin
    unfold inB at hin
    simp only [Bool.and_eq_true, Bool.not_eq_true', Bool.or_eq_true] at hin
    obtain ⟨g1, g2⟩ := hin
    have hic : i < chN C k := by
      apply Classical.byContradiction
      intro hn
      rw [s1 i hi (by omega)] at g1
      cases g1
    by_cases e : i + 1 = chN C k
    · omega
    · exfalso
      have hi1 : i + 1 < C.length := by omega
      rw [hiC_at hi1] at g2
      have hr := kid_rise h hi hi1 (by omega)
      have hne : C[i + 1].low ≠ [] := by
        intro e0
        rw [e0, kLt_nil] at hr
        cases hr
      have g3 : kLt k C[i + 1].low = true := by
        rcases g2 with g2 | g2
        · exfalso
          exact hne (by simpa using g2)
        · exact g2
      by_cases e2 : i + 1 = chN C k - 1
      · have : C[i + 1].low = (C[chN C k - 1]'(by omega)).low := by congr 1; simp only [e2]
        rw [← this, g3] at s2
        cases s2
      · have := kLt_trans g3 (kid_rise h hi1 (by omega : chN C k - 1 < C.length) (by omega))
        rw [this] at s2
        cases s2
  · intro he
    have he : i = chN C k - 1 := by omega
    have e0 : kLt k C[i].low = false := by
      have : C[i].low = (C[chN C k - 1]'(by omega)).low := by congr 1; simp only [he]
      rw [this]; exact s2
    unfold inB
    rw [e0]
    by_cases hi1 : i + 1 < C.length
    · rw [hiC_at hi1, s1 (i + 1) hi1 (by omega)]
      simp
    · rw [hiC_last (by omega)]
      rfl
theorem in_some {C : List Ch} (h : kidB C = true) (k : List UInt8) : ∃ i, i < C.length ∧ inB (loC C (i : Int)) (hiC C (i : Int)) k = true := by
  have hp := chN_pos h k
  have hle := chN_le C k
  refine ⟨chN C k - 1, by omega, (in_iff h k (by omega)).2 ?_⟩
  unfold chI
  omega
/-- what is left of the messages behind so many cuts -/
def rsJ (C : List Ch) (L : List Up) : Nat → List Up
  | 0 => L
  | j + 1 => cutO (loC C (j : Int)) (hiC C (j : Int)) (rsJ C L j)
theorem rsJ_mem {C : List Ch} {L : List Up} : ∀ {j : Nat} {u : Up}, u ∈ rsJ C L j → ∀ i, i < j → inB (loC C (i : Int)) (hiC C (i : Int)) u.key = false
  | 0, u, h, i, hi => by omega
  | j + 1, u, h, i, hi => by
    unfold rsJ cutO at h
    rw [List.mem_filter] at h
    by_cases e : i = j
    · subst e
      simpa using h.2
    · exact rsJ_mem h.1 i (by omega)
theorem rsJ_end {C : List Ch} (h : kidB C = true) (L : List Up) : rsJ C L C.length = [] := by
  rw [List.eq_nil_iff_forall_not_mem]
  intro u hu
  obtain ⟨i, hi, hin⟩ := in_some h u.key
  rw [rsJ_mem hu i hi] at hin
  cases hin
theorem rsJ_srt {C : List Ch} {L : List Up} (h : Srt L) : ∀ j, Srt (rsJ C L j)
  | 0 => h
  | j + 1 => cutO_srt (rsJ_srt h j) _ _
theorem rsJ_len (C : List Ch) (L : List Up) : ∀ j, (rsJ C L j).length ≤ L.length
  | 0 => Nat.le_refl _
  | j + 1 => Nat.le_trans (cutO_len _ _ _) (rsJ_len C L j)
theorem rsJ_sum (C : List Ch) (L : List Up) (j : Nat) : (cutI (loC C (j : Int)) (hiC C (j : Int)) (rsJ C L j)).length + (rsJ C L (j + 1)).length = (rsJ C L j).length := cut_len _ _ _
end Go.Proofs.Ytfclecbhfamomaa.Node
