/-
  The law EnvImages holds: the image of every head and payload, of every size, and what is known of it, is the document's, or its error. Conditions: none but the row's own.
-/
import Derived.Test.YtbbhkoeoelmnlaaDoorRows
import Derived.Test.YtbbhkoeoelmnlaaDoorEnvH
import Derived.Test.YtbbhkoeoelmnlaaDoorCards
import Derived.Test.YtbbhkoeoelmnlaaDoorTie
import Derived.Test.YtbbhkoeoelmnlaaDoorArr
import Derived.WalkKit
import Derived.ProofKit
import Derived.OpenShut
import Derived.ShutString
import Derived.ChangeOld
import Derived.Below
import Derived.Carry
import Derived.Deep.DeepHandedRow
import Derived.Lib.LaidTab
namespace Go.Proofs.YtbbhkoeoelmnlaaDoor.envImages
open Go.ChangeShapes Go.WideShapes Go.ChangeAt Go.RowKit
open Go.Proofs.YtbbhkoeoelmnlaaDoor
open Go.ChangeMaps (open_string shut_string)
set_option linter.unusedVariables false

theorem own : ownKnob Tryd.prog.godebug = none := by kernel_rfl
theorem laidOut : laidOutB Tryd.prog = true := by kernel_rfl

theorem len3 {α : Type} : ∀ l : List α, l.length = 3 → ∃ z0 z1 z2, l = [z0, z1, z2]
  | [z0, z1, z2], _ => ⟨z0, z1, z2, rfl⟩

open Go.Proofs.YtbbhkoeoelmnlaaDoor.Env Go.Proofs.YtbbhkoeoelmnlaaDoor.Lend

/-! ### STEP 1: THE WALK -/
set_option maxHeartbeats 4000000 in
set_option maxRecDepth 100000 in
theorem walk (a0f0 : Int) (a0f1 : Int) (a0f2 : Int) (a1 : ByteArray) (a2 : Int) (w : World) (w0f0 : (Lit.int .u8 a0f0).wf = true) (w0f1 : (Lit.int .i64 a0f1).wf = true) (w0f2 : (Lit.int .u64 a0f2).wf = true) (w1 : a1.size ≤ maxLen) (w2 : (Lit.int .i64 a2).wf = true) :
    Calls Tryd.prog 3 #[.agg #[.int .u8 a0f0, .int .i64 a0f1, .int .u64 a0f2], .string a1, .int .i64 a2] w fun e w' => e = .returned (.bool true) ∧ Below w.heap.size w w' := by
  have hb0 := bounds_u8 w0f0
  have hb1 := bounds_u64 w0f2
  have hbs := bounds_i64 w2
  obtain ⟨n, hn⟩ : ∃ n : Nat, n = min a1.size 1100 := ⟨_, rfl⟩
  have hmin : min (a1.size : Int) 1100 = (n : Int) := by omega
  have hn0 : (0 : Int) ≤ (n : Int) := by omega
  have hn1 : n ≤ a1.size := by omega
  have hn2 : (n : Int) ≤ (a1.size : Int) := by omega
  obtain ⟨pl, hpl⟩ : ∃ x, x = a1.extract 0 n := ⟨_, rfl⟩
  have hps : pl.size ≤ 1100 := by rw [hpl]; simp; omega
  obtain ⟨g, hg⟩ : ∃ g, g = a0f2 := ⟨_, rfl⟩
  rw [← hg] at hb1 ⊢
  have hh := tam_ok a0f0 a0f1
  have HG1 := Lib.hid (show g < 18446744073709551616 by omega)
  have hg0 : 0 ≤ g := hb1.1
  have HPL := Lib.hid hpl
  have HH := Lib.hid hh
  obtain ⟨hk0, hk1⟩ := hb0
  obtain ⟨hs0, hs1⟩ := hbs
  clear w0f0 w0f1 w0f2 w1 w2 hb1 hn hpl hg hh
  go_enter Tryd.func3, Tryd.ntmps3
  go_wp2_with fail
  rw [← HPL.out]
  refine (Sum.make_any _).mono ?_
  rintro e w1 ⟨b, rfl, hb, ht, hb1⟩
  have HT := Lib.hid ht
  have hw1 : w.heap.size < w1.heap.size := by have := hb1.size; simp at this; omega
  have hx := New3.on (New3.new w (.int .u8 a0f0) (.int .i64 a0f1) (.int .u64 g) _) hb1
  have HX := Lib.hid hx
  have HB1 := Lib.hid (below_on (below_new w _) hb1)
  obtain ⟨r0, r1, r2, _, _, _⟩ := hx
  clear ht hb hb1 hmin hn0 hn1 hn2
  go_wp2_with fail
  go_region_held3 (fun W => W.cell? ⟨w.heap.size, 0, none⟩ = some (.int .u8 a0f0) ∧ W.cell? ⟨w.heap.size, 1, none⟩ = some (.int .i64 a0f1) ∧ W.cell? ⟨w.heap.size, 2, none⟩ = some (.int .u64 g))
    (first | with_reducible exact keep3 (by assumption) (by assumption) | with_reducible exact keep3 (by assumption) (below_new _ _) | go_keep)
    ((go_at_call 8; refine (tame_any _ _ _ _ hk0 hk1).mono ?_; rintro e w2 ⟨rfl, hb2⟩))
  rename_i hend
  clear hend
  obtain ⟨k', hk'⟩ : ∃ x, x = tamK a0f0 := ⟨_, rfl⟩
  obtain ⟨a', ha'⟩ : ∃ x, x = tamA a0f1 := ⟨_, rfl⟩
  rw [← hk', ← ha']
  have HK := Lib.hid hk'
  have HA := Lib.hid ha'
  have HB2 := Lib.hid (below_on (below_dr HB1.out) hb2)
  have hx2 := New3.on HX.out (below_dr (Below.refl _ _))
  have HX2 := Lib.hid (New3.on hx2 hb2)
  have HT2 := Lib.hid (tab_on (tab_dr HT.out) hb2)
  clear hk' ha' hb2 r0 r1 r2 hx2
  obtain ⟨gb, hgb⟩ : ∃ x, x = w2.heap.size := ⟨_, rfl⟩
  obtain ⟨wh, hwh⟩ : ∃ x, x = w2.alloc (.cells #[.int .u8 a0f0, .int .i64 a0f1, .int .u64 g, .int .u8 k', .int .i64 a', .int .u64 g] 24) := ⟨_, rfl⟩
  rw [← hwh, ← hgb]
  have hgl : gb < wh.heap.size := by rw [hgb, hwh, World.size_alloc]; omega
  have hcs : ∀ i, i < 2 → ∃ kk aa, 0 ≤ kk ∧ kk ≤ 255 ∧ wh.cell? ⟨gb, i * 3, none⟩ = some (.int .u8 kk) ∧ wh.cell? ⟨gb, i * 3 + 1, none⟩ = some (.int .i64 aa) ∧ wh.cell? ⟨gb, i * 3 + 2, none⟩ = some (.int .u64 g) := by
    intro i hi
    match i, hi with
    | 0, _ => exact ⟨a0f0, a0f1, hk0, hk1, by rw [hwh, hgb]; simp, by rw [hwh, hgb]; simp, by rw [hwh, hgb]; simp⟩
    | 1, _ => exact ⟨k', a', by rw [HK.out]; unfold tamK; omega, by rw [HK.out]; unfold tamK; omega, by rw [hwh, hgb]; simp, by rw [hwh, hgb]; simp, by rw [hwh, hgb]; simp⟩
  have HCS := Lib.hid hcs
  have HBH := Lib.hid (show Below w.heap.size w wh by rw [hwh]; exact below_nw HB2.out _)
  have HXH := Lib.hid (show New3 wh w.heap.size (.int .u8 a0f0) (.int .i64 a0f1) (.int .u64 g) by rw [hwh]; exact New3.on HX2.out (below_new _ _))
  have HTH := Lib.hid (show Sum.IsTab wh b by rw [hwh]; exact tab_nw HT2.out _)
  clear hcs hwh hgb HB2 HX2 HT2
  go_wp2_with fail
  go_loopw [34] (fun i wr => ∃ q : Nat, q ≤ 2 ∧ i = .int .i64 q ∧ Below wh.heap.size wh wr) (fun i _ => 2 - (intOf i).toNat)
  case atStart => exact ⟨0, by omega, rfl, Below.refl _ _⟩
  case round =>
    obtain ⟨q, hq, rfl, hbr⟩ := hrel
    by_cases hlt : q < 2
    · obtain ⟨k, a, hk0', hk1', c0, c1, c2⟩ := HCS.out q hlt
      have d0 : wr.cell? ⟨gb, q * 3, none⟩ = some (.int .u8 k) := by rw [hbr.cell hgl]; exact c0
      have d1 : wr.cell? ⟨gb, q * 3 + 1, none⟩ = some (.int .i64 a) := by rw [hbr.cell hgl]; exact c1
      have d2 : wr.cell? ⟨gb, q * 3 + 2, none⟩ = some (.int .u64 g) := by rw [hbr.cell hgl]; exact c2
      have HBR := Lib.hid hbr
      have HTR := Lib.hid (tab_on HTH.out hbr)
      have hq1 : (q : Int) < 2 := by omega
      have hq0 : (0 : Int) ≤ (q : Int) := by omega
      clear c0 c1 c2 hbr
      go_wp2_with fail
      obtain ⟨n2, hn2⟩ : ∃ x, x = 128 + max 0 a2 % 900 := ⟨_, rfl⟩
      obtain ⟨hb, hhb⟩ : ∃ x, x = wr.heap.size := ⟨_, rfl⟩
      obtain ⟨wi, hwi⟩ : ∃ x, x = (wr.alloc (.cells #[.int .u8 k, .int .i64 a, .int .u64 g] 24)).alloc (.cells #[.int .i64 a2, .int .i64 n2] 3) := ⟨_, rfl⟩
      rw [← hn2, ← hwi, ← hhb]
      have hnew := New3.on (New3.new wr (.int .u8 k) (.int .i64 a) (.int .u64 g) 24) (below_new _ (.cells #[.int .i64 a2, .int .i64 n2] 3))
      rw [← hwi, ← hhb] at hnew
      have hsz : ∀ j, j < 2 → ∃ N, wi.cell? ⟨hb + 1, j, none⟩ = some (.int .i64 N) := by
        intro j hj
        match j, hj with
        | 0, _ => exact ⟨a2, by rw [hwi, hhb]; simp⟩
        | 1, _ => exact ⟨n2, by rw [hwi, hhb]; simp⟩
      have HSZ := Lib.hid hsz
      have HNEW := Lib.hid hnew
      have hbl : hb + 1 < wi.heap.size := by rw [hwi, hhb]; simp
      have HBI := Lib.hid (show Below wh.heap.size wh wi by rw [hwi]; exact below_nw (below_nw HBR.out _) _)
      have HTI := Lib.hid (show Sum.IsTab wi b by rw [hwi]; exact tab_nw (tab_nw HTR.out _) _)
      clear hn2 hhb hwi hnew hsz d0 d1 d2
      go_loopw [45] (fun i wv => ∃ j : Nat, j ≤ 2 ∧ i = .int .i64 j ∧ Below wi.heap.size wi wv) (fun i _ => 2 - (intOf i).toNat)
      case atStart => exact ⟨0, by omega, rfl, Below.refl _ _⟩
      case round =>
        obtain ⟨j, hj, rfl, hbv⟩ := hrel
        by_cases hjlt : j < 2
        · obtain ⟨N, hN⟩ := HSZ.out j hjlt
          have e0 : wr.cell? ⟨hb + 1, j, none⟩ = some (.int .i64 N) := by rw [hbv.cell hbl]; exact hN
          have hnv := New3.on HNEW.out hbv
          have HNV := Lib.hid hnv
          obtain ⟨p0, p1, p2, _, _, _⟩ := hnv
          have HBV := Lib.hid hbv
          have HTV := Lib.hid (tab_on HTI.out hbv)
          have hj1 : (j : Int) < 2 := by omega
          have hj0 : (0 : Int) ≤ (j : Int) := by omega
          clear hN hbv
          go_wp2_with fail
          refine (of_head k a g _).mono ?_
          rintro e wo ⟨rfl, hbo⟩
          have HBO := Lib.hid (below_on HBV.out hbo)
          have HTO := Lib.hid (tab_on HTV.out hbo)
          have HNO := Lib.hid (New3.on HNV.out hbo)
          clear hbo e0 p0 p1 p2
          go_wp2_with fail
          refine (seal_any b N k a g pl _ HTO.out hg0 HG1.out (by omega)).mono ?_
          rintro e ws ⟨rfl, hbs⟩
          have HBS := Lib.hid (below_on HBO.out hbs)
          have HTS := Lib.hid (tab_on HTO.out hbs)
          have hns := New3.on HNO.out hbs
          have HNS := Lib.hid hns
          obtain ⟨p0, p1, p2, _, _, _⟩ := hns
          have hpb := World.block_lt_of_cell? _ _ p0
          clear hbs
          cases hz : szB N with
          | true =>
            have hsz2 : 128 ≤ N ∧ N ≤ 1024 := by simpa [szB] using hz
            obtain ⟨N1, N2⟩ := hsz2
            have HRM := Lib.hid (show roomN N = N - 24 from (roomN_yes hz).1)
            by_cases hE : sealE N k a pl.data.toList = 0
            · have hhB : hdB k a = true := by
                cases hd : hdB k a with
                | true => rfl
                | false => rw [sealE_arg (.inr hd)] at hE; cases hE
              have hpl2 : (pl.data.toList.length : Int) ≤ N - 24 := by
                by_cases hp : (pl.data.toList.length : Int) ≤ N - 24
                · exact hp
                · rw [sealE_long hz hhB (by omega)] at hE; cases hE
              obtain ⟨im, him⟩ : ∃ x, x = imgL k a g (N - 24).toNat pl.data.toList := ⟨_, rfl⟩
              obtain ⟨ck, hck⟩ : ∃ x : Nat, x = ckL k pl.data.toList.length a g (bodyL (N - 24).toNat pl.data.toList) := ⟨_, rfl⟩
              have hsv := sealV_yes (g := g) hE
              have hrv := refV_yes (g := g) hE
              rw [← him, ← hck] at hsv hrv
              have hi := img_o (m := (N - 24).toNat) (pl := pl.data.toList) hhB hg0 HG1.out (by omega) (by omega) (by omega)
              rw [← hck, ← him] at hi
              have hil := imgL_length k a g (N - 24).toNat pl.data.toList (by omega)
              rw [← him] at hil
              have hckb : (ck : Int) ≤ 4294967295 := by rw [hck]; have := ckL_lt k pl.data.toList.length a g (bodyL (N - 24).toNat pl.data.toList); omega
              have hmt : meetB im a g ck = true := by rw [meetB_yes hi.1, hi.2.2.1, hi.2.2.2.1, hi.2.2.2.2.1]; simp
              obtain ⟨im2, him2⟩ : ∃ s, s = Lend.strOf im := ⟨_, rfl⟩
              have hisz : im2.size ≤ 1000000 := by rw [him2]; show im.length ≤ _; omega
              have hmt2 : meetB im2.data.toList a g ck = true := by rw [him2]; exact hmt
              have HRV := Lib.hid hrv
              have HIM := Lib.hid him2
              have HMT := Lib.hid hmt2
              rw [hsv, ← him2]
              have wck : IntKind.u32.wrap (ck : Int) = ck := by rw [IntKind.wrap_u32]; omega
              clear hE hhB hpl2 him hck hsv hrv hi hil hmt him2 hmt2 hz
              go_wp2_with fail
              refine (refseal_any N k a g pl _ hg0 HG1.out (by omega)).mono ?_
              rintro e wt ⟨rfl, hbt⟩
              rw [HRV.out, ← HIM.out]
              have hnt := New3.on (New3.on HNS.out (below_new _ _)) hbt
              obtain ⟨p0, p1, p2, _, _, _⟩ := hnt
              have hpb := World.block_lt_of_cell? _ _ p0
              have hq3 := New3.on (New3.new ws (.int .i64 a) (.int .u64 g) (.int .u32 (ck : Int)) _) hbt
              obtain ⟨y0, y1, y2, _, _, _⟩ := hq3
              have hyb := World.block_lt_of_cell? _ _ y0
              have HBT := Lib.hid (below_on (below_nw HBS.out _) hbt)
              have HTT := Lib.hid (tab_nw (tab_on (tab_nw HTS.out _) hbt) (.cells #[.int .i64 a, .int .u64 g, .int .u32 (ck : Int)] 32))
              clear hbt
              go_wp2_with (first
                | (go_at_call 13; refine (room_any _ _).mono ?_; rintro e w' ⟨rfl, rfl⟩; rw [HRM.out])
                | (go_at_call 12
                   refine (meets_any b _ _ _ im2 _ ?_ hisz).mono ?_
                   · exact HTT.out
                   rintro e wy ⟨rfl, hby⟩
                   rw [HMT.out]))
              go_roundw
              case rel => exact ⟨j + 1, by omega, by go_num, below_on (below_nw HBT.out _) hby⟩
              case measure => simp [intOf]; omega
            · have hE' := hE
              clear hE' hz
              obtain ⟨E, hEE⟩ : ∃ E, E = sealE N k a pl.data.toList := ⟨_, rfl⟩
              have hsv := sealV_no (g := g) hEE.symm (by rw [hEE]; exact hE)
              have hrv := refV_no (g := g) hEE.symm (by rw [hEE]; exact hE)
              rw [← hEE] at hE
              have HRV := Lib.hid hrv
              have e1 : (E == 0) = false := by simpa using hE
              have e2 : (E != 0) = true := by simpa using hE
              have e3 : decide (E = 0) = false := by simpa using hE
              rw [hsv]
              unfold noSeal
              clear hE hEE hsv hrv
              go_wp2_with fail
              refine (refseal_any N k a g pl _ hg0 HG1.out (by omega)).mono ?_
              rintro e wt ⟨rfl, hbt⟩
              rw [HRV.out]
              have hq3 := New3.on (New3.new ws (.int .i64 0) (.int .u64 0) (.int .u32 0) _) hbt
              obtain ⟨y0, y1, y2, _, _, _⟩ := hq3
              have hyb := World.block_lt_of_cell? _ _ y0
              have HBT := Lib.hid (below_on (below_nw HBS.out _) hbt)
              clear hbt p0 p1 p2
              go_wp2_with (go_at_call 13; refine (room_any _ _).mono ?_; rintro e w' ⟨rfl, rfl⟩; rw [HRM.out])
              go_roundw
              case rel => exact ⟨j + 1, by omega, by go_num, below_nw HBT.out _⟩
              case measure => simp [intOf]; omega
          | false =>
            have HRM := Lib.hid (show roomN N = 0 from roomN_no hz)
            have hE : sealE N k a pl.data.toList ≠ 0 := by rw [sealE_arg (.inl hz)]; decide
            by_cases hlo : N < 128
            · clear hz
              obtain ⟨E, hEE⟩ : ∃ E, E = sealE N k a pl.data.toList := ⟨_, rfl⟩
              have hsv := sealV_no (g := g) hEE.symm (by rw [hEE]; exact hE)
              have hrv := refV_no (g := g) hEE.symm (by rw [hEE]; exact hE)
              rw [← hEE] at hE
              have HRV := Lib.hid hrv
              have e1 : (E == 0) = false := by simpa using hE
              have e2 : (E != 0) = true := by simpa using hE
              have e3 : decide (E = 0) = false := by simpa using hE
              rw [hsv]
              unfold noSeal
              clear hE hEE hsv hrv
              go_wp2_with fail
              refine (refseal_any N k a g pl _ hg0 HG1.out (by omega)).mono ?_
              rintro e wt ⟨rfl, hbt⟩
              rw [HRV.out]
              have hq3 := New3.on (New3.new ws (.int .i64 0) (.int .u64 0) (.int .u32 0) _) hbt
              obtain ⟨y0, y1, y2, _, _, _⟩ := hq3
              have hyb := World.block_lt_of_cell? _ _ y0
              have HBT := Lib.hid (below_on (below_nw HBS.out _) hbt)
              clear hbt p0 p1 p2
              go_wp2_with (go_at_call 13; refine (room_any _ _).mono ?_; rintro e w' ⟨rfl, rfl⟩; rw [HRM.out])
              go_roundw
              case rel => exact ⟨j + 1, by omega, by go_num, below_nw HBT.out _⟩
              case measure => simp [intOf]; omega
            · have hhi : 1024 < N := by
                by_cases h : N ≤ 1024
                · rw [szB_yes (by omega) h] at hz; cases hz
                · omega
              have hge : 128 ≤ N := by omega
              clear hz hlo
              obtain ⟨E, hEE⟩ : ∃ E, E = sealE N k a pl.data.toList := ⟨_, rfl⟩
              have hsv := sealV_no (g := g) hEE.symm (by rw [hEE]; exact hE)
              have hrv := refV_no (g := g) hEE.symm (by rw [hEE]; exact hE)
              rw [← hEE] at hE
              have HRV := Lib.hid hrv
              have e1 : (E == 0) = false := by simpa using hE
              have e2 : (E != 0) = true := by simpa using hE
              have e3 : decide (E = 0) = false := by simpa using hE
              rw [hsv]
              unfold noSeal
              clear hE hEE hsv hrv
              go_wp2_with fail
              refine (refseal_any N k a g pl _ hg0 HG1.out (by omega)).mono ?_
              rintro e wt ⟨rfl, hbt⟩
              rw [HRV.out]
              have hq3 := New3.on (New3.new ws (.int .i64 0) (.int .u64 0) (.int .u32 0) _) hbt
              obtain ⟨y0, y1, y2, _, _, _⟩ := hq3
              have hyb := World.block_lt_of_cell? _ _ y0
              have HBT := Lib.hid (below_on (below_nw HBS.out _) hbt)
              clear hbt p0 p1 p2
              go_wp2_with (go_at_call 13; refine (room_any _ _).mono ?_; rintro e w' ⟨rfl, rfl⟩; rw [HRM.out])
              go_roundw
              case rel => exact ⟨j + 1, by omega, by go_num, below_nw HBT.out _⟩
              case measure => simp [intOf]; omega
        · have HBV := Lib.hid (below_on HBI.out hbv)
          clear hbv
          go_wp2_with fail
          go_roundw
          case rel => exact ⟨q + 1, by omega, by go_num, HBV.out⟩
          case measure => simp [intOf]; omega
    · have hxr := New3.on HXH.out hbr
      have HBR := Lib.hid (below_on HBH.out hbr)
      obtain ⟨r0, r1, r2, _, _, _⟩ := hxr
      clear hbr
      go_wp2_with fail
      refine (tame_any _ _ _ _ hk0 hk1).mono ?_
      rintro e w5 ⟨rfl, hb5⟩
      go_wp2_with fail
      refine (of_head _ _ _ _).mono ?_
      rintro e w6 ⟨rfl, hb6⟩
      go_wp2_with fail
      refine (seal_nil _ _ _ _ _ _).mono ?_
      rintro e w7 ⟨rfl, hb7⟩
      unfold noSeal
      have HB7 := Lib.hid (below_on (below_on (below_on HBR.out hb5) hb6) hb7)
      clear hb5 hb6 hb7 r0 r1 r2
      go_wp2_with fail
      refine (wakes_any _).mono ?_
      rintro e w8 ⟨rfl, hb8⟩
      go_wp2_with fail
      go_ret
      exact ⟨rfl, below_on (below_nw HB7.out _) hb8⟩

set_option maxRecDepth 100000 in
theorem contract (H : Type) (enc : TypeId × Value → H) (W : World) (base : Nat) (args : Array Value) (ds gs : List (DataW H)) (before : List MemPlace)
    (hval0 : ∀ (j : Nat) t v, Tryd.f3.params[j]? = some t → args[j]? = some v → Value.okWide Tryd.prog W .any base t v)
    (hW : DataW.Whole enc Tryd.prog Tryd.f3.params.toList Rows.envImagesSpec.vars false W args.toList ds gs before) :
    Calls Tryd.prog 3 args W fun e W' => ∃ v, e = .returned v ∧ Rows.envImagesSpec.post enc Tryd.prog Tryd.f3 false true false false W args v W' := by
  have hval : ∀ (j : Nat) t v, Tryd.f3.params[j]? = some t → args[j]? = some v → Value.okWide Tryd.prog W .any base t v := hval0
  have hW' := hW
  obtain ⟨p, q, hA0, hV, rfl, hfz, hnd⟩ := hW
  have hA : DataW.TrodAll enc Tryd.prog W 0 (fun _ => true) true Tryd.f3.params.toList args.toList ds p := hA0
  rw [Tryd.params3] at hA hval
  obtain ⟨v0, vs0, d0, ds0, p0, q0, hargs, rfl, rfl, h0, r0⟩ := trodAll_cons hA
  obtain ⟨v1, vs1, d1, ds1, p1, q1, rfl, rfl, rfl, h1, r1⟩ := trodAll_cons r0
  obtain ⟨v2, vs2, d2, ds2, p2, q2, rfl, rfl, rfl, h2, r2⟩ := trodAll_cons r1
  obtain ⟨rfl, rfl, rfl⟩ := trodAll_nil r2
  obtain rfl : args = #[v0, v1, v2] := by cases args; simp_all
  obtain ⟨rfl, rfl⟩ := trodVars_none hV
  have k0 := h0
  have lt0 : ∀ x ∈ p0, x.block < W.heap.size := by obtain ⟨m, hm⟩ := k0; exact DataW.trod_lt m _ _ _ hm
  obtain ⟨cs0, rfl, hl0, hc0⟩ := open_struct_cells Tryd.underlying24 (by kernel_rfl) (by kernel_rfl) (hval 0 24 v0 rfl rfl) h0
  obtain ⟨y0_0, y0_1, y0_2, rfl⟩ := len3 cs0 hl0
  obtain ⟨a0f0, rfl, w0f0⟩ := open_int_cell Tryd.underlying5 (hc0 0 _ _ rfl rfl)
  obtain ⟨a0f1, rfl, w0f1⟩ := open_int_cell Tryd.underlying3 (hc0 1 _ _ rfl rfl)
  obtain ⟨a0f2, rfl, w0f2⟩ := open_int_cell Tryd.underlying22 (hc0 2 _ _ rfl rfl)
  obtain ⟨a1, rfl, rfl, rfl, w1⟩ := open_string Tryd.underlying9 (hval 1 9 v1 rfl rfl) h1
  obtain ⟨a2, rfl, rfl, rfl, w2⟩ := open_int Tryd.underlying3 (hval 2 3 v2 rfl rfl) h2
  clear hA0 hval0
  refine (walk a0f0 a0f1 a0f2 a1 a2 W w0f0 w0f1 w0f2 w1 w2).mono fun e W' ⟨he, bel⟩ => ?_
  subst he
  exact ⟨_, rfl, _, _, _, [], _, [], hW', trodAll_mk1 (shut_bool Tryd.underlying4 _), (trodAll_cons_mk (Below.trod laidOut (by kernel_rfl) (of_decide_eq_true (by kernel_rfl)) k0 bel lt0) (trodAll_cons_mk (shut_string Tryd.underlying9 w1) (trodAll_cons_mk (shut_int Tryd.underlying3 w2) trodAll_mk0))), rfl, bel.frame _, fun h => by cases h⟩

noncomputable def laidWorld (os : Os) : World :=
  { World.holding Tryd.prog os ⟨#[], #[], []⟩ with heap := (((((World.holding Tryd.prog os ⟨#[], #[], []⟩).heap).modify 2 fun | .cells _ t frozen => .cells (#[.int .u8 128, .int .u8 191, .int .u8 160, .int .u8 191, .int .u8 128, .int .u8 159, .int .u8 144, .int .u8 191, .int .u8 128, .int .u8 143, .int .u8 0, .int .u8 0, .int .u8 0, .int .u8 0, .int .u8 0, .int .u8 0, .int .u8 0, .int .u8 0, .int .u8 0, .int .u8 0, .int .u8 0, .int .u8 0, .int .u8 0, .int .u8 0, .int .u8 0, .int .u8 0, .int .u8 0, .int .u8 0, .int .u8 0, .int .u8 0, .int .u8 0, .int .u8 0]) t frozen | o => o)).modify 1 fun | .cells _ t frozen => .cells ((Go.Pinned.utf8FirstZ.map fun z : Nat => Value.int .u8 (z : Int)).toArray) t frozen | o => o) }
theorem laid_met (os : Os) : laidMet Tryd.prog Rows.envImagesRow.laid ((laidWorld os).forCall (fun _ _ => 0) ⟨#[], #[.agg #[.int .u8 0, .int .i64 0, .int .u64 0], .string ByteArray.empty, .int .i64 0], []⟩).memory :=
  laidMet_of_run' 8 (by kernel_rfl) (by kernel_rfl)
theorem reads (os : Os) {H : Type} (enc : TypeId × Value → H) : ∃ places, DataW.whole enc Tryd.prog ((laidWorld os).forCall (fun _ _ => 0) ⟨#[], #[.agg #[.int .u8 0, .int .i64 0, .int .u64 0], .string ByteArray.empty, .int .i64 0], []⟩).memory Tryd.f3.params.toList Rows.envImagesSpec.vars false (#[.agg #[.int .u8 0, .int .i64 0, .int .u64 0], .string ByteArray.empty, .int .i64 0] : Array Value).toList 8 = some ([.agg [.lit (.int .u8 0), .lit (.int .i64 0), .lit (.int .u64 0)], .lit (.string []), .lit (.int .i64 0)], [], places) :=
  ⟨[], by kernel_rfl⟩

set_option maxRecDepth 100000 in
theorem lifted (os : Os) (started : os.Started) (H : Type) (enc : TypeId × Value → H) (F : Stop.Interp) :
    ReturnsInHanded {} Tryd.checked os 3 .any ((OpenSpec.ofChange Rows.envImagesSpec).preRow enc Tryd.prog Tryd.f3 Rows.envImagesRow.domain false Rows.envImagesRow.laid) (((OpenSpec.ofChange Rows.envImagesSpec).at F).post enc Tryd.prog Tryd.f3 false true false false) := by
  obtain ⟨places, hx⟩ := reads os enc
  refine returnsInHanded_of_row (C := Tryd.checked) (s := OpenSpec.ofChange Rows.envImagesSpec) own started (by kernel_rfl) Tryd.func3
    (witness_row_at (enc := enc) (C := Tryd.checked) false (laidWorld os) #[.agg #[.int .u8 0, .int .i64 0, .int .u64 0], .string ByteArray.empty, .int .i64 0] rfl (by kernel_rfl) (by kernel_rfl) (by kernel_rfl)
      (OpenSpec.preRow_of_cond 8 hx (by kernel_rfl) (fun k hk => by cases hk) (by kernel_rfl) (laid_met os))) ?_
  intro W base args ds gs before hval hW _ _ _ hL _ _
  exact contract H enc W base args ds gs before hval hW

theorem said : Rows.EnvImagesSaid :=
  OpenClaim.holds_of_cond 3 Tryd.f3 rfl rfl rfl rfl rfl rfl rfl ⟨rfl, rfl, rfl, rfl, rfl⟩ rfl rfl rfl rfl rfl (by kernel_rfl) Tryd.func3 (by kernel_rfl)
    (of_decide_eq_true (by kernel_rfl)) (by unfold Func.isWrapper; first | (rw [if_pos (by decide +kernel)]; kernel_rfl) | (rw [if_neg (by decide +kernel)]; exact ⟨rfl, rfl⟩))
    (fun os started H enc _ F => by rw [OpenClaim.pre_eq_preRow]; exact lifted os started H enc F)

theorem plain (f : FuncId) (fn : Func) (hf : Tryd.pinned.checked.prog.funcNamed "treenail/treenaillaw04.EnvImages" = some f) (hfn : Tryd.pinned.checked.prog.funcs[f]? = some fn) :
    false = Tryd.pinned.checked.prog.looks [] ∧ ∀ (j : Nat) t, fn.params[j]? = some t → Tryd.pinned.checked.prog.wantsStandIn t = false := by
  obtain rfl : f = 3 := Option.some.inj ((show Tryd.prog.funcNamed "treenail/treenaillaw04.EnvImages" = some 3 by kernel_rfl).symm.trans hf) |>.symm
  obtain rfl : fn = Tryd.f3 := (Option.some.inj (Tryd.func3.symm.trans hfn)).symm
  refine ⟨by kernel_rfl, fun j t ht => ?_⟩
  rw [Tryd.params3] at ht
  rcases j with _ | _ | _ | j
  · obtain rfl : t = 24 := by simpa using ht.symm
    exact (show Tryd.prog.wantsStandIn 24 = false by kernel_rfl)
  · obtain rfl : t = 9 := by simpa using ht.symm
    exact (show Tryd.prog.wantsStandIn 9 = false by kernel_rfl)
  · obtain rfl : t = 3 := by simpa using ht.symm
    exact (show Tryd.prog.wantsStandIn 3 = false by kernel_rfl)
  · simp at ht

/-- THE STATEMENT -/
theorem proved : Rows.EnvImagesCardSaid :=
  Claim7.holds_tied_plain_at .later [] _ _ _ _ said (fun _ h => by cases h) (by kernel_rfl) (fun _ h => by cases h) envImages_row_tie rfl ⟨rfl, rfl⟩ (by kernel_rfl) rfl plain (by kernel_rfl)
#print axioms proved
end Go.Proofs.YtbbhkoeoelmnlaaDoor.envImages
