/-
  The law LeafPlays holds: whatever updates there are, the entries, and the bytes, are the document's; an elder leaf stays as it was. Conditions: none but the row's own.
-/
import Derived.Test.YtfmbjepjmjcgeaaRows
import Derived.Test.YtfmbjepjmjcgeaaLeX
import Derived.Test.YtfmbjepjmjcgeaaStructsZ
import Derived.WalkKit
import Derived.ProofKit
import Derived.OpenShut
import Derived.ShutString
import Derived.ChangeOld
import Derived.Below
import Derived.Carry
namespace Go.Proofs.Ytfmbjepjmjcgeaa.leafPlays
open Go.ChangeShapes Go.WideShapes Go.ChangeAt Go.RowKit
open Go.Proofs.Ytfmbjepjmjcgeaa
open Go.ChangeMaps (open_string shut_string)
set_option linter.unusedVariables false

theorem own : ownKnob Try.prog.godebug = none := by kernel_rfl
theorem laidOut : laidOutB Try.prog = true := by kernel_rfl

/-- the elements of argument 0 -/
def AR0 (w : World) (a : Option Addr) (len : Nat) : Prop := 0 < len → ∃ b off, a = some ⟨b, off, none⟩ ∧ ∀ i, i < len → ∃ (x0 : Int) (x1 : ByteArray) (x2 : ByteArray) (x3 : Int), w.cell? ⟨b, off + (i * 4 + 0), none⟩ = some (.int .u8 x0) ∧ (Lit.int .u8 x0).wf = true ∧ w.cell? ⟨b, off + (i * 4 + 1), none⟩ = some (.string x1) ∧ x1.size ≤ 140737488355327 ∧ w.cell? ⟨b, off + (i * 4 + 2), none⟩ = some (.string x2) ∧ x2.size ≤ 140737488355327 ∧ w.cell? ⟨b, off + (i * 4 + 3), none⟩ = some (.int .u64 x3) ∧ (Lit.int .u64 x3).wf = true
theorem open_AR0 {H : Type} {enc : TypeId × Value → H} {w : World} {held : Bool} {c : Value} {d : DataW H} {pl : List MemPlace} (h : ∃ m, DataW.trod enc Try.prog w 0 (fun _ => true) held m 22 [c] = some (d, pl)) (hz : ∀ n ∈ d.weights Try.prog 22, n ≤ reachBytes) :
    ∃ a len cap, c = .slice a len cap ∧ AR0 w a len ∧ len ≤ cap ∧ cap ≤ maxLen := by
  obtain ⟨a, len, cap, hc, hl, hm, hx⟩ := open_structs_z Try.underlying22 Try.underlying31 (by kernel_rfl) (by kernel_rfl) (by decide) h hz
  refine ⟨a, len, cap, hc, fun hpos => ?_, hl, hm⟩
  obtain ⟨b, off, ha, hf⟩ := hx hpos
  refine ⟨b, off, ha, fun i hi => ?_⟩
  obtain ⟨v0, hc0, ht0, hz0⟩ := hf i hi 0 _ rfl
  obtain ⟨x0, rfl, hw0⟩ := open_int_cell Try.underlying5 ht0
  obtain ⟨v1, hc1, ht1, hz1⟩ := hf i hi 1 _ rfl
  obtain ⟨x1, rfl, hw1'⟩ := open_str_cell Try.underlying9 ht1
  have hw1 := hz1 Try.underlying9 _ rfl
  obtain ⟨v2, hc2, ht2, hz2⟩ := hf i hi 2 _ rfl
  obtain ⟨x2, rfl, hw2'⟩ := open_str_cell Try.underlying9 ht2
  have hw2 := hz2 Try.underlying9 _ rfl
  obtain ⟨v3, hc3, ht3, hz3⟩ := hf i hi 3 _ rfl
  obtain ⟨x3, rfl, hw3⟩ := open_int_cell Try.underlying29 ht3
  exact ⟨x0, x1, x2, x3, hc0, hw0, hc1, hw1, hc2, hw2, hc3, hw3⟩

open Go.Proofs.Ytfmbjepjmjcgeaa.Leaf Go.Proofs.Ytfmbjepjmjcgeaa.Buf Go.Proofs.Ytfmbjepjmjcgeaa.Msg Go.Proofs.Ytfmbjepjmjcgeaa.Rec
theorem ups0 {w : World} {a : Option Addr} {len cap : Nat} (h : AR0 w a len) : ∃ l, len = l.length ∧ UR w (.slice a len cap) l ∧ ∀ u ∈ l, Qu u := by
  refine ur_of Qu fun h0 => ?_
  obtain ⟨b, off, ha, hx⟩ := h h0
  refine ⟨b, off, ha, fun i hi => ?_⟩
  obtain ⟨x0, x1, x2, x3, c0, h0, c1, h1, c2, h2, c3, h3⟩ := hx i hi
  exact ⟨_, ⟨⟨(u8_bd h0).1, (u8_bd h0).2, (u64_bd h3).1, (u64_bd h3).2⟩, by simpa using h1, by simpa using h2⟩, up_cells c0 c1 c2 c3⟩

/-! ### STEP 1: THE WALK -/
set_option maxHeartbeats 8000000 in
set_option maxRecDepth 100000 in
theorem walk (a0 : Option Addr) (a0l a0c : Nat) (a1 : ByteArray) (w : World) (w0 : AR0 w a0 a0l) (w0l : a0l ≤ a0c) (w0m : a0c ≤ maxLen) (w1 : a1.size ≤ maxLen) :
    Calls Try.prog 3 #[.slice a0 a0l a0c, .string a1] w fun e w' => e = .returned (.bool true) ∧ Below w.heap.size w w' := by
  obtain ⟨l, hl, hu, hq⟩ := ups0 (cap := a0c) w0
  have HQ := Lib.hid hq
  have HNC := Lib.hid (show a0l ≤ a0c ∧ a0c ≤ 9223372036854775807 from ⟨w0l, by unfold maxLen at w0m; exact w0m⟩)
  have HN := Lib.hid hl
  obtain ⟨key, rfl⟩ : ∃ v, a1 = Lend.strOf v := ⟨a1.data.toList, Lend.strOf_ext rfl⟩
  have HU := Lib.hid hu
  have HPL := Lib.hid (Lp.new w)
  obtain ⟨wa, hw1⟩ : ∃ x, x = w.alloc (.cells #[.slice none 0 0] 25) := ⟨_, rfl⟩
  rw [← hw1] at HPL
  obtain ⟨G, hG⟩ : ∃ G, G = w.heap.size := ⟨_, rfl⟩
  have HG := Lib.hid hG
  rw [← hG] at HPL
  have HUW := Lib.hid (fun (W : World) (h : Below w.heap.size w W) => hu.below h)
  clear hl hu hq w0 w0l w0m w1
  go_enter Try.func3, Try.ntmps3
  go_wp2_with fail
  rw [← hw1, ← hG]
  clear hw1 hG
  refine (wakes_any _).mono ?_
  rintro e w2 ⟨rfl, hb⟩
  have HP2 := Lib.hid (HPL.out.on hb)
  clear hb
  obtain ⟨M, hm⟩ : ∃ m, m = min a0l 25 := ⟨_, rfl⟩
  have HMM := Lib.hid hm
  go_upto_region 6 with fail
  go_cut [26, 27, 28] (fun s t i wx => ∃ a' cap', s = .slice a' M cap' ∧ t = .int .i64 M ∧ i = .int .i64 ((0 : Nat) : Int) ∧ (0 < M → a' = a0) ∧ wx = w2)
  case first =>
    have hnc := HNC.out
    go_wp2_with fail
    all_goals
      go_meet
      first
      | (have e : M = 25 := by have := HMM.out; omega
         exact ⟨_, _, by rw [e], by rw [e]; rfl, rfl, fun _ => rfl, rfl⟩)
      | (have e1 : (min (a0l : Int) 25).toNat = M := by have := HMM.out; omega
         have e2 : max (min (a0l : Int) 25) 0 = (M : Int) := by have := HMM.out; omega
         exact ⟨_, _, by rw [e1], by rw [e2], rfl, fun _ => rfl, rfl⟩)
      | (have e : M = a0l := by have := HMM.out; omega
         exact ⟨_, _, by rw [e], by rw [e], rfl, fun _ => rfl, rfl⟩)
  case rest =>
    obtain ⟨s, c, rfl, rfl, rfl, haa, hww⟩ := hcut
    have hww := hww.symm
    subst hww
    have hml : M ≤ l.length ∧ M ≤ 25 := by have := HMM.out; have := HN.out; omega
    obtain ⟨hml, hmk⟩ := hml
    have HAA := Lib.hid haa
    clear hm haa
    go_wp2_with fail
    go_loopw [6, 7, 28] (fun mv av i wr => ∃ (k : Nat) (A : List Up) (fv mv' av' : Value), k ≤ M ∧ mv' = mv ∧ av' = av ∧ i = .int .i64 k ∧ Lp w G fv mv' av' (onL [] A) A wr ∧ Hid (Aq A k)) (fun _ _ i _ => M - (intOf i).toNat)
    case atStart => exact ⟨0, [], _, _, _, Nat.zero_le _, rfl, rfl, rfl, HP2.out, Lib.hid aq_nil⟩
    case round =>
      obtain ⟨k, A, fv, mv, av, hk, rfl, rfl, rfl, hpl, HAQ⟩ := hrel
      rename World => wr
      obtain ⟨L, hL⟩ : ∃ L, L = onL [] A := ⟨_, rfl⟩
      have HLE := Lib.hid hL
      rw [← hL] at hpl
      have HP := Lib.hid hpl
      have HGE := Lib.hid (show Ge L 25 by
        have h := ge_nil.on A
        rw [← hL] at h
        exact ⟨h.srt, h.ok, by have h1 := h.len; have h2 := HAQ.out.len; omega⟩)
      have hGl : G < wr.heap.size := hpl.b.lt
      obtain ⟨ba, bc, rfl, hbc⟩ := own_shape hpl.ea
      obtain ⟨ma, mc, rfl, hmc⟩ := own_shape hpl.ed
      obtain ⟨aa, ac, rfl, hac⟩ := own_shape hpl.ra
      obtain ⟨n, hn⟩ : ∃ n, n = L.length := ⟨_, rfl⟩
      have HLN := Lib.hid hn
      rw [← hn] at HP ⊢
      have hnk : n ≤ 25 := by rw [hn]; exact HGE.out.len
      have hA : A.length = k := HAQ.out.len
      have HAL := Lib.hid hA
      rw [hA] at HP ⊢
      clear hpl hn hL hA
      by_cases hlt : k < M
      · have hki : (k : Int) < (M : Int) := by omega
        have hke : k < l.length := by omega
        have hur := HUW.out wr HP.out.bel
        obtain ⟨g, off, hg, c0, c1, c2, c3⟩ := ur_cells hur k hke
        obtain rfl : s = some ⟨g, off, none⟩ := by rw [HAA.out (by omega), hg]
        have hqu := HQ.out _ (List.getElem_mem hke)
        obtain ⟨u, hue⟩ : ∃ u, u = l[k] := ⟨_, rfl⟩
        rw [← hue] at c0 c1 c2 c3 hqu
        have HTA := Lib.hid (fun W => of_any u W (by have := hqu.2.1; omega) (by have := hqu.2.2; omega))
        unfold agU at HTA
        obtain ⟨x, hx⟩ : ∃ x, x = ofF u := ⟨_, rfl⟩
        have HXW := Lib.hid (show WfU x by rw [hx]; exact ofF_wf hqu.1)
        rw [← hx] at HTA
        clear hg hur hue hx hke hqu
        obtain ⟨w3, hw3⟩ : ∃ z, z = wr.alloc (.cells #[.int .u8 u.kind, .string (Lend.strOf u.key), .string (Lend.strOf u.val), .int .u64 u.delta] 31) := ⟨_, rfl⟩
        have HP3 := Lib.hid (HP.out.on (show Below wr.heap.size wr w3 by rw [hw3]; exact below_new _ _))
        go_wp2_with fail
        rw [← hw3]
        clear hw3 c0 c1 c2 c3
        refine (HTA.out w3).mono ?_
        rintro e w4 ⟨rfl, hb4⟩
        have HP4 := Lib.hid (HP3.out.on hb4)
        clear hb4
        obtain ⟨w5, hw5⟩ : ∃ z, z = (w4.alloc (.cells #[.int .u8 x.kind, .string (Lend.strOf x.key), .string (Lend.strOf x.val), .int .u64 x.delta] 34)).alloc (.cells #[.int .u8 x.kind, .string (Lend.strOf x.key), .string (Lend.strOf x.val), .int .u64 x.delta] 35) := ⟨_, rfl⟩
        have HB45 := Lib.hid (show Below w4.heap.size w4 w5 by rw [hw5]; exact below_nw (below_new _ _) _)
        have HP5 := Lib.hid (HP4.out.on HB45.out)
        have h1 := Has.new w4 (encU x) 34
        have h2 := Has.new (w4.alloc (.cells (encU x).toArray 34)) (encU x) 35
        simp only [World.size_alloc] at h2
        have HXA := Lib.hid (show Has w5 w4.heap.size 34 (encU x) by rw [hw5]; exact h1.alloc _)
        have HXB := Lib.hid (show Has w5 (w4.heap.size + 1) 35 (encU x) by rw [hw5]; exact h2)
        have y0 : w5.cell? ⟨w4.heap.size + 1, 0, none⟩ = some (.int .u8 x.kind) := HXB.out.cell 0
        have y1 : w5.cell? ⟨w4.heap.size + 1, 1, none⟩ = some (.string (Lend.strOf x.key)) := HXB.out.cell 1
        have y2 : w5.cell? ⟨w4.heap.size + 1, 2, none⟩ = some (.string (Lend.strOf x.val)) := HXB.out.cell 2
        have y3 : w5.cell? ⟨w4.heap.size + 1, 3, none⟩ = some (.int .u64 x.delta) := HXB.out.cell 3
        clear h1 h2
        go_wp2_with fail
        rw [← hw5]
        clear hw5
        go_wp2_with fail
        have hsv := svK_len HGE.out x.key
        have hrw := refon_e (u := x) HP5.out.ed (show G + 1 ≤ w5.heap.size from HP5.out.b.lt) HGE.out.srt (by have := HLN.out; omega) HXW.out (by omega)
        unfold agU at hrw
        refine hrw.mono ?_
        clear hrw y0 y1 y2 y3 hsv
        rintro e w6 ⟨nv, rfl, hnv, hb6⟩
        have HP6 := Lib.hid (HP5.out.on hb6)
        have HNV := Lib.hid hnv
        have HXA6 := Lib.hid (HXA.out.below hb6 HXA.out.lt)
        have z0 : w6.cell? ⟨G, 0, none⟩ = some (.slice ba n bc) := HP6.out.b.cell 0
        have y0 : w6.cell? ⟨w4.heap.size, 0, none⟩ = some (.int .u8 x.kind) := HXA6.out.cell 0
        have y1 : w6.cell? ⟨w4.heap.size, 1, none⟩ = some (.string (Lend.strOf x.key)) := HXA6.out.cell 1
        have y2 : w6.cell? ⟨w4.heap.size, 2, none⟩ = some (.string (Lend.strOf x.val)) := HXA6.out.cell 2
        have y3 : w6.cell? ⟨w4.heap.size, 3, none⟩ = some (.int .u64 x.delta) := HXA6.out.cell 3
        obtain ⟨w7, hw7⟩ : ∃ z, z = w6.alloc (.cells #[.int .u8 x.kind, .string (Lend.strOf x.key), .string (Lend.strOf x.val), .int .u64 x.delta] 34) := ⟨_, rfl⟩
        have hb7 : Below w6.heap.size w6 w7 := by rw [hw7]; exact below_new _ _
        have hx7 : Has w7 w6.heap.size 34 (flatU [x]) := by rw [hw7]; exact Has.new w6 (flatU [x]) _
        have HP7 := Lib.hid (HP6.out.on hb7)
        have HNV7 := Lib.hid (own_bel HNV.out hb7)
        have HXA7 := Lib.hid (HXA6.out.below hb7 HXA6.out.lt)
        have hon := leafon_any (w := w7) (m := 25) (ER.of_own HP7.out.ea) HGE.out (by omega) (ur_has (c := 1) hx7) (fun y hy => by rw [List.mem_singleton] at hy; rw [hy]; exact HXW.out) (by simp)
        rw [onL_one] at hon
        simp only [List.length_cons, List.length_nil] at hon
        have HON := Lib.hid hon
        clear hnv hb6 hb7 hx7 hon
        go_wp2_with fail
        rw [← hw7]
        clear hw7
        refine HON.out.mono ?_
        clear y0 y1 y2 y3 z0 HON
        rintro e w8 ⟨cv, rfl, hcv, hb8⟩
        have HP8 := Lib.hid (HP7.out.on hb8)
        have HNV8 := Lib.hid (own_bel HNV7.out hb8)
        have HCV8 := Lib.hid (own_base hcv (show G + 1 ≤ w7.heap.size from HP7.out.b.lt))
        have HXA8 := Lib.hid (HXA7.out.below hb8 HXA7.out.lt)
        obtain ⟨ca, cc, rfl, _⟩ := own_shape hcv
        obtain ⟨na, nc, rfl, _⟩ := own_shape HNV.out
        clear hcv hb8
        obtain ⟨L2, hL2⟩ : ∃ z, z = upE L x := ⟨_, rfl⟩
        have HL2 := Lib.hid hL2
        have HGE2 := Lib.hid (show Ge L2 26 by rw [hL2]; exact HGE.out.up x)
        rw [← hL2] at HNV8 HCV8 ⊢
        obtain ⟨n2, hn2⟩ : ∃ z, z = L2.length := ⟨_, rfl⟩
        have HN2 := Lib.hid hn2
        rw [← hn2] at HNV8 HCV8 ⊢
        clear hL2 hn2
        obtain ⟨w9, hw9⟩ : ∃ z, z = w8.alloc (.cells #[.slice ca n2 cc] 25) := ⟨_, rfl⟩
        have hb9 : Below w8.heap.size w8 w9 := by rw [hw9]; exact below_new _ _
        have HP9 := Lib.hid (HP8.out.on hb9)
        have HNV9 := Lib.hid (own_bel HNV8.out hb9)
        have HCV9 := Lib.hid (own_bel HCV8.out hb9)
        have HXA9 := Lib.hid (HXA8.out.below hb9 HXA8.out.lt)
        have HXC := Lib.hid (show Has w9 w8.heap.size 25 [.slice ca n2 cc] by rw [hw9]; exact Has.new w8 _ _)
        have z0 : w8.cell? ⟨G, 0, none⟩ = some (.slice ba n bc) := HP8.out.b.cell 0
        have hG8 : G < w8.heap.size := HP8.out.b.lt
        clear hb9
        go_wp2_with fail
        rw [← hw9]
        clear hw9 hG8
        refine (same_any (ER.of_own HP9.out.ea) (ER.of_own HP9.out.ed) HGE.out.srt (by have := HLN.out; omega)).mono ?_
        rintro e wb ⟨rfl, hbb⟩
        have HPb := Lib.hid (HP9.out.on hbb)
        have HNVb := Lib.hid (own_bel HNV9.out hbb)
        have HCVb := Lib.hid (own_bel HCV9.out hbb)
        have HXAb := Lib.hid (HXA9.out.below hbb HXA9.out.lt)
        have HXCb := Lib.hid (HXC.out.below hbb HXC.out.lt)
        have z1 : wb.cell? ⟨w8.heap.size, 0, none⟩ = some (.slice ca n2 cc) := HXCb.out.cell 0
        clear hbb z0
        go_wp2_with fail
        refine (same_any (ER.of_own (ea_own HN2.out HCVb.out)) (ER.of_own (ea_own HN2.out HNVb.out)) HGE2.out.srt (by have := HGE2.out.len; omega)).mono ?_
        rintro e wc ⟨rfl, hbc⟩
        have HPc := Lib.hid (HPb.out.on hbc)
        have HNVc := Lib.hid (own_bel HNVb.out hbc)
        have HCVc := Lib.hid (own_bel HCVb.out hbc)
        have HXAc := Lib.hid (HXAb.out.below hbc HXAb.out.lt)
        have HXCc := Lib.hid (HXCb.out.below hbc HXCb.out.lt)
        have z2 : wc.cell? ⟨w8.heap.size, 0, none⟩ = some (.slice ca n2 cc) := HXCc.out.cell 0
        have z3 : wc.cell? ⟨G, 0, none⟩ = some (.slice ba n bc) := HPc.out.b.cell 0
        have z4 := HPc.out.b.frozen 0
        obtain ⟨wd, hwd⟩ : ∃ z, z = wc.setCell ⟨G, 0, none⟩ (.slice ca n2 cc) := ⟨_, rfl⟩
        have HPd := Lib.hid (show Lp w G (.slice ca n2 cc) (.slice na n2 nc) (.slice aa k ac) L2 A wd by
          rw [hwd]; exact HPc.out.set (Nat.le_of_eq HG.out.symm) (ea_own HN2.out HCVc.out) (ea_own HN2.out HNVc.out))
        have HXAd := Lib.hid (show Has wd w4.heap.size 34 (encU x) by rw [hwd]; exact HXAc.out.setOther (show G ≠ w4.heap.size from fun e => by have := HP4.out.b.lt; omega) _)
        clear hbc z1
        go_upto_region 15 with fail
        rw [← hwd]
        clear hwd z2 z3 z4
        have y0 : wd.cell? ⟨w4.heap.size, 0, none⟩ = some (.int .u8 x.kind) := HXAd.out.cell 0
        have y1 : wd.cell? ⟨w4.heap.size, 1, none⟩ = some (.string (Lend.strOf x.key)) := HXAd.out.cell 1
        have y2 : wd.cell? ⟨w4.heap.size, 2, none⟩ = some (.string (Lend.strOf x.val)) := HXAd.out.cell 2
        have y3 : wd.cell? ⟨w4.heap.size, 3, none⟩ = some (.int .u64 x.delta) := HXAd.out.cell 3
        obtain ⟨ve, we, hre, hrae, hge⟩ := uapp_one 28 x HPd.out.ra (show G + 1 ≤ wd.heap.size from HPd.out.b.lt) (by have := HAL.out; omega)
        have HPe := Lib.hid ((HPd.out.on (below_new wd _)).more (Nat.le_of_eq HG.out.symm) hrae hge)
        clear hrae hge
        go_wp2_with (at_builtin; refine wpList_append_run rfl _ _ _ _ rfl _ _ _ rfl rfl hre ?_)
        go_roundw
        case rel => exact ⟨k + 1, A ++ [x], _, _, _, by omega, rfl, rfl, by go_num, by rw [onL_snoc, ← HLE.out, ← HL2.out]; exact HPe.out, Lib.hid (HAQ.out.snoc HXW.out)⟩
        case measure => simp [intOf]; omega
      · obtain rfl : k = M := by omega
        have hki : ¬ ((k : Int) < (k : Int)) := by omega
        have hln : L.length = n := HLN.out.symm
        have htx := etext_any (ER.of_own HP.out.ea) (by omega) HGE.out.sho
        have HTR := Lib.hid (fun (W : World) (v : Value) (h : ED W (G + 1) v L) => reftext_e (ER.of_own h) (by omega) HGE.out.sho)
        obtain ⟨TX, hTX⟩ : ∃ z, z = Lend.strOf (txE L) := ⟨_, rfl⟩
        rw [← hTX] at htx HTR
        obtain ⟨sk, hsk⟩ : ∃ z, z = svK L key := ⟨_, rfl⟩
        have HGT := Lib.hid (fun (W : World) (v : Value) (h : EA W (G + 1) v L) => eget_any (w := W) key (ER.of_own h) HGE.out.srt (by omega))
        have HRG := Lib.hid (fun (W : World) (v : Value) (h : ED W (G + 1) v L) => refget_e (w := W) key (ER.of_own h) HGE.out.srt (by omega))
        rw [← hsk] at HGT HRG
        unfold gvE at HGT HRG
        have HSL := Lib.hid (show L.length ≤ 25 by omega)
        have z0 : wr.cell? ⟨G, 0, none⟩ = some (.slice ba n bc) := HP.out.b.cell 0
        clear hTX hsk hln hnk
        obtain ⟨s1, s2⟩ := sk
        simp only at HGT HRG
        go_wp2_with fail
        refine htx.mono ?_
        clear htx z0
        rintro e w3 ⟨rfl, hb3⟩
        have HP3 := Lib.hid (HP.out.on hb3)
        have z0 : w3.cell? ⟨G, 0, none⟩ = some (.slice ba n bc) := HP3.out.b.cell 0
        clear hb3
        go_wp2_with fail
        refine (HGT.out w3 _ HP3.out.ea).mono ?_
        clear z0
        rintro e w4 ⟨rfl, hb4⟩
        have HP4 := Lib.hid (HP3.out.on hb4)
        clear hb4
        go_wp2_with fail
        refine (HRG.out w4 _ HP4.out.ed).mono ?_
        rintro e w5 ⟨rfl, hb5⟩
        have HP5 := Lib.hid (HP4.out.on hb5)
        clear hb5
        have hon := leafon_any (w := w5) (ER.nil w5) ge_nil (by omega) (UR.of_own HP5.out.ra) HAQ.out.wf (by have := HAL.out; omega)
        go_wp2_with fail
        refine hon.mono ?_
        clear hon
        rintro e w6 ⟨cv, rfl, hcv, hb6⟩
        rw [← HLE.out] at hcv
        have HP6 := Lib.hid (HP5.out.on hb6)
        have hsm := same_any (ER.of_own hcv) (ER.of_own HP6.out.ed) HGE.out.srt (by have := HSL.out; omega)
        clear hb6 hcv
        go_wp2_with fail
        refine hsm.mono ?_
        clear hsm
        rintro e w7 ⟨rfl, hb7⟩
        have HP7 := Lib.hid (HP6.out.on hb7)
        clear hb7
        go_wp2_with fail
        refine (HTR.out w7 _ HP7.out.ed).mono ?_
        rintro e w8 ⟨rfl, hb8⟩
        have HP8 := Lib.hid (HP7.out.on hb8)
        clear hb8
        go_wp2_with fail
        go_ret
        exact ⟨rfl, HP8.out.bel⟩

/-! ### THE ROW's STEP -/
set_option maxRecDepth 100000 in
theorem lifted (os : Os) (started : os.Started) (H : Type) (enc : TypeId × Value → H) :
    ReturnsInHanded {} Try.checked os 3 .any (Rows.leafPlaysSpec.pre6 enc Try.prog Try.f3 Rows.leafPlaysRow.domain false) (Rows.leafPlaysSpec.post enc Try.prog Try.f3 false true false false) := by
  refine returnsInHanded_of_change_sized (C := Try.checked) own started (by kernel_rfl) Try.func3
    (ChangeSpec.witness6 (enc := enc) (C := Try.checked) false ⟨#[], #[.slice none 0 0, .string ByteArray.empty], []⟩ 8 (by kernel_rfl) (by kernel_rfl) (by kernel_rfl) (by kernel_rfl)) ?_
  intro W base args ds gs before hval0 hW hcnd hsz _
  have hval : ∀ (j : Nat) t v, Try.f3.params[j]? = some t → args[j]? = some v → Value.okWide Try.prog W .any base t v := hval0
  have hW' := hW
  obtain ⟨p, q, hA0, hV, rfl, hfz, hnd⟩ := hW
  have hA : DataW.TrodAll enc Try.prog W 0 (fun _ => true) true Try.f3.params.toList args.toList ds p := hA0
  rw [Try.params3] at hA hval
  obtain ⟨v0, vs0, d0, ds0, p0, q0, hargs, rfl, rfl, h0, r0⟩ := trodAll_cons hA
  obtain ⟨v1, vs1, d1, ds1, p1, q1, rfl, rfl, rfl, h1, r1⟩ := trodAll_cons r0
  obtain ⟨rfl, rfl, rfl⟩ := trodAll_nil r1
  obtain rfl : args = #[v0, v1] := by cases args; simp_all
  obtain ⟨rfl, rfl⟩ := trodVars_none hV
  have k0 := h0
  have lt0 : ∀ x ∈ p0, x.block < W.heap.size := by obtain ⟨m, hm⟩ := k0; exact DataW.trod_lt m _ _ _ hm
  obtain ⟨a0', l0', c0', rfl⟩ := okWide_slice Try.underlying22 (hval 0 22 v0 rfl rfl)
  obtain ⟨a0, a0l, a0c, he0, w0, w0l, w0m⟩ := open_AR0 (c := .slice a0' l0' c0') (by obtain ⟨m, hm⟩ := h0; exact ⟨m, hm⟩) (fun n hn => by have := List.all_eq_true.1 hsz n (DataW.weights_mem_each (j := 0) rfl rfl n hn); simpa using this)
  simp only [Value.slice.injEq] at he0
  obtain ⟨rfl, rfl, rfl⟩ := he0
  obtain ⟨a1, rfl, rfl, rfl, w1⟩ := open_string Try.underlying9 (hval 1 9 v1 rfl rfl) h1
  clear hA0 hval0
  refine (walk a0' l0' c0' a1 W w0 w0l w0m w1).mono fun e W' ⟨he, bel⟩ => ?_
  subst he
  exact ⟨_, rfl, _, _, _, [], _, [], hW', trodAll_mk1 (shut_bool Try.underlying4 _), (trodAll_cons_mk (Below.trod laidOut (by kernel_rfl) (of_decide_eq_true (by kernel_rfl)) k0 bel lt0) (trodAll_cons_mk (shut_string Try.underlying9 w1) trodAll_mk0)), rfl, bel.frame _, fun h => by cases h⟩

theorem over : Rows.leafPlaysRow.holds Try.pinned (OpenSpec.ofChange Rows.leafPlaysSpec) :=
  OpenClaim.holds_of_wide 3 Try.f3 rfl rfl rfl rfl rfl rfl rfl ⟨rfl, rfl, rfl, rfl, rfl⟩ rfl rfl rfl rfl rfl (by kernel_rfl) Try.func3 (by kernel_rfl)
    (of_decide_eq_true (by kernel_rfl)) (by unfold Func.isWrapper; first | (rw [if_pos (by decide +kernel)]; kernel_rfl) | (rw [if_neg (by decide +kernel)]; exact ⟨rfl, rfl⟩))
    (fun os started H enc _ => lifted os started H enc)

/-- THE STATEMENT -/
theorem proved : Rows.LeafPlaysSaid := over
#print axioms proved
end Go.Proofs.Ytfmbjepjmjcgeaa.leafPlays
