/-
  The law BufPlays holds: whatever is put, which messages wait, what is cut, and the bytes, are the document's; an elder buffer stays as it was. Conditions: none but the row's own.
-/
import Derived.Test.YtiljcfmplbmooaaRows
import Derived.Test.YtiljcfmplbmooaaBufX
import Derived.Test.YtiljcfmplbmooaaStructsZ
import Derived.WalkKit
import Derived.ProofKit
import Derived.OpenShut
import Derived.ShutString
import Derived.ChangeOld
import Derived.Below
import Derived.Carry
namespace Go.Proofs.Ytiljcfmplbmooaa.bufPlays
open Go.ChangeShapes Go.WideShapes Go.ChangeAt Go.RowKit
open Go.Proofs.Ytiljcfmplbmooaa
open Go.ChangeMaps (open_string shut_string)
set_option linter.unusedVariables false

theorem own : ownKnob Try.prog.godebug = none := by kernel_rfl
theorem laidOut : laidOutB Try.prog = true := by kernel_rfl

/-- the elements of argument 0 -/
def AR0 (w : World) (a : Option Addr) (len : Nat) : Prop := 0 < len → ∃ b off, a = some ⟨b, off, none⟩ ∧ ∀ i, i < len → ∃ (x0 : Int) (x1 : ByteArray) (x2 : ByteArray) (x3 : Int), w.cell? ⟨b, off + (i * 4 + 0), none⟩ = some (.int .u8 x0) ∧ (Lit.int .u8 x0).wf = true ∧ w.cell? ⟨b, off + (i * 4 + 1), none⟩ = some (.string x1) ∧ x1.size ≤ 140737488355327 ∧ w.cell? ⟨b, off + (i * 4 + 2), none⟩ = some (.string x2) ∧ x2.size ≤ 140737488355327 ∧ w.cell? ⟨b, off + (i * 4 + 3), none⟩ = some (.int .u64 x3) ∧ (Lit.int .u64 x3).wf = true
theorem open_AR0 {H : Type} {enc : TypeId × Value → H} {w : World} {held : Bool} {c : Value} {d : DataW H} {pl : List MemPlace} (h : ∃ m, DataW.trod enc Try.prog w 0 (fun _ => true) held m 22 [c] = some (d, pl)) (hz : ∀ n ∈ d.weights Try.prog 22, n ≤ reachBytes) :
    ∃ a len cap, c = .slice a len cap ∧ AR0 w a len ∧ len ≤ cap ∧ cap ≤ maxLen := by
  obtain ⟨a, len, cap, hc, hl, hm, hx⟩ := open_structs_z Try.underlying22 Try.underlying30 (by kernel_rfl) (by kernel_rfl) (by decide) h hz
  refine ⟨a, len, cap, hc, fun hpos => ?_, hl, hm⟩
  obtain ⟨b, off, ha, hf⟩ := hx hpos
  refine ⟨b, off, ha, fun i hi => ?_⟩
  obtain ⟨v0, hc0, ht0, hz0⟩ := hf i hi 0 _ rfl
  obtain ⟨x0, rfl, hw0⟩ := open_int_cell Try.underlying5 ht0
  obtain ⟨v1, hc1, ht1, hz1⟩ := hf i hi 1 _ rfl
  obtain ⟨x1, rfl, hw1'⟩ := open_str_cell Try.underlying9 ht1
  have hw1 := hz1 Try.underlying9 _ rfl
  obtain ⟨v2, hc2, ht2, hz2⟩ := hf i hi 2 _ rfl
  obtain ⟨x2, rfl, hw2'⟩ := open_str_cell Try.underlying9 ht2
  have hw2 := hz2 Try.underlying9 _ rfl
  obtain ⟨v3, hc3, ht3, hz3⟩ := hf i hi 3 _ rfl
  obtain ⟨x3, rfl, hw3⟩ := open_int_cell Try.underlying28 ht3
  exact ⟨x0, x1, x2, x3, hc0, hw0, hc1, hw1, hc2, hw2, hc3, hw3⟩

open Go.Proofs.Ytiljcfmplbmooaa.Buf Go.Proofs.Ytiljcfmplbmooaa.Msg Go.Proofs.Ytiljcfmplbmooaa.Rec
theorem ups0 {w : World} {a : Option Addr} {len cap : Nat} (h : AR0 w a len) : ∃ l, len = l.length ∧ UR w (.slice a len cap) l ∧ ∀ u ∈ l, Qu u := by
  refine ur_of Qu fun h0 => ?_
  obtain ⟨b, off, ha, hx⟩ := h h0
  refine ⟨b, off, ha, fun i hi => ?_⟩
  obtain ⟨x0, x1, x2, x3, c0, h0, c1, h1, c2, h2, c3, h3⟩ := hx i hi
  exact ⟨_, ⟨⟨(u8_bd h0).1, (u8_bd h0).2, (u64_bd h3).1, (u64_bd h3).2⟩, by simpa using h1, by simpa using h2⟩, up_cells c0 c1 c2 c3⟩

/-! ### STEP 1: THE WALK -/
set_option maxHeartbeats 8000000 in
set_option maxRecDepth 100000 in
theorem walk (a0 : Option Addr) (a0l a0c : Nat) (a1 : ByteArray) (a2 : ByteArray) (w : World) (w0 : AR0 w a0 a0l) (w0l : a0l ≤ a0c) (w0m : a0c ≤ maxLen) (w1 : a1.size ≤ maxLen) (w2 : a2.size ≤ maxLen) :
    Calls Try.prog 3 #[.slice a0 a0l a0c, .string a1, .string a2] w fun e w' => e = .returned (.bool true) ∧ Below w.heap.size w w' := by
  obtain ⟨l, hl, hu, hq⟩ := ups0 (cap := a0c) w0
  have HQ := Lib.hid hq
  have HNC := Lib.hid (show a0l ≤ a0c ∧ a0c ≤ 9223372036854775807 from ⟨w0l, by unfold maxLen at w0m; exact w0m⟩)
  have HN := Lib.hid hl
  obtain ⟨low, rfl⟩ : ∃ v, a1 = Lend.strOf v := ⟨a1.data.toList, Lend.strOf_ext rfl⟩
  obtain ⟨high, rfl⟩ : ∃ v, a2 = Lend.strOf v := ⟨a2.data.toList, Lend.strOf_ext rfl⟩
  have HU := Lib.hid hu
  have HPL := Lib.hid (Pl.new w)
  obtain ⟨wa, hw1⟩ : ∃ x, x = w.alloc (.cells #[.slice none 0 0] 25) := ⟨_, rfl⟩
  rw [← hw1] at HPL
  obtain ⟨G, hG⟩ : ∃ G, G = w.heap.size := ⟨_, rfl⟩
  have HG := Lib.hid hG
  rw [← hG] at HPL
  have HUW := Lib.hid (fun (W : World) (h : Below w.heap.size w W) => hu.below h)
  clear hl hu hq w0 w0l w0m w1 w2
  go_enter Try.func3, Try.ntmps3
  go_wp2_with fail
  rw [← hw1, ← hG]
  clear hw1 hG
  refine (wakes_any _).mono ?_
  rintro e w2 ⟨rfl, hb⟩
  have HP2 := Lib.hid (HPL.out.on hb)
  clear hb
  obtain ⟨M, hm⟩ : ∃ m, m = min a0l 25 := ⟨_, rfl⟩
  have HMM := Lib.hid hm
  go_upto_region 5 with fail
  go_cut [31, 32, 33] (fun s t i wx => ∃ a' cap', s = .slice a' M cap' ∧ t = .int .i64 M ∧ i = .int .i64 ((0 : Nat) : Int) ∧ (0 < M → a' = a0) ∧ wx = w2)
  case first =>
    have hnc := HNC.out
    go_wp2_with fail
    all_goals
      go_meet
      first
      | (have e : M = 25 := by have := HMM.out; omega
         exact ⟨_, _, by rw [e], by rw [e]; rfl, rfl, fun _ => rfl, rfl⟩)
      | (have e : M = a0l := by have := HMM.out; omega
         exact ⟨_, _, by rw [e], by rw [e], rfl, fun _ => rfl, rfl⟩)
  case rest =>
    obtain ⟨s, c, rfl, rfl, rfl, haa, hww⟩ := hcut
    have hww := hww.symm
    subst hww
    have hml : M ≤ l.length ∧ M ≤ 25 := by have := HMM.out; have := HN.out; omega
    obtain ⟨hml, hmk⟩ := hml
    have HAA := Lib.hid haa
    clear hm haa
    go_wp2_with fail
    go_loopw [8, 33] (fun mv i wr => ∃ (k : Nat) (L : List Up) (bv mv' : Value), k ≤ M ∧ mv' = mv ∧ i = .int .i64 k ∧ Pl w G bv mv' L wr ∧ Hid (Gd L k)) (fun _ i _ => M - (intOf i).toNat)
    case atStart => exact ⟨0, [], _, _, Nat.zero_le _, rfl, rfl, HP2.out, Lib.hid gd_nil⟩
    case round =>
      obtain ⟨k, L, bv, mv, hk, rfl, rfl, hpl, HGD⟩ := hrel
      rename World => wr
      have HP := Lib.hid hpl
      have hGl : G < wr.heap.size := hpl.b.lt
      obtain ⟨ba, bc, rfl, hbc⟩ := own_shape hpl.ra
      have HCP := Lib.hid (show CpOk (.slice ba L.length bc) from hbc)
      obtain ⟨ma, mc, rfl, hmc⟩ := own_shape hpl.ru
      obtain ⟨n, hn⟩ : ∃ n, n = L.length := ⟨_, rfl⟩
      have HLN := Lib.hid hn
      rw [← hn] at HP HCP hbc hmc ⊢
      have hnk : n ≤ k := by rw [hn]; exact HGD.out.len
      clear hpl hn
      by_cases hlt : k < M
      · have hki : (k : Int) < (M : Int) := by omega
        have hke : k < l.length := by omega
        have hur := HUW.out wr HP.out.bel
        obtain ⟨g, off, hg⟩ := ur_some hur (by omega)
        obtain rfl : s = some ⟨g, off, none⟩ := by rw [HAA.out (by omega), hg]
        rw [hg] at hur
        obtain ⟨c0, c1, c2, c3⟩ := ur_cells hur k hke
        have hqu := HQ.out _ (List.getElem_mem hke)
        obtain ⟨u, hue⟩ : ∃ u, u = l[k] := ⟨_, rfl⟩
        rw [← hue] at c0 c1 c2 c3 hqu
        have HTA := Lib.hid (fun W => tame_any u W hqu.1 hqu.2.1 hqu.2.2)
        unfold TaE agU at HTA
        obtain ⟨x, hx⟩ : ∃ x, x = tmU u := ⟨_, rfl⟩
        have HTX := Lib.hid (show Tm x by rw [hx]; exact tmU_tm hqu.1)
        have HXK := Lib.hid (show x.key ≠ [] by rw [hx]; exact tmU_key u)
        rw [← hx] at HTA
        clear hg hur hue hx hke hqu
        obtain ⟨w3, hw3⟩ : ∃ z, z = wr.alloc (.cells #[.int .u8 u.kind, .string (Lend.strOf u.key), .string (Lend.strOf u.val), .int .u64 u.delta] 30) := ⟨_, rfl⟩
        have HP3 := Lib.hid (HP.out.on (show Below wr.heap.size wr w3 by rw [hw3]; exact below_new _ _))
        go_wp2_with fail
        rw [← hw3]
        clear hw3 c0 c1 c2 c3
        refine (HTA.out w3).mono ?_
        rintro e w4 ⟨rfl, hb4⟩
        have HP4 := Lib.hid (HP3.out.on hb4)
        clear hb4
        obtain ⟨w5, hw5⟩ : ∃ z, z = (w4.alloc (.cells #[.int .u8 x.kind, .string (Lend.strOf x.key), .string (Lend.strOf x.val), .int .u64 x.delta] 33)).alloc (.cells #[.int .u8 x.kind, .string (Lend.strOf x.key), .string (Lend.strOf x.val), .int .u64 x.delta] 34) := ⟨_, rfl⟩
        have HB45 := Lib.hid (show Below w4.heap.size w4 w5 by rw [hw5]; exact below_nw (below_new _ _) _)
        have HP5 := Lib.hid (HP4.out.on HB45.out)
        have h1 := Has.new w4 (encU x) 33
        have h2 := Has.new (w4.alloc (.cells (encU x).toArray 33)) (encU x) 34
        simp only [World.size_alloc] at h2
        have HXA := Lib.hid (show Has w5 w4.heap.size 33 (encU x) by rw [hw5]; exact h1.alloc _)
        have HXB := Lib.hid (show Has w5 (w4.heap.size + 1) 34 (encU x) by rw [hw5]; exact h2)
        have y0 : w5.cell? ⟨w4.heap.size + 1, 0, none⟩ = some (.int .u8 x.kind) := HXB.out.cell 0
        have y1 : w5.cell? ⟨w4.heap.size + 1, 1, none⟩ = some (.string (Lend.strOf x.key)) := HXB.out.cell 1
        have y2 : w5.cell? ⟨w4.heap.size + 1, 2, none⟩ = some (.string (Lend.strOf x.val)) := HXB.out.cell 2
        have y3 : w5.cell? ⟨w4.heap.size + 1, 3, none⟩ = some (.int .u64 x.delta) := HXB.out.cell 3
        clear h1 h2
        go_wp2_with fail
        rw [← hw5]
        clear hw5
        go_wp2_with fail
        have hrw := refwith_any (UR.of_own HP5.out.ru) HGD.out.srt (by have := HLN.out; omega) (fun y hy => (HGD.out.tm y hy).1) HTX.out
        unfold agU at hrw
        refine hrw.mono ?_
        clear hrw y0 y1 y2 y3
        rintro e w6 ⟨nv, rfl, hnv, hb6⟩
        have HP6 := Lib.hid (HP5.out.on hb6)
        have HNV := Lib.hid (own_base hnv (show G + 1 ≤ w5.heap.size from HP5.out.b.lt))
        have z0 : w6.cell? ⟨G, 0, none⟩ = some (.slice ba n bc) := HP6.out.b.cell 0
        have y0 : w6.cell? ⟨w4.heap.size, 0, none⟩ = some (.int .u8 x.kind) := keep1 (HXA.out.cell 0) hb6
        have y1 : w6.cell? ⟨w4.heap.size, 1, none⟩ = some (.string (Lend.strOf x.key)) := keep1 (HXA.out.cell 1) hb6
        have y2 : w6.cell? ⟨w4.heap.size, 2, none⟩ = some (.string (Lend.strOf x.val)) := keep1 (HXA.out.cell 2) hb6
        have y3 : w6.cell? ⟨w4.heap.size, 3, none⟩ = some (.int .u64 x.delta) := keep1 (HXA.out.cell 3) hb6
        clear hnv hb6
        go_wp2_with fail
        have hrw := with_any (UR.of_own HP6.out.ra) HCP.out HGD.out.srt (by have := HLN.out; omega) (fun y hy => (HGD.out.tm y hy).1) HTX.out
        unfold agU at hrw
        refine hrw.mono ?_
        clear hrw y0 y1 y2 y3 z0
        rintro e w7 ⟨cv, rfl, hcv, hb7⟩
        have HP7 := Lib.hid (HP6.out.on hb7)
        have HNV7 := Lib.hid (own_bel HNV.out hb7)
        have HCV7 := Lib.hid (own_base hcv (show G + 1 ≤ w6.heap.size from HP6.out.b.lt))
        obtain ⟨ca, cc, rfl, _⟩ := own_shape hcv
        obtain ⟨na, nc, rfl, _⟩ := own_shape HNV.out
        clear hcv hb7 HXA HXB
        obtain ⟨w8, hw8⟩ : ∃ z, z = w7.alloc (.cells #[.slice ca (withU L x).length cc] 25) := ⟨_, rfl⟩
        have HB78 := Lib.hid (show Below w7.heap.size w7 w8 by rw [hw8]; exact below_new _ _)
        have HP8 := Lib.hid (HP7.out.on HB78.out)
        have HNV8 := Lib.hid (own_bel HNV7.out HB78.out)
        have HCV8 := Lib.hid (own_bel HCV7.out HB78.out)
        have HXC := Lib.hid (show Has w8 w7.heap.size 25 [.slice ca (withU L x).length cc] by rw [hw8]; exact Has.new w7 _ _)
        have HGD2 := Lib.hid (HGD.out.with HTX.out HXK.out)
        obtain ⟨L2, hL2⟩ : ∃ z, z = withU L x := ⟨_, rfl⟩
        rw [← hL2] at HNV8 HCV8 HXC HGD2 ⊢
        obtain ⟨n2, hn2⟩ : ∃ z, z = L2.length := ⟨_, rfl⟩
        have HN2 := Lib.hid hn2
        rw [← hL2, ← hn2] at hw8
        rw [← hn2] at HNV8 HCV8 HXC ⊢
        clear hL2 hn2
        have z0 : w7.cell? ⟨G, 0, none⟩ = some (.slice ba n bc) := HP7.out.b.cell 0
        have hG7 : G < w7.heap.size := HP7.out.b.lt
        go_wp2_with fail
        rw [← hw8]
        clear hw8 hG7
        refine (same_any (UR.of_own HP8.out.ra) (UR.of_own HP8.out.ru) HGD.out.srt (by have := HLN.out; omega)).mono ?_
        rintro e w9 ⟨rfl, hb9⟩
        have HP9 := Lib.hid (HP8.out.on hb9)
        have HNV9 := Lib.hid (own_bel HNV8.out hb9)
        have HCV9 := Lib.hid (own_bel HCV8.out hb9)
        have HXC9 := Lib.hid (HXC.out.below hb9 HXC.out.lt)
        have z1 : w9.cell? ⟨w7.heap.size, 0, none⟩ = some (.slice ca n2 cc) := HXC9.out.cell 0
        clear hb9 z0
        go_wp2_with fail
        refine (same_any (ur_own HN2.out HCV9.out) (ur_own HN2.out HNV9.out) HGD2.out.srt (by have := HGD2.out.len; omega)).mono ?_
        rintro e w10 ⟨rfl, hb10⟩
        have HP10 := Lib.hid (HP9.out.on hb10)
        have HNV10 := Lib.hid (own_bel HNV9.out hb10)
        have HCV10 := Lib.hid (own_bel HCV9.out hb10)
        have HXC10 := Lib.hid (HXC9.out.below hb10 HXC9.out.lt)
        have z2 : w10.cell? ⟨w7.heap.size, 0, none⟩ = some (.slice ca n2 cc) := HXC10.out.cell 0
        have z3 : w10.cell? ⟨G, 0, none⟩ = some (.slice ba n bc) := HP10.out.b.cell 0
        have z4 := HP10.out.b.frozen 0
        clear hb10 z1
        go_wp2_with fail
        go_roundw
        case rel => exact ⟨k + 1, L2, _, _, by omega, rfl, by go_num, HP10.out.set (Nat.le_of_eq HG.out.symm) (ro_own HN2.out HCV10.out) (ro_own HN2.out HNV10.out), HGD2⟩
        case measure => simp [intOf]; omega
      · obtain rfl : k = M := by omega
        have hki : ¬ ((k : Int) < (k : Int)) := by omega
        have hcut := cut_any low high (UR.of_own (HP.out.ra)) HCP.out HGD.out.srt (by have := HLN.out; omega)
        have HSI := Lib.hid (cutI_srt HGD.out.srt low high)
        have HSO := Lib.hid (cutO_srt HGD.out.srt low high)
        have HLI := Lib.hid (show (cutI low high L).length ≤ 100000 by have := cutI_len low high L; have := HLN.out; omega)
        have HLO := Lib.hid (show (cutO low high L).length ≤ 100000 by have := cutO_len low high L; have := HLN.out; omega)
        have hrcut := fun (W : World) (hb : Below w.heap.size w W) (v : Value) (hv : UR W v L) => refcut_any low high (w := W) hv (by have := HLN.out; omega)
        unfold CuP at hcut
        unfold CuQ at hrcut
        obtain ⟨CI, hCI⟩ : ∃ z, z = cutI low high L := ⟨_, rfl⟩
        obtain ⟨CO, hCO⟩ : ∃ z, z = cutO low high L := ⟨_, rfl⟩
        rw [← hCI] at hcut hrcut HSI HLI
        rw [← hCO] at hcut hrcut HSO HLO
        have HRC := Lib.hid hrcut
        clear hCI hCO hrcut
        have z0 : wr.cell? ⟨G, 0, none⟩ = some (.slice ba n bc) := HP.out.b.cell 0
        go_wp2_with fail
        refine hcut.mono ?_
        clear hcut z0
        rintro e w3 ⟨v1, v2, rfl, hr1, hr2, hb3⟩
        have HP3 := Lib.hid (HP.out.on hb3)
        obtain ⟨i1, j1, rfl, _⟩ := own_shape hr1
        obtain ⟨i2, j2, rfl, _⟩ := own_shape hr2
        have HI3 := Lib.hid (UR.of_own hr1)
        have HO3 := Lib.hid (UR.of_own hr2)
        clear hb3 hr1 hr2
        obtain ⟨w4, hw4⟩ : ∃ z, z = (w3.alloc (.cells #[.slice i1 CI.length j1] 25)).alloc (.cells #[.slice i2 CO.length j2] 25) := ⟨_, rfl⟩
        have h1 := Has.new w3 [.slice i1 CI.length j1] 25
        have h2 := Has.new (w3.alloc (.cells #[.slice i1 CI.length j1] 25)) [.slice i2 CO.length j2] 25
        simp only [World.size_alloc] at h2
        have HXI := Lib.hid (show Has w4 w3.heap.size 25 [.slice i1 CI.length j1] by rw [hw4]; exact h1.alloc _)
        have HXO := Lib.hid (show Has w4 (w3.heap.size + 1) 25 [.slice i2 CO.length j2] by rw [hw4]; exact h2)
        have HB34 := Lib.hid (show Below w3.heap.size w3 w4 by rw [hw4]; exact below_nw (below_new _ _) _)
        have HP4 := Lib.hid (HP3.out.on HB34.out)
        have HI4 := Lib.hid (HI3.out.below HB34.out)
        have HO4 := Lib.hid (HO3.out.below HB34.out)
        clear h1 h2
        have hrc := HRC.out w4 HP4.out.bel _ (UR.of_own (HP4.out.ru))
        go_wp2_with fail
        rw [← hw4]
        clear hw4
        refine hrc.mono ?_
        clear hrc
        rintro e w5 ⟨v3, v4, rfl, hr3, hr4, hb5⟩
        have HP5 := Lib.hid (HP4.out.on hb5)
        have HI5 := Lib.hid (HI4.out.below hb5)
        have HO5 := Lib.hid (HO4.out.below hb5)
        have HXI5 := Lib.hid (HXI.out.below hb5 HXI.out.lt)
        have HXO5 := Lib.hid (HXO.out.below hb5 HXO.out.lt)
        have HQ3 := Lib.hid (UR.of_own hr3)
        have HQ4 := Lib.hid (UR.of_own hr4)
        have z0 : w5.cell? ⟨G, 0, none⟩ = some (.slice ba n bc) := HP5.out.b.cell 0
        have htx := btext_any (w := w5) (UR.of_own (HP5.out.ra)) (by have := HLN.out; omega) HGD.out.wf
        have HTR := Lib.hid (fun (W : World) (hb : Below w5.heap.size w5 W) => reftext_any (w := W) ((UR.of_own (HP5.out.ru)).below hb) (by have := HLN.out; omega) HGD.out.wf)
        obtain ⟨TX, hTX⟩ : ∃ z, z = Lend.strOf (txT L) := ⟨_, rfl⟩
        obtain ⟨ER, hER⟩ : ∃ z, z = errL L := ⟨_, rfl⟩
        rw [← hTX, ← hER] at htx HTR
        clear hb5 hr3 hr4 hTX hER
        go_wp2_with fail
        refine htx.mono ?_
        clear htx z0
        rintro e w6 ⟨rfl, hb6⟩
        have HP6 := Lib.hid (HP5.out.on hb6)
        have HB6 := Lib.hid hb6
        have hrt := HTR.out w6 hb6
        clear hb6
        go_wp2_with fail
        refine hrt.mono ?_
        clear hrt
        rintro e w7 ⟨rfl, hb7⟩
        have HP7 := Lib.hid (HP6.out.on hb7)
        have HB7 := Lib.hid (below_on HB6.out hb7)
        have z0 : w7.cell? ⟨G, 0, none⟩ = some (.slice ba n bc) := HP7.out.b.cell 0
        have hge := get_any (w := w7) [] (UR.of_own (HP7.out.ra)) HGD.out.srt (by have := HLN.out; omega)
        rw [HGD.out.none] at hge
        have hge2 : Calls Try.prog 16 #[.agg #[.slice ba n bc], .string ⟨#[]⟩] w7 fun e w' => e = .returned (.tuple #[.agg #[.int .u8 0, .string ⟨#[]⟩, .string ⟨#[]⟩, .int .u64 0], .bool false]) ∧ Below w7.heap.size w7 w' := hge
        clear hb7 hge HTR
        go_wp2_with fail
        refine hge2.mono ?_
        clear hge2 z0
        rintro e w8 ⟨rfl, hb8⟩
        have HP8 := Lib.hid (HP7.out.on hb8)
        have HB8 := Lib.hid (below_on HB7.out hb8)
        clear hb8
        obtain ⟨w9, hw9⟩ : ∃ z, z = w8.alloc (.cells #[.int .u8 0, .string ⟨#[]⟩, .string ⟨#[]⟩, .int .u64 0] 33) := ⟨_, rfl⟩
        have HB89 := Lib.hid (show Below w8.heap.size w8 w9 by rw [hw9]; exact below_new _ _)
        have HP9 := Lib.hid (HP8.out.on HB89.out)
        have HB9 := Lib.hid (below_on HB8.out HB89.out)
        have HI9 := Lib.hid (HI5.out.below HB9.out)
        have HO9 := Lib.hid (HO5.out.below HB9.out)
        have HQ39 := Lib.hid (HQ3.out.below HB9.out)
        have HQ49 := Lib.hid (HQ4.out.below HB9.out)
        have hxi8 := HXI5.out.below HB8.out HXI5.out.lt
        have z1 : w8.cell? ⟨w3.heap.size, 0, none⟩ = some (.slice i1 CI.length j1) := hxi8.cell 0
        have hlt8 : w3.heap.size < w8.heap.size := hxi8.lt
        have HXO9 := Lib.hid (HXO5.out.below HB9.out HXO5.out.lt)
        clear hxi8
        go_wp2_with fail
        rw [← hw9]
        clear hw9 hlt8 z1
        refine (same_any HI9.out HQ39.out HSI.out HLI.out).mono ?_
        rintro e wb ⟨rfl, hbb⟩
        have HPb := Lib.hid (HP9.out.on hbb)
        have HOb := Lib.hid (HO9.out.below hbb)
        have HQb := Lib.hid (HQ49.out.below hbb)
        have z1 : wb.cell? ⟨w3.heap.size + 1, 0, none⟩ = some (.slice i2 CO.length j2) := keep1 (HXO9.out.cell 0) hbb
        clear hbb
        go_wp2_with fail
        refine (same_any HOb.out HQb.out HSO.out HLO.out).mono ?_
        rintro e wc ⟨rfl, hbc⟩
        have HPc := Lib.hid (HPb.out.on hbc)
        have z2 : wc.cell? ⟨G, 0, none⟩ = some (.slice ba n bc) := HPc.out.b.cell 0
        have hsm := same_any (w := wc) (UR.of_own (HPc.out.ra)) (UR.of_own (HPc.out.ru)) HGD.out.srt (by have := HLN.out; omega)
        clear hbc z1
        go_wp2_with fail
        refine hsm.mono ?_
        clear hsm z2
        rintro e wd ⟨rfl, hbd⟩
        have HPd := Lib.hid (HPc.out.on hbd)
        clear hbd
        go_wp2_with fail
        go_ret
        exact ⟨rfl, HPd.out.bel⟩

/-! ### THE ROW's STEP -/
set_option maxRecDepth 100000 in
theorem lifted (os : Os) (started : os.Started) (H : Type) (enc : TypeId × Value → H) :
    ReturnsInHanded {} Try.checked os 3 .any (Rows.bufPlaysSpec.pre6 enc Try.prog Try.f3 Rows.bufPlaysRow.domain false) (Rows.bufPlaysSpec.post enc Try.prog Try.f3 false true false false) := by
  refine returnsInHanded_of_change_sized (C := Try.checked) own started (by kernel_rfl) Try.func3
    (ChangeSpec.witness6 (enc := enc) (C := Try.checked) false ⟨#[], #[.slice none 0 0, .string ByteArray.empty, .string ByteArray.empty], []⟩ 8 (by kernel_rfl) (by kernel_rfl) (by kernel_rfl) (by kernel_rfl)) ?_
  intro W base args ds gs before hval0 hW hcnd hsz _
  have hval : ∀ (j : Nat) t v, Try.f3.params[j]? = some t → args[j]? = some v → Value.okWide Try.prog W .any base t v := hval0
  have hW' := hW
  obtain ⟨p, q, hA0, hV, rfl, hfz, hnd⟩ := hW
  have hA : DataW.TrodAll enc Try.prog W 0 (fun _ => true) true Try.f3.params.toList args.toList ds p := hA0
  rw [Try.params3] at hA hval
  obtain ⟨v0, vs0, d0, ds0, p0, q0, hargs, rfl, rfl, h0, r0⟩ := trodAll_cons hA
  obtain ⟨v1, vs1, d1, ds1, p1, q1, rfl, rfl, rfl, h1, r1⟩ := trodAll_cons r0
  obtain ⟨v2, vs2, d2, ds2, p2, q2, rfl, rfl, rfl, h2, r2⟩ := trodAll_cons r1
  obtain ⟨rfl, rfl, rfl⟩ := trodAll_nil r2
  obtain rfl : args = #[v0, v1, v2] := by cases args; simp_all
  obtain ⟨rfl, rfl⟩ := trodVars_none hV
  have k0 := h0
  have lt0 : ∀ x ∈ p0, x.block < W.heap.size := by obtain ⟨m, hm⟩ := k0; exact DataW.trod_lt m _ _ _ hm
  obtain ⟨a0', l0', c0', rfl⟩ := okWide_slice Try.underlying22 (hval 0 22 v0 rfl rfl)
  obtain ⟨a0, a0l, a0c, he0, w0, w0l, w0m⟩ := open_AR0 (c := .slice a0' l0' c0') (by obtain ⟨m, hm⟩ := h0; exact ⟨m, hm⟩) (fun n hn => by have := List.all_eq_true.1 hsz n (DataW.weights_mem_each (j := 0) rfl rfl n hn); simpa using this)
  simp only [Value.slice.injEq] at he0
  obtain ⟨rfl, rfl, rfl⟩ := he0
  obtain ⟨a1, rfl, rfl, rfl, w1⟩ := open_string Try.underlying9 (hval 1 9 v1 rfl rfl) h1
  obtain ⟨a2, rfl, rfl, rfl, w2⟩ := open_string Try.underlying9 (hval 2 9 v2 rfl rfl) h2
  clear hA0 hval0
  refine (walk a0' l0' c0' a1 a2 W w0 w0l w0m w1 w2).mono fun e W' ⟨he, bel⟩ => ?_
  subst he
  exact ⟨_, rfl, _, _, _, [], _, [], hW', trodAll_mk1 (shut_bool Try.underlying4 _), (trodAll_cons_mk (Below.trod laidOut (by kernel_rfl) (of_decide_eq_true (by kernel_rfl)) k0 bel lt0) (trodAll_cons_mk (shut_string Try.underlying9 w1) (trodAll_cons_mk (shut_string Try.underlying9 w2) trodAll_mk0))), rfl, bel.frame _, fun h => by cases h⟩

theorem over : Rows.bufPlaysRow.holds Try.pinned (OpenSpec.ofChange Rows.bufPlaysSpec) :=
  OpenClaim.holds_of_wide 3 Try.f3 rfl rfl rfl rfl rfl rfl rfl ⟨rfl, rfl, rfl, rfl, rfl⟩ rfl rfl rfl rfl rfl (by kernel_rfl) Try.func3 (by kernel_rfl)
    (of_decide_eq_true (by kernel_rfl)) (by unfold Func.isWrapper; first | (rw [if_pos (by decide +kernel)]; kernel_rfl) | (rw [if_neg (by decide +kernel)]; exact ⟨rfl, rfl⟩))
    (fun os started H enc _ => lifted os started H enc)

/-- THE STATEMENT -/
theorem proved : Rows.BufPlaysSaid := over
#print axioms proved
end Go.Proofs.Ytiljcfmplbmooaa.bufPlays
