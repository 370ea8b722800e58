/-
  The law SuperImages holds: the image of every superblock, of every size, is the document's, or its error; so is the slot. Conditions: none but the row's own.
-/
import Derived.Test.YtimdemdopnmijaaDoorRows
import Derived.Test.YtimdemdopnmijaaDoorSupW
import Derived.Deep.DeepCutAuto
import Derived.BigQuiet
import Derived.Deep.QuietTactic
import Derived.Test.YtimdemdopnmijaaDoorCards
import Derived.Test.YtimdemdopnmijaaDoorTie
import Derived.Test.YtimdemdopnmijaaDoorArr
import Derived.WalkKit
import Derived.ProofKit
import Derived.OpenShut
import Derived.ShutString
import Derived.ChangeOld
import Derived.Below
import Derived.Carry
import Derived.Deep.DeepHandedRow
import Derived.Lib.LaidTab
namespace Go.Proofs.YtimdemdopnmijaaDoor.superImages
open Go.ChangeShapes Go.WideShapes Go.ChangeAt Go.RowKit
open Go.Proofs.YtimdemdopnmijaaDoor
open Go.ChangeMaps (open_string shut_string)
set_option linter.unusedVariables false

theorem own : ownKnob Tryd.prog.godebug = none := by kernel_rfl
theorem laidOut : laidOutB Tryd.prog = true := by kernel_rfl

theorem len7 {α : Type} : ∀ l : List α, l.length = 7 → ∃ z0 z1 z2 z3 z4 z5 z6, l = [z0, z1, z2, z3, z4, z5, z6]
  | [z0, z1, z2, z3, z4, z5, z6], _ => ⟨z0, z1, z2, z3, z4, z5, z6, rfl⟩

open Go.Proofs.YtimdemdopnmijaaDoor.Sup Go.Proofs.YtimdemdopnmijaaDoor.Env
def Good (g rg c s ch : Int) : Prop := (0 ≤ g ∧ g < 18446744073709551616) ∧ Nums rg c s ch
theorem Good.tam {g rg c s ch : Int} (h : Good g rg c s ch) : Good (tamG g) (tamR rg g) c s ch :=
  ⟨tamG_bd h.1.1 h.1.2, (tamR_bd (g := g) h.2.rg0 h.2.rg1).1, (tamR_bd (g := g) h.2.rg0 h.2.rg1).2, h.2.c0, h.2.c1, h.2.s0, h.2.s1, h.2.ch0, h.2.ch1⟩
/-- a superblock's seven cells at a place -/
def At7 (W : World) (p o : Nat) (g a rg c h s ch : Int) : Prop :=
  W.cell? ⟨p, o, none⟩ = some (.int .u64 g) ∧ W.cell? ⟨p, o + 1, none⟩ = some (.int .i64 a) ∧ W.cell? ⟨p, o + 2, none⟩ = some (.int .u64 rg) ∧ W.cell? ⟨p, o + 3, none⟩ = some (.int .u32 c) ∧
  W.cell? ⟨p, o + 4, none⟩ = some (.int .i64 h) ∧ W.cell? ⟨p, o + 5, none⟩ = some (.int .u64 s) ∧ W.cell? ⟨p, o + 6, none⟩ = some (.int .u32 ch)
theorem At7.on {W W' : World} {p o : Nat} {g a rg c h s ch : Int} (hh : At7 W p o g a rg c h s ch) (hb : Below W.heap.size W W') : At7 W' p o g a rg c h s ch :=
  ⟨cells_on hh.1 hb, cells_on hh.2.1 hb, cells_on hh.2.2.1 hb, cells_on hh.2.2.2.1 hb, cells_on hh.2.2.2.2.1 hb, cells_on hh.2.2.2.2.2.1 hb, cells_on hh.2.2.2.2.2.2 hb⟩
theorem at7 {W : World} {p : Nat} {t : TypeId} {g a rg c h s ch : Int} (hh : Has W p t [.int .u64 g, .int .i64 a, .int .u64 rg, .int .u32 c, .int .i64 h, .int .u64 s, .int .u32 ch]) : At7 W p 0 g a rg c h s ch := has7 hh
theorem two7 {W : World} {p : Nat} {t : TypeId} {g a rg c h s ch g' a' rg' c' h' s' ch' : Int}
    (H : Has W p t [.int .u64 g, .int .i64 a, .int .u64 rg, .int .u32 c, .int .i64 h, .int .u64 s, .int .u32 ch, .int .u64 g', .int .i64 a', .int .u64 rg', .int .u32 c', .int .i64 h', .int .u64 s', .int .u32 ch'])
    (G : Good g rg c s ch) (G' : Good g' rg' c' s' ch') : ∀ q, q < 2 → ∃ z0 z1 z2 z3 z4 z5 z6 : Int, Good z0 z2 z3 z5 z6 ∧ At7 W p (q * 7) z0 z1 z2 z3 z4 z5 z6 := by
  intro q hq
  match q, hq with
  | 0, _ => exact ⟨g, a, rg, c, h, s, ch, G, H.cell 0, H.cell 1, H.cell 2, H.cell 3, H.cell 4, H.cell 5, H.cell 6⟩
  | 1, _ => exact ⟨g', a', rg', c', h', s', ch', G', H.cell 7, H.cell 8, H.cell 9, H.cell 10, H.cell 11, H.cell 12, H.cell 13⟩
theorem keep7 {w1 w2 : World} {p : Nat} {x0 x1 x2 x3 x4 x5 x6 : Value} (h : w1.cell? ⟨p, 0, none⟩ = some x0 ∧ w1.cell? ⟨p, 1, none⟩ = some x1 ∧ w1.cell? ⟨p, 2, none⟩ = some x2 ∧ w1.cell? ⟨p, 3, none⟩ = some x3 ∧ w1.cell? ⟨p, 4, none⟩ = some x4 ∧ w1.cell? ⟨p, 5, none⟩ = some x5 ∧ w1.cell? ⟨p, 6, none⟩ = some x6) (hb : Below w1.heap.size w1 w2) :
    w2.cell? ⟨p, 0, none⟩ = some x0 ∧ w2.cell? ⟨p, 1, none⟩ = some x1 ∧ w2.cell? ⟨p, 2, none⟩ = some x2 ∧ w2.cell? ⟨p, 3, none⟩ = some x3 ∧ w2.cell? ⟨p, 4, none⟩ = some x4 ∧ w2.cell? ⟨p, 5, none⟩ = some x5 ∧ w2.cell? ⟨p, 6, none⟩ = some x6 :=
  ⟨cells_on h.1 hb, cells_on h.2.1 hb, cells_on h.2.2.1 hb, cells_on h.2.2.2.1 hb, cells_on h.2.2.2.2.1 hb, cells_on h.2.2.2.2.2.1 hb, cells_on h.2.2.2.2.2.2 hb⟩

/-! ### STEP 1: THE WALK -/
set_option maxHeartbeats 4000000 in
set_option maxRecDepth 100000 in
theorem walk (a0f0 : Int) (a0f1 : Int) (a0f2 : Int) (a0f3 : Int) (a0f4 : Int) (a0f5 : Int) (a0f6 : Int) (a1 : Int) (w : World) (w0f0 : (Lit.int .u64 a0f0).wf = true) (w0f1 : (Lit.int .i64 a0f1).wf = true) (w0f2 : (Lit.int .u64 a0f2).wf = true) (w0f3 : (Lit.int .u32 a0f3).wf = true) (w0f4 : (Lit.int .i64 a0f4).wf = true) (w0f5 : (Lit.int .u64 a0f5).wf = true) (w0f6 : (Lit.int .u32 a0f6).wf = true) (w1 : (Lit.int .i64 a1).wf = true) :
    Calls Tryd.prog 3 #[.agg #[.int .u64 a0f0, .int .i64 a0f1, .int .u64 a0f2, .int .u32 a0f3, .int .i64 a0f4, .int .u64 a0f5, .int .u32 a0f6], .int .i64 a1] w fun e w' => e = .returned (.bool true) ∧ Below w.heap.size w w' := by
  have hb0 := bounds_u64 w0f0
  have hb2 := bounds_u64 w0f2
  have hb3 := bounds_u32 w0f3
  have hb5 := bounds_u64 w0f5
  have hb6 := bounds_u32 w0f6
  have hg : Good a0f0 a0f2 a0f3 a0f5 a0f6 := ⟨⟨by omega, by omega⟩, by constructor <;> omega⟩
  have hbs := bounds_i64 w1
  obtain ⟨g, hgg⟩ : ∃ g, g = a0f0 := ⟨_, rfl⟩
  rw [← hgg] at hg ⊢
  have HG := Lib.hid hg
  have h0 : 0 ≤ g := hg.1.1
  obtain ⟨hs0, hs1⟩ := hbs
  clear w0f0 w0f1 w0f2 w0f3 w0f4 w0f5 w0f6 w1 hb0 hb2 hb3 hb5 hb6 hg hgg
  go_enter Tryd.func3, Tryd.ntmps3
  go_wp2_with fail
  refine (Sum.make_any _).mono ?_
  rintro e w1 ⟨b, rfl, hb, ht, hb1⟩
  have HT := Lib.hid ht
  have hx := (Has.new w [.int .u64 g, .int .i64 a0f1, .int .u64 a0f2, .int .u32 a0f3, .int .i64 a0f4, .int .u64 a0f5, .int .u32 a0f6] 25).below hb1 (by simp)
  have HX := Lib.hid hx
  have HB1 := Lib.hid (below_on (below_new w _) hb1)
  have hw1 := hx.lt
  obtain ⟨r0, r1, r2, r3, r4, r5, r6⟩ := has7 hx
  clear ht hb hb1 hx
  go_wp2_with fail
  go_region_held3 (fun W => W.cell? ⟨w.heap.size, 0, none⟩ = some (.int .u64 g) ∧ W.cell? ⟨w.heap.size, 1, none⟩ = some (.int .i64 a0f1) ∧ W.cell? ⟨w.heap.size, 2, none⟩ = some (.int .u64 a0f2) ∧ W.cell? ⟨w.heap.size, 3, none⟩ = some (.int .u32 a0f3) ∧ W.cell? ⟨w.heap.size, 4, none⟩ = some (.int .i64 a0f4) ∧ W.cell? ⟨w.heap.size, 5, none⟩ = some (.int .u64 a0f5) ∧ W.cell? ⟨w.heap.size, 6, none⟩ = some (.int .u32 a0f6))
    (first | with_reducible exact keep7 (by assumption) (by assumption) | with_reducible exact keep7 (by assumption) (below_new _ _) | go_keep)
    ((go_at_call 8; refine (tame_any _ _ _ _ _ _ _ _ h0).mono ?_; rintro e w2 ⟨rfl, hb2⟩))
  rename_i hend
  clear hend
  obtain ⟨g', hg'⟩ : ∃ x, x = tamG g := ⟨_, rfl⟩
  obtain ⟨a', ha'⟩ : ∃ x, x = Sup.tamA a0f1 := ⟨_, rfl⟩
  obtain ⟨rg', hr'⟩ : ∃ x, x = tamR a0f2 g := ⟨_, rfl⟩
  obtain ⟨h', hh'⟩ : ∃ x, x = tamH a0f4 := ⟨_, rfl⟩
  have HG' := Lib.hid (show Good g' rg' a0f3 a0f5 a0f6 by rw [hg', hr']; exact HG.out.tam)
  rw [← hg', ← ha', ← hr', ← hh']
  clear hg' ha' hr' hh'
  have HB2 := Lib.hid (below_on (below_dr HB1.out) hb2)
  have HX2 := Lib.hid (HX.out.drew.below hb2 (by exact HX.out.lt))
  have HT2 := Lib.hid (tab_on (tab_dr HT.out) hb2)
  clear hb2 r0 r1 r2 r3 r4 r5 r6
  have hy := Has.new w2 [.int .u64 g, .int .i64 a0f1, .int .u64 a0f2, .int .u32 a0f3, .int .i64 a0f4, .int .u64 a0f5, .int .u32 a0f6, .int .u64 g', .int .i64 a', .int .u64 rg', .int .u32 a0f3, .int .i64 h', .int .u64 a0f5, .int .u32 a0f6] 25
  obtain ⟨gb, hgb⟩ : ∃ x, x = w2.heap.size := ⟨_, rfl⟩
  obtain ⟨wh, hwh⟩ : ∃ x, x = w2.alloc (.cells #[.int .u64 g, .int .i64 a0f1, .int .u64 a0f2, .int .u32 a0f3, .int .i64 a0f4, .int .u64 a0f5, .int .u32 a0f6, .int .u64 g', .int .i64 a', .int .u64 rg', .int .u32 a0f3, .int .i64 h', .int .u64 a0f5, .int .u32 a0f6] 25) := ⟨_, rfl⟩
  rw [← hwh, ← hgb]
  have hy2 : Has wh gb 25 [.int .u64 g, .int .i64 a0f1, .int .u64 a0f2, .int .u32 a0f3, .int .i64 a0f4, .int .u64 a0f5, .int .u32 a0f6, .int .u64 g', .int .i64 a', .int .u64 rg', .int .u32 a0f3, .int .i64 h', .int .u64 a0f5, .int .u32 a0f6] := by rw [hwh, hgb]; exact hy
  have hgl := hy2.lt
  have HCS := Lib.hid (two7 hy2 HG.out HG'.out)
  have HBH := Lib.hid (show Below w.heap.size w wh by rw [hwh]; exact below_nw HB2.out _)
  have HXH := Lib.hid (show Has wh w.heap.size 25 [.int .u64 g, .int .i64 a0f1, .int .u64 a0f2, .int .u32 a0f3, .int .i64 a0f4, .int .u64 a0f5, .int .u32 a0f6] by rw [hwh]; exact HX2.out.alloc _)
  have HTH := Lib.hid (show Sum.IsTab wh b by rw [hwh]; exact tab_nw HT2.out _)
  clear hy hy2 hwh hgb HB2 HX2 HT2 HB1 HX HT
  go_wp2_with fail
  go_loopw [22] (fun i wr => ∃ q : Nat, q ≤ 2 ∧ i = .int .i64 q ∧ Below wh.heap.size wh wr) (fun i _ => 2 - (intOf i).toNat)
  case atStart => exact ⟨0, by omega, rfl, Below.refl _ _⟩
  case round =>
    obtain ⟨q, hq, rfl, hbr⟩ := hrel
    by_cases hlt : q < 2
    · obtain ⟨z0, z1, z2, z3, z4, z5, z6, hgz, hat⟩ := HCS.out q hlt
      have HGZ := Lib.hid hgz
      obtain ⟨d0, d1, d2, d3, d4, d5, d6⟩ := hat.on hbr
      have HBR := Lib.hid hbr
      have HTR := Lib.hid (tab_on HTH.out hbr)
      have hq1 : (q : Int) < 2 := by omega
      have hq0 : (0 : Int) ≤ (q : Int) := by omega
      clear hgz hat hbr
      go_wp2_with fail
      obtain ⟨n2, hn2⟩ : ∃ x, x = 128 + max 0 a1 % 900 := ⟨_, rfl⟩
      obtain ⟨hb, hhb⟩ : ∃ x, x = wr.heap.size := ⟨_, rfl⟩
      have hnew := (Has.new wr [.int .u64 z0, .int .i64 z1, .int .u64 z2, .int .u32 z3, .int .i64 z4, .int .u64 z5, .int .u32 z6] 25).alloc (.cells #[.int .i64 a1, .int .i64 n2] 3)
      obtain ⟨wi, hwi⟩ : ∃ x, x = (wr.alloc (.cells #[.int .u64 z0, .int .i64 z1, .int .u64 z2, .int .u32 z3, .int .i64 z4, .int .u64 z5, .int .u32 z6] 25)).alloc (.cells #[.int .i64 a1, .int .i64 n2] 3) := ⟨_, rfl⟩
      rw [← hn2, ← hwi, ← hhb]
      have hnew2 : Has wi hb 25 [.int .u64 z0, .int .i64 z1, .int .u64 z2, .int .u32 z3, .int .i64 z4, .int .u64 z5, .int .u32 z6] := by rw [hwi, hhb]; exact hnew
      have hsz : ∀ j, j < 2 → ∃ N, wi.cell? ⟨hb + 1, j, none⟩ = some (.int .i64 N) := by
        intro j hj
        match j, hj with
        | 0, _ => exact ⟨a1, by rw [hwi, hhb]; simp⟩
        | 1, _ => exact ⟨n2, by rw [hwi, hhb]; simp⟩
      have HSZ := Lib.hid hsz
      have HNEW := Lib.hid hnew2
      have hbl : hb + 1 < wi.heap.size := by rw [hwi, hhb]; simp
      have HBI := Lib.hid (show Below wh.heap.size wh wi by rw [hwi]; exact below_nw (below_nw HBR.out _) _)
      have HTI := Lib.hid (show Sum.IsTab wi b by rw [hwi]; exact tab_nw (tab_nw HTR.out _) _)
      clear hn2 hhb hwi hnew hnew2 hsz d0 d1 d2 d3 d4 d5 d6
      go_loopw [33] (fun i wv => ∃ j : Nat, j ≤ 2 ∧ i = .int .i64 j ∧ Below wi.heap.size wi wv) (fun i _ => 2 - (intOf i).toNat)
      case atStart => exact ⟨0, by omega, rfl, Below.refl _ _⟩
      case round =>
        obtain ⟨j, hj, rfl, hbv⟩ := hrel
        by_cases hjlt : j < 2
        · obtain ⟨N, hN⟩ := HSZ.out j hjlt
          have e0 : wr.cell? ⟨hb + 1, j, none⟩ = some (.int .i64 N) := by rw [hbv.cell hbl]; exact hN
          have hnv := HNEW.out.below hbv HNEW.out.lt
          have HNV := Lib.hid hnv
          obtain ⟨p0, p1, p2, p3, p4, p5, p6⟩ := has7 hnv
          have HBV := Lib.hid hbv
          have HTV := Lib.hid (tab_on HTI.out hbv)
          have hj1 : (j : Int) < 2 := by omega
          have hj0 : (0 : Int) ≤ (j : Int) := by omega
          clear hN hbv hnv
          go_wp2_with fail
          refine (of_any _ _ _ _ _ _ _ _).mono ?_
          rintro e wo ⟨rfl, hbo⟩
          have HBO := Lib.hid (below_on HBV.out hbo)
          have HTO := Lib.hid (tab_on HTV.out hbo)
          have HNO := Lib.hid (HNV.out.below hbo HNV.out.lt)
          clear hbo e0 p0 p1 p2 p3 p4 p5 p6
          go_wp2_with fail
          refine (image_any b N _ _ _ _ _ _ _ _ HTO.out HGZ.out.2 HGZ.out.1.1 HGZ.out.1.2).mono ?_
          rintro e ws ⟨rfl, hbs⟩
          have HBS := Lib.hid (below_on HBO.out hbs)
          have hns := HNO.out.below hbs HNO.out.lt
          have HNS := Lib.hid hns
          obtain ⟨p0, p1, p2, p3, p4, p5, p6⟩ := has7 hns
          obtain ⟨X, hX⟩ : ∃ X, X = imS N z0 z1 z2 z3 z4 z5 z6 := ⟨_, rfl⟩
          obtain ⟨E, hE⟩ : ∃ E, E = imE N z0 z1 z2 z4 := ⟨_, rfl⟩
          have HV := Lib.hid (show imV N z0 z1 z2 z3 z4 z5 z6 = .tuple #[.string X, .int .i64 E] by rw [hX, hE]; rfl)
          rw [HV.out]
          clear hbs hns hX hE
          go_wp2_with fail
          refine (refimage_any N _ _ _ _ _ _ _ _ HGZ.out.2 HGZ.out.1.1 HGZ.out.1.2).mono ?_
          rintro e wt ⟨rfl, hbt⟩
          rw [HV.out]
          have HBT := Lib.hid (below_on HBS.out hbt)
          clear hbt p0 p1 p2 p3 p4 p5 p6
          go_wp2_with fail
          go_roundw
          case rel => exact ⟨j + 1, by omega, by go_num, HBT.out⟩
          case measure => simp [intOf]; omega
        · have HBV := Lib.hid (below_on HBI.out hbv)
          clear hbv
          go_wp2_with fail
          go_roundw
          case rel => exact ⟨q + 1, by omega, by go_num, HBV.out⟩
          case measure => simp [intOf]; omega
    · have hxr := HXH.out.below hbr HXH.out.lt
      have HXR := Lib.hid hxr
      have HBR := Lib.hid (below_on HBH.out hbr)
      obtain ⟨r0, r1, r2, r3, r4, r5, r6⟩ := has7 hxr
      clear hbr hxr
      go_wp2_with fail
      refine (of_any _ _ _ _ _ _ _ _).mono ?_
      rintro e w6 ⟨rfl, hb6⟩
      have HX6 := Lib.hid (HXR.out.below hb6 HXR.out.lt)
      have HB6 := Lib.hid (below_on HBR.out hb6)
      clear hb6 r0 r1 r2 r3 r4 r5 r6
      go_wp2_with fail
      refine (image_nil _ _ _ _ _ _ _ _ _).mono ?_
      rintro e w7 ⟨rfl, hb7⟩
      have hx7 := HX6.out.below hb7 HX6.out.lt
      have HB7 := Lib.hid (below_on HB6.out hb7)
      obtain ⟨r0, r1, r2, r3, r4, r5, r6⟩ := has7 hx7
      clear hb7
      obtain ⟨sl, hsl⟩ : ∃ x, x = g % 2 := ⟨_, rfl⟩
      have HSL := Lib.hid hsl
      have hsl2 : Int.tmod g 2 = sl := by rw [hsl]; exact Int.tmod_eq_emod_of_nonneg h0
      have wsl : IntKind.u64.wrap sl = sl := by rw [Lend.wrap_u64]; omega
      clear hsl
      go_wp2_with fail
      go_region_held3 (fun W => W.cell? ⟨w.heap.size, 0, none⟩ = some (.int .u64 g))
        (first | with_reducible exact cells_on (by assumption) (by assumption) | go_keep)
        (first
          | (go_at_call 12; refine (wakes_sup _).mono ?_; rintro e w8 ⟨rfl, hb8⟩)
          | (go_at_call 13; refine (slot_any _ _ h0).mono ?_; rintro e w9 ⟨rfl, rfl⟩; rw [← HSL.out]))
      all_goals
        rename_i hend
        clear hend
        go_wp2_with fail
        go_ret
        exact ⟨rfl, by repeat (first | exact HB7.out | apply below_dr | apply below_dn | refine below_on ?_ (by assumption))⟩

set_option maxRecDepth 100000 in
theorem contract (H : Type) (enc : TypeId × Value → H) (W : World) (base : Nat) (args : Array Value) (ds gs : List (DataW H)) (before : List MemPlace)
    (hval0 : ∀ (j : Nat) t v, Tryd.f3.params[j]? = some t → args[j]? = some v → Value.okWide Tryd.prog W .any base t v)
    (hW : DataW.Whole enc Tryd.prog Tryd.f3.params.toList Rows.superImagesSpec.vars false W args.toList ds gs before) :
    Calls Tryd.prog 3 args W fun e W' => ∃ v, e = .returned v ∧ Rows.superImagesSpec.post enc Tryd.prog Tryd.f3 false true false false W args v W' := by
  have hval : ∀ (j : Nat) t v, Tryd.f3.params[j]? = some t → args[j]? = some v → Value.okWide Tryd.prog W .any base t v := hval0
  have hW' := hW
  obtain ⟨p, q, hA0, hV, rfl, hfz, hnd⟩ := hW
  have hA : DataW.TrodAll enc Tryd.prog W 0 (fun _ => true) true Tryd.f3.params.toList args.toList ds p := hA0
  rw [Tryd.params3] at hA hval
  obtain ⟨v0, vs0, d0, ds0, p0, q0, hargs, rfl, rfl, h0, r0⟩ := trodAll_cons hA
  obtain ⟨v1, vs1, d1, ds1, p1, q1, rfl, rfl, rfl, h1, r1⟩ := trodAll_cons r0
  obtain ⟨rfl, rfl, rfl⟩ := trodAll_nil r1
  obtain rfl : args = #[v0, v1] := by cases args; simp_all
  obtain ⟨rfl, rfl⟩ := trodVars_none hV
  have k0 := h0
  have lt0 : ∀ x ∈ p0, x.block < W.heap.size := by obtain ⟨m, hm⟩ := k0; exact DataW.trod_lt m _ _ _ hm
  obtain ⟨cs0, rfl, hl0, hc0⟩ := open_struct_cells Tryd.underlying25 (by kernel_rfl) (by kernel_rfl) (hval 0 25 v0 rfl rfl) h0
  obtain ⟨y0_0, y0_1, y0_2, y0_3, y0_4, y0_5, y0_6, rfl⟩ := len7 cs0 hl0
  obtain ⟨a0f0, rfl, w0f0⟩ := open_int_cell Tryd.underlying22 (hc0 0 _ _ rfl rfl)
  obtain ⟨a0f1, rfl, w0f1⟩ := open_int_cell Tryd.underlying3 (hc0 1 _ _ rfl rfl)
  obtain ⟨a0f2, rfl, w0f2⟩ := open_int_cell Tryd.underlying22 (hc0 2 _ _ rfl rfl)
  obtain ⟨a0f3, rfl, w0f3⟩ := open_int_cell Tryd.underlying23 (hc0 3 _ _ rfl rfl)
  obtain ⟨a0f4, rfl, w0f4⟩ := open_int_cell Tryd.underlying3 (hc0 4 _ _ rfl rfl)
  obtain ⟨a0f5, rfl, w0f5⟩ := open_int_cell Tryd.underlying22 (hc0 5 _ _ rfl rfl)
  obtain ⟨a0f6, rfl, w0f6⟩ := open_int_cell Tryd.underlying23 (hc0 6 _ _ rfl rfl)
  obtain ⟨a1, rfl, rfl, rfl, w1⟩ := open_int Tryd.underlying3 (hval 1 3 v1 rfl rfl) h1
  clear hA0 hval0
  refine (walk a0f0 a0f1 a0f2 a0f3 a0f4 a0f5 a0f6 a1 W w0f0 w0f1 w0f2 w0f3 w0f4 w0f5 w0f6 w1).mono fun e W' ⟨he, bel⟩ => ?_
  subst he
  exact ⟨_, rfl, _, _, _, [], _, [], hW', trodAll_mk1 (shut_bool Tryd.underlying4 _), (trodAll_cons_mk (Below.trod laidOut (by kernel_rfl) (of_decide_eq_true (by kernel_rfl)) k0 bel lt0) (trodAll_cons_mk (shut_int Tryd.underlying3 w1) trodAll_mk0)), rfl, bel.frame _, fun h => by cases h⟩

noncomputable def laidWorld (os : Os) : World :=
  { World.holding Tryd.prog os ⟨#[], #[], []⟩ with heap := (((((World.holding Tryd.prog os ⟨#[], #[], []⟩).heap).modify 2 fun | .cells _ t frozen => .cells (#[.int .u8 128, .int .u8 191, .int .u8 160, .int .u8 191, .int .u8 128, .int .u8 159, .int .u8 144, .int .u8 191, .int .u8 128, .int .u8 143, .int .u8 0, .int .u8 0, .int .u8 0, .int .u8 0, .int .u8 0, .int .u8 0, .int .u8 0, .int .u8 0, .int .u8 0, .int .u8 0, .int .u8 0, .int .u8 0, .int .u8 0, .int .u8 0, .int .u8 0, .int .u8 0, .int .u8 0, .int .u8 0, .int .u8 0, .int .u8 0, .int .u8 0, .int .u8 0]) t frozen | o => o)).modify 1 fun | .cells _ t frozen => .cells ((Go.Pinned.utf8FirstZ.map fun z : Nat => Value.int .u8 (z : Int)).toArray) t frozen | o => o) }
theorem laid_met (os : Os) : laidMet Tryd.prog Rows.superImagesRow.laid ((laidWorld os).forCall (fun _ _ => 0) ⟨#[], #[.agg #[.int .u64 0, .int .i64 0, .int .u64 0, .int .u32 0, .int .i64 0, .int .u64 0, .int .u32 0], .int .i64 0], []⟩).memory :=
  laidMet_of_run' 8 (by kernel_rfl) (by kernel_rfl)
theorem reads (os : Os) {H : Type} (enc : TypeId × Value → H) : ∃ places, DataW.whole enc Tryd.prog ((laidWorld os).forCall (fun _ _ => 0) ⟨#[], #[.agg #[.int .u64 0, .int .i64 0, .int .u64 0, .int .u32 0, .int .i64 0, .int .u64 0, .int .u32 0], .int .i64 0], []⟩).memory Tryd.f3.params.toList Rows.superImagesSpec.vars false (#[.agg #[.int .u64 0, .int .i64 0, .int .u64 0, .int .u32 0, .int .i64 0, .int .u64 0, .int .u32 0], .int .i64 0] : Array Value).toList 8 = some ([.agg [.lit (.int .u64 0), .lit (.int .i64 0), .lit (.int .u64 0), .lit (.int .u32 0), .lit (.int .i64 0), .lit (.int .u64 0), .lit (.int .u32 0)], .lit (.int .i64 0)], [], places) :=
  ⟨[], by kernel_rfl⟩

set_option maxRecDepth 100000 in
theorem lifted (os : Os) (started : os.Started) (H : Type) (enc : TypeId × Value → H) (F : Stop.Interp) :
    ReturnsInHanded {} Tryd.checked os 3 .any ((OpenSpec.ofChange Rows.superImagesSpec).preRow enc Tryd.prog Tryd.f3 Rows.superImagesRow.domain false Rows.superImagesRow.laid) (((OpenSpec.ofChange Rows.superImagesSpec).at F).post enc Tryd.prog Tryd.f3 false true false false) := by
  obtain ⟨places, hx⟩ := reads os enc
  refine returnsInHanded_of_row (C := Tryd.checked) (s := OpenSpec.ofChange Rows.superImagesSpec) own started (by kernel_rfl) Tryd.func3
    (witness_row_at (enc := enc) (C := Tryd.checked) false (laidWorld os) #[.agg #[.int .u64 0, .int .i64 0, .int .u64 0, .int .u32 0, .int .i64 0, .int .u64 0, .int .u32 0], .int .i64 0] rfl (by kernel_rfl) (by kernel_rfl) (by kernel_rfl)
      (OpenSpec.preRow_of_cond 8 hx (by kernel_rfl) (fun k hk => by cases hk) (by kernel_rfl) (laid_met os))) ?_
  intro W base args ds gs before hval hW _ _ _ hL _ _
  exact contract H enc W base args ds gs before hval hW

theorem said : Rows.SuperImagesSaid :=
  OpenClaim.holds_of_cond 3 Tryd.f3 rfl rfl rfl rfl rfl rfl rfl ⟨rfl, rfl, rfl, rfl, rfl⟩ rfl rfl rfl rfl rfl (by kernel_rfl) Tryd.func3 (by kernel_rfl)
    (of_decide_eq_true (by kernel_rfl)) (by unfold Func.isWrapper; first | (rw [if_pos (by decide +kernel)]; kernel_rfl) | (rw [if_neg (by decide +kernel)]; exact ⟨rfl, rfl⟩))
    (fun os started H enc _ F => by rw [OpenClaim.pre_eq_preRow]; exact lifted os started H enc F)

theorem plain (f : FuncId) (fn : Func) (hf : Tryd.pinned.checked.prog.funcNamed "treenail/treenaillaw05.SuperImages" = some f) (hfn : Tryd.pinned.checked.prog.funcs[f]? = some fn) :
    false = Tryd.pinned.checked.prog.looks [] ∧ ∀ (j : Nat) t, fn.params[j]? = some t → Tryd.pinned.checked.prog.wantsStandIn t = false := by
  obtain rfl : f = 3 := Option.some.inj ((show Tryd.prog.funcNamed "treenail/treenaillaw05.SuperImages" = some 3 by kernel_rfl).symm.trans hf) |>.symm
  obtain rfl : fn = Tryd.f3 := (Option.some.inj (Tryd.func3.symm.trans hfn)).symm
  refine ⟨by kernel_rfl, fun j t ht => ?_⟩
  rw [Tryd.params3] at ht
  rcases j with _ | _ | j
  · obtain rfl : t = 25 := by simpa using ht.symm
    exact (show Tryd.prog.wantsStandIn 25 = false by kernel_rfl)
  · obtain rfl : t = 3 := by simpa using ht.symm
    exact (show Tryd.prog.wantsStandIn 3 = false by kernel_rfl)
  · simp at ht

/-- THE STATEMENT -/
theorem proved : Rows.SuperImagesCardSaid :=
  Claim7.holds_tied_plain_at .later [] _ _ _ _ said (fun _ h => by cases h) (by kernel_rfl) (fun _ h => by cases h) superImages_row_tie rfl ⟨rfl, rfl⟩ (by kernel_rfl) rfl plain (by kernel_rfl)
#print axioms proved
end Go.Proofs.YtimdemdopnmijaaDoor.superImages
