/-
  The law SuperSlots holds: superblocks of generations that follow one another are in both slots by turns; opened in the other one's place none is. Conditions: none but the row's own.
-/
import Derived.Test.YtimdemdopnmijaaDoorRows
import Derived.Test.YtimdemdopnmijaaDoorSupW
import Derived.Test.YtimdemdopnmijaaDoorUno
import Derived.Deep.DeepCutAuto
import Derived.BigQuiet
import Derived.Deep.QuietTactic
import Derived.Test.YtimdemdopnmijaaDoorCards
import Derived.Test.YtimdemdopnmijaaDoorTie
import Derived.Test.YtimdemdopnmijaaDoorArr
import Derived.WalkKit
import Derived.ProofKit
import Derived.OpenShut
import Derived.ShutString
import Derived.ChangeOld
import Derived.Below
import Derived.Carry
import Derived.Deep.DeepHandedRow
import Derived.Lib.LaidTab
namespace Go.Proofs.YtimdemdopnmijaaDoor.superSlots
open Go.ChangeShapes Go.WideShapes Go.ChangeAt Go.RowKit
open Go.Proofs.YtimdemdopnmijaaDoor
open Go.ChangeMaps (open_string shut_string)
set_option linter.unusedVariables false

theorem own : ownKnob Tryd.prog.godebug = none := by kernel_rfl
theorem laidOut : laidOutB Tryd.prog = true := by kernel_rfl

theorem len7 {α : Type} : ∀ l : List α, l.length = 7 → ∃ z0 z1 z2 z3 z4 z5 z6, l = [z0, z1, z2, z3, z4, z5, z6]
  | [z0, z1, z2, z3, z4, z5, z6], _ => ⟨z0, z1, z2, z3, z4, z5, z6, rfl⟩

open Go.Proofs.YtimdemdopnmijaaDoor.Sup Go.Proofs.YtimdemdopnmijaaDoor.Env
def Good (g rg c s ch : Int) : Prop := (0 ≤ g ∧ g < 18446744073709551616) ∧ Nums rg c s ch
theorem Good.tam {g rg c s ch : Int} (h : Good g rg c s ch) : Good (tamG g) (tamR rg g) c s ch :=
  ⟨tamG_bd h.1.1 h.1.2, (tamR_bd (g := g) h.2.rg0 h.2.rg1).1, (tamR_bd (g := g) h.2.rg0 h.2.rg1).2, h.2.c0, h.2.c1, h.2.s0, h.2.s1, h.2.ch0, h.2.ch1⟩
/-- a superblock's seven cells at a place -/
def At7 (W : World) (p o : Nat) (g a rg c h s ch : Int) : Prop :=
  W.cell? ⟨p, o, none⟩ = some (.int .u64 g) ∧ W.cell? ⟨p, o + 1, none⟩ = some (.int .i64 a) ∧ W.cell? ⟨p, o + 2, none⟩ = some (.int .u64 rg) ∧ W.cell? ⟨p, o + 3, none⟩ = some (.int .u32 c) ∧
  W.cell? ⟨p, o + 4, none⟩ = some (.int .i64 h) ∧ W.cell? ⟨p, o + 5, none⟩ = some (.int .u64 s) ∧ W.cell? ⟨p, o + 6, none⟩ = some (.int .u32 ch)
theorem At7.on {W W' : World} {p o : Nat} {g a rg c h s ch : Int} (hh : At7 W p o g a rg c h s ch) (hb : Below W.heap.size W W') : At7 W' p o g a rg c h s ch :=
  ⟨cells_on hh.1 hb, cells_on hh.2.1 hb, cells_on hh.2.2.1 hb, cells_on hh.2.2.2.1 hb, cells_on hh.2.2.2.2.1 hb, cells_on hh.2.2.2.2.2.1 hb, cells_on hh.2.2.2.2.2.2 hb⟩
theorem at7 {W : World} {p : Nat} {t : TypeId} {g a rg c h s ch : Int} (hh : Has W p t [.int .u64 g, .int .i64 a, .int .u64 rg, .int .u32 c, .int .i64 h, .int .u64 s, .int .u32 ch]) : At7 W p 0 g a rg c h s ch := has7 hh
theorem two7 {W : World} {p : Nat} {t : TypeId} {g a rg c h s ch g' a' rg' c' h' s' ch' : Int}
    (H : Has W p t [.int .u64 g, .int .i64 a, .int .u64 rg, .int .u32 c, .int .i64 h, .int .u64 s, .int .u32 ch, .int .u64 g', .int .i64 a', .int .u64 rg', .int .u32 c', .int .i64 h', .int .u64 s', .int .u32 ch'])
    (G : Good g rg c s ch) (G' : Good g' rg' c' s' ch') : ∀ q, q < 2 → ∃ z0 z1 z2 z3 z4 z5 z6 : Int, Good z0 z2 z3 z5 z6 ∧ At7 W p (q * 7) z0 z1 z2 z3 z4 z5 z6 := by
  intro q hq
  match q, hq with
  | 0, _ => exact ⟨g, a, rg, c, h, s, ch, G, H.cell 0, H.cell 1, H.cell 2, H.cell 3, H.cell 4, H.cell 5, H.cell 6⟩
  | 1, _ => exact ⟨g', a', rg', c', h', s', ch', G', H.cell 7, H.cell 8, H.cell 9, H.cell 10, H.cell 11, H.cell 12, H.cell 13⟩
theorem keep7 {w1 w2 : World} {p : Nat} {x0 x1 x2 x3 x4 x5 x6 : Value} (h : w1.cell? ⟨p, 0, none⟩ = some x0 ∧ w1.cell? ⟨p, 1, none⟩ = some x1 ∧ w1.cell? ⟨p, 2, none⟩ = some x2 ∧ w1.cell? ⟨p, 3, none⟩ = some x3 ∧ w1.cell? ⟨p, 4, none⟩ = some x4 ∧ w1.cell? ⟨p, 5, none⟩ = some x5 ∧ w1.cell? ⟨p, 6, none⟩ = some x6) (hb : Below w1.heap.size w1 w2) :
    w2.cell? ⟨p, 0, none⟩ = some x0 ∧ w2.cell? ⟨p, 1, none⟩ = some x1 ∧ w2.cell? ⟨p, 2, none⟩ = some x2 ∧ w2.cell? ⟨p, 3, none⟩ = some x3 ∧ w2.cell? ⟨p, 4, none⟩ = some x4 ∧ w2.cell? ⟨p, 5, none⟩ = some x5 ∧ w2.cell? ⟨p, 6, none⟩ = some x6 :=
  ⟨cells_on h.1 hb, cells_on h.2.1 hb, cells_on h.2.2.1 hb, cells_on h.2.2.2.1 hb, cells_on h.2.2.2.2.1 hb, cells_on h.2.2.2.2.2.1 hb, cells_on h.2.2.2.2.2.2 hb⟩
theorem tab_set {W : World} {b : Nat} (h : Sum.IsTab W b) {p : Addr} (hp : p.block ≠ b) (v : Value) : Sum.IsTab (W.setCell p v) b := fun j hj => by
  rw [World.cell?_setCell_other _ _ _ _ (fun e => hp (by rw [e]))]; exact h j hj
theorem bent {g : Int} {pl : List UInt8} (hg0 : 0 ≤ g) (hg1 : g < 18446744073709551616) (hp : pl.length = 29) : souE (imgL 1 (1 - g % 2) g 104 pl) = 4 := by
  have hf : Fit 1 pl.length (1 - g % 2) g 0 := by rw [hp]; exact ⟨by decide, by decide, by decide, by decide, by omega, by omega, hg0, hg1, by decide, by decide⟩
  have hd : hdB 1 (1 - g % 2) = true := by
    have h1 : 0 ≤ 1 - g % 2 := by omega
    have h2 : 1 - g % 2 ≤ 2147483647 := by omega
    unfold hdB adB
    rw [decide_eq_true h1, decide_eq_true h2]; rfl
  obtain ⟨f0, f1, f2, f3, f4, f5⟩ := img_F (m := 104) hf
  obtain ⟨o1, o2, o3⟩ := img_open (m := 104) hf hd (by rw [hp]; decide) (by decide) (by decide)
  refine souE_no o2 ?_
  rw [souB, f3, f4, decide_eq_false (show ¬ (1 - g % 2 = g % 2) by omega)]; simp
theorem im_body {size g a rg c h s ch : Int} : ((imL size g a rg c h s ch).drop 24).take 29 = payL a rg c h s ch := by
  rw [imL, img_drop, bodyL, List.take_left' (payL_length _ _ _ _ _ _)]
def lastV (g : Int) (k : Nat) : Int := if k = 0 then -1 else 1 - g % 2

/-! ### STEP 1: THE WALK -/
set_option maxHeartbeats 4000000 in
set_option maxRecDepth 100000 in
theorem walk (a0f0 : Int) (a0f1 : Int) (a0f2 : Int) (a0f3 : Int) (a0f4 : Int) (a0f5 : Int) (a0f6 : Int) (a1 : Int) (w : World) (w0f0 : (Lit.int .u64 a0f0).wf = true) (w0f1 : (Lit.int .i64 a0f1).wf = true) (w0f2 : (Lit.int .u64 a0f2).wf = true) (w0f3 : (Lit.int .u32 a0f3).wf = true) (w0f4 : (Lit.int .i64 a0f4).wf = true) (w0f5 : (Lit.int .u64 a0f5).wf = true) (w0f6 : (Lit.int .u32 a0f6).wf = true) (w1 : (Lit.int .u8 a1).wf = true) :
    Calls Tryd.prog 6 #[.agg #[.int .u64 a0f0, .int .i64 a0f1, .int .u64 a0f2, .int .u32 a0f3, .int .i64 a0f4, .int .u64 a0f5, .int .u32 a0f6], .int .u8 a1] w fun e w' => e = .returned (.bool true) ∧ Below w.heap.size w w' := by
  have hb0 := bounds_u64 w0f0
  have hb2 := bounds_u64 w0f2
  have hb3 := bounds_u32 w0f3
  have hb5 := bounds_u64 w0f5
  have hb6 := bounds_u32 w0f6
  have hn := bounds_u8 w1
  have h0 : 0 ≤ a0f0 := hb0.1
  have HNM := Lib.hid (show Nums 0 a0f3 a0f5 a0f6 by constructor <;> omega)
  obtain ⟨m, hm⟩ : ∃ m : Nat, m = (1 + a1 % 6).toNat := ⟨_, rfl⟩
  have hm6 : m ≤ 6 := by omega
  have hmv : Int.tmod a1 6 = a1 % 6 := Int.tmod_eq_emod_of_nonneg hn.1
  have hmw : (1 + a1 % 6 : Int) = (m : Int) := by omega
  have wm : IntKind.u8.wrap (m : Int) = (m : Int) := by rw [IntKind.wrap_u8']; omega
  have hn0 : 0 ≤ a1 := hn.1
  clear w0f0 w0f1 w0f2 w0f3 w0f4 w0f5 w0f6 w1 hb0 hb2 hb3 hb5 hb6 hn hm
  go_enter Tryd.func6, Tryd.ntmps6
  go_wp2_with fail
  refine (Sum.make_any _).mono ?_
  rintro e w1 ⟨b, rfl, hb, ht, hb1⟩
  have HT := Lib.hid ht
  have hx := (Has.new w [.int .u64 a0f0, .int .i64 a0f1, .int .u64 a0f2, .int .u32 a0f3, .int .i64 a0f4, .int .u64 a0f5, .int .u32 a0f6] 25).below hb1 (by simp)
  have HB1 := Lib.hid (below_on (below_new w _) hb1)
  have hw1 := hx.lt
  obtain ⟨r0, r1, r2, r3, r4, r5, r6⟩ := has7 hx
  have hbl : b < w1.heap.size := World.block_lt_of_cell? _ _ (ht 0 (by decide))
  clear ht hb hb1 hx
  go_wp2_with fail
  refine (tame_any _ _ _ _ _ _ _ _ h0).mono ?_
  rintro e w2 ⟨rfl, hb2⟩
  obtain ⟨g', hg'⟩ : ∃ x, x = tamG a0f0 := ⟨_, rfl⟩
  obtain ⟨a', ha'⟩ : ∃ x, x = Sup.tamA a0f1 := ⟨_, rfl⟩
  obtain ⟨rg', hr'⟩ : ∃ x, x = tamR a0f2 a0f0 := ⟨_, rfl⟩
  obtain ⟨h', hh'⟩ : ∃ x, x = tamH a0f4 := ⟨_, rfl⟩
  obtain ⟨g0, hg0⟩ : ∃ x, x = min g' 1152921504606846976 := ⟨_, rfl⟩
  rw [← hg', ← ha', ← hr', ← hh']
  have gb1 : 1 ≤ g0 := by rw [hg0, hg']; unfold tamG; omega
  have GB2 := Lib.hid (show g0 ≤ 1152921504606846976 by rw [hg0]; omega)
  have HSB := Lib.hid (show ∀ k : Nat, supB (g0 + k) a' 0 h' = true from fun k => by
    refine supB_of (by omega) ?_ ?_ (by omega) ?_ ?_ <;> (first | (rw [ha']; unfold Sup.tamA; omega) | (rw [hh']; unfold tamH; omega)))
  have HG0 := Lib.hid hg0
  have HB2 := Lib.hid (below_on HB1.out hb2)
  have HT2 := Lib.hid (tab_on HT.out hb2)
  have hne : b < w2.heap.size := Nat.lt_of_lt_of_le hbl hb2.size
  clear hg' ha' hr' hh' hg0 hb2 r0 r1 r2 r3 r4 r5 r6
  go_wp2_with fail
  rw [← HG0.out]
  have hy := Has.new w2 [.int .u64 g0, .int .i64 a', .int .u64 0, .int .u32 a0f3, .int .i64 h', .int .u64 a0f5, .int .u32 a0f6] 25
  refine (wakes_sup _).mono ?_
  rintro e w3 ⟨rfl, hb3⟩
  have HY := Lib.hid (hy.below hb3 (by simp))
  have HB3 := Lib.hid (below_on (below_nw HB2.out _) hb3)
  have HT3 := Lib.hid (tab_on (tab_nw HT2.out _) hb3)
  have hpb : w.heap.size ≤ w2.heap.size := HB2.out.size
  obtain ⟨pb, hpb2⟩ : ∃ x, x = w2.heap.size := ⟨_, rfl⟩
  rw [← hpb2] at HY hpb hne ⊢
  clear hb3 hy hpb2 HB2 HT2 HB1 HT
  go_wp2_with fail
  go_loopw [7, 32] (fun la i wr => ∃ k : Nat, k ≤ m ∧ i = .int .u8 k ∧ la = .int .i64 (lastV (g0 + k) k) ∧ Below w.heap.size w wr ∧ Sum.IsTab wr b ∧ Has wr pb 25 [.int .u64 (g0 + k), .int .i64 a', .int .u64 0, .int .u32 a0f3, .int .i64 h', .int .u64 a0f5, .int .u32 a0f6]) (fun _ i _ => m - (intOf i).toNat)
  case atStart => exact ⟨0, by omega, rfl, rfl, HB3.out, HT3.out, by simpa using HY.out⟩
  case round =>
    obtain ⟨k, hk, rfl, rfl, hbr, htr, hhr⟩ := hrel
    by_cases hlt : k < m
    · obtain ⟨g, hgk⟩ : ∃ g : Int, g = g0 + k := ⟨_, rfl⟩
      rw [← hgk] at hhr ⊢
      have hg0' : 0 ≤ g := by omega
      have HG1 := Lib.hid (show g < 18446744073709551616 by have := GB2.out; omega)
      have hs := HSB.out k
      rw [← hgk] at hs
      have HGK := Lib.hid hgk
      have hk1 : (k : Int) < (m : Int) := by omega
      obtain ⟨d0, d1, d2, d3, d4, d5, d6⟩ := has7 hhr
      have HHR := Lib.hid hhr
      have HBR := Lib.hid hbr
      have HTR := Lib.hid htr
      obtain ⟨sl, hsl⟩ : ∃ x, x = g % 2 := ⟨_, rfl⟩
      have hsl0 : 0 ≤ sl := by omega
      have hsl1 : sl ≤ 1 := by omega
      have HSL := Lib.hid hsl
      obtain ⟨la, hla⟩ : ∃ x, x = lastV g k := ⟨_, rfl⟩
      have hla2 : ¬ sl = la := by rw [hla, hsl]; unfold lastV; split <;> omega
      rw [← hla]
      -- the image
      obtain ⟨im, him⟩ : ∃ x, x = imL 128 g a' 0 a0f3 h' a0f5 a0f6 := ⟨_, rfl⟩
      obtain ⟨o1, o2, o3, o4, o5, o6⟩ := im_open (size := 128) rfl hs HNM.out HG1.out
      have hbd := im_body (size := 128) (g := g) (a := a') (rg := 0) (c := a0f3) (h := h') (s := a0f5) (ch := a0f6)
      have hil := imL_length 128 g a' 0 a0f3 h' a0f5 a0f6 rfl
      rw [← him] at o1 o2 o3 o4 o5 o6 hbd hil
      obtain ⟨s, hs2⟩ : ∃ s, s = Lend.strOf im := ⟨_, rfl⟩
      have hsd : s.data.toList = im := by rw [hs2]; rfl
      have hss : s.size = 128 := by rw [sz_of hsd]; omega
      have hss2 : s.size ≤ 1000000 := by omega
      have HIV := Lib.hid (show imV 128 g a' 0 a0f3 h' a0f5 a0f6 = .tuple #[.string s, .int .i64 0] by rw [imV_yes rfl hs, hs2, him])
      obtain ⟨kd, hkd⟩ : ∃ x, x = F im 0 := ⟨_, rfl⟩
      obtain ⟨P, hP⟩ : ∃ x, x = oP im := ⟨_, rfl⟩
      have HOV := Lib.hid (show open3V s.data.toList = .tuple #[.agg #[.int .u8 kd, .int .i64 sl, .int .u64 g], .string P, .int .i64 0] by
        rw [hsd, open3V, ← hP]; simp only [oK, oA, oG, o2, if_true, o3, o4, hkd, hsl])
      obtain ⟨Q, hQ⟩ : ∃ x, x = s.extract 24 53 := ⟨_, rfl⟩
      have hqd : Q.data.toList = payL a' 0 a0f3 h' a0f5 a0f6 := by rw [hQ, Lib.extract_data, hsd]; exact hbd
      have hqs : Q.size ≤ 1000000 := by rw [sz_of hqd, payL_length]; decide
      have hhd : hdB 1 (1 - sl) = true := by
        have h1 : 0 ≤ 1 - sl := by omega
        have h2 : 1 - sl ≤ 2147483647 := by omega
        unfold hdB adB
        rw [decide_eq_true h1, decide_eq_true h2]; rfl
      obtain ⟨O, hO⟩ : ∃ x, x = Lend.strOf (imgL 1 (1 - sl) g 104 Q.data.toList) := ⟨_, rfl⟩
      obtain ⟨ck, hck⟩ : ∃ x : Int, x = (ckL 1 Q.data.toList.length (1 - sl) g (bodyL 104 Q.data.toList) : Int) := ⟨_, rfl⟩
      have HSV := Lib.hid (show sealV 128 1 (1 - sl) g Q.data.toList = .tuple #[.string O, .agg #[.int .i64 (1 - sl), .int .u64 g, .int .u32 ck], .int .i64 0] by
        rw [sealV_yes (sealE_ok rfl hhd (by rw [hqd, payL_length]; decide)), hO, hck]; rfl)
      have hod : O.data.toList = imgL 1 (1 - sl) g 104 (payL a' 0 a0f3 h' a0f5 a0f6) := by rw [hO, hqd]; rfl
      have hos : O.size ≤ 1000000 := by rw [sz_of hod, imgL_length _ _ _ _ _ (by rw [payL_length]; decide)]; decide
      have HOE := Lib.hid (show souV O.data.toList (souE O.data.toList) = noSou 4 from souV_no (by rw [hod, hsl]; exact bent hg0' HG1.out (payL_length _ _ _ _ _ _)) (by decide))
      have HQ := Lib.hid hQ
      clear hgk hs hbr htr hhr hsl hla him o1 o2 o3 o4 o5 o6 hbd hil hs2 hsd hkd hP hQ hqd hhd hO hck hod
      go_wp2_with fail
      refine (of_any _ _ _ _ _ _ _ _).mono ?_
      rintro e wo ⟨rfl, hbo⟩
      have HB4 := Lib.hid (below_on HBR.out hbo)
      have HT4 := Lib.hid (tab_on HTR.out hbo)
      have HH4 := Lib.hid (HHR.out.below hbo HHR.out.lt)
      clear hbo d0 d1 d2 d3 d4 d5 d6
      go_wp2_with fail
      refine (image_any b 128 _ _ _ _ _ _ _ _ HT4.out HNM.out hg0' HG1.out).mono ?_
      rintro e ws ⟨rfl, hbs⟩
      rw [HIV.out]
      have HB5 := Lib.hid (below_on HB4.out hbs)
      have HT5 := Lib.hid (tab_on HT4.out hbs)
      have hh := HH4.out.below hbs HH4.out.lt
      have HH5 := Lib.hid hh
      obtain ⟨d0, d1, d2, d3, d4, d5, d6⟩ := has7 hh
      clear hbs hh
      go_wp2_with fail
      refine (slot_any _ _ hg0').mono ?_
      rintro e w9 ⟨rfl, rfl⟩
      rw [← HSL.out]
      go_wp2_with fail
      refine (open_any b s _ HT5.out hss2).mono ?_
      rintro e w6 ⟨rfl, hb6⟩
      rw [HOV.out]
      have HB6 := Lib.hid (below_on HB5.out hb6)
      have HT6 := Lib.hid (tab_on HT5.out hb6)
      have HH6 := Lib.hid (HH5.out.below hb6 HH5.out.lt)
      clear hb6 d0 d1 d2 d3 d4 d5 d6
      go_wp2_with fail
      have hz := New3.new w6 (.int .u8 kd) (.int .i64 sl) (.int .u64 g) 61
      refine (wakes_sup _).mono ?_
      rintro e w7 ⟨rfl, hb7⟩
      have hz7 := hz.on hb7
      have HB7 := Lib.hid (below_on (below_nw HB6.out _) hb7)
      have HT7 := Lib.hid (tab_on (tab_nw HT6.out _) hb7)
      have hh := (HH6.out.alloc (.cells #[.int .u8 kd, .int .i64 sl, .int .u64 g] 61)).below hb7 (by have := HH6.out.lt; simp; omega)
      have HH7 := Lib.hid hh
      obtain ⟨d0, d1, d2, d3, d4, d5, d6⟩ := has7 hh
      obtain ⟨z0, z1, z2, _, _, _⟩ := hz7
      have hn1 : (sl == la) = false := by simpa using hla2
      clear hz hb7 hh
      go_wp2_with fail
      have h53 : (53 : Int) ≤ (s.size : Int) := by omega
      have H0 := Lib.hid d0
      have w1s : IntKind.i64.wrap (1 - sl) = 1 - sl := IntWalk.i64_in _ (by omega)
      clear d0 d1 d2 d3 d4 d5 d6 z0 z1 z2
      refine Reg.region_vals3 (by kernel_rfl) [(88, .pointer (some ⟨b, 0, none⟩)), (89, .int .i64 sl), (90, .int .i64 (1 - sl)), (91, .pointer (some ⟨pb, 0, none⟩)), (92, .int .u64 g), (93, .agg #[.int .u8 1, .int .i64 (1 - sl), .int .u64 g]), (94, .string s), (95, .string Q), (96, .tuple #[.string O, .agg #[.int .i64 (1 - sl), .int .u64 g, .int .u32 ck], .int .i64 0]), (87, .tuple #[.string O, .agg #[.int .i64 (1 - sl), .int .u64 g, .int .u32 ck], .int .i64 0]), (97, .string O), (98, .agg #[.int .i64 (1 - sl), .int .u64 g, .int .u32 ck]), (99, .int .i64 0), (14, .string O), (16, .int .i64 0)] [15] (Uno w7 15 13 15 34 [.int .i64 0, .int .u64 0, .int .u32 0] [.int .i64 (1 - sl), .int .u64 g, .int .u32 ck]) ?a1 ?a2 ?a3 ?a4 ?a5 ?a6 ?a7 ?hend
      case a1 => kernel_rfl
      case a2 => kernel_rfl
      case a3 => kernel_rfl
      case a4 => kernel_rfl
      case a5 => kernel_rfl
      case a6 => exact Uno.start _
      case a7 =>
        refine ⟨?_, ?_, ?_, ?_, ?_, ?_, ?_, ?_, ?_, ?_, ?_, ?_, ?_, ?_, ?_, ?_, ?_, trivial⟩
        · -- 0: 88 := Op.move t5
          intro aq wq lq hz hI hl hdone hlater hold hd ho
          have h5 : aq.tmps.getD 5 undef = .pointer (some ⟨b, 0, none⟩) := ho 5 (by kernel_rfl)
          clear hd ho hdone hlater hold
          have hc : 88 < aq.tmps.size := by have hz' : aq.tmps.size = 114 := hz; omega
          exact Reg.step3_move (.tmp 5) rfl h5 (hI.keep _ (Below.refl _ _) (by decide) (by decide) (by decide) hc) trivial
        · -- 1: 89 := Op.move t10
          intro aq wq lq hz hI hl hdone hlater hold hd ho
          have h10 : aq.tmps.getD 10 undef = .int .i64 sl := ho 10 (by kernel_rfl)
          clear hd ho hdone hlater hold
          have hc : 89 < aq.tmps.size := by have hz' : aq.tmps.size = 114 := hz; omega
          exact Reg.step3_move (.tmp 10) rfl h10 (hI.keep _ (Below.refl _ _) (by decide) (by decide) (by decide) hc) trivial
        · -- 2: 90 := Op.binOp BinOp.sub 3 (const (1:i64)) t89 3
          intro aq wq lq hz hI hl hdone hlater hold hd ho
          have h89 : aq.tmps.getD 89 undef = .int .i64 sl := hd 89 (by kernel_rfl)
          clear hd ho hdone hlater hold
          rw [Array.getD_eq_getD_getElem?] at h89
          have hc : 90 < aq.tmps.size := by have hz' : aq.tmps.size = 114 := hz; omega
          refine Reg.step3_val (.int .i64 (1 - sl)) ?_ rfl (hI.keep _ (Below.refl _ _) (by decide) (by decide) (by decide) hc) trivial
          clear hz hc hI
          simp [execOp, Act.eval, h89]
          try go_simp
        · -- 3: 91 := Op.fieldAddr 25 t6 0
          intro aq wq lq hz hI hl hdone hlater hold hd ho
          have h6 : aq.tmps.getD 6 undef = .pointer (some ⟨pb, 0, none⟩) := ho 6 (by kernel_rfl)
          clear hd ho hdone hlater hold
          rw [Array.getD_eq_getD_getElem?] at h6
          have hc : 91 < aq.tmps.size := by have hz' : aq.tmps.size = 114 := hz; omega
          refine Reg.step3_val (.pointer (some ⟨pb, 0, none⟩)) ?_ rfl (hI.keep _ (Below.refl _ _) (by decide) (by decide) (by decide) hc) trivial
          clear hz hc hI
          go_simp
        · -- 4: 92 := Op.load 22 t91
          intro aq wq lq hz hI hl hdone hlater hold hd ho
          have h91 : aq.tmps.getD 91 undef = .pointer (some ⟨pb, 0, none⟩) := hd 91 (by kernel_rfl)
          clear hd ho hdone hlater hold
          rw [Array.getD_eq_getD_getElem?] at h91
          have hc : 92 < aq.tmps.size := by have hz' : aq.tmps.size = 114 := hz; omega
          have e0 := cells_on H0.out hI.1
          refine Reg.step3_val (.int .u64 g) ?_ rfl (hI.keep _ (Below.refl _ _) (by decide) (by decide) (by decide) hc) trivial
          clear hz hc hI
          go_simp
        · -- 5: 93 := Op.build 61 #(0, const (1:u8)), (1, t90), (2, t92)
          intro aq wq lq hz hI hl hdone hlater hold hd ho
          have h90 : aq.tmps.getD 90 undef = .int .i64 (1 - sl) := hd 90 (by kernel_rfl)
          have h92 : aq.tmps.getD 92 undef = .int .u64 g := hd 92 (by kernel_rfl)
          clear hd ho hdone hlater hold
          rw [Array.getD_eq_getD_getElem?] at h90 h92
          have hc : 93 < aq.tmps.size := by have hz' : aq.tmps.size = 114 := hz; omega
          refine Reg.step3_val (.agg #[.int .u8 1, .int .i64 (1 - sl), .int .u64 g]) ?_ rfl (hI.keep _ (Below.refl _ _) (by decide) (by decide) (by decide) hc) trivial
          clear hz hc hI
          simp [execOp, Act.eval, h90, h92]
          try go_simp
        · -- 6: 94 := Op.move t8
          intro aq wq lq hz hI hl hdone hlater hold hd ho
          have h8 : aq.tmps.getD 8 undef = .string s := ho 8 (by kernel_rfl)
          clear hd ho hdone hlater hold
          have hc : 94 < aq.tmps.size := by have hz' : aq.tmps.size = 114 := hz; omega
          exact Reg.step3_move (.tmp 8) rfl h8 (hI.keep _ (Below.refl _ _) (by decide) (by decide) (by decide) hc) trivial
        · -- 7: 95 := Op.slice 9 t94 (some (const (24:i64))) (some (const (53:i64)
          intro aq wq lq hz hI hl hdone hlater hold hd ho
          have h94 : aq.tmps.getD 94 undef = .string s := hd 94 (by kernel_rfl)
          clear hd ho hdone hlater hold
          rw [Array.getD_eq_getD_getElem?] at h94
          have hc : 95 < aq.tmps.size := by have hz' : aq.tmps.size = 114 := hz; omega
          refine Reg.step3_val (.string Q) ?_ rfl (hI.keep _ (Below.refl _ _) (by decide) (by decide) (by decide) hc) trivial
          clear hz hc hI
          rw [HQ.out]
          simp [execOp, Act.eval, h94]
          try go_simp
        · -- 8: 96 := Op.call  value (Operand.func 19), args := #t88, const (128
          intro aq wq lq hz hI hl hdone hlater hold hd ho
          have h88 : aq.tmps.getD 88 undef = .pointer (some ⟨b, 0, none⟩) := hd 88 (by kernel_rfl)
          have h93 : aq.tmps.getD 93 undef = .agg #[.int .u8 1, .int .i64 (1 - sl), .int .u64 g] := hd 93 (by kernel_rfl)
          have h95 : aq.tmps.getD 95 undef = .string Q := hd 95 (by kernel_rfl)
          clear hd ho hdone hlater hold
          rw [Array.getD_eq_getD_getElem?] at h88 h93 h95
          have hc : 96 < aq.tmps.size := by have hz' : aq.tmps.size = 114 := hz; omega
          refine Reg.step3_call 19 #[.pointer (some ⟨b, 0, none⟩), .int .i64 128, .agg #[.int .u8 1, .int .i64 (1 - sl), .int .u64 g], .string Q] ?_ ((seal_any b 128 1 (1 - sl) g Q wq (tab_on HT7.out hI.1) hg0' HG1.out hqs).mono ?_)
          · clear hz hc hI
            simp [execOp]
            go_simp
          · rintro e w' ⟨rfl, hb⟩
            refine ⟨_, rfl, ?_, (hI.keep _ hb (by decide) (by decide) (by decide) hc), trivial⟩
            rw [HSV.out]
            rfl
        · -- 9: 87 := Op.move t96
          intro aq wq lq hz hI hl hdone hlater hold hd ho
          have h96 : aq.tmps.getD 96 undef = .tuple #[.string O, .agg #[.int .i64 (1 - sl), .int .u64 g, .int .u32 ck], .int .i64 0] := hd 96 (by kernel_rfl)
          clear hd ho hdone hlater hold
          have hc : 87 < aq.tmps.size := by have hz' : aq.tmps.size = 114 := hz; omega
          exact Reg.step3_move (.tmp 96) rfl h96 (hI.keep _ (Below.refl _ _) (by decide) (by decide) (by decide) hc) trivial
        · -- 10: 97 := Op.extract t87 0
          intro aq wq lq hz hI hl hdone hlater hold hd ho
          have h87 : aq.tmps.getD 87 undef = .tuple #[.string O, .agg #[.int .i64 (1 - sl), .int .u64 g, .int .u32 ck], .int .i64 0] := hd 87 (by kernel_rfl)
          clear hd ho hdone hlater hold
          rw [Array.getD_eq_getD_getElem?] at h87
          have hc : 97 < aq.tmps.size := by have hz' : aq.tmps.size = 114 := hz; omega
          refine Reg.step3_val (.string O) ?_ rfl (hI.keep _ (Below.refl _ _) (by decide) (by decide) (by decide) hc) trivial
          clear hz hc hI
          simp [execOp, Act.eval, h87]
          try go_simp
        · -- 11: 98 := Op.extract t87 1
          intro aq wq lq hz hI hl hdone hlater hold hd ho
          have h87 : aq.tmps.getD 87 undef = .tuple #[.string O, .agg #[.int .i64 (1 - sl), .int .u64 g, .int .u32 ck], .int .i64 0] := hd 87 (by kernel_rfl)
          clear hd ho hdone hlater hold
          rw [Array.getD_eq_getD_getElem?] at h87
          have hc : 98 < aq.tmps.size := by have hz' : aq.tmps.size = 114 := hz; omega
          refine Reg.step3_val (.agg #[.int .i64 (1 - sl), .int .u64 g, .int .u32 ck]) ?_ rfl (hI.keep _ (Below.refl _ _) (by decide) (by decide) (by decide) hc) trivial
          clear hz hc hI
          simp [execOp, Act.eval, h87]
          try go_simp
        · -- 12: 99 := Op.extract t87 2
          intro aq wq lq hz hI hl hdone hlater hold hd ho
          have h87 : aq.tmps.getD 87 undef = .tuple #[.string O, .agg #[.int .i64 (1 - sl), .int .u64 g, .int .u32 ck], .int .i64 0] := hd 87 (by kernel_rfl)
          clear hd ho hdone hlater hold
          rw [Array.getD_eq_getD_getElem?] at h87
          have hc : 99 < aq.tmps.size := by have hz' : aq.tmps.size = 114 := hz; omega
          refine Reg.step3_val (.int .i64 0) ?_ rfl (hI.keep _ (Below.refl _ _) (by decide) (by decide) (by decide) hc) trivial
          clear hz hc hI
          simp [execOp, Act.eval, h87]
          try go_simp
        · -- 13: 15 := Op.alloc 34
          intro aq wq lq hz hI hl hdone hlater hold hd ho
          have hst : lq 15 = false := hlater 15 (by kernel_rfl)
          clear hd ho hdone hlater hold
          have hc : 15 < aq.tmps.size := by have hz' : aq.tmps.size = 114 := hz; omega
          refine Reg.step3_do (.pointer (some ⟨wq.heap.size, 0, none⟩)) (wq.alloc (.cells #[.int .i64 0, .int .u64 0, .int .u32 0] 34)) ?_ trivial (Uno.mk hI hst (by decide) hc) trivial
          clear hz hc hI
          simp [execOp]
          go_simp
        · -- 14: 14 := Op.assign t97
          intro aq wq lq hz hI hl hdone hlater hold hd ho
          have h97 : aq.tmps.getD 97 undef = .string O := hd 97 (by kernel_rfl)
          clear hd ho hdone hlater hold
          have hc : 14 < aq.tmps.size := by have hz' : aq.tmps.size = 114 := hz; omega
          exact Reg.step3_assign (.tmp 97) rfl h97 (hI.keep _ (Below.refl _ _) (by decide) (by decide) (by decide) hc) trivial
        · -- 15: None := Op.store 34 t15 t98
          intro aq wq lq hz hI hl hdone hlater hold hd ho
          have h98 : aq.tmps.getD 98 undef = .agg #[.int .i64 (1 - sl), .int .u64 g, .int .u32 ck] := hd 98 (by kernel_rfl)
          have hia : lq 13 = true := hdone 13 (by kernel_rfl)
          clear hd ho hdone hlater hold
          rw [Array.getD_eq_getD_getElem?] at h98
          obtain ⟨gq, hgp, hge, hH, hBx, hU⟩ := hI.st hia hl (by decide)
          rw [Array.getD_eq_getD_getElem?] at hgp
          have e0 : wq.cell? ⟨gq, 0, none⟩ = some (.int .i64 0) := hH.cell 0
          have e1 : wq.cell? ⟨gq, 1, none⟩ = some (.int .u64 0) := hH.cell 1
          have e2 : wq.cell? ⟨gq, 2, none⟩ = some (.int .u32 0) := hH.cell 2
          have fz := hH.frozen
          refine Reg.step3_skip (((wq.setCell ⟨gq, 0, none⟩ (.int .i64 (1 - sl))).setCell ⟨gq, 1, none⟩ (.int .u64 g)).setCell ⟨gq, 2, none⟩ (.int .u32 ck)) rfl ?_ (hU _ (Has.set (Has.set (Has.set hH 0 (.int .i64 (1 - sl))) 1 (.int .u64 g)) 2 (.int .u32 ck)) (Below.setCell (Below.setCell (Below.setCell hBx (by exact hge) _) (by exact hge) _) (by exact hge) _)) trivial
          clear hU hH hBx hI hz
          simp [execOp]
          go_simp
        · -- 16: 16 := Op.assign t99
          intro aq wq lq hz hI hl hdone hlater hold hd ho
          have h99 : aq.tmps.getD 99 undef = .int .i64 0 := hd 99 (by kernel_rfl)
          clear hd ho hdone hlater hold
          have hc : 16 < aq.tmps.size := by have hz' : aq.tmps.size = 114 := hz; omega
          exact Reg.step3_assign (.tmp 99) rfl h99 (hI.keep _ (Below.refl _ _) (by decide) (by decide) (by decide) hc) trivial
      case hend =>
        intro wx v aq hv hI
        obtain ⟨gq, hgp, hge, hH, hBx⟩ := Uno.done hI (by decide) (by decide)
        rw [hv 15 (by decide)] at hgp
        clear hv hI
        simp only [Reg.fill, List.map_cons, List.map_nil, List.foldl_cons, List.foldl_nil, List.setIfInBounds_toArray, List.set_cons_zero, List.set_cons_succ]
        rw [hgp]
        clear hgp
        have HB8 := Lib.hid (below_on HB7.out hBx)
        have HT8 := Lib.hid (tab_on HT7.out hBx)
        have HH8 := Lib.hid (HH7.out.below hBx HH7.out.lt)
        clear hge hH hBx H0 w1s
        go_wp2_with fail
        refine (open_sup b O _ HT8.out hos).mono ?_
        rintro e w9 ⟨rfl, hb9⟩
        rw [HOE.out]
        unfold noSou
        have HB9 := Lib.hid (below_on HB8.out hb9)
        have HT9 := Lib.hid (tab_on HT8.out hb9)
        have hh := HH8.out.below hb9 HH8.out.lt
        have HH9 := Lib.hid hh
        have hp9 := hh.lt
        obtain ⟨d0, d1, d2, d3, d4, d5, d6⟩ := has7 hh
        have f0 := hh.frozen
        clear hb9 hh
        have wg1 : IntKind.u64.wrap (g + 1) = g + 1 := by rw [Lend.wrap_u64]; have := HGK.out; have := GB2.out; omega
        have wk1 : IntKind.u8.wrap ((k : Int) + 1) = (k : Int) + 1 := by rw [IntKind.wrap_u8']; omega
        go_wp2_with fail
        have eg : g0 + ((k + 1 : Nat) : Int) = g + 1 := by have := HGK.out; omega
        have el : lastV (g + 1) (k + 1) = sl := by unfold lastV; rw [if_neg (by omega)]; have := HSL.out; omega
        go_roundw
        case rel =>
          refine ⟨k + 1, by omega, by go_num, by rw [eg, el], below_nw (below_st HB9.out hpb _) _, tab_nw (tab_set HT9.out (by show pb ≠ b; omega) _) _, ?_⟩
          rw [eg]
          exact (HH9.out.set 0 (.int .u64 (g + 1))).alloc _
        case measure => simp [intOf]; omega
    · have HBR := Lib.hid hbr
      clear hbr htr hhr
      go_wp2_with fail
      go_ret
      exact ⟨rfl, HBR.out⟩

set_option maxRecDepth 100000 in
theorem contract (H : Type) (enc : TypeId × Value → H) (W : World) (base : Nat) (args : Array Value) (ds gs : List (DataW H)) (before : List MemPlace)
    (hval0 : ∀ (j : Nat) t v, Tryd.f6.params[j]? = some t → args[j]? = some v → Value.okWide Tryd.prog W .any base t v)
    (hW : DataW.Whole enc Tryd.prog Tryd.f6.params.toList Rows.superSlotsSpec.vars false W args.toList ds gs before) :
    Calls Tryd.prog 6 args W fun e W' => ∃ v, e = .returned v ∧ Rows.superSlotsSpec.post enc Tryd.prog Tryd.f6 false true false false W args v W' := by
  have hval : ∀ (j : Nat) t v, Tryd.f6.params[j]? = some t → args[j]? = some v → Value.okWide Tryd.prog W .any base t v := hval0
  have hW' := hW
  obtain ⟨p, q, hA0, hV, rfl, hfz, hnd⟩ := hW
  have hA : DataW.TrodAll enc Tryd.prog W 0 (fun _ => true) true Tryd.f6.params.toList args.toList ds p := hA0
  rw [Tryd.params6] at hA hval
  obtain ⟨v0, vs0, d0, ds0, p0, q0, hargs, rfl, rfl, h0, r0⟩ := trodAll_cons hA
  obtain ⟨v1, vs1, d1, ds1, p1, q1, rfl, rfl, rfl, h1, r1⟩ := trodAll_cons r0
  obtain ⟨rfl, rfl, rfl⟩ := trodAll_nil r1
  obtain rfl : args = #[v0, v1] := by cases args; simp_all
  obtain ⟨rfl, rfl⟩ := trodVars_none hV
  have k0 := h0
  have lt0 : ∀ x ∈ p0, x.block < W.heap.size := by obtain ⟨m, hm⟩ := k0; exact DataW.trod_lt m _ _ _ hm
  obtain ⟨cs0, rfl, hl0, hc0⟩ := open_struct_cells Tryd.underlying25 (by kernel_rfl) (by kernel_rfl) (hval 0 25 v0 rfl rfl) h0
  obtain ⟨y0_0, y0_1, y0_2, y0_3, y0_4, y0_5, y0_6, rfl⟩ := len7 cs0 hl0
  obtain ⟨a0f0, rfl, w0f0⟩ := open_int_cell Tryd.underlying22 (hc0 0 _ _ rfl rfl)
  obtain ⟨a0f1, rfl, w0f1⟩ := open_int_cell Tryd.underlying3 (hc0 1 _ _ rfl rfl)
  obtain ⟨a0f2, rfl, w0f2⟩ := open_int_cell Tryd.underlying22 (hc0 2 _ _ rfl rfl)
  obtain ⟨a0f3, rfl, w0f3⟩ := open_int_cell Tryd.underlying23 (hc0 3 _ _ rfl rfl)
  obtain ⟨a0f4, rfl, w0f4⟩ := open_int_cell Tryd.underlying3 (hc0 4 _ _ rfl rfl)
  obtain ⟨a0f5, rfl, w0f5⟩ := open_int_cell Tryd.underlying22 (hc0 5 _ _ rfl rfl)
  obtain ⟨a0f6, rfl, w0f6⟩ := open_int_cell Tryd.underlying23 (hc0 6 _ _ rfl rfl)
  obtain ⟨a1, rfl, rfl, rfl, w1⟩ := open_int Tryd.underlying5 (hval 1 5 v1 rfl rfl) h1
  clear hA0 hval0
  refine (walk a0f0 a0f1 a0f2 a0f3 a0f4 a0f5 a0f6 a1 W w0f0 w0f1 w0f2 w0f3 w0f4 w0f5 w0f6 w1).mono fun e W' ⟨he, bel⟩ => ?_
  subst he
  exact ⟨_, rfl, _, _, _, [], _, [], hW', trodAll_mk1 (shut_bool Tryd.underlying4 _), (trodAll_cons_mk (Below.trod laidOut (by kernel_rfl) (of_decide_eq_true (by kernel_rfl)) k0 bel lt0) (trodAll_cons_mk (shut_int Tryd.underlying5 w1) trodAll_mk0)), rfl, bel.frame _, fun h => by cases h⟩

noncomputable def laidWorld (os : Os) : World :=
  { World.holding Tryd.prog os ⟨#[], #[], []⟩ with heap := (((((World.holding Tryd.prog os ⟨#[], #[], []⟩).heap).modify 2 fun | .cells _ t frozen => .cells (#[.int .u8 128, .int .u8 191, .int .u8 160, .int .u8 191, .int .u8 128, .int .u8 159, .int .u8 144, .int .u8 191, .int .u8 128, .int .u8 143, .int .u8 0, .int .u8 0, .int .u8 0, .int .u8 0, .int .u8 0, .int .u8 0, .int .u8 0, .int .u8 0, .int .u8 0, .int .u8 0, .int .u8 0, .int .u8 0, .int .u8 0, .int .u8 0, .int .u8 0, .int .u8 0, .int .u8 0, .int .u8 0, .int .u8 0, .int .u8 0, .int .u8 0, .int .u8 0]) t frozen | o => o)).modify 1 fun | .cells _ t frozen => .cells ((Go.Pinned.utf8FirstZ.map fun z : Nat => Value.int .u8 (z : Int)).toArray) t frozen | o => o) }
theorem laid_met (os : Os) : laidMet Tryd.prog Rows.superSlotsRow.laid ((laidWorld os).forCall (fun _ _ => 0) ⟨#[], #[.agg #[.int .u64 0, .int .i64 0, .int .u64 0, .int .u32 0, .int .i64 0, .int .u64 0, .int .u32 0], .int .u8 0], []⟩).memory :=
  laidMet_of_run' 8 (by kernel_rfl) (by kernel_rfl)
theorem reads (os : Os) {H : Type} (enc : TypeId × Value → H) : ∃ places, DataW.whole enc Tryd.prog ((laidWorld os).forCall (fun _ _ => 0) ⟨#[], #[.agg #[.int .u64 0, .int .i64 0, .int .u64 0, .int .u32 0, .int .i64 0, .int .u64 0, .int .u32 0], .int .u8 0], []⟩).memory Tryd.f6.params.toList Rows.superSlotsSpec.vars false (#[.agg #[.int .u64 0, .int .i64 0, .int .u64 0, .int .u32 0, .int .i64 0, .int .u64 0, .int .u32 0], .int .u8 0] : Array Value).toList 8 = some ([.agg [.lit (.int .u64 0), .lit (.int .i64 0), .lit (.int .u64 0), .lit (.int .u32 0), .lit (.int .i64 0), .lit (.int .u64 0), .lit (.int .u32 0)], .lit (.int .u8 0)], [], places) :=
  ⟨[], by kernel_rfl⟩

set_option maxRecDepth 100000 in
theorem lifted (os : Os) (started : os.Started) (H : Type) (enc : TypeId × Value → H) (F : Stop.Interp) :
    ReturnsInHanded {} Tryd.checked os 6 .any ((OpenSpec.ofChange Rows.superSlotsSpec).preRow enc Tryd.prog Tryd.f6 Rows.superSlotsRow.domain false Rows.superSlotsRow.laid) (((OpenSpec.ofChange Rows.superSlotsSpec).at F).post enc Tryd.prog Tryd.f6 false true false false) := by
  obtain ⟨places, hx⟩ := reads os enc
  refine returnsInHanded_of_row (C := Tryd.checked) (s := OpenSpec.ofChange Rows.superSlotsSpec) own started (by kernel_rfl) Tryd.func6
    (witness_row_at (enc := enc) (C := Tryd.checked) false (laidWorld os) #[.agg #[.int .u64 0, .int .i64 0, .int .u64 0, .int .u32 0, .int .i64 0, .int .u64 0, .int .u32 0], .int .u8 0] rfl (by kernel_rfl) (by kernel_rfl) (by kernel_rfl)
      (OpenSpec.preRow_of_cond 8 hx (by kernel_rfl) (fun k hk => by cases hk) (by kernel_rfl) (laid_met os))) ?_
  intro W base args ds gs before hval hW _ _ _ hL _ _
  exact contract H enc W base args ds gs before hval hW

theorem said : Rows.SuperSlotsSaid :=
  OpenClaim.holds_of_cond 6 Tryd.f6 rfl rfl rfl rfl rfl rfl rfl ⟨rfl, rfl, rfl, rfl, rfl⟩ rfl rfl rfl rfl rfl (by kernel_rfl) Tryd.func6 (by kernel_rfl)
    (of_decide_eq_true (by kernel_rfl)) (by unfold Func.isWrapper; first | (rw [if_pos (by decide +kernel)]; kernel_rfl) | (rw [if_neg (by decide +kernel)]; exact ⟨rfl, rfl⟩))
    (fun os started H enc _ F => by rw [OpenClaim.pre_eq_preRow]; exact lifted os started H enc F)

theorem plain (f : FuncId) (fn : Func) (hf : Tryd.pinned.checked.prog.funcNamed "treenail/treenaillaw05.SuperSlots" = some f) (hfn : Tryd.pinned.checked.prog.funcs[f]? = some fn) :
    false = Tryd.pinned.checked.prog.looks [] ∧ ∀ (j : Nat) t, fn.params[j]? = some t → Tryd.pinned.checked.prog.wantsStandIn t = false := by
  obtain rfl : f = 6 := Option.some.inj ((show Tryd.prog.funcNamed "treenail/treenaillaw05.SuperSlots" = some 6 by kernel_rfl).symm.trans hf) |>.symm
  obtain rfl : fn = Tryd.f6 := (Option.some.inj (Tryd.func6.symm.trans hfn)).symm
  refine ⟨by kernel_rfl, fun j t ht => ?_⟩
  rw [Tryd.params6] at ht
  rcases j with _ | _ | j
  · obtain rfl : t = 25 := by simpa using ht.symm
    exact (show Tryd.prog.wantsStandIn 25 = false by kernel_rfl)
  · obtain rfl : t = 5 := by simpa using ht.symm
    exact (show Tryd.prog.wantsStandIn 5 = false by kernel_rfl)
  · simp at ht

/-- THE STATEMENT -/
theorem proved : Rows.SuperSlotsCardSaid :=
  Claim7.holds_tied_plain_at .later [] _ _ _ _ said (fun _ h => by cases h) (by kernel_rfl) (fun _ h => by cases h) superSlots_row_tie rfl ⟨rfl, rfl⟩ (by kernel_rfl) rfl plain (by kernel_rfl)
#print axioms proved
end Go.Proofs.YtimdemdopnmijaaDoor.superSlots
