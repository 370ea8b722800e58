/-
  The law RemapTorn holds: wherever the power fails on one of the devices, and whatever becomes of what wasn't flushed, a pair that is opened anew has the tables that it had, or those of the move under way; and so again. Conditions: none but the row's own.
-/
import Derived.Test.YtpdickpipdaphaaGreatDoorRows
import Derived.Test.YtpdickpipdaphaaGreatDoorK14
import Derived.Test.YtpdickpipdaphaaGreatDoorK12
import Derived.Test.YtpdickpipdaphaaGreatDoorCards
import Derived.Test.YtpdickpipdaphaaGreatDoorTie
import Derived.WalkKit
import Derived.ProofKit
import Derived.OpenShut
import Derived.ShutString
import Derived.ChangeOld
import Derived.Below
import Derived.Carry
import Derived.Deep.DeepHandedRow
import Derived.Lib.LaidTab
namespace Go.Proofs.YtpdickpipdaphaaGreatDoor.remapTorn
open Go.ChangeShapes Go.WideShapes Go.ChangeAt Go.RowKit
open Go.Proofs.YtpdickpipdaphaaGreatDoor
open Go.ChangeMaps (open_string shut_string)
set_option linter.unusedVariables false

theorem own : ownKnob Tryz.prog.godebug = none := by kernel_rfl
theorem laidOut : laidOutB Tryz.prog = true := by kernel_rfl


open Go.Proofs.YtpdickpipdaphaaGreatDoor.Rem Go.Proofs.YtpdickpipdaphaaGreatDoor.Dev Go.Proofs.YtpdickpipdaphaaGreatDoor.Tab
theorem run_minC (P : Program) (w : World) (t : TypeId) (ts : Array TypeId) (a c : Nat) : (Builtin.min_ ts t #[.int .i64 (a : Nat), .int .i64 (c : Nat)]).run P w = .ok (.int .i64 ((min a c : Nat) : Int)) w := by
  have e : ∀ a b : Nat, (if (b : Int) < a then (b : Int) else a) = ((min a b : Nat) : Int) := by intro a b; split <;> omega
  simp only [Builtin.min_, Builtin.min2, List.foldlM, Sem.run_bind, Sem.run_pure, Result.andThen]
  rw [e]
theorem text_ne {s u : ByteArray} (h : ¬ s = u) : (s.toList == u.toList) = false := by
  rw [beq_eq_false_iff_ne]
  intro he
  rw [ByteArray.toList_eq, ByteArray.toList_eq] at he
  apply h
  cases s; cases u
  simp at he
  simpa using he

/-! ### STEP 1: THE WALK -/
set_option maxHeartbeats 8000000 in
set_option maxRecDepth 100000 in
theorem walk (a0 : Option Addr) (a0l a0c : Nat) (a0z : List Int) (a1 : Option Addr) (a1l a1c : Nat) (a1z : List Int) (a2 : Option Addr) (a2l a2c : Nat) (a2z : List Int) (w : World) (w0 : Row .u8 w a0 a0l a0z) (w0l : a0l ≤ a0c) (w0m : a0c ≤ maxLen) (w0w : ∀ n ∈ a0z, (Lit.int .u8 n).wf = true) (w1 : Row .u8 w a1 a1l a1z) (w1l : a1l ≤ a1c) (w1m : a1c ≤ maxLen) (w1w : ∀ n ∈ a1z, (Lit.int .u8 n).wf = true) (w2 : Row .u8 w a2 a2l a2z) (w2l : a2l ≤ a2c) (w2m : a2c ≤ maxLen) (w2w : ∀ n ∈ a2z, (Lit.int .u8 n).wf = true) :
    Calls Tryz.prog 4 #[.slice a0 a0l a0c, .slice a1 a1l a1c, .slice a2 a2l a2c] w fun e w' => e = .returned (.bool true) ∧ Below w.heap.size w w' := by
  have R0 := Lib.hid w0
  have WF0 := Lib.hid w0w
  have HLZ0 := Lib.hid w0.len_eq
  have R1 := Lib.hid w1
  have WF1 := Lib.hid w1w
  have HLZ1 := Lib.hid w1.len_eq
  have R2 := Lib.hid w2
  have WF2 := Lib.hid w2w
  have HLZ2 := Lib.hid w2.len_eq
  clear w0 w1 w2 w0w w1w w2w
  unfold maxLen at w0m w1m w2m
  go_enter Tryz.func4, Tryz.ntmps4
  go_wp2_with fail
  refine (fresh_t w).mono ?_
  rintro e w1' ⟨pa, pb, q0, D0, rfl, hc, hd⟩
  have HC0 := Lib.hid hc
  have HD0 := Lib.hid hd
  clear hc hd
  go_wp2_with fail
  refine (wakes_any _).mono ?_
  rintro e wc ⟨rfl, hb⟩
  have HC1 := Lib.hid (HC0.out.later hb)
  clear hb HC0
  obtain ⟨m2, hm⟩ : ∃ mm, mm = min a2l 10 := ⟨_, rfl⟩
  have hmin : ∀ W ts, (Builtin.min_ ts 3 #[.int .i64 (a2l : Nat), .int .i64 10]).run Tryz.prog W = .ok (.int .i64 (m2 : Int)) W := by
    intro W ts; rw [hm]; exact run_minC _ _ _ _ a2l 10
  have hml : m2 ≤ a2l := by omega
  have hml' : m2 ≤ a2c := by omega
  have hm10 : m2 ≤ 10 := by omega
  clear hm
  go_wp2_with fail
  clear hmin
  go_loopw [11, 44] (fun v i wr => ∃ (t : Nat) (fs : List Int), t ≤ m2 ∧ i = .int .i64 t ∧ wr.ownsRow wc.heap.size 54 1 v t (fs.map (Value.int .i64)) ∧ (∀ f ∈ fs, f ≤ 255) ∧ Below wc.heap.size wc wr) (fun _ i _ => m2 - (intOf i).toNat)
  case atStart => exact ⟨0, [], Nat.zero_le _, rfl, World.ownsRow_nil _ _ _ _, (fun f hf => by cases hf), Below.refl _ _⟩
  case round =>
    obtain ⟨t, fs, ht, rfl, hown, hfb, hbel⟩ := hrel
    by_cases hlt : t < m2
    · have hbw := HC1.out.below
      obtain ⟨zb, zo, rfl, hcell⟩ := ((R2.out.below hbw (Nat.le_refl _)).below hbel (Nat.le_refl _)).at_ (by omega)
      have hz := hcell t (by omega)
      obtain ⟨y, hy⟩ : ∃ y, y = a2z.getD t 0 := ⟨_, rfl⟩
      have hyb : 0 ≤ y ∧ y ≤ 255 := by
        have := bounds_u8 (WF2.out y (by rw [hy, List.getD_eq_getElem?_getD, List.getElem?_eq_getElem (by rw [HLZ2.out]; omega)]; exact List.getElem_mem _))
        omega
      rw [← hy] at hz
      have vf2 : IntKind.i64.wrap y = y := by rw [IntKind.wrap_i64]; omega
      obtain ⟨i0, hi, hz0, hz1, hz2⟩ := info_parts info_fate
      have hsz := hbel.size
      obtain ⟨hy0, hy1⟩ := hyb
      clear hcell hy hbw
      go_wp2_with (at_builtin; refine wpList_append_own _ rfl _ _ 53 rfl wc.heap.size 54 i0 (.int .i64 0) 1 8 Tryz.underlying53 hi hz0 hz1 hz2 rfl (by decide) _ _ _ rfl (hown.alloc _) ⟨wr.heap.size, 0, none⟩ 1 1 [.int .i64 y] rfl rfl ?c1 ?c2 ?c3 ?c4 ?c5 ?_)
      case c1 =>
        intro j u hj
        match j, hj with
        | 0, hj => simp at hj; subst hj; simp [Addr.add]
      case c2 => intro u hu; simp at hu; subst hu; rfl
      case c3 => unfold maxLen; omega
      case c4 => omega
      case c5 => simp; omega
      intro v' wn hown' hgrow _
      have HB' := Lib.hid (show Below wc.heap.size wc wn from (hbel.alloc (by omega) _).grown hgrow (by simp; omega) (fun q hq => (hown.lt q hq).1))
      have HO' := Lib.hid hown'
      clear hown' hgrow hown hbel vf2 hz
      go_wp2_with fail
      go_roundw
      case rel => exact ⟨t + 1, fs ++ [y], by omega, by go_num, by rw [List.map_append]; exact HO'.out, (fun g hg => by
        rcases List.mem_append.1 hg with hg | hg
        · exact hfb g hg
        · rw [List.mem_singleton.1 hg]; omega), HB'.out⟩
      case measure => simp [intOf]; omega
    · obtain rfl : t = m2 := by omega
      obtain ⟨X, hcx, hfx⟩ := fates_of HC1.out hbel hown
      have HF := Lib.hid hfx
      have HFB := Lib.hid (show ∀ f ∈ fs, f ≤ 9223372036854775807 from fun f hf => by have := hfb f hf; omega)
      have HC2 := Lib.hid hcx
      clear hown hfb hbel hcx hfx HC1
      obtain ⟨mm, hm⟩ : ∃ mm, mm = min a0l 12 := ⟨_, rfl⟩
      have hmin : ∀ W ts, (Builtin.min_ ts 3 #[.int .i64 (a0l : Nat), .int .i64 12]).run Tryz.prog W = .ok (.int .i64 (mm : Int)) W := by
        intro W ts; rw [hm]; exact run_minC _ _ _ _ a0l 12
      have hmml : mm ≤ a0l := by omega
      have hmml' : mm ≤ a0c := by omega
      have hmm12 : mm ≤ 12 := by omega
      clear hm
      go_wp2_with fail
      clear hmin
      go_loopw [9, 60] (fun p i wv => ∃ (c q : Nat) (m : Nat → List Int) (D : Nat → Dv) (M : Nat → Nat → ByteArray), c ≤ mm ∧ i = .int .i64 c ∧ p = .pointer (some ⟨q, 0, none⟩) ∧ CPe w X q (pdOf pa pb) m D wv ∧ (∀ t, t < 2 → Cf (D t) (M t) 0) ∧ (∀ s, s < 2 → TOk M s (m s) (kq fs)) ∧ Fates wv X u11 t fs) (fun _ i _ => mm - (intOf i).toNat)
      case atStart => exact ⟨0, q0, _, D0, M00, Nat.zero_le _, rfl, rfl, HC2.out, HD0.out, fun s hs => M00_ok hs _, HF.out⟩
      case round =>
        obtain ⟨c, q, m, D, M, hc, rfl, rfl, hcp, hcf, htk, hft⟩ := hrel
        clear HC2 HF HD0
        have HC := Lib.hid hcp
        have HCF := Lib.hid hcf
        have HTK := Lib.hid htk
        have HF := Lib.hid hft
        have hbw := hcp.below
        have HFX := Lib.hid (show ∃ fa cap, u11 = .slice fa t cap ∧ ∀ a, fa = some a → a.block ∈ X from by obtain ⟨_, fa, cap, g2, _, g4⟩ := hft; exact ⟨fa, cap, g2, g4⟩)
        clear hcp hcf htk hft
        by_cases hlt2 : c < mm
        · obtain ⟨zb, zo, rfl, hcell⟩ := (R0.out.below hbw (Nat.le_refl _)).at_ (by omega)
          have hz := hcell c (by omega)
          obtain ⟨y, hy⟩ : ∃ y, y = a0z.getD c 0 := ⟨_, rfl⟩
          have hyb : 0 ≤ y ∧ y ≤ 255 := by
            have := bounds_u8 (WF0.out y (by rw [hy, List.getD_eq_getElem?_getD, List.getElem?_eq_getElem (by rw [HLZ0.out]; omega)]; exact List.getElem_mem _))
            omega
          rw [← hy] at hz
          obtain ⟨s, hs⟩ : ∃ s : Nat, (s : Int) = y % 2 := ⟨(y % 2).toNat, by omega⟩
          obtain ⟨h, hh⟩ : ∃ h : Nat, (h : Int) = y / 2 := ⟨(y / 2).toNat, by omega⟩
          obtain ⟨x, hx⟩ : ∃ x : Nat, (x : Int) = (h : Int) % 12 := ⟨((h : Int) % 12).toNat, by omega⟩
          have hs2 : s < 2 := by omega
          have hx12 : x < 12 := by omega
          have hh127 : h ≤ 127 := by omega
          have e1 : Int.tmod y 2 = (s : Int) := by rw [Int.tmod_eq_emod_of_nonneg hyb.1, hs]
          have e2 : Int.tdiv y 2 = (h : Int) := by rw [Int.tdiv_eq_ediv_of_nonneg hyb.1, hh]
          have e3 : Int.tmod (h : Int) 12 = (x : Int) := by rw [Int.tmod_eq_emod_of_nonneg (by omega), hx]
          have e1' : y % 2 = (s : Int) := hs.symm
          have e2' : y / 2 = (h : Int) := hh.symm
          have e3' : (h : Int) % 12 = (x : Int) := hx.symm
          have f1 : IntKind.u8.wrap (s : Int) = s := by simp [IntKind.wrap, IntKind.bits, IntKind.signed]; omega
          have f2 : IntKind.u8.wrap (h : Int) = h := by simp [IntKind.wrap, IntKind.bits, IntKind.signed]; omega
          obtain ⟨hy0, hy1⟩ := hyb
          clear hcell hy hs hh hx
          go_wp2_with fail
          clear hz e1 e2 e3 e1' e2' e3' f1 f2
          refine (table_e HC.out.pb hs2).mono ?_
          rintro e w3 ⟨rfl, hb⟩
          obtain ⟨l, hl⟩ : ∃ l, l = m s := ⟨_, rfl⟩
          have HL := Lib.hid hl
          rw [← hl]
          have HC3 := Lib.hid (HC.out.later hb)
          have HF3 := Lib.hid (HF.out.keep fun k hk => hb.block k (HC.out.x k hk).2)
          have HG := Lib.hid (show Tab.Good 12 4 l from by rw [hl]; exact (HTK.out s hs2).good)
          obtain ⟨b18, hb18⟩ : ∃ b, b = w3.heap.size := ⟨_, rfl⟩
          have hT := TAt.made w3 12 4 l
          have hld := hT.ld
          have hne : ∀ k ∈ X, k < w3.heap.size := fun k hk => (HC3.out.x k hk).2
          have HF4 := Lib.hid (show Fates (w3.alloc (.cells (ta 12 4 l) 35)) (b18 :: X) u11 t fs from by
            obtain ⟨g1, fa, cap, g2, g3, g4⟩ := HF3.out.keep (w' := w3.alloc (.cells (ta 12 4 l) 35)) fun k hk => Below.heap_alloc _ _ _ (hne k hk)
            exact ⟨g1, fa, cap, g2, g3, fun a e => List.mem_cons_of_mem _ (g4 a e)⟩)
          have HC4 := Lib.hid (show CPe w (b18 :: X) q (pdOf pa pb) m D (w3.alloc (.cells (ta 12 4 l) 35)) from by rw [hb18]; exact HC3.out.new _)
          have HT4 := Lib.hid (show TAt (w3.alloc (.cells (ta 12 4 l) 35)) b18 12 4 l from by rw [hb18]; exact hT)
          clear hb hl hT hne hbw HC HF HC3 HF3
          go_wp2_with (first | with_reducible refine wl_alloc ?_)
          rw [← hb18]
          clear hb18 hld
          obtain ⟨W0, hW0⟩ : ∃ W0, W0 = w3.alloc (.cells (ta 12 4 l) 35) := ⟨_, rfl⟩
          rw [← hW0] at HF4 HC4 HT4 ⊢
          clear hW0
          refine (Tab.move_any 12 4 x l _ HG.out).mono ?_
          rintro e w5 ⟨rfl, hb⟩
          obtain ⟨N1, hN1⟩ : ∃ N1, N1 = mvN 12 4 l (x : Int) := ⟨_, rfl⟩
          obtain ⟨K1, hK1⟩ : ∃ K1, K1 = mvK 12 4 l (x : Int) := ⟨_, rfl⟩
          obtain ⟨n, hn⟩ : ∃ n, n = mvM 12 4 l (x : Int) := ⟨_, rfl⟩
          obtain ⟨E1, hE1⟩ : ∃ E1, E1 = mvE 12 4 l (x : Int) := ⟨_, rfl⟩
          rw [← hN1, ← hK1, ← hn, ← hE1]
          have HMV := Lib.hid (And.intro hN1 (And.intro hK1 (And.intro hn hE1)))
          have HC5 := Lib.hid (HC4.out.later hb)
          have HT5 := Lib.hid (HT4.out.on hb)
          have HF5 := Lib.hid (HF4.out.keep fun k hk => hb.block k (HC4.out.x k hk).2)
          obtain ⟨b19, hb19⟩ : ∃ b, b = w5.heap.size := ⟨_, rfl⟩
          have hT := TAt.made w5 N1 K1 n
          have hne : ∀ k ∈ b18 :: X, k < w5.heap.size := fun k hk => (HC5.out.x k hk).2
          have HF6 := Lib.hid (show Fates (w5.alloc (.cells (ta N1 K1 n) 35)) (b19 :: b18 :: X) u11 t fs from by
            obtain ⟨g1, fa, cap, g2, g3, g4⟩ := HF5.out.keep (w' := w5.alloc (.cells (ta N1 K1 n) 35)) fun k hk => Below.heap_alloc _ _ _ (hne k hk)
            exact ⟨g1, fa, cap, g2, g3, fun a e => List.mem_cons_of_mem _ (g4 a e)⟩)
          have HC6 := Lib.hid (show CPe w (b19 :: b18 :: X) q (pdOf pa pb) m D (w5.alloc (.cells (ta N1 K1 n) 35)) from by rw [hb19]; exact HC5.out.new _)
          have HT6 := Lib.hid (HT5.out.new (.cells (ta N1 K1 n) 35))
          have HN6 := Lib.hid (show TAt (w5.alloc (.cells (ta N1 K1 n) 35)) b19 N1 K1 n from by rw [hb19]; exact hT)
          obtain ⟨W, hW⟩ : ∃ W, W = w5.alloc (.cells (ta N1 K1 n) 35) := ⟨_, rfl⟩
          rw [← hW] at HF6 HC6 HT6 HN6
          clear hb hT hne hN1 hK1 hn hE1 HC4 HT4 HF4 HC5 HT5 HF5
          go_upto_if 83 with (first | with_reducible refine wl_alloc ?_)
          rw [← hb19, ← hW]
          clear hb19 hW
          go_cut [21] (fun d wx => ∃ u : Nat, u < 2 ∧ d = .pointer (some ⟨pdOf pa pb u, 0, none⟩) ∧ wx = W)
          case first =>
            by_cases h128 : 128 ≤ y
            · go_wp2_with fail
              go_meet
              exact ⟨1, by omega, rfl, rfl⟩
            · go_wp2_with fail
              go_meet
              exact ⟨0, by omega, rfl, rfl⟩
          case rest =>
            obtain ⟨u, hu, rfl, rfl⟩ := hcut
            go_upto_if 88 with fail
            go_cut [22] (fun z wx => z = u22 ∧ ∃ (D1 : Nat → Dv) (f : Nat → Nat), CPe w (b19 :: b18 :: X) q (pdOf pa pb) m D1 wx ∧ (∀ t, t < 2 → Cf (D1 t) (M t) (f t)) ∧ Same (b19 :: b18 :: X) wc wx)
            case first =>
              by_cases hci : c < a1l
              · have hbw := HC6.out.below
                obtain ⟨cb, co, rfl, hcell⟩ := (R1.out.below hbw (Nat.le_refl _)).at_ (by omega)
                have hz := hcell c (by omega)
                obtain ⟨y1, hy⟩ : ∃ y, y = a1z.getD c 0 := ⟨_, rfl⟩
                have hyb : 0 ≤ y1 ∧ y1 ≤ 255 := by
                  have := bounds_u8 (WF1.out y1 (by rw [hy, List.getD_eq_getElem?_getD, List.getElem?_eq_getElem (by rw [HLZ1.out]; omega)]; exact List.getElem_mem _))
                  omega
                rw [← hy] at hz
                obtain ⟨g, hg⟩ : ∃ g : Nat, (g : Int) = y1 % 6 := ⟨(y1 % 6).toNat, by omega⟩
                have hg6 : g < 6 := by omega
                have e1 : Int.tmod y1 6 = (g : Int) := by rw [Int.tmod_eq_emod_of_nonneg hyb.1, hg]
                have e1' : y1 % 6 = (g : Int) := hg.symm
                have f1 : IntKind.u8.wrap (g : Int) = g := by simp [IntKind.wrap, IntKind.bits, IntKind.signed]; omega
                obtain ⟨hz0, hz1⟩ := hyb
                clear hcell hy hg hbw
                go_wp2_with fail
                clear hz e1 e1' f1
                refine (fuse_e HC6.out hu g (by omega) g rfl _ rfl).mono ?_
                rintro e w7 ⟨rfl, hc, hsm⟩
                have HC7 := Lib.hid hc
                have HS7 := Lib.hid hsm
                clear hc hsm
                go_wp2_with fail
                go_meet
                refine ⟨rfl, _, upd (fun _ => 0) u g, HC7.out, fun t ht => ?_, HS7.out⟩
                by_cases e : t = u
                · subst e; rw [upd_same, upd_same]; exact (HCF.out t ht).fused g (by omega)
                · rw [upd_ne _ _ e, upd_ne _ _ e]; exact HCF.out t ht
              · go_wp2_with fail
                go_meet
                exact ⟨rfl, D, fun _ => 0, HC6.out, HCF.out, Same.refl _ _⟩
            case rest =>
              obtain ⟨rfl, D1, f, hc7, hd7, hsm⟩ := hcut
              have HC7 := Lib.hid hc7
              have HD7 := Lib.hid hd7
              have HF7 := Lib.hid (HF6.out.keep hsm)
              have HT7 := Lib.hid (HT6.out.same (hsm b18 (by simp)))
              have HN7 := Lib.hid (HN6.out.same (hsm b19 (by simp)))
              clear hc7 hd7 hsm HCF HC6 HF6 HT6 HN6
              have hms : m s = l := HL.out.symm
              by_cases hm4 : l.length < 4
              · have hE := mv_yes (n := 12) (k := 4) (m := l) (b := (x : Int)) (by omega) (by omega) (by omega)
                obtain ⟨v1, v2, v3, v4⟩ := HMV.out
                obtain ⟨g1, g2, g3⟩ := mv_ok hE
                rw [g1] at v1; rw [g2] at v2; rw [g3] at v3; rw [hE] at v4
                subst v1; subst v2; subst v4
                have HGN := Lib.hid (show Tab.Good 12 4 n from by rw [v3]; exact (HG.out.push hE).1)
                have HLN := Lib.hid (show n.length = l.length + 1 from by rw [v3]; simp)
                have HNN := Lib.hid (show n = m s ++ [(x : Int)] from by rw [hms]; exact v3)
                clear hE g1 g2 g3 v3 HMV
                go_wp2_with fail
                refine (move_e HC7.out hs2 (by rw [hms]; exact HG.out) (cf_sz HD7.out) hx12 (by rw [hms]; exact hm4) HNN.out).mono ?_
                rintro e w8 ⟨rfl, ⟨m', hm0, hm1, hc⟩, hsm⟩
                obtain ⟨ke, hke⟩ : ∃ ke, ke = kpE D1 s n := ⟨_, rfl⟩
                rw [← hke] at hm0 hm1 ⊢
                have HKE := Lib.hid hke
                have HM' := Lib.hid (And.intro hm0 hm1)
                have HC8 := Lib.hid hc
                have HF8 := Lib.hid (HF7.out.keep hsm)
                have HT8 := Lib.hid (HT7.out.same (hsm b18 (by simp)))
                have HN8 := Lib.hid (HN7.out.same (hsm b19 (by simp)))
                clear hke hm0 hm1 hc hsm HC7 HF7 HT7 HN7
                go_wp2_with fail
                refine (crash_e HC8.out (s := 0) (by omega) (by have h1 := (kpD_all D1 hs2 n (t := 0) (by omega)).2; have h2 := (HD7.out 0 (by omega)).ck.cache; rw [h2] at h1; simp at h1; omega) (by omega) HF8.out HFB.out _ rfl).mono ?_
                rintro e w9 ⟨rfl, hc, hsm⟩
                have HC9 := Lib.hid hc
                have HF9 := Lib.hid (HF8.out.keep hsm)
                have HT9 := Lib.hid (HT8.out.same (hsm b18 (by simp)))
                have HN9 := Lib.hid (HN8.out.same (hsm b19 (by simp)))
                clear hc hsm HC8 HF8 HT8 HN8
                go_wp2_with fail
                refine (crash_e HC9.out (s := 1) (by omega) (by rw [upd_ne _ _ (by omega)]; have h1 := (kpD_all D1 hs2 n (t := 1) (by omega)).2; have h2 := (HD7.out 1 (by omega)).ck.cache; rw [h2] at h1; simp at h1; omega) (by omega) HF9.out HFB.out _ rfl).mono ?_
                rintro e w10 ⟨rfl, hc, hsm⟩
                have hcd := hc.cong (m' := m') (D' := fun t => (kpD D1 s n t).crashD fs) (fun _ _ => rfl) (fun t ht => by
                  rcases (show t = 0 ∨ t = 1 by omega) with rfl | rfl
                  · rw [upd_ne _ _ (by omega), upd_same]
                  · rw [upd_same, upd_ne _ _ (by omega)])
                have HC10 := Lib.hid hcd
                have HF10 := Lib.hid (HF9.out.keep hsm)
                have HT10 := Lib.hid (HT9.out.same (hsm b18 (by simp)))
                have HN10 := Lib.hid (HN9.out.same (hsm b19 (by simp)))
                clear hc hcd hsm HC9 HF9 HT9 HN9
                obtain ⟨hk06, M', l', hcf', hl', hl0, hts, hto⟩ := kp_torn HD7.out hs2 HGN.out HLN.out (fs := fs) (lo := m (1 - s)) (by have := HTK.out s hs2; rwa [hms] at this) (HTK.out (1 - s) (by omega))
                rw [← HKE.out] at hk06 hl0
                have HCF' := Lib.hid hcf'
                have HTK' := Lib.hid (show ∀ t, t < 2 → TOk M' t (upd m s l' t) (kq fs) from fun t ht => by
                  rcases kpP_cases hs2 ht with rfl | ⟨rfl, h2⟩
                  · rw [upd_same]; exact hts
                  · rw [upd_ne _ _ h2]; exact hto)
                clear hcf' hts hto HD7 HTK
                go_wp2_with fail
                refine (open_t HC10.out HCF'.out HTK'.out).mono ?_
                rintro e w11 ⟨q', E, rfl, hce, hc, hpb, hsm⟩
                have HCE := Lib.hid hce
                have HC11 := Lib.hid hc
                have HPB := Lib.hid hpb
                have HF11 := Lib.hid (HF10.out.keep hsm)
                have HT11 := Lib.hid (HT10.out.same (hsm b18 (by simp)))
                have HN11 := Lib.hid (HN10.out.same (hsm b19 (by simp)))
                clear hce hc hpb hsm HC10 HF10 HT10 HN10 HCF'
                obtain ⟨TN, hTN⟩ : ∃ T, T = txS n := ⟨_, rfl⟩
                obtain ⟨TL, hTL⟩ : ∃ T, T = txS l := ⟨_, rfl⟩
                obtain ⟨TO, hTO⟩ : ∃ T, T = txS (m (1 - s)) := ⟨_, rfl⟩
                have HTN := Lib.hid hTN
                have HTL := Lib.hid hTL
                have HTO := Lib.hid hTO
                have hnl : TN ≠ TL := by rw [hTN, hTL]; exact tx_ne HLN.out
                have hnl2 : (TN.toList == TL.toList) = false := text_ne hnl
                have hnl3 : TN.toList ≠ TL.toList := fun e => by rw [e] at hnl2; simp at hnl2
                obtain ⟨o, ho⟩ : ∃ o, o = 1 - s := ⟨_, rfl⟩
                have hoi : (1 : Int) - (s : Int) = (o : Int) := by omega
                have ho2 : o < 2 := by omega
                have hos : o ≠ s := by omega
                have hs0 : 0 ≤ (s : Int) := by omega
                have hs3 : (s : Int) < 2 := by omega
                have HGO := Lib.hid (show Tab.Good 12 4 (m (1 - s)) from by have := (HTK'.out o ho2).good; rw [upd_ne _ _ hos, ho] at this; exact this)
                have HLO := Lib.hid (show upd m s l' o = m (1 - s) from by rw [upd_ne _ _ hos, ho])
                have HMO := Lib.hid (show m' o = m (1 - s) from by
                  rcases hk06 with h | h
                  · rw [HM'.out.1 h, upd_ne _ _ hos, ho]
                  · rw [HM'.out.2 (by omega), ho])
                have HFI0 := Lib.hid (show Fin w X q q' pa pb m' (upd m s l') E b18 b19 l 12 4 n u11 t fs w11 from ⟨HC11.out, HPB.out, HT11.out, HN11.out, HF11.out⟩)
                clear hTN hTL hTO HC11 HPB HF11 HT11 HN11 HM' HKE ho hos
                rcases hk06 with rfl | rfl
                · obtain rfl := hl0 rfl
                  have HLS := Lib.hid (show upd m s l' s = l' from upd_same _ _ _)
                  clear hl0 hl'
                  have l18 := HFI0.out.t18.ld
                  have l19 := HFI0.out.t19.ld
                  go_wp2_with fail
                  clear l18 l19
                  refine (HFI0.out.qt hs2 HLS.out _ rfl).mono ?_
                  rintro e w12 ⟨rfl, hf⟩
                  have HFI1 := Lib.hid hf
                  clear hf HFI0
                  have l18 := HFI1.out.t18.ld
                  have l19 := HFI1.out.t19.ld
                  go_wp2_with fail
                  clear l18 l19
                  refine (HFI1.out.tx HGN.out HTN.out).mono ?_
                  rintro e w13 ⟨rfl, hf⟩
                  have HFI2 := Lib.hid hf
                  clear hf HFI1
                  have l18 := HFI2.out.t18.ld
                  have l19 := HFI2.out.t19.ld
                  go_wp2_with fail
                  clear l18 l19
                  refine (HFI2.out.tx HGN.out HTN.out).mono ?_
                  rintro e w14 ⟨rfl, hf⟩
                  have HFI3 := Lib.hid hf
                  clear hf HFI2
                  have l18 := HFI3.out.t18.ld
                  have l19 := HFI3.out.t19.ld
                  go_wp2_with fail
                  clear l18 l19
                  refine (HFI3.out.tx HG.out HTL.out).mono ?_
                  rintro e w15 ⟨rfl, hf⟩
                  have HFI4 := Lib.hid hf
                  clear hf HFI3
                  have l18 := HFI4.out.t18.ld
                  have l19 := HFI4.out.t19.ld
                  go_wp2_with fail
                  clear l18 l19
                  refine (HFI4.out.tx HGN.out HTN.out).mono ?_
                  rintro e w16 ⟨rfl, hf⟩
                  have HFI5 := Lib.hid hf
                  clear hf HFI4
                  have l18 := HFI5.out.t18.ld
                  have l19 := HFI5.out.t19.ld
                  go_wp2_with fail
                  clear l18 l19
                  refine (HFI5.out.qt ho2 HLO.out _ rfl).mono ?_
                  rintro e w17 ⟨rfl, hf⟩
                  have HFI6 := Lib.hid hf
                  clear hf HFI5
                  have l18 := HFI6.out.t18.ld
                  have l19 := HFI6.out.t19.ld
                  go_wp2_with fail
                  clear l18 l19
                  refine (HFI6.out.tx HGO.out HTO.out).mono ?_
                  rintro e w18 ⟨rfl, hf⟩
                  have HFI7 := Lib.hid hf
                  clear hf HFI6
                  have l18 := HFI7.out.t18.ld
                  have l19 := HFI7.out.t19.ld
                  go_wp2_with fail
                  clear l18 l19
                  refine (HFI7.out.pt ho2 HMO.out _ rfl).mono ?_
                  rintro e w19 ⟨rfl, hf⟩
                  have HFI8 := Lib.hid hf
                  clear hf HFI7
                  have l18 := HFI8.out.t18.ld
                  have l19 := HFI8.out.t19.ld
                  go_wp2_with fail
                  clear l18 l19
                  refine (HFI8.out.tx HGO.out HTO.out).mono ?_
                  rintro e w20 ⟨rfl, hf⟩
                  have HFI9 := Lib.hid hf
                  clear hf HFI8
                  go_wp2_with fail
                  exact ⟨⟨c + 1, q', _, E, M', by omega, by go_num, rfl, HFI9.out.cp.sub fun k hk => by simp [hk], HCE.out, HTK'.out, HFI9.out.fa.back HFX.out⟩, by simp [intOf]; omega⟩
                · clear hl0
                  rcases hl' with rfl | rfl
                  · have HLS := Lib.hid (show upd m s l' s = l' from upd_same _ _ _)
                    have l18 := HFI0.out.t18.ld
                    have l19 := HFI0.out.t19.ld
                    go_wp2_with fail
                    clear l18 l19
                    refine (HFI0.out.qt hs2 HLS.out _ rfl).mono ?_
                    rintro e w12 ⟨rfl, hf⟩
                    have HFI1 := Lib.hid hf
                    clear hf HFI0
                    have l18 := HFI1.out.t18.ld
                    have l19 := HFI1.out.t19.ld
                    go_wp2_with fail
                    clear l18 l19
                    refine (HFI1.out.tx HG.out HTL.out).mono ?_
                    rintro e w13 ⟨rfl, hf⟩
                    have HFI2 := Lib.hid hf
                    clear hf HFI1
                    have l18 := HFI2.out.t18.ld
                    have l19 := HFI2.out.t19.ld
                    go_wp2_with fail
                    clear l18 l19
                    refine (HFI2.out.tx HG.out HTL.out).mono ?_
                    rintro e w14 ⟨rfl, hf⟩
                    have HFI3 := Lib.hid hf
                    clear hf HFI2
                    have l18 := HFI3.out.t18.ld
                    have l19 := HFI3.out.t19.ld
                    go_wp2_with fail
                    clear l18 l19
                    refine (HFI3.out.qt ho2 HLO.out _ rfl).mono ?_
                    rintro e w15 ⟨rfl, hf⟩
                    have HFI4 := Lib.hid hf
                    clear hf HFI3
                    have l18 := HFI4.out.t18.ld
                    have l19 := HFI4.out.t19.ld
                    go_wp2_with fail
                    clear l18 l19
                    refine (HFI4.out.tx HGO.out HTO.out).mono ?_
                    rintro e w16 ⟨rfl, hf⟩
                    have HFI5 := Lib.hid hf
                    clear hf HFI4
                    have l18 := HFI5.out.t18.ld
                    have l19 := HFI5.out.t19.ld
                    go_wp2_with fail
                    clear l18 l19
                    refine (HFI5.out.pt ho2 HMO.out _ rfl).mono ?_
                    rintro e w17 ⟨rfl, hf⟩
                    have HFI6 := Lib.hid hf
                    clear hf HFI5
                    have l18 := HFI6.out.t18.ld
                    have l19 := HFI6.out.t19.ld
                    go_wp2_with fail
                    clear l18 l19
                    refine (HFI6.out.tx HGO.out HTO.out).mono ?_
                    rintro e w18 ⟨rfl, hf⟩
                    have HFI7 := Lib.hid hf
                    clear hf HFI6
                    go_wp2_with fail
                    exact ⟨⟨c + 1, q', _, E, M', by omega, by go_num, rfl, HFI7.out.cp.sub fun k hk => by simp [hk], HCE.out, HTK'.out, HFI7.out.fa.back HFX.out⟩, by simp [intOf]; omega⟩
                  · have HLS := Lib.hid (show upd m s l' s = l' from upd_same _ _ _)
                    have l18 := HFI0.out.t18.ld
                    have l19 := HFI0.out.t19.ld
                    go_wp2_with fail
                    clear l18 l19
                    refine (HFI0.out.qt hs2 HLS.out _ rfl).mono ?_
                    rintro e w12 ⟨rfl, hf⟩
                    have HFI1 := Lib.hid hf
                    clear hf HFI0
                    have l18 := HFI1.out.t18.ld
                    have l19 := HFI1.out.t19.ld
                    go_wp2_with fail
                    clear l18 l19
                    refine (HFI1.out.tx HGN.out HTN.out).mono ?_
                    rintro e w13 ⟨rfl, hf⟩
                    have HFI2 := Lib.hid hf
                    clear hf HFI1
                    have l18 := HFI2.out.t18.ld
                    have l19 := HFI2.out.t19.ld
                    go_wp2_with fail
                    clear l18 l19
                    refine (HFI2.out.tx HG.out HTL.out).mono ?_
                    rintro e w14 ⟨rfl, hf⟩
                    have HFI3 := Lib.hid hf
                    clear hf HFI2
                    have l18 := HFI3.out.t18.ld
                    have l19 := HFI3.out.t19.ld
                    go_wp2_with fail
                    clear l18 l19
                    refine (HFI3.out.tx HGN.out HTN.out).mono ?_
                    rintro e w15 ⟨rfl, hf⟩
                    have HFI4 := Lib.hid hf
                    clear hf HFI3
                    have l18 := HFI4.out.t18.ld
                    have l19 := HFI4.out.t19.ld
                    go_wp2_with fail
                    clear l18 l19
                    refine (HFI4.out.qt ho2 HLO.out _ rfl).mono ?_
                    rintro e w16 ⟨rfl, hf⟩
                    have HFI5 := Lib.hid hf
                    clear hf HFI4
                    have l18 := HFI5.out.t18.ld
                    have l19 := HFI5.out.t19.ld
                    go_wp2_with fail
                    clear l18 l19
                    refine (HFI5.out.tx HGO.out HTO.out).mono ?_
                    rintro e w17 ⟨rfl, hf⟩
                    have HFI6 := Lib.hid hf
                    clear hf HFI5
                    have l18 := HFI6.out.t18.ld
                    have l19 := HFI6.out.t19.ld
                    go_wp2_with fail
                    clear l18 l19
                    refine (HFI6.out.pt ho2 HMO.out _ rfl).mono ?_
                    rintro e w18 ⟨rfl, hf⟩
                    have HFI7 := Lib.hid hf
                    clear hf HFI6
                    have l18 := HFI7.out.t18.ld
                    have l19 := HFI7.out.t19.ld
                    go_wp2_with fail
                    clear l18 l19
                    refine (HFI7.out.tx HGO.out HTO.out).mono ?_
                    rintro e w19 ⟨rfl, hf⟩
                    have HFI8 := Lib.hid hf
                    clear hf HFI7
                    go_wp2_with fail
                    exact ⟨⟨c + 1, q', _, E, M', by omega, by go_num, rfl, HFI8.out.cp.sub fun k hk => by simp [hk], HCE.out, HTK'.out, HFI8.out.fa.back HFX.out⟩, by simp [intOf]; omega⟩
              · have hE := mv_full (n := 12) (k := 4) (m := l) (b := (x : Int)) (by omega) (by omega) (by omega)
                obtain ⟨v1, v2, v3, v4⟩ := HMV.out
                rw [hE] at v4
                subst v4
                clear hE v1 v2 v3 HMV
                go_wp2_with fail
                refine (move_full HC7.out.pb hs2 (by rw [hms]; exact HG.out) hx12 (by rw [hms]; exact hm4)).mono ?_
                rintro e w8 ⟨rfl, hb⟩
                have hsm := same_below HC7.out hb
                have HC8 := Lib.hid (HC7.out.later hb)
                have HF8 := Lib.hid (HF7.out.keep fun k hk => hsm k (List.mem_cons_of_mem _ hk))
                have HT8 := Lib.hid (TAt.on HT7.out hb)
                have HN8 := Lib.hid (TAt.on HN7.out hb)
                clear hb hsm HC7 HF7 HT7 HN7
                go_wp2_with fail
                refine (crash_e HC8.out (s := 0) (by omega) (by rw [(HD7.out 0 (by omega)).ck.cache]; exact Nat.zero_le _) (by omega) HF8.out HFB.out _ rfl).mono ?_
                rintro e w9 ⟨rfl, hc, hsm⟩
                have HC9 := Lib.hid hc
                have HF9 := Lib.hid (HF8.out.keep hsm)
                have HT9 := Lib.hid (HT8.out.same (hsm b18 (by simp)))
                have HN9 := Lib.hid (HN8.out.same (hsm b19 (by simp)))
                clear hc hsm HC8 HF8 HT8 HN8
                go_wp2_with fail
                refine (crash_e HC9.out (s := 1) (by omega) (by rw [upd_ne _ _ (by omega), (HD7.out 1 (by omega)).ck.cache]; exact Nat.zero_le _) (by omega) HF9.out HFB.out _ rfl).mono ?_
                rintro e w10 ⟨rfl, hc, hsm⟩
                have hcd := hc.cong (m' := m) (D' := fun t => (D1 t).crashD fs) (fun _ _ => rfl) (fun t ht => by
                  rcases (show t = 0 ∨ t = 1 by omega) with rfl | rfl
                  · rw [upd_ne _ _ (by omega), upd_same]
                  · rw [upd_same, upd_ne _ _ (by omega)])
                have HC10 := Lib.hid hcd
                have HF10 := Lib.hid (HF9.out.keep hsm)
                have HT10 := Lib.hid (HT9.out.same (hsm b18 (by simp)))
                have HN10 := Lib.hid (HN9.out.same (hsm b19 (by simp)))
                clear hc hcd hsm HC9 HF9 HT9 HN9
                have HCF' := Lib.hid (show ∀ t, t < 2 → Cf ((D1 t).crashD fs) (M t) 0 from fun t ht => (HD7.out t ht).ck.crash0 fs)
                go_wp2_with fail
                refine (open_t HC10.out HCF'.out HTK.out).mono ?_
                rintro e w11 ⟨q', E, rfl, hce, hc, hpb, hsm⟩
                have HCE := Lib.hid hce
                have hf11 := HF10.out.keep hsm
                have HFI0 := Lib.hid (show Fin w X q q' pa pb m m E b18 b19 l N1 K1 n u11 t fs w11 from ⟨hc, hpb, HT10.out.same (hsm b18 (by simp)), HN10.out.same (hsm b19 (by simp)), hf11⟩)
                clear hce hc hpb hsm hf11 HC10 HF10 HT10 HN10 HCF' HD7
                obtain ⟨TL, hTL⟩ : ∃ T, T = txS l := ⟨_, rfl⟩
                obtain ⟨TO, hTO⟩ : ∃ T, T = txS (m (1 - s)) := ⟨_, rfl⟩
                have HTL := Lib.hid hTL
                have HTO := Lib.hid hTO
                obtain ⟨o, ho⟩ : ∃ o, o = 1 - s := ⟨_, rfl⟩
                have hoi : (1 : Int) - (s : Int) = (o : Int) := by omega
                have ho2 : o < 2 := by omega
                have hs0 : 0 ≤ (s : Int) := by omega
                have hs3 : (s : Int) < 2 := by omega
                have HGO := Lib.hid (show Tab.Good 12 4 (m (1 - s)) from (HTK.out (1 - s) (by omega)).good)
                have HLO := Lib.hid (show m o = m (1 - s) from by rw [ho])
                have HMO := HLO
                have HLS := Lib.hid hms
                have HTK' := HTK
                clear hTL hTO ho
                have l18 := HFI0.out.t18.ld
                have l19 := HFI0.out.t19.ld
                go_wp2_with fail
                clear l18 l19
                refine (HFI0.out.qt hs2 HLS.out _ rfl).mono ?_
                rintro e w12 ⟨rfl, hf⟩
                have HFI1 := Lib.hid hf
                clear hf HFI0
                have l18 := HFI1.out.t18.ld
                have l19 := HFI1.out.t19.ld
                go_wp2_with fail
                clear l18 l19
                refine (HFI1.out.tx HG.out HTL.out).mono ?_
                rintro e w13 ⟨rfl, hf⟩
                have HFI2 := Lib.hid hf
                clear hf HFI1
                have l18 := HFI2.out.t18.ld
                have l19 := HFI2.out.t19.ld
                go_wp2_with fail
                clear l18 l19
                refine (HFI2.out.tx HG.out HTL.out).mono ?_
                rintro e w14 ⟨rfl, hf⟩
                have HFI3 := Lib.hid hf
                clear hf HFI2
                have l18 := HFI3.out.t18.ld
                have l19 := HFI3.out.t19.ld
                go_wp2_with fail
                clear l18 l19
                refine (HFI3.out.qt ho2 HLO.out _ rfl).mono ?_
                rintro e w15 ⟨rfl, hf⟩
                have HFI4 := Lib.hid hf
                clear hf HFI3
                have l18 := HFI4.out.t18.ld
                have l19 := HFI4.out.t19.ld
                go_wp2_with fail
                clear l18 l19
                refine (HFI4.out.tx HGO.out HTO.out).mono ?_
                rintro e w16 ⟨rfl, hf⟩
                have HFI5 := Lib.hid hf
                clear hf HFI4
                have l18 := HFI5.out.t18.ld
                have l19 := HFI5.out.t19.ld
                go_wp2_with fail
                clear l18 l19
                refine (HFI5.out.pt ho2 HMO.out _ rfl).mono ?_
                rintro e w17 ⟨rfl, hf⟩
                have HFI6 := Lib.hid hf
                clear hf HFI5
                have l18 := HFI6.out.t18.ld
                have l19 := HFI6.out.t19.ld
                go_wp2_with fail
                clear l18 l19
                refine (HFI6.out.tx HGO.out HTO.out).mono ?_
                rintro e w18 ⟨rfl, hf⟩
                have HFI7 := Lib.hid hf
                clear hf HFI6
                go_wp2_with fail
                exact ⟨⟨c + 1, q', _, E, M, by omega, by go_num, rfl, HFI7.out.cp.sub fun k hk => by simp [hk], HCE.out, HTK'.out, HFI7.out.fa.back HFX.out⟩, by simp [intOf]; omega⟩
        · go_wp2_with fail
          go_ret
          exact ⟨rfl, hbw⟩

set_option maxRecDepth 100000 in
theorem contract (H : Type) (enc : TypeId × Value → H) (W : World) (base : Nat) (args : Array Value) (ds gs : List (DataW H)) (before : List MemPlace)
    (hval0 : ∀ (j : Nat) t v, Tryz.f4.params[j]? = some t → args[j]? = some v → Value.okWide Tryz.prog W .any base t v)
    (hW : DataW.Whole enc Tryz.prog Tryz.f4.params.toList Rows.remapTornSpec.vars false W args.toList ds gs before) :
    Calls Tryz.prog 4 args W fun e W' => ∃ v, e = .returned v ∧ Rows.remapTornSpec.post enc Tryz.prog Tryz.f4 false true false false W args v W' := by
  have hval : ∀ (j : Nat) t v, Tryz.f4.params[j]? = some t → args[j]? = some v → Value.okWide Tryz.prog W .any base t v := hval0
  have hW' := hW
  obtain ⟨p, q, hA0, hV, rfl, hfz, hnd⟩ := hW
  have hA : DataW.TrodAll enc Tryz.prog W 0 (fun _ => true) true Tryz.f4.params.toList args.toList ds p := hA0
  rw [Tryz.params4] at hA hval
  obtain ⟨v0, vs0, d0, ds0, p0, q0, hargs, rfl, rfl, h0, r0⟩ := trodAll_cons hA
  obtain ⟨v1, vs1, d1, ds1, p1, q1, rfl, rfl, rfl, h1, r1⟩ := trodAll_cons r0
  obtain ⟨v2, vs2, d2, ds2, p2, q2, rfl, rfl, rfl, h2, r2⟩ := trodAll_cons r1
  obtain ⟨rfl, rfl, rfl⟩ := trodAll_nil r2
  obtain rfl : args = #[v0, v1, v2] := by cases args; simp_all
  obtain ⟨rfl, rfl⟩ := trodVars_none hV
  have k0 := h0
  have lt0 : ∀ x ∈ p0, x.block < W.heap.size := by obtain ⟨m, hm⟩ := k0; exact DataW.trod_lt m _ _ _ hm
  obtain ⟨a0', l0', c0', rfl⟩ := okWide_slice Tryz.underlying52 (hval 0 52 v0 rfl rfl)
  obtain ⟨a0, a0l, a0c, a0z, he0, w0, w0l, w0m, w0w⟩ := open_ints_cell (c := .slice a0' l0' c0') Tryz.underlying52 Tryz.underlying5 (by kernel_rfl) (by obtain ⟨m, hm⟩ := h0; exact ⟨m, _, hm⟩)
  simp only [Value.slice.injEq] at he0
  obtain ⟨rfl, rfl, rfl⟩ := he0
  have k1 := h1
  have lt1 : ∀ x ∈ p1, x.block < W.heap.size := by obtain ⟨m, hm⟩ := k1; exact DataW.trod_lt m _ _ _ hm
  obtain ⟨a1', l1', c1', rfl⟩ := okWide_slice Tryz.underlying52 (hval 1 52 v1 rfl rfl)
  obtain ⟨a1, a1l, a1c, a1z, he1, w1, w1l, w1m, w1w⟩ := open_ints_cell (c := .slice a1' l1' c1') Tryz.underlying52 Tryz.underlying5 (by kernel_rfl) (by obtain ⟨m, hm⟩ := h1; exact ⟨m, _, hm⟩)
  simp only [Value.slice.injEq] at he1
  obtain ⟨rfl, rfl, rfl⟩ := he1
  have k2 := h2
  have lt2 : ∀ x ∈ p2, x.block < W.heap.size := by obtain ⟨m, hm⟩ := k2; exact DataW.trod_lt m _ _ _ hm
  obtain ⟨a2', l2', c2', rfl⟩ := okWide_slice Tryz.underlying52 (hval 2 52 v2 rfl rfl)
  obtain ⟨a2, a2l, a2c, a2z, he2, w2, w2l, w2m, w2w⟩ := open_ints_cell (c := .slice a2' l2' c2') Tryz.underlying52 Tryz.underlying5 (by kernel_rfl) (by obtain ⟨m, hm⟩ := h2; exact ⟨m, _, hm⟩)
  simp only [Value.slice.injEq] at he2
  obtain ⟨rfl, rfl, rfl⟩ := he2
  clear hA0 hval0
  refine (walk a0' l0' c0' a0z a1' l1' c1' a1z a2' l2' c2' a2z W w0 w0l w0m w0w w1 w1l w1m w1w w2 w2l w2m w2w).mono fun e W' ⟨he, bel⟩ => ?_
  subst he
  exact ⟨_, rfl, _, _, _, [], _, [], hW', trodAll_mk1 (shut_bool Tryz.underlying4 _), (trodAll_cons_mk (Below.trod laidOut (by kernel_rfl) (of_decide_eq_true (by kernel_rfl)) k0 bel lt0) (trodAll_cons_mk (Below.trod laidOut (by kernel_rfl) (of_decide_eq_true (by kernel_rfl)) k1 bel lt1) (trodAll_cons_mk (Below.trod laidOut (by kernel_rfl) (of_decide_eq_true (by kernel_rfl)) k2 bel lt2) trodAll_mk0))), rfl, bel.frame _, fun h => by cases h⟩

noncomputable def laidWorld (os : Os) : World :=
  { World.holding Tryz.prog os ⟨#[], #[], []⟩ with heap := (((((World.holding Tryz.prog os ⟨#[], #[], []⟩).heap).modify 2 fun | .cells _ t frozen => .cells (#[.int .u8 128, .int .u8 191, .int .u8 160, .int .u8 191, .int .u8 128, .int .u8 159, .int .u8 144, .int .u8 191, .int .u8 128, .int .u8 143, .int .u8 0, .int .u8 0, .int .u8 0, .int .u8 0, .int .u8 0, .int .u8 0, .int .u8 0, .int .u8 0, .int .u8 0, .int .u8 0, .int .u8 0, .int .u8 0, .int .u8 0, .int .u8 0, .int .u8 0, .int .u8 0, .int .u8 0, .int .u8 0, .int .u8 0, .int .u8 0, .int .u8 0, .int .u8 0]) t frozen | o => o)).modify 1 fun | .cells _ t frozen => .cells ((Go.Pinned.utf8FirstZ.map fun z : Nat => Value.int .u8 (z : Int)).toArray) t frozen | o => o) }
theorem laid_met (os : Os) : laidMet Tryz.prog Rows.remapTornRow.laid ((laidWorld os).forCall (fun _ _ => 0) ⟨#[], #[.slice none 0 0, .slice none 0 0, .slice none 0 0], []⟩).memory :=
  laidMet_of_run' 8 (by kernel_rfl) (by kernel_rfl)
theorem reads (os : Os) {H : Type} (enc : TypeId × Value → H) : ∃ places, DataW.whole enc Tryz.prog ((laidWorld os).forCall (fun _ _ => 0) ⟨#[], #[.slice none 0 0, .slice none 0 0, .slice none 0 0], []⟩).memory Tryz.f4.params.toList Rows.remapTornSpec.vars false (#[.slice none 0 0, .slice none 0 0, .slice none 0 0] : Array Value).toList 8 = some ([.nil, .nil, .nil], [], places) :=
  ⟨[], by kernel_rfl⟩

set_option maxRecDepth 100000 in
theorem lifted (os : Os) (started : os.Started) (H : Type) (enc : TypeId × Value → H) (F : Stop.Interp) :
    ReturnsInHanded {} Tryz.checked os 4 .any ((OpenSpec.ofChange Rows.remapTornSpec).preRow enc Tryz.prog Tryz.f4 Rows.remapTornRow.domain false Rows.remapTornRow.laid) (((OpenSpec.ofChange Rows.remapTornSpec).at F).post enc Tryz.prog Tryz.f4 false true false false) := by
  obtain ⟨places, hx⟩ := reads os enc
  refine returnsInHanded_of_row (C := Tryz.checked) (s := OpenSpec.ofChange Rows.remapTornSpec) own started (by kernel_rfl) Tryz.func4
    (witness_row_at (enc := enc) (C := Tryz.checked) false (laidWorld os) #[.slice none 0 0, .slice none 0 0, .slice none 0 0] rfl (by kernel_rfl) (by kernel_rfl) (by kernel_rfl)
      (OpenSpec.preRow_of_cond 8 hx (by kernel_rfl) (fun k hk => by cases hk) (by kernel_rfl) (laid_met os))) ?_
  intro W base args ds gs before hval hW _ _ _ hL _ _
  exact contract H enc W base args ds gs before hval hW

theorem said : Rows.RemapTornSaid :=
  OpenClaim.holds_of_cond 4 Tryz.f4 rfl rfl rfl rfl rfl rfl rfl ⟨rfl, rfl, rfl, rfl, rfl⟩ rfl rfl rfl rfl rfl (by kernel_rfl) Tryz.func4 (by kernel_rfl)
    (of_decide_eq_true (by kernel_rfl)) (by unfold Func.isWrapper; first | (rw [if_pos (by decide +kernel)]; kernel_rfl) | (rw [if_neg (by decide +kernel)]; exact ⟨rfl, rfl⟩))
    (fun os started H enc _ F => by rw [OpenClaim.pre_eq_preRow]; exact lifted os started H enc F)

theorem plain (f : FuncId) (fn : Func) (hf : Tryz.pinned.checked.prog.funcNamed "treenail/treenaillaw07.RemapTorn" = some f) (hfn : Tryz.pinned.checked.prog.funcs[f]? = some fn) :
    false = Tryz.pinned.checked.prog.looks [] ∧ ∀ (j : Nat) t, fn.params[j]? = some t → Tryz.pinned.checked.prog.wantsStandIn t = false := by
  obtain rfl : f = 4 := Option.some.inj ((show Tryz.prog.funcNamed "treenail/treenaillaw07.RemapTorn" = some 4 by kernel_rfl).symm.trans hf) |>.symm
  obtain rfl : fn = Tryz.f4 := (Option.some.inj (Tryz.func4.symm.trans hfn)).symm
  refine ⟨by kernel_rfl, fun j t ht => ?_⟩
  rw [Tryz.params4] at ht
  rcases j with _ | _ | _ | j
  · obtain rfl : t = 52 := by simpa using ht.symm
    exact (show Tryz.prog.wantsStandIn 52 = false by kernel_rfl)
  · obtain rfl : t = 52 := by simpa using ht.symm
    exact (show Tryz.prog.wantsStandIn 52 = false by kernel_rfl)
  · obtain rfl : t = 52 := by simpa using ht.symm
    exact (show Tryz.prog.wantsStandIn 52 = false by kernel_rfl)
  · simp at ht

/-- THE STATEMENT -/
theorem proved : Rows.RemapTornCardSaid :=
  Claim7.holds_tied_plain_at .later [] _ _ _ _ said (fun _ h => by cases h) (by kernel_rfl) (fun _ h => by cases h) remapTorn_row_tie rfl ⟨rfl, rfl⟩ (by kernel_rfl) rfl plain (by kernel_rfl)
#print axioms proved
end Go.Proofs.YtpdickpipdaphaaGreatDoor.remapTorn
