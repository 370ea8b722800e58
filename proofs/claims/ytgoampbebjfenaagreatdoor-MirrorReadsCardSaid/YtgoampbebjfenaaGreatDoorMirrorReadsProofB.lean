/-
  The law MirrorReads holds: of blocks written to both sides, of each of which one copy at most is damaged then, in whatever way, each reads what was written. Conditions: none but the row's own.
-/
import Derived.Test.YtgoampbebjfenaaGreatDoorRows
import Derived.Test.YtgoampbebjfenaaGreatDoorK13
import Derived.Test.YtgoampbebjfenaaGreatDoorCards
import Derived.Test.YtgoampbebjfenaaGreatDoorTie
import Derived.WalkKit
import Derived.ProofKit
import Derived.OpenShut
import Derived.ShutString
import Derived.ChangeOld
import Derived.Below
import Derived.Carry
import Derived.Deep.DeepHandedRow

import Derived.Lib.LaidTab
namespace Go.Proofs.YtgoampbebjfenaaGreatDoor.mirrorReads
open Go.ChangeShapes Go.WideShapes Go.ChangeAt Go.RowKit
open Go.Proofs.YtgoampbebjfenaaGreatDoor
open Go.ChangeMaps (open_string shut_string)
set_option linter.unusedVariables false

theorem own : ownKnob Tryz.prog.godebug = none := by kernel_rfl
theorem laidOut : laidOutB Tryz.prog = true := by kernel_rfl

/-- the elements of argument 1 -/
def AR1 (w : World) (a : Option Addr) (len : Nat) : Prop := 0 < len → ∃ b off, a = some ⟨b, off, none⟩ ∧ ∀ i, i < len → ∃ (x0 : Int) (x1 : Int) (x2 : Int) (x3 : Int) (x4 : Int), w.cell? ⟨b, off + (i * 5 + 0), none⟩ = some (.int .i64 x0) ∧ (Lit.int .i64 x0).wf = true ∧ w.cell? ⟨b, off + (i * 5 + 1), none⟩ = some (.int .i64 x1) ∧ (Lit.int .i64 x1).wf = true ∧ w.cell? ⟨b, off + (i * 5 + 2), none⟩ = some (.int .i64 x2) ∧ (Lit.int .i64 x2).wf = true ∧ w.cell? ⟨b, off + (i * 5 + 3), none⟩ = some (.int .i64 x3) ∧ (Lit.int .i64 x3).wf = true ∧ w.cell? ⟨b, off + (i * 5 + 4), none⟩ = some (.int .u8 x4) ∧ (Lit.int .u8 x4).wf = true
theorem open_AR1 {H : Type} {enc : TypeId × Value → H} {w : World} {held : Bool} {c : Value} (h : ∃ m y, DataW.trod enc Tryz.prog w 0 (fun _ => true) held m 23 [c] = some y) :
    ∃ a len cap, c = .slice a len cap ∧ AR1 w a len ∧ len ≤ cap ∧ cap ≤ maxLen := by
  obtain ⟨a, len, cap, hc, hl, hm, hx⟩ := open_structs Tryz.underlying23 Tryz.underlying45 (by kernel_rfl) (by kernel_rfl) (by decide) h
  refine ⟨a, len, cap, hc, fun hpos => ?_, hl, hm⟩
  obtain ⟨b, off, ha, hf⟩ := hx hpos
  refine ⟨b, off, ha, fun i hi => ?_⟩
  obtain ⟨v0, hc0, ht0⟩ := hf i hi 0 _ rfl
  obtain ⟨x0, rfl, hw0⟩ := open_int_cell Tryz.underlying3 ht0
  obtain ⟨v1, hc1, ht1⟩ := hf i hi 1 _ rfl
  obtain ⟨x1, rfl, hw1⟩ := open_int_cell Tryz.underlying3 ht1
  obtain ⟨v2, hc2, ht2⟩ := hf i hi 2 _ rfl
  obtain ⟨x2, rfl, hw2⟩ := open_int_cell Tryz.underlying3 ht2
  obtain ⟨v3, hc3, ht3⟩ := hf i hi 3 _ rfl
  obtain ⟨x3, rfl, hw3⟩ := open_int_cell Tryz.underlying3 ht3
  obtain ⟨v4, hc4, ht4⟩ := hf i hi 4 _ rfl
  obtain ⟨x4, rfl, hw4⟩ := open_int_cell Tryz.underlying5 ht4
  exact ⟨x0, x1, x2, x3, x4, hc0, hw0, hc1, hw1, hc2, hw2, hc3, hw3, hc4, hw4⟩

open Go.Proofs.YtgoampbebjfenaaGreatDoor.Mir Go.Proofs.YtgoampbebjfenaaGreatDoor.Rem Go.Proofs.YtgoampbebjfenaaGreatDoor.Dev
/-- the list's texts, cut short; none behind its end -/
noncomputable def txOf (w : World) (a : Option Addr) (len : Nat) (i : Nat) : ByteArray :=
  if i < len then (match a with | some p => (match w.cell? ⟨p.block, p.off + i, none⟩ with | some (.string s) => s | _ => ⟨#[]⟩) | none => ⟨#[]⟩) else ⟨#[]⟩
noncomputable def cutOf (w : World) (a : Option Addr) (len : Nat) (i : Nat) : ByteArray := (txOf w a len i).extract 0 (min (txOf w a len i).size 90)
theorem cutOf_size (w : World) (a : Option Addr) (len i : Nat) : (cutOf w a len i).size ≤ 90 := by
  unfold cutOf; rw [ByteArray.size_extract]; omega
/-- all that stands between the rounds of the writing -/
def RW (w : World) (f : Nat → ByteArray) (ob nb pt tt u mm tb bb q pa pb n b cc : Nat) (S : Nat → Sd) (wr : World) : Prop :=
  Sum.IsTab wr tt ∧ Has wr u 25 [.pointer (some ⟨pa, 0, none⟩), .pointer (some ⟨pb, 0, none⟩)] ∧ Has wr pt 36 (ptrsL f n b) ∧ Has wr nb 37 (nowL f n b) ∧ Has wr ob 37 (oldL f n b) ∧ Pl S ∧
  (∀ j, j < 14 → 1 ≤ kOf n b j → ∀ s, s < 2 → cont S noG s j = some (imgK f (kOf n b j) j)) ∧ MG w [ob, nb, pt, tt, u] mm tb bb q (pdOf pa pb) S noG cc 0 wr
theorem RW.later {w wr w' : World} {f : Nat → ByteArray} {ob nb pt tt u mm tb bb q pa pb n b cc : Nat} {S : Nat → Sd} (h : RW w f ob nb pt tt u mm tb bb q pa pb n b cc S wr) (hb : Below wr.heap.size wr w') : RW w f ob nb pt tt u mm tb bb q pa pb n b cc S w' := by
  obtain ⟨h1, h2, h3, h4, h5, h6, h7, h8⟩ := h
  exact ⟨h1.below hb (Nat.le_refl _), h2.below hb h2.lt, h3.below hb h3.lt, h4.below hb h4.lt, h5.below hb h5.lt, h6, h7, h8.later hb⟩
theorem RW.turn {w wr : World} {f : Nat → ByteArray} {ob nb pt tt u mm tb bb q pa pb n cc : Nat} {S : Nat → Sd} (h : RW w f ob nb pt tt u mm tb bb q pa pb n 14 cc S wr) : RW w f ob nb pt tt u mm tb bb q pa pb (n + 1) 0 cc S wr := by
  obtain ⟨h1, h2, h3, h4, h5, h6, h7, h8⟩ := h
  have e1 : ptrsL f n 14 = ptrsL f (n + 1) 0 := by
    unfold ptrsL
    rw [List.flatMap_def, List.flatMap_def]
    exact congrArg List.flatten (List.map_congr_left fun j hj => by rw [kOf_turn (by simpa using hj)])
  have e2 : nowL f n 14 = nowL f (n + 1) 0 := List.map_congr_left fun j hj => by rw [kOf_turn (by simpa using hj)]
  have e3 : oldL f n 14 = oldL f (n + 1) 0 := List.map_congr_left fun j hj => by rw [kOf_turn (by simpa using hj)]
  exact ⟨h1, h2, by rw [← e1]; exact h3, by rw [← e2]; exact h4, by rw [← e3]; exact h5, h6, fun j hj hk s hs => by rw [← kOf_turn hj] at hk ⊢; exact h7 j hj hk s hs, h8⟩
theorem ptrsL_len (f : Nat → ByteArray) (n b : Nat) : (ptrsL f n b).length = 42 := tri_len (fun j => ptrK_len _ _ _) 14

/-! ### STEP 1: THE WALK -/
set_option maxHeartbeats 8000000 in
set_option maxRecDepth 100000 in
theorem walk (a0 : Option Addr) (a0l a0c : Nat) (a1 : Option Addr) (a1l a1c : Nat) (w : World) (w0 : TextsAt w a0 a0l) (w0l : a0l ≤ a0c) (w0m : a0c ≤ maxLen) (w1 : AR1 w a1 a1l) (w1l : a1l ≤ a1c) (w1m : a1c ≤ maxLen) :
    Calls Tryz.prog 3 #[.slice a0 a0l a0c, .slice a1 a1l a1c] w fun e w' => e = .returned (.bool true) ∧ Below w.heap.size w w' := by
  have W0 := Lib.hid w0
  have W1 := Lib.hid w1
  unfold maxLen at w1m
  clear w0 w1
  go_enter Tryz.func3, Tryz.ntmps3
  go_wp2_with fail
  refine (fresh_any w).mono ?_
  rintro e w1 ⟨pa, pb, mm, tb, bb, q, S, rfl, hm, h0, h1⟩
  have HPL := Lib.hid (Pl.new h0 h1)
  have HD := Lib.hid (Has.new w1 [.pointer (some ⟨pa, 0, none⟩), .pointer (some ⟨pb, 0, none⟩)] 25)
  have HM := Lib.hid (hm.new (.cells #[.pointer (some ⟨pa, 0, none⟩), .pointer (some ⟨pb, 0, none⟩)] 25))
  clear hm h0 h1
  obtain ⟨u, hu⟩ : ∃ u, u = w1.heap.size := ⟨_, rfl⟩
  rw [← hu] at HD HM
  go_wp2_with fail
  rw [← hu]
  refine (wakes_any _).mono ?_
  rintro e w2 ⟨rfl, hb⟩
  have HM2 := Lib.hid (HM.out.later hb)
  have HD2 := Lib.hid (HD.out.below hb HD.out.lt)
  clear hb HM HD hu
  go_wp2_with fail
  refine (Sum.make_any _).mono ?_
  rintro e w3 ⟨tt, rfl, htb, htab, hb⟩
  have HM3 := Lib.hid (HM2.out.fresh hb htb (isTab_lt htab))
  have HD3 := Lib.hid (HD2.out.below hb HD2.out.lt)
  have HT3 := Lib.hid htab
  clear htb htab hb HM2 HD2
  go_wp2_with fail
  obtain ⟨f, hf⟩ : ∃ f, f = cutOf w a0 a0l := ⟨_, rfl⟩
  have HFS := Lib.hid (show ∀ j, (f j).size ≤ 90 from fun j => by rw [hf]; exact cutOf_size _ _ _ _)
  have HFF := Lib.hid hf
  have e42 : Obj.cells #[.int .i64 0, .int .u64 0, .int .u32 0, .int .i64 0, .int .u64 0, .int .u32 0, .int .i64 0, .int .u64 0, .int .u32 0, .int .i64 0, .int .u64 0, .int .u32 0, .int .i64 0, .int .u64 0, .int .u32 0, .int .i64 0, .int .u64 0, .int .u32 0, .int .i64 0, .int .u64 0, .int .u32 0, .int .i64 0, .int .u64 0, .int .u32 0, .int .i64 0, .int .u64 0, .int .u32 0, .int .i64 0, .int .u64 0, .int .u32 0, .int .i64 0, .int .u64 0, .int .u32 0, .int .i64 0, .int .u64 0, .int .u32 0, .int .i64 0, .int .u64 0, .int .u32 0, .int .i64 0, .int .u64 0, .int .u32 0] 36 = (.cells (ptrsL f 0 0).toArray 36) := rfl
  have e14 : Obj.cells #[.string ⟨#[]⟩, .string ⟨#[]⟩, .string ⟨#[]⟩, .string ⟨#[]⟩, .string ⟨#[]⟩, .string ⟨#[]⟩, .string ⟨#[]⟩, .string ⟨#[]⟩, .string ⟨#[]⟩, .string ⟨#[]⟩, .string ⟨#[]⟩, .string ⟨#[]⟩, .string ⟨#[]⟩, .string ⟨#[]⟩] 37 = (.cells (nowL f 0 0).toArray 37) := rfl
  rw [e42, e14]
  have hp := Has.new w3 (ptrsL f 0 0) 36
  have hn := Has.new (w3.alloc (.cells (ptrsL f 0 0).toArray 36)) (nowL f 0 0) 37
  have ho := Has.new ((w3.alloc (.cells (ptrsL f 0 0).toArray 36)).alloc (.cells (nowL f 0 0).toArray 37)) (nowL f 0 0) 37
  have hm := ((HM3.out.new (.cells (ptrsL f 0 0).toArray 36)).new (.cells (nowL f 0 0).toArray 37)).new (.cells (nowL f 0 0).toArray 37)
  have hd := ((HD3.out.alloc (.cells (ptrsL f 0 0).toArray 36)).alloc (.cells (nowL f 0 0).toArray 37)).alloc (.cells (nowL f 0 0).toArray 37)
  have ht := ((HT3.out.below (Tab.b_new w3 (.cells (ptrsL f 0 0).toArray 36)) (Nat.le_refl _)).below (Tab.b_new _ (.cells (nowL f 0 0).toArray 37)) (Nat.le_refl _)).below (Tab.b_new _ (.cells (nowL f 0 0).toArray 37)) (Nat.le_refl _)
  simp only [World.size_alloc] at hn ho hm
  have htl := isTab_lt HT3.out
  have hul := HD3.out.lt
  obtain ⟨pt, hpt⟩ : ∃ p, p = w3.heap.size := ⟨_, rfl⟩
  rw [← hpt] at htl hul
  have HTL := Lib.hid htl
  have HUL := Lib.hid hul
  clear htl hul
  rw [← hpt] at hp hn ho hm
  have HR := Lib.hid (show RW w f (pt + 1 + 1) (pt + 1) pt tt u mm tb bb q pa pb 0 0 4 S (((w3.alloc (.cells (ptrsL f 0 0).toArray 36)).alloc (.cells (nowL f 0 0).toArray 37)).alloc (.cells (nowL f 0 0).toArray 37)) from ⟨ht, hd, (hp.alloc _).alloc _, hn.alloc _, ho, HPL.out, fun j hj h1 => by unfold kOf at h1; simp at h1, hm⟩)
  rw [← hpt]
  clear e42 e14 hp hn ho hm hd ht hpt hf HM3 HD3 HT3 HPL
  go_loopw [41] (fun i wr => ∃ (n cc : Nat) (S : Nat → Sd), n ≤ 2 ∧ i = .int .i64 n ∧ cc ≤ 4 + 112 * n ∧ RW w f (pt + 1 + 1) (pt + 1) pt tt u mm tb bb q pa pb n 0 cc S wr) (fun i _ => 2 - (intOf i).toNat)
  case atStart => exact ⟨0, 4, S, by omega, rfl, by omega, HR.out⟩
  case round =>
    obtain ⟨n, cc, S, hn, rfl, hcc, hrw⟩ := hrel
    clear HR
    have HR := Lib.hid hrw
    clear hrw
    by_cases hlt : n < 2
    · have hlti : (n : Int) < 2 := by omega
      go_wp2_with fail
      go_loopw [44] (fun i wr => ∃ (b cc2 : Nat) (S : Nat → Sd), b ≤ 14 ∧ i = .int .i64 b ∧ cc2 ≤ cc + 8 * b ∧ RW w f (pt + 1 + 1) (pt + 1) pt tt u mm tb bb q pa pb n b cc2 S wr) (fun i _ => 14 - (intOf i).toNat)
      case atStart => exact ⟨0, cc, S, by omega, rfl, by omega, HR.out⟩
      case round =>
        obtain ⟨b, cc2, S, hb, rfl, hcc2, hrw⟩ := hrel
        clear HR
        have HR := Lib.hid hrw
        clear hrw
        by_cases hbt : b < 14
        · have hbti : (b : Int) < 14 := by omega
          go_upto_if 50 with fail
          go_cut [14] (fun s wx => s = .string (f b) ∧ RW w f (pt + 1 + 1) (pt + 1) pt tt u mm tb bb q pa pb n b cc2 S wx)
          case first =>
            by_cases hbl : b < a0l
            · obtain ⟨zb, zo, he, hcell⟩ := W0.out (by omega)
              obtain ⟨s, hs, _⟩ := hcell b hbl
              subst he
              have hbw := HR.out.2.2.2.2.2.2.2.below
              have hz : wr.cell? ⟨zb, zo + b, none⟩ = some (.string s) := by
                rw [← hs]
                unfold World.cell?
                rw [hbw.block zb (by
                  rcases Nat.lt_or_ge zb w.heap.size with h | h
                  · exact h
                  · unfold World.cell? at hs; rw [Array.getElem?_eq_none h] at hs; cases hs)]
              have hfb : f b = s.extract 0 (min s.size 90) := by
                rw [HFF.out]
                have : txOf w (some ⟨zb, zo, none⟩) a0l b = s := by unfold txOf; rw [if_pos hbl]; simp only [hs]
                unfold cutOf; rw [this]
              obtain ⟨m, hm⟩ : ∃ m, m = min s.size 90 := ⟨_, rfl⟩
              have hmin : ∀ W ts, (Builtin.min_ ts 3 #[.int .i64 (s.size : Nat), .int .i64 90]).run Tryz.prog W = .ok (.int .i64 (m : Int)) W := by
                intro W ts; rw [hm]; exact run_minC _ _ _ _ s.size 90
              have hm1 : m ≤ s.size := by omega
              rw [← hm] at hfb
              have HFB := Lib.hid hfb
              clear hm hfb hs hcell hbw
              go_upto_region 15 with fail
              go_quiet (fail)
              go_wp2_with fail
              go_meet
              exact ⟨by rw [HFB.out], HR.out.later (below_drewN (Below.refl _ _) _)⟩
            · have hbl' : ¬ (b : Int) < (a0l : Int) := by omega
              have hfb : f b = ⟨#[]⟩ := by
                rw [HFF.out]; unfold cutOf txOf; rw [if_neg hbl]; rfl
              have HFB := Lib.hid hfb
              clear hfb
              go_wp2_with fail
              go_meet
              exact ⟨by rw [HFB.out], HR.out⟩
          case rest =>
            obtain ⟨rfl, hrw⟩ := hcut
            clear HR
            have HR := Lib.hid hrw
            clear hrw
            have hold := HR.out.2.2.2.1.cell b
            rw [now_get f hbt] at hold
            have hfz := HR.out.2.2.2.2.1.frozen b
            have hoc := HR.out.2.2.2.2.1.cell b
            rw [old_get f hbt] at hoc
            rw [(kOf_at n b).1] at hold hoc
            go_wp2_with fail
            obtain ⟨r1, r2, r3, r4, r5, r6, r7, r8⟩ := HR.out
            have q5 := r5.set b (.string (imgK f n b))
            rw [old_next f hbt] at q5
            have q4 := r4.setOther (a := ⟨pt + 1 + 1, b, none⟩) (fun e => by simp at e) (.string (imgK f n b))
            have q3 := r3.setOther (a := ⟨pt + 1 + 1, b, none⟩) (fun e => by simp at e; omega) (.string (imgK f n b))
            have q2 := r2.setOther (a := ⟨pt + 1 + 1, b, none⟩) (fun e => by have := HUL.out; simp at e; omega) (.string (imgK f n b))
            have q1 : Sum.IsTab (wc.setCell ⟨pt + 1 + 1, b, none⟩ (.string (imgK f n b))) tt := Mir.tab_same r1 (Below.heap_setCell _ _ _ tt (by have := HTL.out; show tt ≠ pt + 1 + 1; omega))
            have q8 := r8.chg ((Chg.refl _ wc).setCell (p := ⟨pt + 1 + 1, b, none⟩) (fun _ => by simp) (.string (imgK f n b)))
            obtain ⟨W5, hW5⟩ : ∃ W5, W5 = wc.setCell ⟨pt + 1 + 1, b, none⟩ (.string (imgK f n b)) := ⟨_, rfl⟩
            rw [← hW5] at q1 q2 q3 q4 q5 q8 ⊢
            have hok : Okay (b : Nat) ((n : Int) + 1) (f b) := ⟨by omega, by omega, by omega, by omega, by have := HFS.out b; omega⟩
            have HOK := Lib.hid hok
            have HPL := Lib.hid r6
            have HC := Lib.hid r7
            refine (sealed_any tt (b : Nat) ((n : Int) + 1) (f b) W5 q1 hok).mono ?_
            rintro e w6 ⟨rfl, hb6⟩
            have H1 := Lib.hid (q1.below hb6 (Nat.le_refl _))
            have H2 := Lib.hid (q2.below hb6 q2.lt)
            have H3 := Lib.hid (q3.below hb6 q3.lt)
            have H4 := Lib.hid (q4.below hb6 q4.lt)
            have H5 := Lib.hid (q5.below hb6 q5.lt)
            have H8 := Lib.hid (q8.later hb6)
            obtain ⟨T, hT⟩ : ∃ T, T = imT (b : Nat) ((n : Int) + 1) (f b) := ⟨_, rfl⟩
            obtain ⟨K, hK⟩ : ∃ K, K = ckT (b : Nat) ((n : Int) + 1) (f b) := ⟨_, rfl⟩
            rw [← hT, ← hK]
            have HTT := Lib.hid hT
            have HKK := Lib.hid hK
            have z4 := H4.out.frozen b
            have z30 := H3.out.frozen (b * 3)
            have z31 := H3.out.frozen (b * 3 + 1)
            have z32 := H3.out.frozen (b * 3 + 2)
            obtain ⟨p0, hp0⟩ : ∃ v, w6.cell? ⟨pt, b * 3, none⟩ = some v := by rw [H3.out.cell]; exact ⟨_, List.getElem?_eq_getElem (by rw [ptrsL_len]; omega)⟩
            obtain ⟨p1, hp1⟩ : ∃ v, w6.cell? ⟨pt, b * 3 + 1, none⟩ = some v := by rw [H3.out.cell]; exact ⟨_, List.getElem?_eq_getElem (by rw [ptrsL_len]; omega)⟩
            obtain ⟨p2, hp2⟩ : ∃ v, w6.cell? ⟨pt, b * 3 + 2, none⟩ = some v := by rw [H3.out.cell]; exact ⟨_, List.getElem?_eq_getElem (by rw [ptrsL_len]; omega)⟩
            have c4 := H4.out.cell b
            rw [now_get f hbt] at c4
            clear hW5 hb6 hok hT hK q1 q2 q3 q4 q5 q8 r1 r2 r3 r4 r5 r6 r7 r8 hold hfz hoc HR
            go_wp2_with fail
            obtain ⟨W7, hW7⟩ : ∃ W7, W7 = ((((w6.setCell ⟨pt + 1, b, none⟩ (.string T)).setCell ⟨pt, b * 3, none⟩ (.int .i64 (b : Nat))).setCell ⟨pt, b * 3 + 1, none⟩ (.int .u64 ((n : Int) + 1))).setCell ⟨pt, b * 3 + 2, none⟩ (.int .u32 K)) := ⟨_, rfl⟩
            have k4 : Has W7 (pt + 1) 37 (nowL f n (b + 1)) := by
              rw [hW7, ← now_next f hbt, show ((n + 1 : Nat) : Int) = (n : Int) + 1 from rfl, ← HTT.out]
              exact ((((H4.out.set b (.string T)).setOther (a := ⟨pt, b * 3, none⟩) (fun e => by simp at e) _).setOther (a := ⟨pt, b * 3 + 1, none⟩) (fun e => by simp at e) _).setOther (a := ⟨pt, b * 3 + 2, none⟩) (fun e => by simp at e) _)
            have k3 : Has W7 pt 36 (ptrsL f n (b + 1)) := by
              rw [hW7, ← ptrs_next f hbt, show ((n + 1 : Nat) : Int) = (n : Int) + 1 from rfl, ← HKK.out, Nat.mul_comm 3 b]
              exact (((H3.out.setOther (a := ⟨pt + 1, b, none⟩) (fun e => by simp at e) _).set (b * 3) (.int .i64 (b : Nat))).set (b * 3 + 1) (.int .u64 ((n : Int) + 1))).set (b * 3 + 2) (.int .u32 K)
            have k5 : Has W7 (pt + 1 + 1) 37 (oldL f n (b + 1)) := by
              rw [hW7]; exact ((((H5.out.setOther (a := ⟨pt + 1, b, none⟩) (fun e => by simp at e) _).setOther (a := ⟨pt, b * 3, none⟩) (fun e => by simp at e; omega) _).setOther (a := ⟨pt, b * 3 + 1, none⟩) (fun e => by simp at e; omega) _).setOther (a := ⟨pt, b * 3 + 2, none⟩) (fun e => by simp at e; omega) _)
            have k2 : Has W7 u 25 [.pointer (some ⟨pa, 0, none⟩), .pointer (some ⟨pb, 0, none⟩)] := by
              have := HUL.out
              rw [hW7]; exact ((((H2.out.setOther (a := ⟨pt + 1, b, none⟩) (fun e => by simp at e; omega) _).setOther (a := ⟨pt, b * 3, none⟩) (fun e => by simp at e; omega) _).setOther (a := ⟨pt, b * 3 + 1, none⟩) (fun e => by simp at e; omega) _).setOther (a := ⟨pt, b * 3 + 2, none⟩) (fun e => by simp at e; omega) _)
            have k1 : Sum.IsTab W7 tt := by
              have := HTL.out
              refine Mir.tab_same H1.out ?_
              rw [hW7, Below.heap_setCell _ _ _ tt (by show tt ≠ pt; omega), Below.heap_setCell _ _ _ tt (by show tt ≠ pt; omega), Below.heap_setCell _ _ _ tt (by show tt ≠ pt; omega), Below.heap_setCell _ _ _ tt (by show tt ≠ pt + 1; omega)]
            have k8 : MG w [pt + 1 + 1, pt + 1, pt, tt, u] mm tb bb q (pdOf pa pb) S noG cc2 0 W7 := by
              rw [hW7]
              exact H8.out.chg (((((Chg.refl _ w6).setCell (p := ⟨pt + 1, b, none⟩) (fun _ => by simp) _).setCell (p := ⟨pt, b * 3, none⟩) (fun _ => by simp) _).setCell (p := ⟨pt, b * 3 + 1, none⟩) (fun _ => by simp) _).setCell (p := ⟨pt, b * 3 + 2, none⟩) (fun _ => by simp) _)
            rw [← hW7]
            have HTZ : T.size = 128 := by rw [HTT.out]; exact HOK.out.size
            clear hp0 hp1 hp2 z4 z30 z31 z32 c4 hW7 H1 H2 H3 H4 H5 H8
            have K1 := Lib.hid k1
            have K2 := Lib.hid k2
            have K3 := Lib.hid k3
            have K4 := Lib.hid k4
            have K5 := Lib.hid k5
            have K8 := Lib.hid k8
            clear k1 k2 k3 k4 k5 k8
            refine (Write_m K8.out HPL.out.nb (b := b) hbt HTZ (by omega)).mono ?_
            rintro e w8 ⟨S1, rfl, hst, hm, hsm⟩
            rw [lsE_no]
            have HR := Lib.hid (show RW w f (pt + 1 + 1) (pt + 1) pt tt u mm tb bb q pa pb n (b + 1) (cc2 + 8) S1 w8 from by
              refine ⟨Mir.tab_same K1.out (hsm tt (by simp)), Has.same K2.out (hsm u (by simp)), Has.same K3.out (hsm pt (by simp)), Has.same K4.out (hsm (pt + 1) (by simp)), Has.same K5.out (hsm (pt + 1 + 1) (by simp)), HPL.out.st hst, fun j hj hk s hs => ?_, hm⟩
              by_cases e : j = b
              · subst e
                rw [(kOf_at n j).2, hst.got HPL.out.nb K8.out.good hs hj (by rw [al_no]; rcases (show s = 0 ∨ s = 1 by omega) with rfl | rfl <;> simp) rfl, HTT.out]
                unfold imgK; rw [if_neg (by omega)]; rfl
              · rw [kOf_next e] at hk ⊢
                rw [hst.far s hs j hj e]
                exact HC.out j hj hk s hs)
            clear hst hm hsm K1 K2 K3 K4 K5 K8 HPL HC
            go_wp2_with fail
            go_roundw
            case rel => exact ⟨b + 1, cc2 + 8, S1, by omega, by go_num, by omega, HR.out⟩
            case measure => simp [intOf]; omega
        · have hbti : ¬ (b : Int) < 14 := by omega
          obtain rfl : b = 14 := by omega
          go_wp2_with fail
          go_roundw
          case rel => exact ⟨n + 1, cc2, S, by omega, by go_num, by omega, HR.out.turn⟩
          case measure => simp [intOf]; omega
    · have hlti : ¬ (n : Int) < 2 := by omega
      obtain rfl : n = 2 := by omega
      go_wp2_with fail
      refine (Flush_m HR.out.2.2.2.2.2.2.2 (by omega)).mono ?_
      rintro e w4 ⟨rfl, hm, hsm⟩
      rw [lsE_no]
      obtain ⟨hbk, hhb⟩ : ∃ b, b = w4.heap.size := ⟨_, rfl⟩
      have HX := Lib.hid (show HW w f hbk (pt + 1 + 1) (pt + 1) pt u mm tb bb q pa pb 0 cc S (fun _ => false) (.map []) (w4.alloc (.map #[] 0)) from by
        obtain ⟨r1, r2, r3, r4, r5, r6, r7, r8⟩ := HR.out
        rw [hhb]
        refine ⟨(r2.same (hsm u (by simp))).alloc _, (r3.same (hsm pt (by simp))).alloc _, (r4.same (hsm (pt + 1) (by simp))).alloc _, (r5.same (hsm (pt + 1 + 1) (by simp))).alloc _, r6.m, fun b hb14 => Hurt.whole (fun s hs => ?_), Hm.start, World.ownsMap_made (H := Unit) w4 Tryz.prog 3 (plainElem (H := Unit) Tryz.prog 4), (hm.new (.map #[] 0)).sub (fun k hk => by simp at hk ⊢; rcases hk with rfl | rfl | rfl | rfl | rfl <;> simp)⟩
        have hk : kOf 2 0 b = 2 := by unfold kOf; simp
        have := r7 b hb14 (by rw [hk]; omega) s hs
        rw [hk] at this; exact this)
      clear hm hsm HR
      obtain ⟨M, hM⟩ : ∃ M, M = min a1l 14 := ⟨_, rfl⟩
      have hmin : ∀ W ts, (Builtin.min_ ts 3 #[.int .i64 (a1l : Nat), .int .i64 14]).run Tryz.prog W = .ok (.int .i64 (M : Int)) W := by
        intro W ts; rw [hM]; exact run_minC _ _ _ _ a1l 14
      have hml : M ≤ a1l := by omega
      have hml' : M ≤ a1c := by omega
      have hm14 : M ≤ 14 := by omega
      have hmm := @run_makeMap Tryz.prog
      clear hM hlt hlti
      go_wp2_with fail
      rw [← hhb]
      clear hmin hmm hhb
      go_loopw [100] (fun i wr => ∃ (c n cc : Nat) (S : Nat → Sd) (hd : Nat → Bool) (D : DataW Unit), c ≤ M ∧ i = .int .i64 c ∧ n ≤ c ∧ cc ≤ 228 + 8 * c ∧ HW w f hbk (pt + 1 + 1) (pt + 1) pt u mm tb bb q pa pb n cc S hd D wr) (fun i _ => M - (intOf i).toNat)
      case atStart => exact ⟨0, 0, cc, S, _, _, by omega, rfl, by omega, by omega, HX.out⟩
      case round =>
        obtain ⟨c, n, cc, S, hd, D, hc, rfl, hn, hcc, hh⟩ := hrel
        clear HX
        have HX := Lib.hid hh
        clear hh
        by_cases hlt : c < M
        · have hlti : (c : Int) < (M : Int) := by omega
          have hbw := HX.out.mg.below
          obtain ⟨zb, zo, he, hel⟩ := W1.out (by omega)
          obtain ⟨x0, x1, x2, x3, x4, hx0, hf0, hx1, hf1, hx2, hf2, hx3, hf3, hx4, hf4⟩ := hel c (by omega)
          subst he
          have hz0 : wr.cell? ⟨zb, zo + c * 5, none⟩ = some (.int .i64 x0) := (hbw.cell (World.block_lt_of_cell? _ _ hx0)).trans hx0
          have hz1 : wr.cell? ⟨zb, zo + c * 5 + 1, none⟩ = some (.int .i64 x1) := (hbw.cell (World.block_lt_of_cell? _ _ hx1)).trans hx1
          have hz2 : wr.cell? ⟨zb, zo + c * 5 + 2, none⟩ = some (.int .i64 x2) := (hbw.cell (World.block_lt_of_cell? _ _ hx2)).trans hx2
          have hz3 : wr.cell? ⟨zb, zo + c * 5 + 3, none⟩ = some (.int .i64 x3) := (hbw.cell (World.block_lt_of_cell? _ _ hx3)).trans hx3
          have hz4 : wr.cell? ⟨zb, zo + c * 5 + 4, none⟩ = some (.int .u8 x4) := (hbw.cell (World.block_lt_of_cell? _ _ hx4)).trans hx4
          obtain ⟨y, rfl⟩ := of_u8 hf4
          have hb0 := bounds_i64 hf0
          have hb1 := bounds_i64 hf1
          have hb2 := bounds_i64 hf2
          have hb3 := bounds_i64 hf3
          have hHV := Has.new wr [.int .i64 x0, .int .i64 x1, .int .i64 x2, .int .i64 x3, .int .u8 (y.toNat : Nat)] 45
          have HX1 := Lib.hid (HX.out.later (Tab.b_new wr (.cells #[.int .i64 x0, .int .i64 x1, .int .i64 x2, .int .i64 x3, .int .u8 (y.toNat : Nat)] 45)))
          obtain ⟨v, hv⟩ : ∃ v, v = wr.heap.size := ⟨_, rfl⟩
          rw [← hv] at hHV
          have HV := Lib.hid hHV
          clear hx0 hx1 hx2 hx3 hx4 hf0 hf1 hf2 hf3 hf4 hel hbw hHV
          go_upto_region 28 with fail
          rw [← hv]
          obtain ⟨W5, hW5⟩ : ∃ W5, W5 = wr.alloc (.cells #[.int .i64 x0, .int .i64 x1, .int .i64 x2, .int .i64 x3, .int .u8 (y.toNat : Nat)] 45) := ⟨_, rfl⟩
          rw [← hW5] at HX1 HV ⊢
          clear hv hW5 hz0 hz1 hz2 hz3 hz4
          go_cut [18, 19] (fun bv sv wx => ∃ b s : Nat, b < 14 ∧ s < 2 ∧ bv = .int .i64 b ∧ sv = .int .i64 s ∧ HW w f hbk (pt + 1 + 1) (pt + 1) pt u mm tb bb q pa pb n cc S hd D wx ∧ Has wx v 45 [.int .i64 x0, .int .i64 x1, .int .i64 x2, .int .i64 x3, .int .u8 (y.toNat : Nat)])
          case first =>
            obtain ⟨m0, hm0⟩ := max0_of x0
            obtain ⟨m1, hm1⟩ := max0_of x1
            have hM0 : ∀ W ts, (Builtin.max_ ts 3 #[.int .i64 0, .int .i64 x0]).run Tryz.prog W = .ok (.int .i64 (m0 : Nat)) W := fun W ts => run_max0 _ _ _ _ x0 m0 hm0
            have hM1 : ∀ W ts, (Builtin.max_ ts 3 #[.int .i64 0, .int .i64 x1]).run Tryz.prog W = .ok (.int .i64 (m1 : Nat)) W := fun W ts => run_max0 _ _ _ _ x1 m1 hm1
            obtain ⟨b, hb⟩ : ∃ b, b = m0 % 14 := ⟨_, rfl⟩
            obtain ⟨s, hs⟩ : ∃ s, s = m1 % 2 := ⟨_, rfl⟩
            have hr0 : Int.tmod (m0 : Int) 14 = (b : Int) := by rw [Int.tmod_eq_emod_of_nonneg (by omega)]; omega
            have hr0' : (m0 : Int) % 14 = (b : Int) := by omega
            have hr1 : Int.tmod (m1 : Int) 2 = (s : Int) := by rw [Int.tmod_eq_emod_of_nonneg (by omega)]; omega
            have hr1' : (m1 : Int) % 2 = (s : Int) := by omega
            have hb14 : b < 14 := by omega
            have hs2 : s < 2 := by omega
            have g0 := HV.out.cell 0
            have g1 := HV.out.cell 1
            simp only [List.getElem?_cons_zero, List.getElem?_cons_succ] at g0 g1
            clear hm0 hm1 hb hs hb0 hb1 hb2 hb3
            go_quiet (fail)
            go_wp2_with fail
            go_meet
            exact ⟨b, s, hb14, hs2, rfl, rfl, HX1.out.later (below_drewN (Below.refl _ _) _), HV.out⟩
          case rest =>
            obtain ⟨b, s, hb14, hs2, rfl, rfl, hh, hvv⟩ := hcut
            clear HX1 HV
            have HX1 := Lib.hid hh
            have HV := Lib.hid hvv
            clear hh hvv
            have hlk := HX1.out.hm.look HX1.out.map hb14
            cases hdb : hd b with
            | true =>
              rw [hdb] at hlk
              clear hdb
              go_wp2_with fail
              go_roundw
              case rel => exact ⟨c + 1, n, cc, S, hd, D, by omega, by go_num, by omega, by omega, HX1.out⟩
              case measure => simp [intOf]; omega
            | false =>
              rw [hdb] at hlk
              have H0 := Lib.hid (show Hurt S b 2 (K2 f b) (T2 f b) false by have := HX1.out.hurt b hb14; rwa [hdb] at this)
              have HDB := Lib.hid hdb
              have HNL := Lib.hid (show n < maxLen by unfold maxLen; omega)
              have HKY := Lib.hid (key_i (b := b) (by omega))
              clear hdb
              go_wp2_with (at_mapUpdate; refine wpList_mapUpdate_own _ rfl _ _ _ 43 rfl 3 4 keyI Tryz.underlying43 (plainElem (H := Unit) Tryz.prog 4) hbk n D rfl HX1.out.map HNL.out _ _ (.int .i64 (b : Nat)) rfl rfl HKY.out (.lit (.bool true)) [] (plainBool8 true) ?_)
              intro w8 hown hgrow
              have HX8 := Lib.hid (HX1.out.mark HDB.out hgrow hown)
              have hvh : v ≠ hbk := owns_ne_has HX1.out.map HV.out
              have HV8 := Lib.hid (has_row HV.out hgrow (fun e => hvh (by cases e; rfl)))
              obtain ⟨hd2, hd2e⟩ : ∃ h, h = upd hd b true := ⟨_, rfl⟩
              obtain ⟨D2, hD2⟩ : ∃ d, d = D.put (.int .i64 (b : Nat)) (.lit (.bool true)) := ⟨_, rfl⟩
              rw [← hd2e, ← hD2] at HX8
              have HDB2 := Lib.hid (show hd2 b = true by rw [hd2e, upd_same])
              have HWAS := Lib.hid (cont_was HX1.out.m0 hs2 (H0.out.all rfl s hs2))
              have hokb : Okay (b : Nat) 2 (f b) := ⟨by omega, by omega, by omega, by omega, by have := HFS.out b; omega⟩
              have HOK := Lib.hid hokb
              clear hown hgrow hvh hd2e hD2 hlk HX1 HV HDB hokb HNL HKY
              obtain ⟨m2, hm2⟩ := max0_of x2
              have hM2 : ∀ W ts, (Builtin.max_ ts 3 #[.int .i64 0, .int .i64 x2]).run Tryz.prog W = .ok (.int .i64 (m2 : Nat)) W := fun W ts => run_max0 _ _ _ _ x2 m2 hm2
              have g2 := HV8.out.cell 2
              simp only [List.getElem?_cons_zero, List.getElem?_cons_succ] at g2
              have hbi : (b : Int) < 14 := by omega
              have hsi : (s : Int) < 2 := by omega
              have hw4 : IntKind.i64.wrap (4 + (b : Int)) = 4 + (b : Int) := IntWalk.i64_in _ (by omega)
              have hw1 : IntKind.i64.wrap ((b : Int) + 1) = (b : Int) + 1 := IntWalk.i64_in _ (by omega)
              clear hm2
              rcases (show m2 % 5 = 0 ∨ m2 % 5 = 1 ∨ m2 % 5 = 2 ∨ m2 % 5 = 3 ∨ m2 % 5 = 4 by omega) with hk | hk | hk | hk | hk
              · have hr2 : Int.tmod (m2 : Int) 5 = 0 := by rw [Int.tmod_eq_emod_of_nonneg (by omega)]; omega
                have hr2' : (m2 : Int) % 5 = 0 := by omega
                obtain ⟨m3, hm3⟩ := max0_of x3
                have hM3 : ∀ W ts, (Builtin.max_ ts 3 #[.int .i64 0, .int .i64 x3]).run Tryz.prog W = .ok (.int .i64 (m3 : Nat)) W := fun W ts => run_max0 _ _ _ _ x3 m3 hm3
                clear hk hm3 hb0 hb1 hb2 hb3
                go_upto_region 33 with fail
                have HXd := Lib.hid (HX8.out.later (Below.refl _ _).drew)
                have d0 := HXd.out.dev hs2
                have g3 := (Has.drew HV8.out).cell 3
                have g4 := (Has.drew HV8.out).cell 4
                simp only [List.getElem?_cons_zero, List.getElem?_cons_succ] at g3 g4
                refine Reg.still_tail 10 (by kernel_rfl) (by kernel_rfl) ?_
                simp only [List.take_succ_cons, List.take_zero, List.drop_succ_cons, List.drop_zero]
                repeat still_step
                try refine wpStill_nil ?_
                go_wp2_with fail
                refine (garble_m HXd.out.mg hs2 rfl (i := 4 + b) (by omega) (by omega) (by omega) m3 y (pdOf pa pb s) rfl (4 + (b : Int)) (by omega) m3 rfl).mono ?_
                rintro e w9 ⟨rfl, hm, hsm⟩
                have HX9 := Lib.hid (HXd.out.setV H0.out HDB2.out hs2 (by rw [HWAS.out.2]; exact turned_or HOK.out (m3 % 128) (by omega) y (K2 f b)) hm hsm)
                clear hm hsm d0 g2 g3 g4
                go_wp2_with fail
                go_roundw
                case rel => exact ⟨c + 1, n + 1, cc, _, hd2, D2, by omega, by go_num, by omega, by omega, HX9.out⟩
                case measure => simp [intOf]; omega
              · have hr2 : Int.tmod (m2 : Int) 5 = 1 := by rw [Int.tmod_eq_emod_of_nonneg (by omega)]; omega
                have hr2' : (m2 : Int) % 5 = 1 := by omega
                clear hk hb0 hb1 hb2 hb3
                have d0 := HX8.out.dev hs2
                go_wp2_with fail
                refine (stick_m HX8.out.mg hs2 (i := 4 + b) (by omega) (by omega) (by omega) (4 + (b : Int)) (by omega) (pdOf pa pb s) rfl).mono ?_
                rintro e w9 ⟨S9, rfl, hk, hm, hsm⟩
                have HX9 := Lib.hid (HX8.out.stick H0.out HDB2.out hs2 hb14 hk hm hsm)
                clear hm hsm hk d0 g2
                go_wp2_with fail
                go_roundw
                case rel => exact ⟨c + 1, n + 1, cc, _, hd2, D2, by omega, by go_num, by omega, by omega, HX9.out⟩
                case measure => simp [intOf]; omega
              · have hr2 : Int.tmod (m2 : Int) 5 = 2 := by rw [Int.tmod_eq_emod_of_nonneg (by omega)]; omega
                have hr2' : (m2 : Int) % 5 = 2 := by omega
                have hok1 : Okay (b : Nat) 1 (f b) := ⟨by omega, by omega, by omega, by omega, by have := HFS.out b; omega⟩
                have HZ := Lib.hid (show (imT (b : Nat) 1 (f b)).size = 128 from hok1.size)
                have HD := Lib.hid (hok1.differs (a := (b : Nat)) (g := 2) (.inr (by omega)) (K2 f b))
                obtain ⟨T, hT⟩ : ∃ T, T = imT (b : Nat) 1 (f b) := ⟨_, rfl⟩
                clear hk hb0 hb1 hb2 hb3 hok1
                go_upto_region 37 with fail
                have HXd := Lib.hid (HX8.out.later (Below.refl _ _).drew)
                have d0 := HXd.out.dev hs2
                have d1 := HXd.out.oldc hb14
                rw [← hT] at HZ HD d1
                clear hT
                refine Reg.still_tail 8 (by kernel_rfl) (by kernel_rfl) ?_
                simp only [List.take_succ_cons, List.take_zero, List.drop_succ_cons, List.drop_zero]
                repeat still_step
                try refine wpStill_nil ?_
                go_wp2_with fail
                refine (dwr_m HXd.out.mg hs2 (i := 4 + b) (by omega) (by omega) HWAS.out.1 HZ.out (by omega) (4 + (b : Int)) (by omega) (pdOf pa pb s) rfl).mono ?_
                rintro e w9 ⟨rfl, hm, hsm⟩
                have HX9 := Lib.hid (HXd.out.setV H0.out HDB2.out hs2 (.inr HD.out) hm hsm)
                clear hm hsm d0 d1 g2
                go_wp2_with fail
                go_roundw
                case rel => exact ⟨c + 1, n + 1, cc + 1, _, hd2, D2, by omega, by go_num, by omega, by omega, HX9.out⟩
                case measure => simp [intOf]; omega
              · have hr2 : Int.tmod (m2 : Int) 5 = 3 := by rw [Int.tmod_eq_emod_of_nonneg (by omega)]; omega
                have hr2' : (m2 : Int) % 5 = 3 := by omega
                obtain ⟨b2, hb2e⟩ : ∃ b2, b2 = (b + 1) % 14 := ⟨_, rfl⟩
                have hb214 : b2 < 14 := by omega
                have hr3 : Int.tmod ((b : Int) + 1) 14 = (b2 : Int) := by rw [Int.tmod_eq_emod_of_nonneg (by omega)]; omega
                have hr3' : ((b : Int) + 1) % 14 = (b2 : Int) := by omega
                have hb2i : (b2 : Int) < 14 := by omega
                have hok1 : Okay (b2 : Nat) 2 (f b2) := ⟨by omega, by omega, by omega, by omega, by have := HFS.out b2; omega⟩
                have HZ := Lib.hid (show (T2 f b2).size = 128 from hok1.size)
                have HD := Lib.hid (show wh (some (T2 f b2)) (b : Int) 2 (K2 f b) = false from hok1.differs (a := (b : Nat)) (g := 2) (.inl (by omega)) (K2 f b))
                obtain ⟨T, hT⟩ : ∃ T, T = T2 f b2 := ⟨_, rfl⟩
                clear hk hb0 hb1 hb2 hb3 hok1 hb2e
                have HNC := Lib.hid (show ∀ w1, Has w1 (pt + 1) 37 (nowL f 2 0) → w1.cell? ⟨pt + 1, b2, none⟩ = some (.string T) from fun w1 h1 => by rw [hT]; exact now_cell h1 hb214)
                rw [← hT] at HZ HD
                clear hT
                go_upto_region 39 with fail
                refine Reg.region_vals (by kernel_rfl) [(155, .int .i64 (s : Nat)), (156, .pointer (some ⟨u, s, none⟩)), (157, .pointer (some ⟨pdOf pa pb s, 0, none⟩)), (158, .int .i64 (b : Nat)), (159, .int .i64 (4 + (b : Int))), (160, .int .i64 (b : Nat)), (161, .int .i64 ((b : Int) + 1)), (162, .int .i64 (b2 : Nat)), (163, .pointer (some ⟨pt + 1, b2, none⟩)), (164, .string T), (165, .int .i64 0)] (fun l wy => HW w f hbk (pt + 1 + 1) (pt + 1) pt u mm tb bb q pa pb (n + 1) (bif l 10 then cc + 1 else cc) (bif l 10 then setV S s (4 + b) T else S) hd2 D2 wy) (by kernel_rfl) (by kernel_rfl) (by kernel_rfl) (HX8.out.later (Below.refl _ _).drew) ⟨?_, ?_, ?_, ?_, ?_, ?_, ?_, ?_, ?_, ?_, ?_, trivial⟩ ?hend
                · -- 0: 155 := Op.move t19
                  intro aq wq lq hI hl hdone hlater hold hd ho
                  have h19 : aq.tmps.getD 19 undef = .int .i64 (s : Nat) := ho 19 (by kernel_rfl)
                  clear hd ho hdone hlater hold
                  exact Reg.step2_move (.tmp 19) rfl h19 hI trivial
                · -- 1: 156 := Op.indexAddr 25 t5 t155
                  intro aq wq lq hI hl hdone hlater hold hd ho
                  have h5 : aq.tmps.getD 5 undef = .pointer (some ⟨u, 0, none⟩) := ho 5 (by kernel_rfl)
                  have h155 : aq.tmps.getD 155 undef = .int .i64 (s : Nat) := hd 155 (by kernel_rfl)
                  clear hd ho hdone hlater hold
                  rw [Array.getD_eq_getD_getElem?] at h5 h155
                  refine Reg.step2_val (.pointer (some ⟨u, s, none⟩)) ?_ rfl hI trivial
                  go_simp
                · -- 2: 157 := Op.load 24 t156
                  intro aq wq lq hI hl hdone hlater hold hd ho
                  have h156 : aq.tmps.getD 156 undef = .pointer (some ⟨u, s, none⟩) := hd 156 (by kernel_rfl)
                  clear hd ho hdone hlater hold
                  rw [Array.getD_eq_getD_getElem?] at h156
                  have d0 := hI.dev hs2
                  refine Reg.step2_val (.pointer (some ⟨pdOf pa pb s, 0, none⟩)) ?_ rfl hI trivial
                  go_simp
                · -- 3: 158 := Op.move t18
                  intro aq wq lq hI hl hdone hlater hold hd ho
                  have h18 : aq.tmps.getD 18 undef = .int .i64 (b : Nat) := ho 18 (by kernel_rfl)
                  clear hd ho hdone hlater hold
                  exact Reg.step2_move (.tmp 18) rfl h18 hI trivial
                · -- 4: 159 := Op.binOp BinOp.add 3 (const (4:i64)) t158 3
                  intro aq wq lq hI hl hdone hlater hold hd ho
                  have h158 : aq.tmps.getD 158 undef = .int .i64 (b : Nat) := hd 158 (by kernel_rfl)
                  clear hd ho hdone hlater hold
                  rw [Array.getD_eq_getD_getElem?] at h158
                  refine Reg.step2_val (.int .i64 (4 + (b : Int))) ?_ rfl hI trivial
                  simp [execOp, Act.eval, h158]
                  try go_simp
                · -- 5: 160 := Op.move t18
                  intro aq wq lq hI hl hdone hlater hold hd ho
                  have h18 : aq.tmps.getD 18 undef = .int .i64 (b : Nat) := ho 18 (by kernel_rfl)
                  clear hd ho hdone hlater hold
                  exact Reg.step2_move (.tmp 18) rfl h18 hI trivial
                · -- 6: 161 := Op.binOp BinOp.add 3 t160 (const (1:i64)) 3
                  intro aq wq lq hI hl hdone hlater hold hd ho
                  have h160 : aq.tmps.getD 160 undef = .int .i64 (b : Nat) := hd 160 (by kernel_rfl)
                  clear hd ho hdone hlater hold
                  rw [Array.getD_eq_getD_getElem?] at h160
                  refine Reg.step2_val (.int .i64 ((b : Int) + 1)) ?_ rfl hI trivial
                  simp [execOp, Act.eval, h160]
                  try go_simp
                · -- 7: 162 := Op.binOp BinOp.rem 3 t161 (const (14:i64)) 3
                  intro aq wq lq hI hl hdone hlater hold hd ho
                  have h161 : aq.tmps.getD 161 undef = .int .i64 ((b : Int) + 1) := hd 161 (by kernel_rfl)
                  clear hd ho hdone hlater hold
                  rw [Array.getD_eq_getD_getElem?] at h161
                  refine Reg.step2_val (.int .i64 (b2 : Nat)) ?_ rfl hI trivial
                  simp [execOp, Act.eval, h161]
                  try go_simp
                · -- 8: 163 := Op.indexAddr 37 t10 t162
                  intro aq wq lq hI hl hdone hlater hold hd ho
                  have h10 : aq.tmps.getD 10 undef = .pointer (some ⟨pt + 1, 0, none⟩) := ho 10 (by kernel_rfl)
                  have h162 : aq.tmps.getD 162 undef = .int .i64 (b2 : Nat) := hd 162 (by kernel_rfl)
                  clear hd ho hdone hlater hold
                  rw [Array.getD_eq_getD_getElem?] at h10 h162
                  refine Reg.step2_val (.pointer (some ⟨pt + 1, b2, none⟩)) ?_ rfl hI trivial
                  go_simp
                · -- 9: 164 := Op.load 9 t163
                  intro aq wq lq hI hl hdone hlater hold hd ho
                  have h163 : aq.tmps.getD 163 undef = .pointer (some ⟨pt + 1, b2, none⟩) := hd 163 (by kernel_rfl)
                  clear hd ho hdone hlater hold
                  rw [Array.getD_eq_getD_getElem?] at h163
                  have d1 : wq.cell? ⟨pt + 1, b2, none⟩ = some (.string T) := HNC.out _ hI.now
                  refine Reg.step2_val (.string T) ?_ rfl hI trivial
                  go_simp
                · -- 10: 165 := Op.call ( value (Operand.func 12), args := #(t157, t159, t16
                  intro aq wq lq hI hl hdone hlater hold hd ho
                  have h157 : aq.tmps.getD 157 undef = .pointer (some ⟨pdOf pa pb s, 0, none⟩) := hd 157 (by kernel_rfl)
                  have h159 : aq.tmps.getD 159 undef = .int .i64 (4 + (b : Int)) := hd 159 (by kernel_rfl)
                  have h164 : aq.tmps.getD 164 undef = .string T := hd 164 (by kernel_rfl)
                  clear hd ho hdone hlater hold
                  rw [Array.getD_eq_getD_getElem?] at h157 h159 h164
                  have hJ := hI
                  rw [show lq 10 = false from hl] at hJ
                  have hJ : HW w f hbk (pt + 1 + 1) (pt + 1) pt u mm tb bb q pa pb (n + 1) cc S hd2 D2 wq := hJ
                  clear hI
                  refine Reg.step2_call 12 #[.pointer (some ⟨pdOf pa pb s, 0, none⟩), .int .i64 (4 + (b : Int)), .string T] ?_ ((dwr_m hJ.mg hs2 (i := 4 + b) (by omega) (by omega) HWAS.out.1 HZ.out (by omega) (4 + (b : Int)) (by omega) (pdOf pa pb s) rfl).mono ?_)
                  · clear hJ
                    simp [execOp]
                    go_simp
                  · rintro e w' ⟨rfl, hm, hsm⟩
                    exact ⟨_, rfl, rfl, hJ.setV H0.out HDB2.out hs2 (.inr HD.out) hm hsm, trivial⟩
                case hend =>
                intro wz hI
                simp only [Reg.fill, List.foldl_cons, List.foldl_nil, List.setIfInBounds_toArray, List.set_cons_zero, List.set_cons_succ]
                have HX9 := Lib.hid (show HW w f hbk (pt + 1 + 1) (pt + 1) pt u mm tb bb q pa pb (n + 1) (cc + 1) (setV S s (4 + b) T) hd2 D2 wz from hI)
                clear hI g2
                go_wp2_with fail
                go_roundw
                case rel => exact ⟨c + 1, n + 1, cc + 1, _, hd2, D2, by omega, by go_num, by omega, by omega, HX9.out⟩
                case measure => simp [intOf]; omega
              · have hr2 : Int.tmod (m2 : Int) 5 = 4 := by rw [Int.tmod_eq_emod_of_nonneg (by omega)]; omega
                have hr2' : (m2 : Int) % 5 = 4 := by omega
                clear hk hb0 hb1 hb2 hb3
                obtain ⟨T, hT⟩ : ∃ T : ByteArray, T = ⟨(List.replicate 128 (0 : UInt8)).toArray⟩ := ⟨_, rfl⟩
                have HZ := Lib.hid (show T.size = 128 by rw [hT]; rfl)
                have HD := Lib.hid (show wh (some T) (b : Int) 2 (K2 f b) = false by rw [hT]; exact zeros_no _ _ _)
                have HRE := Lib.hid (show (⟨(Lib.repeatL (⟨#[0]⟩ : ByteArray).data.toList 128).toArray⟩ : ByteArray) = T by rw [hT]; rfl)
                clear hT
                go_upto_region 41 with fail
                refine Reg.region_vals (by kernel_rfl) [(168, .int .i64 (s : Nat)), (169, .pointer (some ⟨u, s, none⟩)), (170, .pointer (some ⟨pdOf pa pb s, 0, none⟩)), (171, .int .i64 (b : Nat)), (172, .int .i64 (4 + (b : Int))), (173, .string T), (174, .int .i64 0)] (fun l wy => HW w f hbk (pt + 1 + 1) (pt + 1) pt u mm tb bb q pa pb (n + 1) (bif l 6 then cc + 1 else cc) (bif l 6 then setV S s (4 + b) T else S) hd2 D2 wy) (by kernel_rfl) (by kernel_rfl) (by kernel_rfl) (HX8.out.later (Below.refl _ _).drew) ⟨?_, ?_, ?_, ?_, ?_, ?_, ?_, trivial⟩ ?hend
                · -- 0: 168 := Op.move t19
                  intro aq wq lq hI hl hdone hlater hold hd ho
                  have h19 : aq.tmps.getD 19 undef = .int .i64 (s : Nat) := ho 19 (by kernel_rfl)
                  clear hd ho hdone hlater hold
                  exact Reg.step2_move (.tmp 19) rfl h19 hI trivial
                · -- 1: 169 := Op.indexAddr 25 t5 t168
                  intro aq wq lq hI hl hdone hlater hold hd ho
                  have h5 : aq.tmps.getD 5 undef = .pointer (some ⟨u, 0, none⟩) := ho 5 (by kernel_rfl)
                  have h168 : aq.tmps.getD 168 undef = .int .i64 (s : Nat) := hd 168 (by kernel_rfl)
                  clear hd ho hdone hlater hold
                  rw [Array.getD_eq_getD_getElem?] at h5 h168
                  refine Reg.step2_val (.pointer (some ⟨u, s, none⟩)) ?_ rfl hI trivial
                  go_simp
                · -- 2: 170 := Op.load 24 t169
                  intro aq wq lq hI hl hdone hlater hold hd ho
                  have h169 : aq.tmps.getD 169 undef = .pointer (some ⟨u, s, none⟩) := hd 169 (by kernel_rfl)
                  clear hd ho hdone hlater hold
                  rw [Array.getD_eq_getD_getElem?] at h169
                  have d0 := hI.dev hs2
                  refine Reg.step2_val (.pointer (some ⟨pdOf pa pb s, 0, none⟩)) ?_ rfl hI trivial
                  go_simp
                · -- 3: 171 := Op.move t18
                  intro aq wq lq hI hl hdone hlater hold hd ho
                  have h18 : aq.tmps.getD 18 undef = .int .i64 (b : Nat) := ho 18 (by kernel_rfl)
                  clear hd ho hdone hlater hold
                  exact Reg.step2_move (.tmp 18) rfl h18 hI trivial
                · -- 4: 172 := Op.binOp BinOp.add 3 (const (4:i64)) t171 3
                  intro aq wq lq hI hl hdone hlater hold hd ho
                  have h171 : aq.tmps.getD 171 undef = .int .i64 (b : Nat) := hd 171 (by kernel_rfl)
                  clear hd ho hdone hlater hold
                  rw [Array.getD_eq_getD_getElem?] at h171
                  refine Reg.step2_val (.int .i64 (4 + (b : Int))) ?_ rfl hI trivial
                  simp [execOp, Act.eval, h171]
                  try go_simp
                · -- 5: 173 := Op.call ( value (Operand.func 13), args := #(const (Value.st
                  intro aq wq lq hI hl hdone hlater hold hd ho
                  clear hd ho hdone hlater hold
                  refine Reg.step2_call 13 #[.string ⟨#[0]⟩, .int .i64 128] ?_ ((Tryz.strings_Repeat (⟨#[0]⟩ : ByteArray) 128 wq (by omega) (show 1 * 128 ≤ _ by omega)).mono ?_)
                  · simp [execOp]
                    go_simp
                  · rintro e w' ⟨rfl, hb⟩
                    rw [HRE.out]
                    exact ⟨_, rfl, rfl, hI.later hb, trivial⟩
                · -- 6: 174 := Op.call ( value (Operand.func 12), args := #(t170, t172, t17
                  intro aq wq lq hI hl hdone hlater hold hd ho
                  have h170 : aq.tmps.getD 170 undef = .pointer (some ⟨pdOf pa pb s, 0, none⟩) := hd 170 (by kernel_rfl)
                  have h172 : aq.tmps.getD 172 undef = .int .i64 (4 + (b : Int)) := hd 172 (by kernel_rfl)
                  have h173 : aq.tmps.getD 173 undef = .string T := hd 173 (by kernel_rfl)
                  clear hd ho hdone hlater hold
                  rw [Array.getD_eq_getD_getElem?] at h170 h172 h173
                  have hJ := hI
                  rw [show lq 6 = false from hl] at hJ
                  have hJ : HW w f hbk (pt + 1 + 1) (pt + 1) pt u mm tb bb q pa pb (n + 1) cc S hd2 D2 wq := hJ
                  clear hI
                  refine Reg.step2_call 12 #[.pointer (some ⟨pdOf pa pb s, 0, none⟩), .int .i64 (4 + (b : Int)), .string T] ?_ ((dwr_m hJ.mg hs2 (i := 4 + b) (by omega) (by omega) HWAS.out.1 HZ.out (by omega) (4 + (b : Int)) (by omega) (pdOf pa pb s) rfl).mono ?_)
                  · clear hJ
                    simp [execOp]
                    go_simp
                  · rintro e w' ⟨rfl, hm, hsm⟩
                    exact ⟨_, rfl, rfl, hJ.setV H0.out HDB2.out hs2 (.inr HD.out) hm hsm, trivial⟩
                case hend =>
                intro wz hI
                simp only [Reg.fill, List.foldl_cons, List.foldl_nil, List.setIfInBounds_toArray, List.set_cons_zero, List.set_cons_succ]
                have HX9 := Lib.hid (show HW w f hbk (pt + 1 + 1) (pt + 1) pt u mm tb bb q pa pb (n + 1) (cc + 1) (setV S s (4 + b) T) hd2 D2 wz from hI)
                clear hI g2
                go_wp2_with fail
                go_roundw
                case rel => exact ⟨c + 1, n + 1, cc + 1, _, hd2, D2, by omega, by go_num, by omega, by omega, HX9.out⟩
                case measure => simp [intOf]; omega
        · have hlti : ¬ (c : Int) < (M : Int) := by omega
          have HV0 := Lib.hid HX.out.vw
          clear HX hlt
          go_wp2_with fail
          go_loopw [176] (fun i wr => ∃ (c2 cc2 R : Nat) (S : Nat → Sd), c2 ≤ 14 ∧ i = .int .i64 c2 ∧ cc2 ≤ cc + 20 * c2 ∧ R ≤ 3 * c2 ∧ VW w f hbk pt mm tb bb q pa pb n c2 cc2 R S hd D wr) (fun i _ => 14 - (intOf i).toNat)
          case atStart => exact ⟨0, cc, 0, S, by omega, rfl, by omega, by omega, HV0.out⟩
          case round =>
            obtain ⟨c2, cc2, R, S2, hc2, rfl, hcc2, hR, hv⟩ := hrel
            clear HV0
            have HV := Lib.hid hv
            clear hv
            by_cases hbt : c2 < 14
            · have hbti : (c2 : Int) < 14 := by omega
              go_upto_if 182 with fail
              go_cut [21] (fun s wx => s = .string (f c2) ∧ VW w f hbk pt mm tb bb q pa pb n c2 cc2 R S2 hd D wx)
              case first =>
                by_cases hbl : c2 < a0l
                · obtain ⟨zb, zo, he, hcell⟩ := W0.out (by omega)
                  obtain ⟨s, hs, _⟩ := hcell c2 hbl
                  subst he
                  have hbw := HV.out.mg.below
                  have hz : wr.cell? ⟨zb, zo + c2, none⟩ = some (.string s) := (hbw.cell (World.block_lt_of_cell? _ _ hs)).trans hs
                  have hfb : f c2 = s.extract 0 (min s.size 90) := by
                    rw [HFF.out]
                    have : txOf w (some ⟨zb, zo, none⟩) a0l c2 = s := by unfold txOf; rw [if_pos hbl]; simp only [hs]
                    unfold cutOf; rw [this]
                  obtain ⟨m, hm⟩ : ∃ m, m = min s.size 90 := ⟨_, rfl⟩
                  have hmin : ∀ W ts, (Builtin.min_ ts 3 #[.int .i64 (s.size : Nat), .int .i64 90]).run Tryz.prog W = .ok (.int .i64 (m : Int)) W := by
                    intro W ts; rw [hm]; exact run_minC _ _ _ _ s.size 90
                  have hm1 : m ≤ s.size := by omega
                  rw [← hm] at hfb
                  have HFB := Lib.hid hfb
                  clear hm hfb hs hcell hbw
                  go_upto_region 48 with fail
                  go_quiet (fail)
                  go_wp2_with fail
                  go_meet
                  exact ⟨by rw [HFB.out], HV.out.later (below_drewN (Below.refl _ _) _)⟩
                · have hbl' : ¬ (c2 : Int) < (a0l : Int) := by omega
                  have hfb : f c2 = ⟨#[]⟩ := by
                    rw [HFF.out]; unfold cutOf txOf; rw [if_neg hbl]; rfl
                  have HFB := Lib.hid hfb
                  clear hfb
                  go_wp2_with fail
                  go_meet
                  exact ⟨by rw [HFB.out], HV.out⟩
              case rest =>
                obtain ⟨rfl, hv⟩ := hcut
                clear HV
                have HV := Lib.hid hv
                clear hv
                obtain ⟨p0, p1, p2⟩ := HV.out.ptr hbt
                have hok : Okay (c2 : Nat) 2 (f c2) := ⟨by omega, by omega, by omega, by omega, by have := HFS.out c2; omega⟩
                have HME := Lib.hid (show wh (some (T2 f c2)) (c2 : Int) 2 (K2 f c2) = true from hok.meets)
                have HOK := Lib.hid (show Env.oK (T2 f c2).data.toList = 4 from hok.o.2.1)
                have HOP := Lib.hid (show Env.oP (T2 f c2).data.toList = f c2 from hok.o.2.2.2.2.2)
                obtain ⟨s1, hs1, hF1, hT1⟩ := (HV.out.hurt hbt).found HME.out
                clear hok
                go_wp2_with fail
                refine (Read_some HV.out.mg (b := c2) hbt (by omega) (by omega) 2 (K2 f c2) hF1 hT1).mono ?_
                rintro e w5 ⟨S3, rfl, hst, hm, hsm⟩
                rw [HOK.out, HOP.out]
                have hrd := rdN_le (S := S2) (G := noG) (s := s1) (b := c2)
                have HV5 := Lib.hid (HV.out.st hbt hst hm hsm)
                obtain ⟨R5, hR5⟩ : ∃ r, r = R + rdN S2 noG s1 c2 := ⟨_, rfl⟩
                rw [← hR5] at HV5
                have hR5b : R5 ≤ R + 1 := by omega
                clear hst hm hsm hF1 hT1 hR5 hrd hs1 p0 p1 p2 HV
                obtain ⟨p0, p1, p2⟩ := HV5.out.ptr hbt
                obtain ⟨s2, hs2, hF2, hT2⟩ := (HV5.out.hurt hbt).found HME.out
                obtain ⟨q1, q2⟩ := (HV5.out.hurt hbt).count
                go_wp2_with fail
                refine (Check_some HV5.out.mg (b := c2) hbt (by omega) (by omega) 2 (K2 f c2) hF2 hT2).mono ?_
                rintro e w6 ⟨S4, rfl, hst, hm, hsm⟩
                have HV6 := Lib.hid (HV5.out.st hbt hst hm hsm)
                have HCD := Lib.hid (check_done hst)
                obtain ⟨N, hN⟩ : ∃ N, N = hSum S3 noG c2 (T2 f c2) (al noG) := ⟨_, rfl⟩
                rw [← hN] at HV6 q1 q2 ⊢
                clear hst hm hsm hF2 hT2 hs2 p0 p1 p2 HV5 hN
                obtain ⟨p0, p1, p2⟩ := HV6.out.ptr hbt
                have hlk := HV6.out.hm.look HV6.out.map hbt
                obtain ⟨s3, hs3, hF3, hT3⟩ := (HV6.out.hurt hbt).found HME.out
                have hN1 : ¬ (1 : Int) < (N : Int) := by omega
                cases hdc : hd c2 with
                | true =>
                  rw [hdc] at hlk
                  clear q2 hdc
                  go_wp2_with fail
                  refine (Check_some HV6.out.mg (b := c2) hbt (by omega) (by omega) 2 (K2 f c2) hF3 hT3).mono ?_
                  rintro e w7 ⟨S5, rfl, hst, hm, hsm⟩
                  have HV7 := Lib.hid (HV6.out.st hbt hst hm hsm).next
                  rw [HCD.out] at HV7 ⊢
                  clear hst hm hsm hF3 hT3 hlk p0 p1 p2
                  go_wp2_with fail
                  go_roundw
                  case rel => exact ⟨c2 + 1, cc2 + 4 + 8 + 8, R5 + N + 0, S5, by omega, by go_num, by omega, by omega, HV7.out⟩
                  case measure => simp [intOf]; omega
                | false =>
                  rw [hdc] at hlk
                  have hN0 := q2 hdc
                  subst hN0
                  clear q2 hdc
                  rw [show ((0 : Nat) : Int) = 0 from rfl]
                  go_wp2_with fail
                  refine (Check_some HV6.out.mg (b := c2) hbt (by omega) (by omega) 2 (K2 f c2) hF3 hT3).mono ?_
                  rintro e w7 ⟨S5, rfl, hst, hm, hsm⟩
                  have HV7 := Lib.hid (HV6.out.st hbt hst hm hsm).next
                  rw [HCD.out] at HV7 ⊢
                  clear hst hm hsm hF3 hT3 hlk p0 p1 p2
                  go_wp2_with fail
                  go_roundw
                  case rel => exact ⟨c2 + 1, cc2 + 4 + 8 + 8, R5 + 0 + 0, S5, by omega, by go_num, by omega, by omega, HV7.out⟩
                  case measure => simp [intOf]; omega
            · have hbti : ¬ (c2 : Int) < 14 := by omega
              obtain rfl : c2 = 14 := by omega
              have hsp := fun t (ht : t < 2) => spares_left HV.out.mg ht
              by_cases hl : ∀ t, t < 2 → (S2 t).m.length < 6
              · go_wp2_with fail
                refine (Bad_0 HV.out.mg hl).mono ?_
                rintro e w5 ⟨rfl, hb⟩
                have HB := Lib.hid (HV.out.mg.later hb).below
                clear hb
                go_wp2_with fail
                go_ret
                exact ⟨rfl, HB.out⟩
              · have hfull : (S2 0).m.length = 6 ∨ (S2 1).m.length = 6 := by
                  have h0 := hsp 0 (by omega)
                  have h1 := hsp 1 (by omega)
                  by_cases e0 : (S2 0).m.length = 6
                  · exact .inl e0
                  · by_cases e1 : (S2 1).m.length = 6
                    · exact .inr e1
                    · exact absurd (fun t ht => by rcases (show t = 0 ∨ t = 1 by omega) with rfl | rfl <;> omega) hl
                have HS0 := Lib.hid (hsp 0 (by omega))
                have HS1 := Lib.hid (hsp 1 (by omega))
                clear hl hsp
                go_wp2_with fail
                refine (Bad_m HV.out.mg (by omega)).mono ?_
                rintro e w5 ⟨⟨ao, k, cap, rfl⟩, hb⟩
                have HM5 := Lib.hid (HV.out.mg.later hb)
                clear hb HV
                by_cases hk0 : k = 0
                · subst hk0
                  have HB := Lib.hid HM5.out.below
                  go_wp2_with fail
                  go_ret
                  exact ⟨rfl, HB.out⟩
                · have hk1 : ((k : Int) == 0) = false := by simp; omega
                  go_wp2_with fail
                  refine (Pair_m HM5.out).mono ?_
                  rintro e w6 ⟨rfl, rfl⟩
                  go_wp2_with fail
                  refine (table_e HM5.out.cg.pb (s := 0) (by omega)).mono ?_
                  rintro e w6 ⟨rfl, hb⟩
                  have HM6 := Lib.hid (HM5.out.later hb)
                  clear hb HM5
                  go_wp2_with fail
                  refine (Tab.left_any 14 6 (mOf S2 0) _ (by omega) (by omega) (by have := HS0.out; unfold mOf; omega)).mono ?_
                  rintro e w7 ⟨rfl, hb⟩
                  have HM7 := Lib.hid (HM6.out.later hb)
                  clear hb HM6
                  by_cases e0 : (S2 0).m.length = 6
                  · rw [show (6 : Int) - ((mOf S2 0).length : Nat) = 0 by unfold mOf; omega]
                    have HB := Lib.hid HM7.out.below
                    go_wp2_with fail
                    go_ret
                    exact ⟨rfl, HB.out⟩
                  · have e1 : (S2 1).m.length = 6 := hfull.resolve_left e0
                    obtain ⟨L0, hL0⟩ : ∃ L : Int, L = (6 : Int) - ((mOf S2 0).length : Nat) := ⟨_, rfl⟩
                    have hL1 : (L0 == 0) = false := by rw [hL0]; have := HS0.out; unfold mOf; simp; omega
                    rw [← hL0]
                    clear hL0
                    go_wp2_with fail
                    refine (Pair_m HM7.out).mono ?_
                    rintro e w8 ⟨rfl, rfl⟩
                    go_wp2_with fail
                    refine (table_e HM7.out.cg.pb (s := 1) (by omega)).mono ?_
                    rintro e w8 ⟨rfl, hb⟩
                    have HM8 := Lib.hid (HM7.out.later hb)
                    clear hb HM7
                    go_wp2_with fail
                    refine (Tab.left_any 14 6 (mOf S2 1) _ (by omega) (by omega) (by have := HS1.out; unfold mOf; omega)).mono ?_
                    rintro e w9 ⟨rfl, hb⟩
                    rw [show (6 : Int) - ((mOf S2 1).length : Nat) = 0 by unfold mOf; omega]
                    have HB := Lib.hid (HM8.out.later hb).below
                    clear hb
                    go_wp2_with fail
                    go_ret
                    exact ⟨rfl, HB.out⟩

set_option maxRecDepth 100000 in
theorem contract (H : Type) (enc : TypeId × Value → H) (W : World) (base : Nat) (args : Array Value) (ds gs : List (DataW H)) (before : List MemPlace)
    (hval0 : ∀ (j : Nat) t v, Tryz.f3.params[j]? = some t → args[j]? = some v → Value.okWide Tryz.prog W .any base t v)
    (hW : DataW.Whole enc Tryz.prog Tryz.f3.params.toList Rows.mirrorReadsSpec.vars false W args.toList ds gs before) :
    Calls Tryz.prog 3 args W fun e W' => ∃ v, e = .returned v ∧ Rows.mirrorReadsSpec.post enc Tryz.prog Tryz.f3 false true false false W args v W' := by
  have hval : ∀ (j : Nat) t v, Tryz.f3.params[j]? = some t → args[j]? = some v → Value.okWide Tryz.prog W .any base t v := hval0
  have hW' := hW
  obtain ⟨p, q, hA0, hV, rfl, hfz, hnd⟩ := hW
  have hA : DataW.TrodAll enc Tryz.prog W 0 (fun _ => true) true Tryz.f3.params.toList args.toList ds p := hA0
  rw [Tryz.params3] at hA hval
  obtain ⟨v0, vs0, d0, ds0, p0, q0, hargs, rfl, rfl, h0, r0⟩ := trodAll_cons hA
  obtain ⟨v1, vs1, d1, ds1, p1, q1, rfl, rfl, rfl, h1, r1⟩ := trodAll_cons r0
  obtain ⟨rfl, rfl, rfl⟩ := trodAll_nil r1
  obtain rfl : args = #[v0, v1] := by cases args; simp_all
  obtain ⟨rfl, rfl⟩ := trodVars_none hV
  have k0 := h0
  have lt0 : ∀ x ∈ p0, x.block < W.heap.size := by obtain ⟨m, hm⟩ := k0; exact DataW.trod_lt m _ _ _ hm
  obtain ⟨a0', l0', c0', rfl⟩ := okWide_slice Tryz.underlying22 (hval 0 22 v0 rfl rfl)
  obtain ⟨a0, a0l, a0c, he0, w0, w0l, w0m⟩ := open_texts (c := .slice a0' l0' c0') Tryz.underlying22 Tryz.underlying9 (by kernel_rfl) (by obtain ⟨m, hm⟩ := h0; exact ⟨m, _, hm⟩)
  simp only [Value.slice.injEq] at he0
  obtain ⟨rfl, rfl, rfl⟩ := he0
  have k1 := h1
  have lt1 : ∀ x ∈ p1, x.block < W.heap.size := by obtain ⟨m, hm⟩ := k1; exact DataW.trod_lt m _ _ _ hm
  obtain ⟨a1', l1', c1', rfl⟩ := okWide_slice Tryz.underlying23 (hval 1 23 v1 rfl rfl)
  obtain ⟨a1, a1l, a1c, he1, w1, w1l, w1m⟩ := open_AR1 (c := .slice a1' l1' c1') (by obtain ⟨m, hm⟩ := h1; exact ⟨m, _, hm⟩)
  simp only [Value.slice.injEq] at he1
  obtain ⟨rfl, rfl, rfl⟩ := he1
  clear hA0 hval0
  refine (walk a0' l0' c0' a1' l1' c1' W w0 w0l w0m w1 w1l w1m).mono fun e W' ⟨he, bel⟩ => ?_
  subst he
  exact ⟨_, rfl, _, _, _, [], _, [], hW', trodAll_mk1 (shut_bool Tryz.underlying4 _), (trodAll_cons_mk (Below.trod laidOut (by kernel_rfl) (of_decide_eq_true (by kernel_rfl)) k0 bel lt0) (trodAll_cons_mk (Below.trod laidOut (by kernel_rfl) (of_decide_eq_true (by kernel_rfl)) k1 bel lt1) trodAll_mk0)), rfl, bel.frame _, fun h => by cases h⟩

noncomputable def laidWorld (os : Os) : World :=
  { World.holding Tryz.prog os ⟨#[], #[], []⟩ with heap := (((((World.holding Tryz.prog os ⟨#[], #[], []⟩).heap).modify 2 fun | .cells _ t frozen => .cells (#[.int .u8 128, .int .u8 191, .int .u8 160, .int .u8 191, .int .u8 128, .int .u8 159, .int .u8 144, .int .u8 191, .int .u8 128, .int .u8 143, .int .u8 0, .int .u8 0, .int .u8 0, .int .u8 0, .int .u8 0, .int .u8 0, .int .u8 0, .int .u8 0, .int .u8 0, .int .u8 0, .int .u8 0, .int .u8 0, .int .u8 0, .int .u8 0, .int .u8 0, .int .u8 0, .int .u8 0, .int .u8 0, .int .u8 0, .int .u8 0, .int .u8 0, .int .u8 0]) t frozen | o => o)).modify 1 fun | .cells _ t frozen => .cells ((Go.Pinned.utf8FirstZ.map fun z : Nat => Value.int .u8 (z : Int)).toArray) t frozen | o => o) }
theorem laid_met (os : Os) : laidMet Tryz.prog Rows.mirrorReadsRow.laid ((laidWorld os).forCall (fun _ _ => 0) ⟨#[], #[.slice none 0 0, .slice none 0 0], []⟩).memory :=
  laidMet_of_run' 8 (by kernel_rfl) (by kernel_rfl)
theorem reads (os : Os) {H : Type} (enc : TypeId × Value → H) : ∃ places, DataW.whole enc Tryz.prog ((laidWorld os).forCall (fun _ _ => 0) ⟨#[], #[.slice none 0 0, .slice none 0 0], []⟩).memory Tryz.f3.params.toList Rows.mirrorReadsSpec.vars false (#[.slice none 0 0, .slice none 0 0] : Array Value).toList 8 = some ([.nil, .nil], [], places) :=
  ⟨[], by kernel_rfl⟩

set_option maxRecDepth 100000 in
theorem lifted (os : Os) (started : os.Started) (H : Type) (enc : TypeId × Value → H) (F : Stop.Interp) :
    ReturnsInHanded {} Tryz.checked os 3 .any ((OpenSpec.ofChange Rows.mirrorReadsSpec).preRow enc Tryz.prog Tryz.f3 Rows.mirrorReadsRow.domain false Rows.mirrorReadsRow.laid) (((OpenSpec.ofChange Rows.mirrorReadsSpec).at F).post enc Tryz.prog Tryz.f3 false true false false) := by
  obtain ⟨places, hx⟩ := reads os enc
  refine returnsInHanded_of_row (C := Tryz.checked) (s := OpenSpec.ofChange Rows.mirrorReadsSpec) own started (by kernel_rfl) Tryz.func3
    (witness_row_at (enc := enc) (C := Tryz.checked) false (laidWorld os) #[.slice none 0 0, .slice none 0 0] rfl (by kernel_rfl) (by kernel_rfl) (by kernel_rfl)
      (OpenSpec.preRow_of_cond 8 hx (by kernel_rfl) (fun k hk => by cases hk) (by kernel_rfl) (laid_met os))) ?_
  intro W base args ds gs before hval hW _ _ _ hL _ _
  exact contract H enc W base args ds gs before hval hW 

theorem said : Rows.MirrorReadsSaid :=
  OpenClaim.holds_of_cond 3 Tryz.f3 rfl rfl rfl rfl rfl rfl rfl ⟨rfl, rfl, rfl, rfl, rfl⟩ rfl rfl rfl rfl rfl (by kernel_rfl) Tryz.func3 (by kernel_rfl)
    (of_decide_eq_true (by kernel_rfl)) (by unfold Func.isWrapper; first | (rw [if_pos (by decide +kernel)]; kernel_rfl) | (rw [if_neg (by decide +kernel)]; exact ⟨rfl, rfl⟩))
    (fun os started H enc _ F => by rw [OpenClaim.pre_eq_preRow]; exact lifted os started H enc F)

theorem plain (f : FuncId) (fn : Func) (hf : Tryz.pinned.checked.prog.funcNamed "treenail/treenaillaw08.MirrorReads" = some f) (hfn : Tryz.pinned.checked.prog.funcs[f]? = some fn) :
    false = Tryz.pinned.checked.prog.looks [] ∧ ∀ (j : Nat) t, fn.params[j]? = some t → Tryz.pinned.checked.prog.wantsStandIn t = false := by
  obtain rfl : f = 3 := Option.some.inj ((show Tryz.prog.funcNamed "treenail/treenaillaw08.MirrorReads" = some 3 by kernel_rfl).symm.trans hf) |>.symm
  obtain rfl : fn = Tryz.f3 := (Option.some.inj (Tryz.func3.symm.trans hfn)).symm
  refine ⟨by kernel_rfl, fun j t ht => ?_⟩
  rw [Tryz.params3] at ht
  rcases j with _ | _ | j
  · obtain rfl : t = 22 := by simpa using ht.symm
    exact (show Tryz.prog.wantsStandIn 22 = false by kernel_rfl)
  · obtain rfl : t = 23 := by simpa using ht.symm
    exact (show Tryz.prog.wantsStandIn 23 = false by kernel_rfl)
  · simp at ht

/-- THE STATEMENT -/
theorem proved : Rows.MirrorReadsCardSaid :=
  Claim7.holds_tied_plain_at .later [] _ _ _ _ said (fun _ h => by cases h) (by kernel_rfl) (fun _ h => by cases h) mirrorReads_row_tie rfl ⟨rfl, rfl⟩ (by kernel_rfl) rfl plain (by kernel_rfl)
#print axioms proved
end Go.Proofs.YtgoampbebjfenaaGreatDoor.mirrorReads
