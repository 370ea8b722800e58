/- Contracts of layer 3 (dev): New. -/
import Derived.Test.YtlnocdmechidfaaRepeat
import Derived.Test.YtlnocdmechidfaaDevA
namespace Go.Proofs.Ytlnocdmechidfaa.Dev
open Go.RowKit Go.Proofs.Ytlnocdmechidfaa
set_option linter.unusedVariables false

theorem new_no (n s : Int) (w : World) (h : shapeR n s = false) :
    Calls Try.prog 4 #[.agg #[.int .i64 n, .int .i64 s]] w fun e w' => e = .returned (.tuple #[.pointer none, .int .i64 2]) ∧ Below w.heap.size w w' := by
  have H := Lib.hid h
  clear h
  go_enter Try.func4, Try.ntmps4
  go_wp2_with fail
  refine (right_any n s _).mono ?_
  rintro e w1 ⟨rfl, hb⟩
  rw [H.out]
  have HB := Lib.hid (((Below.refl w.heap.size w).alloc (Nat.le_refl _) (.cells #[.int .i64 n, .int .i64 s] 28)).trans (hb.mono (by simp)))
  clear hb
  go_wp2
  go_ret2
  exact ⟨rfl, HB.out⟩

/-- the text of noughts -/
def noughts (s : Nat) : ByteArray := ⟨(Lib.repeatL [0] s).toArray⟩
def Dv.fresh (n s : Nat) : Dv := { size := s, secs := List.replicate n (noughts s, false), cache := [], dead := false, off := false, fuse := 0, lose := 0, stray := 0, tgt := 0, nr := 0, nw := 0, nf := 0 }

theorem noughts_size (s : Nat) : (noughts s).size = s := by
  unfold noughts
  show (Lib.repeatL [0] s).toArray.size = s
  rw [List.size_toArray, Lib.repeatL_length]; simp
theorem Dv.fresh_ok (n s : Nat) (hn1 : 8 ≤ n) (hn2 : n ≤ 4096) (hs1 : 128 ≤ s) (hs2 : s ≤ 1024) : (Dv.fresh n s).Ok := by
  have hn : (Dv.fresh n s).n = n := List.length_replicate
  refine ⟨by rw [hn]; exact hn1, by rw [hn]; exact hn2, hs1, hs2, ?_, fun x hx => (by cases hx), fun x hx => (by cases hx), ?_, ?_, ?_⟩
  · intro x hx
    rw [(List.mem_replicate.1 hx).2]
    exact noughts_size s
  all_goals (show (0 : Nat) ≤ _; omega)
/-- while the device is being made: a: the row of one sector is there; b: the sectors are; c: the device is -/
def NewAt (w : World) (b1 M n s : Nat) (z : ByteArray) (a b c : Bool) (wx : World) : Prop :=
  wx.heap.size = M + 1 + (if c then 3 else if b then 2 else if a then 1 else 0) ∧ Below w.heap.size w wx ∧ Has wx b1 28 [.int .i64 (n : Nat), .int .i64 (s : Nat)] ∧ Has wx M 63 [.string z, .bool false] ∧
  (a = true → Has wx (M + 1) 63 [.string z, .bool false]) ∧ (b = true → Has wx (M + 2) 63 (flatS (List.replicate n (z, false)))) ∧ (c = true → Has wx (M + 3) 70 ((Dv.fresh n s).cells (M + 2) (.slice none 0 0)))
def NewL (w : World) (b1 M n s : Nat) (z : ByteArray) (l : Nat → Bool) (wx : World) : Prop :=
  NewAt w b1 M n s z (l 2) (l 5) (l 7) wx ∧ (l 5 = true → l 2 = true) ∧ (l 6 = true → l 5 = true) ∧ (l 7 = true → l 6 = true)
section
variable {w wx : World} {b1 M n s : Nat} {z : ByteArray}
theorem NewAt.row (h : NewAt w b1 M n s z false false false wx) (hM : w.heap.size ≤ M) : wx.heap.size = M + 1 ∧ NewAt w b1 M n s z true false false (wx.alloc (.cells #[.string z, .bool false] 63)) := by
  obtain ⟨h1, h2, h3, h4, _, _, _⟩ := h
  have hz : wx.heap.size = M + 1 := by simpa using h1
  refine ⟨hz, by simp [hz], h2.alloc (by omega) _, h3.alloc _, h4.alloc _, fun _ => ?_, fun h => (by cases h), fun h => (by cases h)⟩
  have := Has.new wx [.string z, .bool false] 63
  rw [hz] at this; exact this
theorem NewAt.boxed (h : NewAt w b1 M n s z true true false wx) (hM : w.heap.size ≤ M) : wx.heap.size = M + 3 ∧ NewAt w b1 M n s z true true true (wx.alloc (.cells ((Dv.fresh n s).cells (M + 2) (.slice none 0 0)).toArray 70)) := by
  obtain ⟨h1, h2, h3, h4, h5, h6, _⟩ := h
  have hz : wx.heap.size = M + 3 := by simpa using h1
  refine ⟨hz, by simp [hz], h2.alloc (by omega) _, h3.alloc _, h4.alloc _, fun h => (h5 h).alloc _, fun h => (h6 h).alloc _, fun _ => ?_⟩
  have := Has.new wx ((Dv.fresh n s).cells (M + 2) (.slice none 0 0)) 70
  rw [hz] at this; exact this
theorem NewAt.secs {w' : World} (h : NewAt w b1 M n s z true false false wx) (hM : w.heap.size ≤ M) (hg : Has w' wx.heap.size 63 (flatS (List.replicate n (z, false)))) (hb : Below wx.heap.size wx w') (hz' : w'.heap.size = wx.heap.size + 1) :
    wx.heap.size = M + 2 ∧ NewAt w b1 M n s z true true false w' := by
  obtain ⟨h1, h2, h3, h4, h5, _, _⟩ := h
  have hz : wx.heap.size = M + 2 := by simpa using h1
  refine ⟨hz, by simp [hz', hz], h2.trans (hb.mono (by omega)), h3.below hb h3.lt, h4.below hb h4.lt, fun h => (h5 h).below hb (h5 h).lt, fun _ => by rw [← hz]; exact hg, fun h => (by cases h)⟩
end

set_option maxRecDepth 100000 in
set_option maxHeartbeats 2000000 in
theorem new_yes (n s : Nat) (w : World) (h : shapeR n s = true) :
    Calls Try.prog 4 #[.agg #[.int .i64 (n : Nat), .int .i64 (s : Nat)]] w fun e w' => ∃ p sb, w.heap.size ≤ p ∧ w.heap.size ≤ sb ∧ e = .returned (.tuple #[.pointer (some ⟨p, 0, none⟩), .int .i64 0]) ∧ DevAt w' p sb (.slice none 0 0) (Dv.fresh n s) ∧ Below w.heap.size w w' := by
  have hr : (8 ≤ n ∧ n ≤ 4096) ∧ 128 ≤ s ∧ s ≤ 1024 := by unfold shapeR at h; simp at h; omega
  obtain ⟨⟨hn1, hn2⟩, hs1, hs2⟩ := hr
  have H := Lib.hid h
  clear h
  go_enter Try.func4, Try.ntmps4
  go_wp2_with fail
  refine (right_any n s _).mono ?_
  rintro e w1 ⟨rfl, hb⟩
  rw [H.out]
  have hbox := (Has.new w [.int .i64 (n : Nat), .int .i64 (s : Nat)] 28).below hb (by simp)
  have hz1 := hb.size
  have hb1 := ((Below.refl w.heap.size w).alloc (Nat.le_refl _) (.cells #[.int .i64 (n : Nat), .int .i64 (s : Nat)] 28)).trans (hb.mono (by simp))
  have hsh1 := hbox.cell 1
  have hsh0 := hbox.cell 0
  simp only [List.getElem?_cons_succ, List.getElem?_cons_zero] at hsh0 hsh1
  have HBOX := Lib.hid hbox
  have HB1 := Lib.hid hb1
  simp only [World.size_alloc] at hz1
  clear hb hbox hb1
  go_wp2_with fail
  refine (Try.strings_Repeat _ s _ (by omega) (show 1 * s ≤ _ by omega)).mono ?_
  rintro e w2 ⟨rfl, hb2⟩
  have HBOX2 := Lib.hid (HBOX.out.below hb2 (by have := HBOX.out.lt; omega))
  have HB2 := Lib.hid (HB1.out.trans (hb2.mono (by omega)))
  have hz2 := hb2.size
  have hsh0 := HBOX2.out.cell 0
  have hsh1 := HBOX2.out.cell 1
  simp only [List.getElem?_cons_succ, List.getElem?_cons_zero] at hsh0 hsh1
  obtain ⟨z, hz⟩ : ∃ z, z = noughts s := ⟨_, rfl⟩
  rw [show (⟨(Lib.repeatL (⟨#[0]⟩ : ByteArray).data.toList s).toArray⟩ : ByteArray) = z from hz.symm]
  have HZ := Lib.hid hz
  clear hb2 hz HB1 HBOX
  have hbox3 := HBOX2.out.alloc (.cells #[.string z, .bool false] 63)
  have hM : w.heap.size ≤ w2.heap.size := HB2.out.size
  have H0 := Lib.hid (show NewL w w.heap.size w2.heap.size n s z (fun _ => false) (w2.alloc (.cells #[.string z, .bool false] 63)).drew from
    ⟨⟨by simp, (HB2.out.alloc hM _).drew, hbox3, Has.new _ [.string z, .bool false] _, fun h => (by cases h), fun h => (by cases h), fun h => (by cases h)⟩, fun h => h, fun h => h, fun h => h⟩)
  obtain ⟨M, hMe⟩ : ∃ M, M = w2.heap.size := ⟨_, rfl⟩
  have HMe := Lib.hid hMe
  rw [← hMe] at H0 hM
  clear hbox3 hMe
  go_wp2_with fail
  rw [← HMe.out]
  refine Reg.region_vals (by kernel_rfl) [(12, .agg #[.int .i64 (n : Nat), .int .i64 (s : Nat)]), (13, .agg #[.string z, .bool false]), (14, .slice (some ⟨M + 1, 0, none⟩) 1 1), (15, .pointer (some ⟨w.heap.size, 0, none⟩)), (16, .int .i64 (n : Nat)), (17, .slice (some ⟨M + 2, 0, none⟩) n n), (18, .agg #[.int .i64 (n : Nat), .int .i64 (s : Nat), .slice (some ⟨M + 2, 0, none⟩) n n, .slice none 0 0, .bool false, .bool false, .int .i64 0, .int .i64 0, .int .i64 0, .int .i64 0, .int .i64 0, .int .i64 0, .int .i64 0]), (19, .pointer (some ⟨M + 3, 0, none⟩)), (2, .pointer (some ⟨M + 3, 0, none⟩)), (3, .int .i64 0)] (NewL w w.heap.size M n s z) (by kernel_rfl) (by kernel_rfl) (by kernel_rfl) (H0.out) ⟨?_, ?_, ?_, ?_, ?_, ?_, ?_, ?_, ?_, ?_, trivial⟩ ?hend
  · -- 0: 12 := Op.load 28 t1
    intro aq wq lq hI hl hdone hlater hold hd ho
    have h1 : aq.tmps.getD 1 undef = .pointer (some ⟨w.heap.size, 0, none⟩) := ho 1 (by kernel_rfl)
    clear hd ho hdone hlater hold
    rw [Array.getD_eq_getD_getElem?] at h1
    have e0 := hI.1.2.2.1.cell 0
    have e1 := hI.1.2.2.1.cell 1
    simp only [List.getElem?_cons_succ, List.getElem?_cons_zero] at e0 e1
    refine Reg.step2_val (.agg #[.int .i64 (n : Nat), .int .i64 (s : Nat)]) ?_ rfl hI trivial
    go_simp
  · -- 1: 13 := Op.load 63 t4
    intro aq wq lq hI hl hdone hlater hold hd ho
    have h4 : aq.tmps.getD 4 undef = .pointer (some ⟨M, 0, none⟩) := ho 4 (by kernel_rfl)
    clear hd ho hdone hlater hold
    rw [Array.getD_eq_getD_getElem?] at h4
    have e0 := hI.1.2.2.2.1.cell 0
    have e1 := hI.1.2.2.2.1.cell 1
    simp only [List.getElem?_cons_succ, List.getElem?_cons_zero] at e0 e1
    refine Reg.step2_val (.agg #[.string z, .bool false]) ?_ rfl hI trivial
    go_simp
  · -- 2: 14 := Op.buildSlice 64 1 #((0, t13))
    intro aq wq lq hI hl hdone hlater hold hd ho
    have h13 : aq.tmps.getD 13 undef = .agg #[.string z, .bool false] := hd 13 (by kernel_rfl)
    clear hd ho hdone hlater hold
    rw [Array.getD_eq_getD_getElem?] at h13
    have g5 : lq 5 = false := by cases h : lq 5 with | false => rfl | true => have := hI.2.1 h; rw [hl] at this; cases this
    have g6 : lq 6 = false := by cases h : lq 6 with | false => rfl | true => have := hI.2.2.1 h; rw [g5] at this; cases this
    have g7 : lq 7 = false := by cases h : lq 7 with | false => rfl | true => have := hI.2.2.2 h; rw [g6] at this; cases this
    have hA := hI.1
    rw [hl, g5, g7] at hA
    obtain ⟨hz, hN⟩ := hA.row hM
    refine Reg.step2_do (.slice (some ⟨M + 1, 0, none⟩) 1 1) (wq.alloc (.cells #[.string z, .bool false] 63)) ?_ rfl ⟨by show NewAt _ _ _ _ _ _ true (lq 5) (lq 7) _; rw [g5, g7]; exact hN, fun _ => rfl, hI.2.2.1, hI.2.2.2⟩ trivial
    simp [execOp]
    go_simp
  · -- 3: 15 := Op.fieldAddr 28 t1 0
    intro aq wq lq hI hl hdone hlater hold hd ho
    have h1 : aq.tmps.getD 1 undef = .pointer (some ⟨w.heap.size, 0, none⟩) := ho 1 (by kernel_rfl)
    clear hd ho hdone hlater hold
    rw [Array.getD_eq_getD_getElem?] at h1
    refine Reg.step2_val (.pointer (some ⟨w.heap.size, 0, none⟩)) ?_ rfl hI trivial
    go_simp
  · -- 4: 16 := Op.load 3 t15
    intro aq wq lq hI hl hdone hlater hold hd ho
    have h15 : aq.tmps.getD 15 undef = .pointer (some ⟨w.heap.size, 0, none⟩) := hd 15 (by kernel_rfl)
    clear hd ho hdone hlater hold
    rw [Array.getD_eq_getD_getElem?] at h15
    have e0 := hI.1.2.2.1.cell 0
    simp only [List.getElem?_cons_zero] at e0
    refine Reg.step2_val (.int .i64 (n : Nat)) ?_ rfl hI trivial
    go_simp
  · -- 5: 17 := Op.call ( value (Operand.func 29), args := #(t14, t16), argT
    intro aq wq lq hI hl hdone hlater hold hd ho
    have h14 : aq.tmps.getD 14 undef = .slice (some ⟨M + 1, 0, none⟩) 1 1 := hd 14 (by kernel_rfl)
    have h16 : aq.tmps.getD 16 undef = .int .i64 (n : Nat) := hd 16 (by kernel_rfl)
    have gd2 : lq 2 = true := hdone 2 (by kernel_rfl)
    clear hd ho hdone hlater hold
    rw [Array.getD_eq_getD_getElem?] at h14 h16
    have g2 : lq 2 = true := gd2
    have g6 : lq 6 = false := by cases h : lq 6 with | false => rfl | true => have := hI.2.2.1 h; rw [hl] at this; cases this
    have g7 : lq 7 = false := by cases h : lq 7 with | false => rfl | true => have := hI.2.2.2 h; rw [g6] at this; cases this
    have hA := hI.1
    rw [hl, g2, g7] at hA
    refine Reg.step2_call 29 #[.slice (some ⟨M + 1, 0, none⟩) 1 1, .int .i64 (n : Nat)] ?_ ((repeat_any (M + 1) n z false wq (hA.2.2.2.2.1 rfl) (by omega) (by omega)).mono ?_)
    · simp [execOp]
      go_simp
    · rintro e w' ⟨rfl, hg, hb, hz'⟩
      obtain ⟨hz, hN⟩ := hA.secs hM hg hb hz'
      exact ⟨_, rfl, by rw [hz]; rfl, ⟨by show NewAt _ _ _ _ _ _ (lq 2) true (lq 7) _; rw [g2, g7]; exact hN, fun _ => g2, fun _ => rfl, hI.2.2.2⟩, trivial⟩
  · -- 6: 18 := Op.build 70 #((0, t12), (1, t17))
    intro aq wq lq hI hl hdone hlater hold hd ho
    have h12 : aq.tmps.getD 12 undef = .agg #[.int .i64 (n : Nat), .int .i64 (s : Nat)] := hd 12 (by kernel_rfl)
    have h17 : aq.tmps.getD 17 undef = .slice (some ⟨M + 2, 0, none⟩) n n := hd 17 (by kernel_rfl)
    have gd5 : lq 5 = true := hdone 5 (by kernel_rfl)
    clear hd ho hdone hlater hold
    rw [Array.getD_eq_getD_getElem?] at h12 h17
    have g5 : lq 5 = true := gd5
    refine Reg.step2_val (.agg #[.int .i64 (n : Nat), .int .i64 (s : Nat), .slice (some ⟨M + 2, 0, none⟩) n n, .slice none 0 0, .bool false, .bool false, .int .i64 0, .int .i64 0, .int .i64 0, .int .i64 0, .int .i64 0, .int .i64 0, .int .i64 0]) ?_ rfl ⟨hI.1, hI.2.1, fun _ => g5, fun _ => rfl⟩ trivial
    simp [execOp]
    go_simp
  · -- 7: 19 := Op.box 70 t18
    intro aq wq lq hI hl hdone hlater hold hd ho
    have h18 : aq.tmps.getD 18 undef = .agg #[.int .i64 (n : Nat), .int .i64 (s : Nat), .slice (some ⟨M + 2, 0, none⟩) n n, .slice none 0 0, .bool false, .bool false, .int .i64 0, .int .i64 0, .int .i64 0, .int .i64 0, .int .i64 0, .int .i64 0, .int .i64 0] := hd 18 (by kernel_rfl)
    have gd6 : lq 6 = true := hdone 6 (by kernel_rfl)
    clear hd ho hdone hlater hold
    rw [Array.getD_eq_getD_getElem?] at h18
    have g6 : lq 6 = true := gd6
    have g5 := hI.2.2.1 g6
    have g2 := hI.2.1 g5
    have hA := hI.1
    rw [hl, g2, g5] at hA
    obtain ⟨hz, hN⟩ := hA.boxed hM
    refine Reg.step2_do (.pointer (some ⟨M + 3, 0, none⟩)) (wq.alloc (.cells ((Dv.fresh n s).cells (M + 2) (.slice none 0 0)).toArray 70)) ?_ rfl ⟨by show NewAt _ _ _ _ _ _ (lq 2) (lq 5) true _; rw [g2, g5]; exact hN, hI.2.1, hI.2.2.1, fun _ => g6⟩ trivial
    simp [execOp]
    go_simp
    simp [Dv.cells, Dv.fresh, Dv.n]
  · -- 8: 2 := Op.assign t19
    intro aq wq lq hI hl hdone hlater hold hd ho
    have h19 : aq.tmps.getD 19 undef = .pointer (some ⟨M + 3, 0, none⟩) := hd 19 (by kernel_rfl)
    clear hd ho hdone hlater hold
    exact Reg.step2_assign (.tmp 19) rfl h19 hI trivial
  · -- 9: 3 := Op.assign (const (0:i64))
    intro aq wq lq hI hl hdone hlater hold hd ho
    clear hd ho hdone hlater hold
    refine Reg.step2_val (.int .i64 0) ?_ rfl hI trivial
    simp [execOp, Act.eval]
    try go_simp
  case hend =>
  intro wx hI
  simp only [Reg.fill, List.foldl_cons, List.foldl_nil, List.setIfInBounds_toArray, List.set_cons_zero, List.set_cons_succ]
  have HI := Lib.hid hI
  clear hI
  go_wp2
  go_ret2
  obtain ⟨⟨h1, h2, h3, h4, h5, h6, h7⟩, _⟩ := HI.out
  have hz := HZ.out
  subst hz
  refine ⟨M + 3, M + 2, by omega, by omega, rfl, ⟨h7 rfl, h6 rfl, World.ownsRow_nil _ _ _ _, by omega, by simp [Value.ownBlock], by simp [Value.ownBlock], ?_⟩, h2⟩
  exact Dv.fresh_ok n s hn1 hn2 hs1 hs2
end Go.Proofs.Ytlnocdmechidfaa.Dev
