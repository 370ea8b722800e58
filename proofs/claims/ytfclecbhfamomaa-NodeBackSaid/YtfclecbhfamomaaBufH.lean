/- Layer 15 (buf): With. -/
import Derived.Test.YtfclecbhfamomaaBufE
namespace Go.Proofs.Ytfclecbhfamomaa.Buf
open Go Go.RowKit Go.Proofs.Ytfclecbhfamomaa Go.Proofs.Ytfclecbhfamomaa.Lend Go.Proofs.Ytfclecbhfamomaa.Rec Go.Proofs.Ytfclecbhfamomaa.Msg
set_option linter.unusedVariables false

/-- a buffer, an update and what is answered, each in a block -/
structure Wi (w0 : World) (v : Value) (u : Up) (r : Value) (w : World) : Prop where
  b : Has w w0.heap.size 29 [v]
  u : Has w (w0.heap.size + 1) 70 (encU u)
  r : Has w (w0.heap.size + 1 + 1) 29 [r]
  bel : Below w0.heap.size w0 w
section
variable {w0 w w' : World} {v r : Value} {u u' : Up}
theorem Wi.on (h : Wi w0 v u r w) (hb : Below w.heap.size w w') : Wi w0 v u r w' := ⟨h.b.below hb h.b.lt, h.u.below hb h.u.lt, h.r.below hb h.r.lt, below_on h.bel hb⟩
theorem Wi.drew (h : Wi w0 v u r w) : Wi w0 v u r w.drew := ⟨h.b.drew, h.u.drew, h.r.drew, h.bel.drew⟩
theorem Wi.new (w : World) (v : Value) (u : Up) : Wi w v u (.slice none 0 0) (((w.alloc (.cells #[v] 29)).alloc (.cells (encU u).toArray 70)).alloc (.cells #[.slice none 0 0] 29)) := by
  have h1 := Has.new w [v] 29
  have h2 := Has.new (w.alloc (.cells #[v] 29)) (encU u) 70
  have h3 := Has.new ((w.alloc (.cells #[v] 29)).alloc (.cells (encU u).toArray 70)) [.slice none 0 0] 29
  simp only [World.size_alloc] at h2 h3
  exact ⟨(h1.alloc _).alloc _, h2.alloc _, h3, below_nw (below_nw (below_new w _) _) _⟩
theorem Wi.setU (h : Wi w0 v u r w) (u' : Up) : Wi w0 v u' r ((((w.setCell ⟨w0.heap.size + 1, 0, none⟩ (.int .u8 u'.kind)).setCell ⟨w0.heap.size + 1, 1, none⟩ (.string (Lend.strOf u'.key))).setCell ⟨w0.heap.size + 1, 2, none⟩ (.string (Lend.strOf u'.val))).setCell ⟨w0.heap.size + 1, 3, none⟩ (.int .u64 u'.delta)) := by
  have hn : w0.heap.size + 1 ≠ w0.heap.size := by omega
  have hn2 : w0.heap.size + 1 ≠ w0.heap.size + 1 + 1 := by omega
  have hle : w0.heap.size ≤ w0.heap.size + 1 := by omega
  refine ⟨?_, (((h.u.set 0 _).set 1 _).set 2 _).set 3 _, ?_, ?_⟩
  · exact (((h.b.setOther hn _).setOther hn _).setOther hn _).setOther hn _
  · exact (((h.r.setOther hn2 _).setOther hn2 _).setOther hn2 _).setOther hn2 _
  · exact (((h.bel.setCell hle _).setCell hle _).setCell hle _).setCell hle _
end
/-- three parts in a new block -/
theorem parts3 {w : World} {v0 v1 v2 : Value} {l0 l1 l2 : List Up} (h0 : UR w v0 l0) (h1 : UR w v1 l1) (h2 : UR w v2 l2) (t : TypeId) : Parts (w.alloc (.cells #[v0, v1, v2] t)) w.heap.size [l0, l1, l2] := by
  have hx := Has.new w [v0, v1, v2] t
  have hb := below_new w (.cells #[v0, v1, v2] t)
  intro i hi
  match i, hi with
  | 0, _ => exact ⟨v0, hx.cell 0, h0.below hb⟩
  | 1, _ => exact ⟨v1, hx.cell 1, h1.below hb⟩
  | 2, _ => exact ⟨v2, hx.cell 2, h2.below hb⟩
theorem ur_one {w : World} {g : Nat} {u : Up} (h : Has w g 70 (encU u)) : UR w (.slice (some ⟨g, 0, none⟩) 1 1) [u] := by
  refine ⟨_, 1, rfl, fun _ => ⟨g, 0, rfl, fun i hi j hj => ?_⟩⟩
  have : i = 0 := by simp at hi; exact hi
  subst this
  rw [h.cell]
  simp
set_option maxRecDepth 100000 in
set_option maxHeartbeats 8000000 in
theorem with_any_yes {w : World} {v : Value} {l : List Up} {u : Up} (h : UR w v l) (hcp : CpOk v) (hs : Srt l) (hl : l.length ≤ 100000) (ht : ∀ x ∈ l, Tm x) (hu : Tm u) (hth : thK l u.key = true) :
    Calls Try.prog 22 #[.agg #[v], agU u] w fun e w' => ∃ v', e = .returned (.agg #[v']) ∧ RA w' w.heap.size v' (withU l u) ∧ Below w.heap.size w w' := by
  have HWI := Lib.hid (Wi.new w v u)
  have HUE : Hid (encU u = [.int .u8 u.kind, .string (Lend.strOf u.key), .string (Lend.strOf u.val), .int .u64 u.delta]) := Lib.hid rfl
  rw [HUE.out] at HWI
  obtain ⟨w1, hw1⟩ : ∃ x, x = ((w.alloc (.cells #[v] 29)).alloc (.cells #[.int .u8 u.kind, .string (Lend.strOf u.key), .string (Lend.strOf u.val), .int .u64 u.delta] 70)).alloc (.cells #[.slice none 0 0] 29) := ⟨_, rfl⟩
  replace HWI := Lib.hid (show Wi w v u (.slice none 0 0) w1 by rw [hw1]; exact HWI.out)
  have HU := Lib.hid (h.below HWI.out.bel)
  have HU0 := Lib.hid h
  have HPL := Lib.hid (place_any u.key HU.out hs (by omega))
  obtain ⟨a, cap, rfl⟩ := h.slice
  have hp := plK_le l u.key
  have cb := HWI.out.b.cell 0
  have cu := HWI.out.u.cell 1
  rw [HUE.out] at cu
  simp only [List.getElem?_cons_zero, List.getElem?_cons_succ] at cb cu
  have hnc : l.length ≤ cap := hcp
  have HT := Lib.hid ht
  have HTU := Lib.hid hu
  obtain ⟨p, hpe⟩ : ∃ p, p = plK l u.key := ⟨_, rfl⟩
  obtain ⟨n, hn⟩ : ∃ n, n = l.length := ⟨_, rfl⟩
  have HN := Lib.hid hn
  have hpl := (thK_yes hth).1
  have HWE := Lib.hid (with_yes hs hth)
  rw [hth] at HPL
  obtain ⟨x, hx⟩ : ∃ x, x = l[plK l u.key]'hpl := ⟨_, rfl⟩
  rw [← hx] at HWE
  have HTX := Lib.hid (show Tm x by rw [hx]; exact ht _ (List.getElem_mem _))
  obtain ⟨g, off, rfl⟩ := ur_some h (by omega)
  have HCC := Lib.hid (ur_cells HU.out (plK l u.key) hpl)
  rw [← hx] at HCC
  rw [← hpe] at HCC HPL hpl HWE hp
  rw [← hn] at hpl hl cb HPL hp hnc hw1 HWI HU HU0 ⊢
  have hpi : (p : Int) < (n : Int) := by omega
  unfold agU
  clear h hs hn hx hpe hth hcp ht hu
  go_enter Try.func22, Try.ntmps22
  go_wp2_with fail
  rw [← hw1]
  clear hw1
  go_wp2_with fail
  refine HPL.out.mono ?_
  rintro e w2 ⟨rfl, hb2⟩
  have HWI2 := Lib.hid (HWI.out.on hb2)
  have HU2 := Lib.hid (HU.out.below hb2)
  have cb2 := keep1 cb hb2
  obtain ⟨c0, c1, c2, c3⟩ := HCC.out
  have c0 := keep1 c0 hb2
  have c1 := keep1 c1 hb2
  have c2 := keep1 c2 hb2
  have c3 := keep1 c3 hb2
  have e0 := HWI2.out.u.cell 0
  have e1 := HWI2.out.u.cell 1
  have e2 := HWI2.out.u.cell 2
  have e3 := HWI2.out.u.cell 3
  have f0 := HWI2.out.u.frozen 0
  have f1 := HWI2.out.u.frozen 1
  have f2 := HWI2.out.u.frozen 2
  have f3 := HWI2.out.u.frozen 3
  rw [HUE.out] at e0 e1 e2 e3
  simp only [List.getElem?_cons_zero, List.getElem?_cons_succ] at e0 e1 e2 e3
  clear hb2 cb cu
  go_wp2_with fail
  have HJ : Hid (∀ W, Calls Try.prog 42 #[.agg #[.int .u8 x.kind, .string (Lend.strOf x.key), .string (Lend.strOf x.val), .int .u64 x.delta], .agg #[.int .u8 u.kind, .string (Lend.strOf u.key), .string (Lend.strOf u.val), .int .u64 u.delta]] W fun e w' => e = .returned (.agg #[.int .u8 (joU x u).kind, .string (Lend.strOf (joU x u).key), .string (Lend.strOf (joU x u).val), .int .u64 (joU x u).delta]) ∧ Below W.heap.size W w') := Lib.hid (fun W => join_any x u W HTX.out HTU.out)
  obtain ⟨y, hy⟩ : ∃ y, y = joU x u := ⟨_, rfl⟩
  rw [← hy] at HJ HWE
  clear hy
  go_cut [] (fun wx => Wi w (.slice (some ⟨g, off, none⟩) n cap) y (.slice none 0 0) wx)
  case first =>
    go_region_with (go_at_call 42; refine (HJ.out _).mono ?_; rintro e w3 ⟨rfl, hb3⟩; have hw3 := Lib.hid (HWI2.out.drew.on hb3); clear e0 e1 e2 e3 f0 f1 f2 f3; have e0 := hw3.out.u.cell 0; have e1 := hw3.out.u.cell 1; have e2 := hw3.out.u.cell 2; have e3 := hw3.out.u.cell 3; have f0 := hw3.out.u.frozen 0; have f1 := hw3.out.u.frozen 1; have f2 := hw3.out.u.frozen 2; have f3 := hw3.out.u.frozen 3; rw [HUE.out] at e0 e1 e2 e3; simp only [List.getElem?_cons_zero, List.getElem?_cons_succ] at e0 e1 e2 e3; clear hb3)
    all_goals
      go_wp2_with fail
      go_meet
      exact Wi.setU (Hid.out (by assumption)) y
  case rest =>
    rename World => wx
    have HW3 := Lib.hid hcut
    have HU3 := Lib.hid (HU0.out.below HW3.out.bel)
    clear hcut HWI2 HU2 cb2 c0 c1 c2 c3 e0 e1 e2 e3 f0 f1 f2 f3 HJ
    obtain ⟨a1, hr1, ha1⟩ := run_upto (some ⟨g, off, none⟩) n cap p (by omega) hnc
    obtain ⟨a2, m2, c2, hr2, hm2, hc2, ha2⟩ := run_from (some ⟨g, off, none⟩) n cap (p + 1) (by omega) hnc
    have hu1 := ur_part HU3.out hnc 0 p cap (by omega) (by omega)
    have hu2 := ur_part HU3.out hnc (p + 1) n c2 (by omega) (Nat.le_refl _)
    rw [← ha1, Nat.sub_zero, List.drop_zero] at hu1
    rw [← ha2, List.take_of_length_le (by rw [HN.out]; exact Nat.le_refl _), ← hm2] at hu2
    have HU1 := Lib.hid hu1
    have HU2 := Lib.hid hu2
    clear hu1 hu2 ha1 ha2 hm2 hc2
    have d0 := HW3.out.u.cell 0
    have d1 := HW3.out.u.cell 1
    have d2 := HW3.out.u.cell 2
    have d3 := HW3.out.u.cell 3
    have db := HW3.out.b.cell 0
    have hlt : w.heap.size + 1 + 1 < wx.heap.size := HW3.out.r.lt
    have hlt1 : w.heap.size + 1 < wx.heap.size := by omega
    have hlt0 : w.heap.size < wx.heap.size := by omega
    have HYE : Hid (encU y = [.int .u8 y.kind, .string (Lend.strOf y.key), .string (Lend.strOf y.val), .int .u64 y.delta]) := Lib.hid rfl
    rw [HYE.out] at d0 d1 d2 d3
    simp only [List.getElem?_cons_zero, List.getElem?_cons_succ] at d0 d1 d2 d3 db
    have hwp : IntKind.i64.wrap ((p : Int) + 1) = (p : Int) + 1 := IntWalk.i64_in _ (by omega)
    rw [show (((p + 1 : Nat)) : Int) = (p : Int) + 1 by omega] at hr2
    have HFL := Lib.hid (show [l.take p, [y], l.drop (p + 1)].flatten = withU l u by rw [HWE.out]; simp)
    have HLN := Lib.hid (show (withU l u).length ≤ 1000000 by have := with_len l u; have := HN.out; omega)
    go_wp2_with fail
    have HP3 := Lib.hid (parts3 (w := wx.alloc (.cells #[.int .u8 y.kind, .string (Lend.strOf y.key), .string (Lend.strOf y.val), .int .u64 y.delta] 70)) (HU1.out.below (below_new wx _)) (ur_one (u := y) (Has.new wx (encU y) 70)) (HU2.out.below (below_new wx _)) 27)
    simp only [World.size_alloc] at HP3
    have HCON := Lib.hid (concat_any 3 rfl (HP3.out.on (below_dr (Below.refl _ _))) (by decide) (by rw [HFL.out]; exact HLN.out))
    rw [HFL.out] at HCON
    have HW5 := Lib.hid (((HW3.out.on (below_new wx (.cells #[.int .u8 y.kind, .string (Lend.strOf y.key), .string (Lend.strOf y.val), .int .u64 y.delta] 70))).on (below_new _ (.cells #[.slice a1 p cap, .slice (some ⟨wx.heap.size, 0, none⟩) 1 1, .slice a2 m2 c2] 27))).drew)
    go_region_with (go_at_call 40; refine HCON.out.mono ?_; rintro e w4 ⟨v4, rfl, hr4, hb4⟩; have hw4 := Lib.hid (HW5.out.on hb4); have z0 := hw4.out.r.cell 0; have z1 := hw4.out.r.frozen 0; simp only [List.getElem?_cons_zero] at z0; obtain ⟨ao, cp, rfl, _⟩ := own_shape hr4; have hr5 := Lib.hid hr4; clear hr4 hb4)
    all_goals
      go_wp2_with fail
      exact bodyPost_ret (v := .agg #[.slice ao _ cp]) (by simp [results, Try.results22, go_sem, z0]) rfl ⟨_, rfl, own_base (ro_far hr5.out (by simp; omega) _) (by simp; omega), bel_sr hw4.out.bel⟩
end Go.Proofs.Ytfclecbhfamomaa.Buf
