/- Layer 15 (buf): Cut. -/
import Derived.Test.YtfclecbhfamomaaBufE
namespace Go.Proofs.Ytfclecbhfamomaa.Buf
open Go Go.RowKit Go.Proofs.Ytfclecbhfamomaa Go.Proofs.Ytfclecbhfamomaa.Lend Go.Proofs.Ytfclecbhfamomaa.Rec Go.Proofs.Ytfclecbhfamomaa.Msg
set_option linter.unusedVariables false

/-- a buffer and both that are answered, each in a block -/
structure Ci (w0 : World) (v r s : Value) (w : World) : Prop where
  b : Has w w0.heap.size 29 [v]
  r : Has w (w0.heap.size + 1) 29 [r]
  s : Has w (w0.heap.size + 1 + 1) 29 [s]
  bel : Below w0.heap.size w0 w
section
variable {w0 w w' : World} {v r s : Value}
theorem Ci.on (h : Ci w0 v r s w) (hb : Below w.heap.size w w') : Ci w0 v r s w' := ⟨h.b.below hb h.b.lt, h.r.below hb h.r.lt, h.s.below hb h.s.lt, below_on h.bel hb⟩
theorem Ci.new (w : World) (v r s : Value) : Ci w v r s (((w.alloc (.cells #[v] 29)).alloc (.cells #[r] 29)).alloc (.cells #[s] 29)) := by
  have h1 := Has.new w [v] 29
  have h2 := Has.new (w.alloc (.cells #[v] 29)) [r] 29
  have h3 := Has.new ((w.alloc (.cells #[v] 29)).alloc (.cells #[r] 29)) [s] 29
  simp only [World.size_alloc] at h2 h3
  exact ⟨(h1.alloc _).alloc _, h2.alloc _, h3, below_nw (below_nw (below_new w _) _) _⟩
end
theorem partsTwo {w : World} {v0 v1 : Value} {l0 l1 : List Up} (h0 : UR w v0 l0) (h1 : UR w v1 l1) (t : TypeId) : Parts (w.alloc (.cells #[v0, v1] t)) w.heap.size [l0, l1] := by
  have hx := Has.new w [v0, v1] t
  have hb := below_new w (.cells #[v0, v1] t)
  intro i hi
  match i, hi with
  | 0, _ => exact ⟨v0, hx.cell 0, h0.below hb⟩
  | 1, _ => exact ⟨v1, hx.cell 1, h1.below hb⟩
/-- what Cut answers -/
def CuP (w : World) (l : List Up) (low high : List UInt8) (e : Ending) (w' : World) : Prop :=
  ∃ v1 v2, e = .returned (.tuple #[.agg #[v1], .agg #[v2]]) ∧ RA w' w.heap.size v1 (cutI low high l) ∧ RA w' w.heap.size v2 (cutO low high l) ∧ Below w.heap.size w w'
set_option maxRecDepth 100000 in
set_option maxHeartbeats 8000000 in
theorem cut_any {w : World} {v : Value} {l : List Up} (low high : List UInt8) (h : UR w v l) (hcp : CpOk v) (hs : Srt l) (hl : l.length ≤ 100000) :
    Calls Try.prog 20 #[.agg #[v], .string (Lend.strOf low), .string (Lend.strOf high)] w (CuP w l low high) := by
  obtain ⟨w1, hw1⟩ : ∃ x, x = ((w.alloc (.cells #[v] 29)).alloc (.cells #[.slice none 0 0] 29)).alloc (.cells #[.slice none 0 0] 29) := ⟨_, rfl⟩
  have HCI := Lib.hid (show Ci w v (.slice none 0 0) (.slice none 0 0) w1 by rw [hw1]; exact Ci.new _ _ _ _)
  have HU0 := Lib.hid h
  have HWN := Lib.hid (within_any low high (h.below HCI.out.bel) hs (by omega))
  have HI := Lib.hid (cutI_at hs low high)
  have HO := Lib.hid (cutO_at hs low high)
  have hft := fromK_le l low high
  have htl := toK_le l low high
  obtain ⟨a, cap, rfl⟩ := h.slice
  have cb := HCI.out.b.cell 0
  simp only [List.getElem?_cons_zero] at cb
  have hnc : l.length ≤ cap := hcp
  obtain ⟨f, hf⟩ : ∃ f, f = plK l low := ⟨_, rfl⟩
  obtain ⟨t, ht⟩ : ∃ t, t = toK l low high := ⟨_, rfl⟩
  obtain ⟨n, hn⟩ : ∃ n, n = l.length := ⟨_, rfl⟩
  have HN := Lib.hid hn
  rw [← hf, ← ht] at HWN HI HO hft
  rw [← ht] at htl
  rw [← hn] at hl htl cb HWN hnc hw1 HCI HU0 ⊢
  clear h hs hf ht hn hcp
  obtain ⟨K0, hK0⟩ : ∃ x, x = Lend.strOf low := ⟨_, rfl⟩
  obtain ⟨K1, hK1⟩ : ∃ x, x = Lend.strOf high := ⟨_, rfl⟩
  rw [← hK0, ← hK1] at HWN ⊢
  clear hK0 hK1
  go_enter Try.func20, Try.ntmps20
  go_wp2_with fail
  rw [← hw1]
  clear hw1
  go_wp2_with fail
  refine HWN.out.mono ?_
  rintro e w2 ⟨rfl, hb2⟩
  have HC2 := Lib.hid (HCI.out.on hb2)
  have HU2 := Lib.hid (HU0.out.below HC2.out.bel)
  have cb2 := keep1 cb hb2
  obtain ⟨a3, m3, c3, hr3, hm3, hc3, ha3⟩ := run_mid a n cap f t hft htl hnc
  have hu3 := ur_part HU2.out hnc f t c3 hft htl
  rw [← ha3, ← hm3, ← HI.out] at hu3
  have HCL := Lib.hid (clone_any hu3 (by have := cutI_len low high l; have := HN.out; omega))
  clear hb2 cb hm3 hc3 ha3 hu3
  go_wp2_with fail
  refine HCL.out.mono ?_
  rintro e w3 ⟨v3, rfl, hro, hb3⟩
  have HR3 := Lib.hid (own_base hro HC2.out.bel.size)
  have HR3' := Lib.hid hro
  have HC3 := Lib.hid (HC2.out.on hb3)
  have HU3 := Lib.hid (HU2.out.below hb3)
  have db := HC3.out.b.cell 0
  simp only [List.getElem?_cons_zero] at db
  have hlt : w.heap.size + 1 + 1 < w3.heap.size := HC3.out.s.lt
  have hlt1 : w.heap.size + 1 < w3.heap.size := by omega
  have hlt0 : w.heap.size < w3.heap.size := by omega
  obtain ⟨a1, hr1, ha1⟩ := run_upto a n cap f (by omega) hnc
  obtain ⟨a2, m2, c2, hr2, hm2, hc2, ha2⟩ := run_from a n cap t htl hnc
  have hu1 := ur_part HU3.out hnc 0 f cap (by omega) (by omega)
  have hu2 := ur_part HU3.out hnc t n c2 htl (Nat.le_refl _)
  rw [← ha1, Nat.sub_zero, List.drop_zero] at hu1
  rw [← ha2, List.take_of_length_le (by rw [HN.out]; exact Nat.le_refl _), ← hm2] at hu2
  have HP2 := Lib.hid (partsTwo hu1 hu2 27)
  have HFL := Lib.hid (show [l.take f, l.drop t].flatten = cutO low high l by rw [HO.out]; simp)
  have HCON := Lib.hid (concat_any 2 rfl (HP2.out.on (below_dr (Below.refl _ _))) (by decide) (by rw [HFL.out]; have := cutO_len low high l; have := HN.out; omega))
  rw [HFL.out] at HCON
  have HC4 := Lib.hid (HC3.out.on (below_dr (below_new w3 (.cells #[.slice a1 f cap, .slice a2 m2 c2] 27))))
  have HB4 := Lib.hid (below_dr (below_new w3 (.cells #[.slice a1 f cap, .slice a2 m2 c2] 27)))
  clear hu1 hu2 ha1 ha2 hm2 hc2 hb3 cb2 hro
  go_wp2_with fail
  go_cut [10, 11] (fun x y wx => ∃ v4 w4, x = v3 ∧ y = v4 ∧ wx = w4 ∧ RA w4 (w.heap.size + 1 + 1 + 1) v4 (cutO low high l) ∧ Below w3.heap.size w3 w4)
  case first =>
    go_region_with (go_at_call 40; refine HCON.out.mono ?_; rintro e w4 ⟨v4, rfl, hr4, hb4⟩)
    all_goals
      go_wp2_with fail
      go_meet
      exact ⟨_, _, rfl, rfl, rfl, own_base hr4 (by simp; omega), below_on HB4.out hb4⟩
  case rest =>
    obtain ⟨v4, w4, rfl, rfl, hww, hr4, hb4⟩ := hcut
    rename World => wx
    have hww := hww.symm
    subst hww
    have hc5 := HC3.out.on hb4
    have z0 := hc5.r.cell 0
    have z1 := hc5.r.frozen 0
    have y0 := hc5.s.cell 0
    have y1 := hc5.s.frozen 0
    simp only [List.getElem?_cons_zero] at z0 y0
    have HB5 := Lib.hid hc5.bel
    have HR4 := Lib.hid hr4
    have HR5 := Lib.hid (own_base (own_bel HR3'.out hb4) (show w.heap.size + 1 + 1 + 1 ≤ w2.heap.size from HC2.out.s.lt))
    obtain ⟨ao, cp, rfl, _⟩ := own_shape HR5.out
    obtain ⟨ao2, cp2, rfl, _⟩ := own_shape HR4.out
    clear hr4 hb4 hc5 db HR3 HR3'
    go_wp2_with fail
    exact bodyPost_ret (v := .tuple #[.agg #[.slice ao _ cp], .agg #[.slice ao2 _ cp2]]) (by simp [results, Try.results20, go_sem, z0, y0]) rfl ⟨_, _, rfl, own_base (ro_far (ro_far HR5.out (by omega) _) (by omega) _) (by omega), own_base (ro_far (ro_far HR4.out (by omega) _) (by omega) _) (by omega), bel_sr (bel_1 HB5.out)⟩
end Go.Proofs.Ytfclecbhfamomaa.Buf
