/- Layer 15 (buf): With, where there is none of its key; With, whole. -/
import Derived.Test.YtfclecbhfamomaaBufH
namespace Go.Proofs.Ytfclecbhfamomaa.Buf
open Go Go.RowKit Go.Proofs.Ytfclecbhfamomaa Go.Proofs.Ytfclecbhfamomaa.Lend Go.Proofs.Ytfclecbhfamomaa.Rec Go.Proofs.Ytfclecbhfamomaa.Msg
set_option linter.unusedVariables false

set_option maxRecDepth 100000 in
set_option maxHeartbeats 8000000 in
theorem with_any_no {w : World} {v : Value} {l : List Up} {u : Up} (h : UR w v l) (hcp : CpOk v) (hs : Srt l) (hl : l.length ≤ 100000) (ht : ∀ x ∈ l, Tm x) (hu : Tm u) (hth : thK l u.key = false) :
    Calls Try.prog 22 #[.agg #[v], agU u] w fun e w' => ∃ v', e = .returned (.agg #[v']) ∧ RA w' w.heap.size v' (withU l u) ∧ Below w.heap.size w w' := by
  have HWI := Lib.hid (Wi.new w v u)
  have HUE : Hid (encU u = [.int .u8 u.kind, .string (Lend.strOf u.key), .string (Lend.strOf u.val), .int .u64 u.delta]) := Lib.hid rfl
  rw [HUE.out] at HWI
  obtain ⟨w1, hw1⟩ : ∃ x, x = ((w.alloc (.cells #[v] 29)).alloc (.cells #[.int .u8 u.kind, .string (Lend.strOf u.key), .string (Lend.strOf u.val), .int .u64 u.delta] 70)).alloc (.cells #[.slice none 0 0] 29) := ⟨_, rfl⟩
  replace HWI := Lib.hid (show Wi w v u (.slice none 0 0) w1 by rw [hw1]; exact HWI.out)
  have HU := Lib.hid (h.below HWI.out.bel)
  have HU0 := Lib.hid h
  have HPL := Lib.hid (place_any u.key HU.out hs (by omega))
  obtain ⟨a, cap, rfl⟩ := h.slice
  have hp := plK_le l u.key
  have cb := HWI.out.b.cell 0
  have cu := HWI.out.u.cell 1
  rw [HUE.out] at cu
  simp only [List.getElem?_cons_zero, List.getElem?_cons_succ] at cb cu
  have hnc : l.length ≤ cap := hcp
  have HT := Lib.hid ht
  have HTU := Lib.hid hu
  obtain ⟨p, hpe⟩ : ∃ p, p = plK l u.key := ⟨_, rfl⟩
  obtain ⟨n, hn⟩ : ∃ n, n = l.length := ⟨_, rfl⟩
  have HN := Lib.hid hn
  have HWE := Lib.hid (with_no hs hth)
  rw [hth] at HPL
  rw [← hpe] at HPL HWE hp
  rw [← hn] at hl cb HPL hp hnc hw1 HWI HU HU0 ⊢
  unfold agU
  clear h hs hn hpe hth hcp ht hu
  go_enter Try.func22, Try.ntmps22
  go_wp2_with fail
  rw [← hw1]
  clear hw1
  go_wp2_with fail
  refine HPL.out.mono ?_
  rintro e wx ⟨rfl, hb2⟩
  have HW3 := Lib.hid (HWI.out.on hb2)
  have HU3 := Lib.hid (HU0.out.below HW3.out.bel)
  clear hb2 cb cu
  obtain ⟨a1, hr1, ha1⟩ := run_upto a n cap p hp hnc
  obtain ⟨a2, m2, c2, hr2, hm2, hc2, ha2⟩ := run_from a n cap p hp hnc
  have hu1 := ur_part HU3.out hnc 0 p cap (by omega) hp
  have hu2 := ur_part HU3.out hnc p n c2 hp (Nat.le_refl _)
  rw [← ha1, Nat.sub_zero, List.drop_zero] at hu1
  rw [← ha2, List.take_of_length_le (by rw [HN.out]; exact Nat.le_refl _), ← hm2] at hu2
  have HU1 := Lib.hid hu1
  have HU2 := Lib.hid hu2
  clear hu1 hu2 ha1 ha2 hm2 hc2
  have d0 := HW3.out.u.cell 0
  have d1 := HW3.out.u.cell 1
  have d2 := HW3.out.u.cell 2
  have d3 := HW3.out.u.cell 3
  have db := HW3.out.b.cell 0
  have hlt : w.heap.size + 1 + 1 < wx.heap.size := HW3.out.r.lt
  have hlt1 : w.heap.size + 1 < wx.heap.size := by omega
  have hlt0 : w.heap.size < wx.heap.size := by omega
  rw [HUE.out] at d0 d1 d2 d3
  simp only [List.getElem?_cons_zero, List.getElem?_cons_succ] at d0 d1 d2 d3 db
  have HFL := Lib.hid (show [l.take p, [u], l.drop p].flatten = withU l u by rw [HWE.out]; simp)
  have HLN := Lib.hid (show (withU l u).length ≤ 1000000 by have := with_len l u; have := HN.out; omega)
  go_wp2_with fail
  have HP3 := Lib.hid (parts3 (w := wx.alloc (.cells #[.int .u8 u.kind, .string (Lend.strOf u.key), .string (Lend.strOf u.val), .int .u64 u.delta] 70)) (HU1.out.below (below_new wx _)) (ur_one (u := u) (Has.new wx (encU u) 70)) (HU2.out.below (below_new wx _)) 27)
  simp only [World.size_alloc] at HP3
  have HCON := Lib.hid (concat_any 3 rfl (HP3.out.on (below_dr (Below.refl _ _))) (by decide) (by rw [HFL.out]; exact HLN.out))
  rw [HFL.out] at HCON
  have HW5 := Lib.hid (((HW3.out.on (below_new wx (.cells #[.int .u8 u.kind, .string (Lend.strOf u.key), .string (Lend.strOf u.val), .int .u64 u.delta] 70))).on (below_new _ (.cells #[.slice a1 p cap, .slice (some ⟨wx.heap.size, 0, none⟩) 1 1, .slice a2 m2 c2] 27))).drew)
  go_region_with (go_at_call 40; refine HCON.out.mono ?_; rintro e w4 ⟨v4, rfl, hr4, hb4⟩; have hw4 := Lib.hid (HW5.out.on hb4); have z0 := hw4.out.r.cell 0; have z1 := hw4.out.r.frozen 0; simp only [List.getElem?_cons_zero] at z0; obtain ⟨ao, cp, rfl, _⟩ := own_shape hr4; have hr5 := Lib.hid hr4; clear hr4 hb4)
  all_goals
    go_wp2_with fail
    exact bodyPost_ret (v := .agg #[.slice ao _ cp]) (by simp [results, Try.results22, go_sem, z0]) rfl ⟨_, rfl, own_base (ro_far hr5.out (by simp; omega) _) (by simp; omega), bel_sr hw4.out.bel⟩
theorem with_any {w : World} {v : Value} {l : List Up} {u : Up} (h : UR w v l) (hcp : CpOk v) (hs : Srt l) (hl : l.length ≤ 100000) (ht : ∀ x ∈ l, Tm x) (hu : Tm u) :
    Calls Try.prog 22 #[.agg #[v], agU u] w fun e w' => ∃ v', e = .returned (.agg #[v']) ∧ RA w' w.heap.size v' (withU l u) ∧ Below w.heap.size w w' := by
  cases hth : thK l u.key with
  | true => exact with_any_yes h hcp hs hl ht hu hth
  | false => exact with_any_no h hcp hs hl ht hu hth
end Go.Proofs.Ytfclecbhfamomaa.Buf
