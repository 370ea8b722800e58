/- Layer 15 (buf): the law's own same. -/
import Derived.Test.YtiljcfmplbmooaaBufE
import Derived.Test.YtiljcfmplbmooaaBufR
namespace Go.Proofs.Ytiljcfmplbmooaa.Buf
open Go Go.RowKit Go.Proofs.Ytiljcfmplbmooaa Go.Proofs.Ytiljcfmplbmooaa.Lend Go.Proofs.Ytiljcfmplbmooaa.Rec Go.Proofs.Ytiljcfmplbmooaa.Msg
set_option linter.unusedVariables false

theorem getO_self {l : List Up} (hs : Srt l) (k : Nat) (hk : k < l.length) : getO l l[k].key = some l[k] := (getO_iff hs _ _).2 ⟨List.getElem_mem hk, rfl⟩
set_option maxRecDepth 100000 in
set_option maxHeartbeats 8000000 in
theorem same_any {w : World} {bv mv : Value} {l : List Up} (hb : UR w bv l) (hm : UR w mv l) (hs : Srt l) (hl : l.length ≤ 100000) :
    Calls Try.prog 11 #[.agg #[bv], mv] w fun e w' => e = .returned (.bool true) ∧ Below w.heap.size w w' := by
  obtain ⟨a, ca, rfl⟩ := hb.slice
  obtain ⟨b, cb, rfl⟩ := hm.slice
  obtain ⟨w1, hw1⟩ : ∃ x, x = w.alloc (.cells #[.slice a l.length ca] 25) := ⟨_, rfl⟩
  have HX := Lib.hid (show Has w1 w.heap.size 25 [.slice a l.length ca] by rw [hw1]; exact Has.new w _ _)
  have HB1 := Lib.hid (show Below w.heap.size w w1 by rw [hw1]; exact below_new w _)
  have HU := Lib.hid (hb.below HB1.out)
  have HM := Lib.hid (hm.below HB1.out)
  have HS := Lib.hid hs
  have HLI := Lib.hid (list_any HU.out (by omega))
  have HL := Lib.hid hl
  obtain ⟨n, hn⟩ : ∃ n, n = l.length := ⟨_, rfl⟩
  have HN := Lib.hid hn
  rw [← hn] at hl hw1 HX HU HM HLI ⊢
  clear hb hm hs hn
  go_enter Try.func11, Try.ntmps11
  go_wp2_with fail
  rw [← hw1]
  clear hw1
  have cb0 : w1.cell? ⟨w.heap.size, 0, none⟩ = some (.slice a n ca) := HX.out.cell 0
  go_wp2_with fail
  refine HLI.out.mono ?_
  rintro e w2 ⟨v2, rfl, hr2, hb2⟩
  have HB2 := Lib.hid hb2
  have HR2 := Lib.hid (UR.of_own hr2)
  obtain ⟨a2, c2, hv2⟩ := HR2.out.slice
  rw [← HN.out] at hv2
  subst hv2
  have HLN := Lib.hid (len_any (HU.out.below hb2))
  rw [← HN.out] at HLN
  have cb2 : w2.cell? ⟨w.heap.size, 0, none⟩ = some (.slice a n ca) := keep1 cb0 hb2
  clear hr2 hb2 cb0
  go_wp2_with fail
  refine HLN.out.mono ?_
  rintro e w3 ⟨rfl, hb3⟩
  have HB3 := Lib.hid (below_on HB2.out hb3)
  have HR3 := Lib.hid (HR2.out.below hb3)
  clear hb3 cb2 HR2 HLN
  go_wp2_with fail
  go_loopw [26] (fun i wr => ∃ k : Nat, k ≤ n ∧ i = .int .i64 k ∧ Below w3.heap.size w3 wr) (fun i _ => n - (intOf i).toNat)
  case atStart => exact ⟨0, Nat.zero_le _, rfl, Below.refl _ _⟩
  case round =>
    obtain ⟨k, hk, rfl, hb⟩ := hrel
    rename World => wr
    have HB := Lib.hid hb
    by_cases hlt : k < n
    · have hki : (k : Int) < (n : Int) := by omega
      have hki0 : 0 ≤ (k : Int) := by omega
      have hkl : k < l.length := by rw [← HN.out]; exact hlt
      obtain ⟨g, off, rfl⟩ := ur_some HR3.out (by omega)
      obtain ⟨g', off', rfl⟩ := ur_some HM.out (by omega)
      have hc := ur_cells HR3.out k hkl
      have hd := ur_cells HM.out k hkl
      have hg := getO_self HS.out k hkl
      obtain ⟨x, hx⟩ : ∃ x, x = l[k] := ⟨_, rfl⟩
      rw [← hx] at hc hd hg
      have HBW := Lib.hid (show Below w1.heap.size w1 wr from below_on HB3.out hb)
      obtain ⟨c0, c1, c2', c3⟩ := hc
      obtain ⟨d0, d1, d2, d3⟩ := hd
      replace c0 := keep1 c0 hb
      replace c1 := keep1 c1 hb
      replace c2' := keep1 c2' hb
      replace c3 := keep1 c3 hb
      replace d0 := keep1 d0 HBW.out
      replace d1 := keep1 d1 HBW.out
      replace d2 := keep1 d2 HBW.out
      replace d3 := keep1 d3 HBW.out
      have hx0 := HX.out.lt
      have xb : wr.cell? ⟨w.heap.size, 0, none⟩ = some (.slice a n ca) := kst (HX.out.cell 0) HBW.out (Nat.le_refl _)
      have hlt1 : w.heap.size < wr.heap.size := Nat.lt_of_lt_of_le hx0 HBW.out.size
      have HGE := Lib.hid (fun (W : World) (hW : Below w1.heap.size w1 W) => get_any x.key (HU.out.below hW) HS.out (by have := HL.out; omega))
      rw [hg] at HGE
      have HGT : Hid (gtE (some x) = .returned (.tuple #[.agg #[.int .u8 x.kind, .string (Lend.strOf x.key), .string (Lend.strOf x.val), .int .u64 x.delta], .bool true])) := Lib.hid rfl
      rw [HGT.out] at HGE
      obtain ⟨kd, ky, vl, dl⟩ := x
      simp only at c0 c1 c2' c3 d0 d1 d2 d3 HGE
      obtain ⟨KY, hKY⟩ : ∃ z, z = Lend.strOf ky := ⟨_, rfl⟩
      obtain ⟨VL, hVL⟩ : ∃ z, z = Lend.strOf vl := ⟨_, rfl⟩
      rw [← hKY] at c1 d1 HGE
      rw [← hVL] at c2' d2 HGE
      clear hx hg hKY hVL HGT hkl hx0
      obtain ⟨w4, hw4⟩ : ∃ z, z = wr.alloc (.cells #[.int .u8 kd, .string KY, .string VL, .int .u64 dl] 33) := ⟨_, rfl⟩
      have HB4 := Lib.hid (show Below w1.heap.size w1 w4 by rw [hw4]; exact below_nw HBW.out _)
      have HX4 := Lib.hid (show Has w4 wr.heap.size 33 [.int .u8 kd, .string KY, .string VL, .int .u64 dl] by rw [hw4]; exact Has.new wr _ _)
      have HB43 := Lib.hid (show Below w3.heap.size w3 w4 by rw [hw4]; exact below_nw hb _)
      have HD := Lib.hid (show wr.cell? ⟨g', off' + k * 4, none⟩ = some (.int .u8 kd) ∧ wr.cell? ⟨g', off' + k * 4 + 1, none⟩ = some (.string KY) ∧ wr.cell? ⟨g', off' + k * 4 + 2, none⟩ = some (.string VL) ∧ wr.cell? ⟨g', off' + k * 4 + 3, none⟩ = some (.int .u64 dl) from ⟨d0, d1, d2, d3⟩)
      have HB4r := Lib.hid (show Below wr.heap.size wr w4 by rw [hw4]; exact below_new wr _)
      clear d0 d1 d2 d3 hb
      go_wp2_with fail
      rw [← hw4]
      refine (HGE.out w4 HB4.out).mono ?_
      rintro e w5 ⟨rfl, hb5⟩
      clear c0 c1 c2' c3 xb hw4
      have hx5 := HX4.out.below hb5 HX4.out.lt
      have u0 := hx5.cell 0
      have u1 := hx5.cell 1
      have u2 := hx5.cell 2
      have u3 := hx5.cell 3
      simp only [List.getElem?_cons_zero, List.getElem?_cons_succ] at u0 u1 u2 u3
      have hb5r := below_on HB4r.out hb5
      obtain ⟨d0, d1, d2, d3⟩ := HD.out
      replace d0 := keep1 d0 hb5r
      replace d1 := keep1 d1 hb5r
      replace d2 := keep1 d2 hb5r
      replace d3 := keep1 d3 hb5r
      have HB5 := Lib.hid (below_on HB43.out hb5)
      have hlt5 : wr.heap.size < w5.heap.size := hx5.lt
      have hlt6 : g' < w5.heap.size := World.block_lt_of_cell? _ _ d0
      clear hx5 hb5 hb5r
      go_wp2_with fail
      go_quiet (fail)
      go_wp2_with fail
      go_roundw
      case rel => exact ⟨k + 1, by omega, by go_num, bel_q (below_nw HB5.out _)⟩
      case measure => simp [intOf]; omega
    · have hki : ¬ ((k : Int) < (n : Int)) := by omega
      have HBF := Lib.hid (HB1.out.trans ((below_on HB3.out hb).mono HB1.out.size))
      clear hb
      go_wp2_with fail
      go_ret
      exact ⟨rfl, HBF.out⟩
end Go.Proofs.Ytiljcfmplbmooaa.Buf
