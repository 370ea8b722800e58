/- Layer 5's laws: wakes. -/
import Derived.Test.YtimdemdopnmijaaDoorSupP
namespace Go.Proofs.YtimdemdopnmijaaDoor.Sup
open Go.RowKit Go.Proofs.YtimdemdopnmijaaDoor Go.Proofs.YtimdemdopnmijaaDoor.Lend Go.Proofs.YtimdemdopnmijaaDoor.Env
set_option linter.unusedVariables false
set_option maxHeartbeats 1000000 in
set_option maxRecDepth 100000 in
theorem wakes_sup (w : World) : Calls Tryd.prog 12 #[] w fun e w' => e = .returned (.bool true) ∧ Below w.heap.size w w' := by
  have hn : Nums 4 0 7 0 := by constructor <;> decide
  obtain ⟨im, him⟩ : ∃ x, x = imL 128 5 9 4 0 2 7 0 := ⟨_, rfl⟩
  have hv := im_sou (size := 128) (g := 5) (a := 9) (rg := 4) (c := 0) (h := 2) (s := 7) (ch := 0) rfl (by decide) hn (by decide)
  have hw := imV_yes (size := 128) (g := 5) (a := 9) (rg := 4) (c := 0) (h := 2) (s := 7) (ch := 0) rfl (by decide)
  have hl := imL_length 128 5 9 4 0 2 7 0 rfl
  rw [← him] at hv hw hl
  obtain ⟨s, hs⟩ : ∃ s, s = strOf im := ⟨_, rfl⟩
  have hsd : s.data.toList = im := by rw [hs]; rfl
  have hsl : s.size = 128 := by rw [sz_of hsd]; omega
  rw [← hs] at hw
  have HV := Lib.hid hv
  have HW := Lib.hid hw
  have HSD := Lib.hid hsd
  have HSL := Lib.hid hsl
  have HN := Lib.hid hn
  clear him hv hw hl hs hsd hsl hn
  go_enter Tryd.func12, Tryd.ntmps12
  go_wp2_with fail
  refine (Sum.make_any _).mono ?_
  rintro e w1 ⟨b, rfl, hb, ht, hb1⟩
  have HT := Lib.hid ht
  have HB := Lib.hid hb1
  clear ht hb1 hb
  go_wp2_with fail
  have hx := Has.new w1 [.int .u64 5, .int .i64 9, .int .u64 4, .int .u32 0, .int .i64 2, .int .u64 7, .int .u32 0] 36
  refine (image_any b 128 5 9 4 0 2 7 0 _ (tab_nw HT.out _) HN.out (by decide) (by decide)).mono ?_
  rintro e w2 ⟨rfl, hb2⟩
  rw [HW.out]
  have HX := Lib.hid (hx.below hb2 (by simp))
  have HT2 := Lib.hid (tab_on (tab_nw HT.out _) hb2)
  have HB2 := Lib.hid (below_on (below_nw HB.out _) hb2)
  clear hb2 hx
  go_wp2_with fail
  refine (open_sup b s _ HT2.out (by have := HSL.out; omega)).mono ?_
  rintro e w3 ⟨rfl, hb3⟩
  rw [HSD.out, HV.out]
  have HX3 := Lib.hid (HX.out.below hb3 HX.out.lt)
  have HB3 := Lib.hid (below_on HB2.out hb3)
  obtain ⟨x0, x1, x2, x3, x4, x5, x6⟩ := has7 HX3.out
  have hlt := HX3.out.lt
  have hsl := HSL.out
  clear hb3
  go_wp2_with (go_at_call 13; refine (slot_any _ _ (by decide)).mono ?_; rintro e w' ⟨rfl, rfl⟩)
  go_ret
  exact ⟨rfl, below_nw HB3.out _⟩
end Go.Proofs.YtimdemdopnmijaaDoor.Sup
