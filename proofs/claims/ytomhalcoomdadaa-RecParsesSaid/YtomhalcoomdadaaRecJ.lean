/- Layer 12 (rec): the law's own sign of life. -/
import Derived.Test.YtomhalcoomdadaaRecI
namespace Go.Proofs.Ytomhalcoomdadaa.Rec
open Go Go.RowKit Go.Proofs.Ytomhalcoomdadaa Go.Proofs.Ytomhalcoomdadaa.Lend
set_option linter.unusedVariables false

def wkL : List Up := [⟨2, [97], [], 0⟩, ⟨1, [98], [120, 121], 0⟩]
theorem wk_facts : txT wkL = [2, 1, 97, 1, 1, 98, 2, 120, 121] ∧ errL wkL = 0 ∧ parL [2, 1, 97, 1, 1, 98, 2, 120, 121] = some wkL ∧ (pyT 3 0 wkL).length = 23 := by
  refine ⟨by decide +kernel, by decide +kernel, ?_, by decide +kernel⟩
  have h : parL (txL wkL) = some wkL := parL_tx fun u hu => by
    simp only [wkL, List.mem_cons, List.mem_nil_iff, or_false] at hu
    rcases hu with rfl | rfl <;> (refine ⟨?_, ?_, ?_⟩ <;> decide +kernel)
  rwa [show txL wkL = [2, 1, 97, 1, 1, 98, 2, 120, 121] by decide +kernel] at h
theorem wk_wf : ∀ u ∈ wkL, WfU u := by
  intro u hu
  simp only [wkL, List.mem_cons, List.mem_nil_iff, or_false] at hu
  rcases hu with rfl | rfl <;> (refine ⟨?_, ?_, ?_, ?_⟩ <;> decide)
theorem wk_ur (w : World) : UR (w.alloc (.cells #[.int .u8 2, .string ⟨#[97]⟩, .string ⟨#[]⟩, .int .u64 0, .int .u8 1, .string ⟨#[98]⟩, .string ⟨#[120, 121]⟩, .int .u64 0] 33)) (.slice (some ⟨w.heap.size, 0, none⟩) 2 2) wkL := by
  refine ⟨_, 2, rfl, fun _ => ⟨_, 0, rfl, fun i hi j hj => ?_⟩⟩
  have h := (Has.new w [.int .u8 2, .string ⟨#[97]⟩, .string ⟨#[]⟩, .int .u64 0, .int .u8 1, .string ⟨#[98]⟩, .string ⟨#[120, 121]⟩, .int .u64 0] 33).cell (0 + i * 4 + j)
  rw [h]
  have hi2 : i < 2 := hi
  match i, hi2, j, hj with
  | 0, _, 0, _ => rfl
  | 0, _, 1, _ => rfl
  | 0, _, 2, _ => rfl
  | 0, _, 3, _ => rfl
  | 1, _, 0, _ => rfl
  | 1, _, 1, _ => rfl
  | 1, _, 2, _ => rfl
  | 1, _, 3, _ => rfl
set_option maxHeartbeats 4000000 in
set_option maxRecDepth 100000 in
theorem wakes_any (w : World) : Calls Try.prog 13 #[] w fun e w' => e = .returned (.bool true) ∧ Below w.heap.size w w' := by
  have F := Lib.hid wk_facts
  have HTX := Lib.hid (Text_any (wk_ur w) (by decide) wk_wf)
  have HPA := Lib.hid (fun W => Parse_any [2, 1, 97, 1, 1, 98, 2, 120, 121] W (by decide))
  obtain ⟨w0, hw0⟩ : ∃ x, x = w.alloc (.cells #[.int .u8 2, .string ⟨#[97]⟩, .string ⟨#[]⟩, .int .u64 0, .int .u8 1, .string ⟨#[98]⟩, .string ⟨#[120, 121]⟩, .int .u64 0] 33) := ⟨_, rfl⟩
  rw [← hw0] at HTX
  have HB0 := Lib.hid (show Below w.heap.size w w0 by rw [hw0]; exact below_new _ _)
  go_enter Try.func13, Try.ntmps13
  go_wp2_with fail
  rw [← hw0]
  refine HTX.out.mono ?_
  rintro e w1 ⟨rfl, hb1⟩
  rw [F.out.1, F.out.2.1]
  have HB1 := Lib.hid (below_on HB0.out hb1)
  clear hb1 hw0 HTX
  go_wp2_with fail
  refine (HPA.out _).mono ?_
  rintro e w2 (⟨l, v', hpl, rfl, hra, hb2⟩ | ⟨hpl, rfl, hb2⟩)
  · rw [F.out.2.2.1] at hpl
    obtain rfl : wkL = l := by injection hpl
    have HB2 := Lib.hid (below_on HB1.out hb2)
    have HU := Lib.hid (UR.of_own hra)
    have HUF := Lib.hid hra
    obtain ⟨ao, cap, hv⟩ := HU.out.slice
    have hv : v' = .slice ao 2 cap := hv
    subst hv
    have HPY := Lib.hid (fun W (hb : Below w2.heap.size w2 W) => Payload_any 3 0 (HU.out.below hb) ⟨by decide, by decide, by decide, by decide, by decide⟩ wk_wf)
    obtain ⟨w3, hw3⟩ : ∃ x, x = w2.alloc (.cells #[.int .u64 3, .int .u32 0, .slice ao 2 cap] 57) := ⟨_, rfl⟩
    have HB3 := Lib.hid (show Below w2.heap.size w2 w3 by rw [hw3]; exact below_new _ _)
    have HP3 := Lib.hid (HPY.out w3 HB3.out)
    clear hb2 hpl hra
    go_wp2_with fail
    rw [← hw3]
    refine HP3.out.mono ?_
    rintro e w4 ⟨rfl, hb4⟩
    rw [F.out.2.1]
    have HB4 := Lib.hid (below_on (below_on HB2.out HB3.out) hb4)
    have hsz : (Lend.strOf (pyT 3 0 wkL)).size = 23 := by rw [ssize]; exact F.out.2.2.2
    have hu4 := (HU.out.below HB3.out).below hb4
    obtain ⟨a1, c1, he, hx⟩ := hu4.form
    obtain ⟨g, off, rfl, hc⟩ := hx (by decide)
    obtain ⟨rfl, rfl⟩ : ao = some ⟨g, off, none⟩ ∧ cap = c1 := by simp at he; exact ⟨he.1, he.2.2⟩
    have c6 : w4.cell? ⟨g, off + 4 + 2, none⟩ = some (.string ⟨#[120, 121]⟩) := hc 1 (by decide) 2 (by decide)
    clear he hx hc hu4 hb4 hw3
    generalize Lend.strOf (pyT 3 0 wkL) = P at *
    rw [show Lend.strOf [2, 1, 97, 1, 1, 98, 2, 120, 121] = ⟨#[2, 1, 97, 1, 1, 98, 2, 120, 121]⟩ from rfl]
    go_wp2_with fail
    go_ret
    exact ⟨rfl, HB4.out⟩
  · rw [F.out.2.2.1] at hpl; cases hpl
end Go.Proofs.Ytomhalcoomdadaa.Rec
