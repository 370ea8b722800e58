/- Layer 14 (msg): Join, whole. -/
import Derived.Test.YtfmbjepjmjcgeaaMsgD
namespace Go.Proofs.Ytfmbjepjmjcgeaa.Msg
open Go Go.RowKit Go.Proofs.Ytfmbjepjmjcgeaa Go.Proofs.Ytfmbjepjmjcgeaa.Lend Go.Proofs.Ytfmbjepjmjcgeaa.Rec
set_option linter.unusedVariables false

set_option maxRecDepth 100000 in
set_option maxHeartbeats 8000000 in
theorem join_any (a b : Up) (w : World) (ha : Tm a) (hb : Tm b) : Calls Try.prog 44 #[agU a, agU b] w fun e w' => e = .returned (agU (joU a b)) ∧ Below w.heap.size w w' := by
  have HTR := Lib.hid (Tri.new w 34 [.int .u8 a.kind, .string (Lend.strOf a.key), .string (Lend.strOf a.val), .int .u64 a.delta] [.int .u8 b.kind, .string (Lend.strOf b.key), .string (Lend.strOf b.val), .int .u64 b.delta] z4)
  have HAL := Lib.hid ha.len
  have HAP := Lib.hid ha.pd
  have hk0 := ha.k0
  have hk1 := ha.k1
  have hd0 := hb.d0
  have hd1 := hb.d1
  clear ha hb
  unfold z4 at HTR
  by_cases h3 : b.kind = 3
  · rcases (show a.kind = 1 ∨ a.kind = 2 ∨ a.kind = 3 by omega) with h1 | h1 | h1
    · rw [jo_put h3 h1]
      have HJP := Lib.hid (fun W => joinPut_any a.key b.key a.val b.val a.kind b.kind b.delta W (by have := HAL.out; omega) hd0 hd1)
      have HE : Hid (agU ⟨1, b.key, if a.val.length = 8 then encN (addN (numN a.val) b.delta) 8 else a.val, 0⟩ = .agg #[.int .u8 1, .string (Lend.strOf b.key), .string (Lend.strOf (if a.val.length = 8 then encN (addN (numN a.val) b.delta) 8 else a.val)), .int .u64 0]) := Lib.hid rfl
      rw [HE.out]
      unfold agU
      have hap := HAP.out h1
      rw [hap, h1, h3] at HTR ⊢
      rw [h3] at HJP
      clear hap
      generalize Lend.strOf (if a.val.length = 8 then encN (addN (numN a.val) b.delta) 8 else a.val) = E at *
      generalize b.delta = D at *
      generalize Lend.strOf a.key = KA at *
      generalize Lend.strOf b.key = KB at *
      generalize Lend.strOf a.val = VA at *
      generalize Lend.strOf b.val = VB at *
      obtain ⟨w1, hw1⟩ : ∃ x, x = ((w.alloc (.cells #[.int .u8 1, .string KA, .string VA, .int .u64 0] 34)).alloc (.cells #[.int .u8 3, .string KB, .string VB, .int .u64 D] 34)).alloc (.cells #[.int .u8 0, .string ⟨#[]⟩, .string ⟨#[]⟩, .int .u64 0] 34) := ⟨_, rfl⟩
      rw [← hw1] at HTR
      clear HE HAL HAP h1 h3 hk0 hk1 hd0 hd1
      go_enter Try.func44, Try.ntmps44
      go_wp2_with fail
      rw [← hw1]
      refine (HJP.out _).mono ?_
      rintro e w2 ⟨rfl, hb2⟩
      have HT2 := Lib.hid (HTR.out.on hb2)
      have r0 := HT2.out.r.cell 0
      have r1 := HT2.out.r.cell 1
      have r2 := HT2.out.r.cell 2
      have r3 := HT2.out.r.cell 3
      have f0 := HT2.out.r.frozen 0
      have f1 := HT2.out.r.frozen 1
      have f2 := HT2.out.r.frozen 2
      have f3 := HT2.out.r.frozen 3
      simp only [List.getElem?_cons_zero, List.getElem?_cons_succ] at r0 r1 r2 r3
      clear hb2 hw1 HTR
      go_wp2_with fail
      exact bodyPost_ret (v := .agg #[.int .u8 1, .string KB, .string E, .int .u64 0]) (by simp [results, Try.results44, go_sem, r0, r1, r2, r3]) rfl ⟨rfl, bel_sr (bel_sr (bel_sr (bel_sr HT2.out.bel)))⟩
    · rw [jo_del h3 h1]
      have HPU := Lib.hid (fun W => putOf_any (Lend.strOf b.key) b.delta W hd0 hd1)
      have HE : Hid (agU ⟨1, b.key, encN b.delta 8, 0⟩ = .agg #[.int .u8 1, .string (Lend.strOf b.key), .string (Lend.strOf (encN b.delta 8)), .int .u64 0]) := Lib.hid rfl
      rw [HE.out]
      unfold agU
      rw [h1, h3] at HTR ⊢
      generalize Lend.strOf (encN b.delta 8) = E at *
      generalize b.delta = D at *
      generalize a.delta = D' at *
      generalize Lend.strOf a.key = KA at *
      generalize Lend.strOf b.key = KB at *
      generalize Lend.strOf a.val = VA at *
      generalize Lend.strOf b.val = VB at *
      obtain ⟨w1, hw1⟩ : ∃ x, x = ((w.alloc (.cells #[.int .u8 2, .string KA, .string VA, .int .u64 D'] 34)).alloc (.cells #[.int .u8 3, .string KB, .string VB, .int .u64 D] 34)).alloc (.cells #[.int .u8 0, .string ⟨#[]⟩, .string ⟨#[]⟩, .int .u64 0] 34) := ⟨_, rfl⟩
      rw [← hw1] at HTR
      clear HE HAL HAP h1 h3 hk0 hk1 hd0 hd1
      go_enter Try.func44, Try.ntmps44
      go_wp2_with fail
      rw [← hw1]
      refine (HPU.out _).mono ?_
      rintro e w2 ⟨rfl, hb2⟩
      have HT2 := Lib.hid (HTR.out.on hb2)
      have r0 := HT2.out.r.cell 0
      have r1 := HT2.out.r.cell 1
      have r2 := HT2.out.r.cell 2
      have r3 := HT2.out.r.cell 3
      have f0 := HT2.out.r.frozen 0
      have f1 := HT2.out.r.frozen 1
      have f2 := HT2.out.r.frozen 2
      have f3 := HT2.out.r.frozen 3
      simp only [List.getElem?_cons_zero, List.getElem?_cons_succ] at r0 r1 r2 r3
      clear hb2 hw1 HTR
      go_wp2_with fail
      exact bodyPost_ret (v := .agg #[.int .u8 1, .string KB, .string E, .int .u64 0]) (by simp [results, Try.results44, go_sem, r0, r1, r2, r3]) rfl ⟨rfl, bel_sr (bel_sr (bel_sr (bel_sr HT2.out.bel)))⟩
    · rw [jo_add h3 h1]
      have HAW := Lib.hid (u64_add a.delta b.delta)
      have HE : Hid (agU ⟨3, b.key, [], addN a.delta b.delta⟩ = .agg #[.int .u8 3, .string (Lend.strOf b.key), .string ⟨#[]⟩, .int .u64 (addN a.delta b.delta)]) := Lib.hid rfl
      rw [HE.out]
      unfold agU
      rw [h1, h3] at HTR ⊢
      generalize addN a.delta b.delta = S at *
      generalize b.delta = D at *
      generalize a.delta = D' at *
      generalize Lend.strOf a.key = KA at *
      generalize Lend.strOf b.key = KB at *
      generalize Lend.strOf a.val = VA at *
      generalize Lend.strOf b.val = VB at *
      obtain ⟨w1, hw1⟩ : ∃ x, x = ((w.alloc (.cells #[.int .u8 3, .string KA, .string VA, .int .u64 D'] 34)).alloc (.cells #[.int .u8 3, .string KB, .string VB, .int .u64 D] 34)).alloc (.cells #[.int .u8 0, .string ⟨#[]⟩, .string ⟨#[]⟩, .int .u64 0] 34) := ⟨_, rfl⟩
      rw [← hw1] at HTR
      clear HE HAL HAP h1 h3 hk0 hk1 hd0 hd1
      go_enter Try.func44, Try.ntmps44
      go_wp2_with fail
      rw [HAW.out]
      exact bodyPost_ret (v := .agg #[.int .u8 3, .string KB, .string ⟨#[]⟩, .int .u64 S]) (by simp [results, Try.results44, go_sem]) rfl ⟨rfl, below_nw (below_nw (below_new _ _) _) _⟩
  · rw [jo_oth h3]
    unfold agU
    generalize b.delta = D at *
    generalize a.delta = D' at *
    generalize Lend.strOf a.key = KA at *
    generalize Lend.strOf b.key = KB at *
    generalize Lend.strOf a.val = VA at *
    generalize Lend.strOf b.val = VB at *
    generalize a.kind = ka at *
    generalize b.kind = kb at *
    clear HAL HAP hk0 hk1 hd0 hd1
    obtain ⟨w1, hw1⟩ : ∃ x, x = ((w.alloc (.cells #[.int .u8 ka, .string KA, .string VA, .int .u64 D'] 34)).alloc (.cells #[.int .u8 kb, .string KB, .string VB, .int .u64 D] 34)).alloc (.cells #[.int .u8 0, .string ⟨#[]⟩, .string ⟨#[]⟩, .int .u64 0] 34) := ⟨_, rfl⟩
    rw [← hw1] at HTR
    go_enter Try.func44, Try.ntmps44
    go_wp2_with fail
    exact bodyPost_ret (v := .agg #[.int .u8 kb, .string KB, .string VB, .int .u64 D]) (by simp [results, Try.results44, go_sem]) rfl ⟨rfl, below_nw (below_nw (below_new _ _) _) _⟩
end Go.Proofs.Ytfmbjepjmjcgeaa.Msg
