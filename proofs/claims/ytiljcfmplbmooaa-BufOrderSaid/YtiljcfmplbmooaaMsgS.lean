/- Layer 14 (msg): the document's own answers: Join. -/
import Derived.Test.YtiljcfmplbmooaaMsgR
namespace Go.Proofs.Ytiljcfmplbmooaa.Msg
open Go Go.RowKit Go.Proofs.Ytiljcfmplbmooaa Go.Proofs.Ytiljcfmplbmooaa.Lend Go.Proofs.Ytiljcfmplbmooaa.Rec
set_option linter.unusedVariables false

/-- the two arguments, the result, and what is made -/
structure Qd (w0 : World) (t : TypeId) (ca cb cr co : List Value) (w : World) : Prop where
  tri : Tri w0 t ca cb cr w
  o : Has w (w0.heap.size + 1 + 1 + 1) t co
section
variable {w0 w w' : World} {t : TypeId} {ca cb cr co : List Value}
theorem Qd.on (h : Qd w0 t ca cb cr co w) (hb : Below w.heap.size w w') : Qd w0 t ca cb cr co w' := ⟨h.tri.on hb, h.o.below hb h.o.lt⟩
theorem Qd.new (w : World) (t : TypeId) (ca cb cr co : List Value) : Qd w t ca cb cr co ((((w.alloc (.cells ca.toArray t)).alloc (.cells cb.toArray t)).alloc (.cells cr.toArray t)).alloc (.cells co.toArray t)) := by
  have h1 := Tri.new w t ca cb cr
  have h2 := Has.new (((w.alloc (.cells ca.toArray t)).alloc (.cells cb.toArray t)).alloc (.cells cr.toArray t)) co t
  simp only [World.size_alloc] at h2
  exact ⟨h1.on (below_new _ _), h2⟩
end
theorem bel_so {w w' : World} {i : Nat} {v : Value} (h : Below w.heap.size w w') : Below w.heap.size w (w'.setCell ⟨w.heap.size + 1 + 1 + 1, i, none⟩ v) := h.setCell (show w.heap.size ≤ w.heap.size + 1 + 1 + 1 by omega) v
set_option maxRecDepth 100000 in
set_option maxHeartbeats 8000000 in
theorem refjoin_any (a b : Up) (w : World) (ha : Tm a) (hb : Tm b) : Calls Try.prog 26 #[agU a, agU b] w fun e w' => e = .returned (agU (joU a b)) ∧ Below w.heap.size w w' := by
  have HQ := Lib.hid (Qd.new w 34 [.int .u8 a.kind, .string (Lend.strOf a.key), .string (Lend.strOf a.val), .int .u64 a.delta] [.int .u8 b.kind, .string (Lend.strOf b.key), .string (Lend.strOf b.val), .int .u64 b.delta] z4 [.int .u8 1, .string (Lend.strOf b.key), .string ⟨#[]⟩, .int .u64 0])
  have HAL := Lib.hid ha.len
  have HAP := Lib.hid ha.pd
  have hk0 := ha.k0
  have hk1 := ha.k1
  have hd0 := hb.d0
  have hd1 := hb.d1
  clear ha hb
  unfold z4 at HQ
  by_cases h3 : b.kind = 3
  · rcases (show a.kind = 1 ∨ a.kind = 2 ∨ a.kind = 3 by omega) with h1 | h1 | h1
    · rw [jo_put h3 h1]
      by_cases h8 : a.val.length = 8
      · rw [if_pos h8]
        have HE : Hid (agU ⟨1, b.key, encN (addN (numN a.val) b.delta) 8, 0⟩ = .agg #[.int .u8 1, .string (Lend.strOf b.key), .string (Lend.strOf (encN (addN (numN a.val) b.delta) 8)), .int .u64 0]) := Lib.hid rfl
        rw [HE.out]
        have HP := Lib.hid (fun W => put8 (addN_bd (numN a.val) b.delta).1 (addN_bd (numN a.val) b.delta).2 W)
        have HG := Lib.hid (fun W => get8 a.val W h8)
        have HWR := Lib.hid (u64_add (numN a.val) b.delta)
        have hsz : (Lend.strOf a.val).size = 8 := by rw [ssize]; exact h8
        unfold agU
        rw [h1, h3] at HQ ⊢
        generalize Lend.strOf (encN (addN (numN a.val) b.delta) 8) = E at *
        generalize addN (numN a.val) b.delta = n at *
        generalize numN a.val = z at *
        generalize b.delta = D at *
        generalize a.delta = D' at *
        generalize Lend.strOf a.key = KA at *
        generalize Lend.strOf b.key = KB at *
        generalize Lend.strOf a.val = VA at *
        generalize Lend.strOf b.val = VB at *
        obtain ⟨w1, hw1⟩ : ∃ x, x = (((w.alloc (.cells #[.int .u8 1, .string KA, .string VA, .int .u64 D'] 34)).alloc (.cells #[.int .u8 3, .string KB, .string VB, .int .u64 D] 34)).alloc (.cells #[.int .u8 0, .string ⟨#[]⟩, .string ⟨#[]⟩, .int .u64 0] 34)).alloc (.cells #[.int .u8 1, .string KB, .string ⟨#[]⟩, .int .u64 0] 34) := ⟨_, rfl⟩
        rw [← hw1] at HQ
        clear HE HAL HAP h1 h3 h8 hk0 hk1 hd0 hd1
        go_enter Try.func26, Try.ntmps26
        go_wp2_with fail
        rw [← hw1]
        refine (HG.out _).mono ?_
        rintro e w9 ⟨rfl, rfl⟩
        have HQ2 := HQ
        have x0 := HQ2.out.tri.a.cell 0
        have x1 := HQ2.out.tri.a.cell 1
        have x2 := HQ2.out.tri.a.cell 2
        have x3 := HQ2.out.tri.a.cell 3
        have y0 := HQ2.out.tri.b.cell 0
        have y1 := HQ2.out.tri.b.cell 1
        have y2 := HQ2.out.tri.b.cell 2
        have y3 := HQ2.out.tri.b.cell 3
        have r0 := HQ2.out.tri.r.cell 0
        have r1 := HQ2.out.tri.r.cell 1
        have r2 := HQ2.out.tri.r.cell 2
        have r3 := HQ2.out.tri.r.cell 3
        have f0 := HQ2.out.tri.r.frozen 0
        have f1 := HQ2.out.tri.r.frozen 1
        have f2 := HQ2.out.tri.r.frozen 2
        have f3 := HQ2.out.tri.r.frozen 3
        have o0 := HQ2.out.o.cell 0
        have o1 := HQ2.out.o.cell 1
        have o2 := HQ2.out.o.cell 2
        have o3 := HQ2.out.o.cell 3
        have q2 := HQ2.out.o.frozen 2
        simp only [List.getElem?_cons_zero, List.getElem?_cons_succ] at x0 x1 x2 x3 y0 y1 y2 y3 r0 r1 r2 r3 o0 o1 o2 o3
        clear hw1
        go_wp2_with fail
        rw [HWR.out]
        refine (HP.out _).mono ?_
        rintro e w2 ⟨rfl, hb2⟩
        clear HQ2 x0 x1 x2 x3 y0 y1 y2 y3 r0 r1 r2 r3 f0 f1 f2 f3 o0 o1 o2 o3 q2
        have HQ2 := Lib.hid (HQ.out.on hb2)
        have x0 := HQ2.out.tri.a.cell 0
        have x1 := HQ2.out.tri.a.cell 1
        have x2 := HQ2.out.tri.a.cell 2
        have x3 := HQ2.out.tri.a.cell 3
        have y0 := HQ2.out.tri.b.cell 0
        have y1 := HQ2.out.tri.b.cell 1
        have y2 := HQ2.out.tri.b.cell 2
        have y3 := HQ2.out.tri.b.cell 3
        have r0 := HQ2.out.tri.r.cell 0
        have r1 := HQ2.out.tri.r.cell 1
        have r2 := HQ2.out.tri.r.cell 2
        have r3 := HQ2.out.tri.r.cell 3
        have f0 := HQ2.out.tri.r.frozen 0
        have f1 := HQ2.out.tri.r.frozen 1
        have f2 := HQ2.out.tri.r.frozen 2
        have f3 := HQ2.out.tri.r.frozen 3
        have o0 := HQ2.out.o.cell 0
        have o1 := HQ2.out.o.cell 1
        have o2 := HQ2.out.o.cell 2
        have o3 := HQ2.out.o.cell 3
        have q2 := HQ2.out.o.frozen 2
        simp only [List.getElem?_cons_zero, List.getElem?_cons_succ] at x0 x1 x2 x3 y0 y1 y2 y3 r0 r1 r2 r3 o0 o1 o2 o3
        clear hb2 HQ
        go_wp2_with fail
        exact bodyPost_ret (v := .agg #[.int .u8 1, .string KB, .string E, .int .u64 0]) (by simp [results, Try.results26, go_sem, r0, r1, r2, r3]) rfl ⟨rfl, bel_sr (bel_sr (bel_sr (bel_sr (bel_so HQ2.out.tri.bel))))⟩
      · rw [if_neg h8]
        have HE : Hid (agU ⟨1, b.key, a.val, 0⟩ = .agg #[.int .u8 1, .string (Lend.strOf b.key), .string (Lend.strOf a.val), .int .u64 0]) := Lib.hid rfl
        rw [HE.out]
        have hsz : ¬ ((Lend.strOf a.val).size : Int) = 8 := by rw [ssize]; omega
        have hsz' : (Lend.strOf a.val).size ≤ 40 := by rw [ssize]; exact HAL.out
        unfold agU
        rw [h1, h3] at HQ ⊢
        generalize b.delta = D at *
        generalize a.delta = D' at *
        generalize Lend.strOf a.key = KA at *
        generalize Lend.strOf b.key = KB at *
        generalize Lend.strOf a.val = VA at *
        generalize Lend.strOf b.val = VB at *
        obtain ⟨w1, hw1⟩ : ∃ x, x = (((w.alloc (.cells #[.int .u8 1, .string KA, .string VA, .int .u64 D'] 34)).alloc (.cells #[.int .u8 3, .string KB, .string VB, .int .u64 D] 34)).alloc (.cells #[.int .u8 0, .string ⟨#[]⟩, .string ⟨#[]⟩, .int .u64 0] 34)).alloc (.cells #[.int .u8 1, .string KB, .string ⟨#[]⟩, .int .u64 0] 34) := ⟨_, rfl⟩
        rw [← hw1] at HQ
        clear HE HAL HAP h1 h3 h8 hk0 hk1 hd0 hd1
        go_enter Try.func26, Try.ntmps26
        go_wp2_with fail
        exact bodyPost_ret (v := .agg #[.int .u8 1, .string KB, .string VA, .int .u64 0]) (by simp [results, Try.results26, go_sem]) rfl ⟨rfl, below_nw (below_nw (below_nw (below_new _ _) _) _) _⟩
    · rw [jo_del h3 h1]
      have HE : Hid (agU ⟨1, b.key, encN b.delta 8, 0⟩ = .agg #[.int .u8 1, .string (Lend.strOf b.key), .string (Lend.strOf (encN b.delta 8)), .int .u64 0]) := Lib.hid rfl
      rw [HE.out]
      have HP := Lib.hid (fun W => put8 hd0 hd1 W)
      unfold agU
      rw [h1, h3] at HQ ⊢
      generalize Lend.strOf (encN b.delta 8) = E at *
      generalize b.delta = D at *
      generalize a.delta = D' at *
      generalize Lend.strOf a.key = KA at *
      generalize Lend.strOf b.key = KB at *
      generalize Lend.strOf a.val = VA at *
      generalize Lend.strOf b.val = VB at *
      obtain ⟨w1, hw1⟩ : ∃ x, x = (((w.alloc (.cells #[.int .u8 2, .string KA, .string VA, .int .u64 D'] 34)).alloc (.cells #[.int .u8 3, .string KB, .string VB, .int .u64 D] 34)).alloc (.cells #[.int .u8 0, .string ⟨#[]⟩, .string ⟨#[]⟩, .int .u64 0] 34)).alloc (.cells #[.int .u8 1, .string KB, .string ⟨#[]⟩, .int .u64 0] 34) := ⟨_, rfl⟩
      rw [← hw1] at HQ
      clear HE HAL HAP h1 h3 hk0 hk1 hd0 hd1
      go_enter Try.func26, Try.ntmps26
      go_wp2_with fail
      rw [← hw1]
      refine (HP.out _).mono ?_
      rintro e w2 ⟨rfl, hb2⟩
      have HQ2 := Lib.hid (HQ.out.on hb2)
      have x0 := HQ2.out.tri.a.cell 0
      have x1 := HQ2.out.tri.a.cell 1
      have x2 := HQ2.out.tri.a.cell 2
      have x3 := HQ2.out.tri.a.cell 3
      have y0 := HQ2.out.tri.b.cell 0
      have y1 := HQ2.out.tri.b.cell 1
      have y2 := HQ2.out.tri.b.cell 2
      have y3 := HQ2.out.tri.b.cell 3
      have r0 := HQ2.out.tri.r.cell 0
      have r1 := HQ2.out.tri.r.cell 1
      have r2 := HQ2.out.tri.r.cell 2
      have r3 := HQ2.out.tri.r.cell 3
      have f0 := HQ2.out.tri.r.frozen 0
      have f1 := HQ2.out.tri.r.frozen 1
      have f2 := HQ2.out.tri.r.frozen 2
      have f3 := HQ2.out.tri.r.frozen 3
      have o0 := HQ2.out.o.cell 0
      have o1 := HQ2.out.o.cell 1
      have o2 := HQ2.out.o.cell 2
      have o3 := HQ2.out.o.cell 3
      have q2 := HQ2.out.o.frozen 2
      simp only [List.getElem?_cons_zero, List.getElem?_cons_succ] at x0 x1 x2 x3 y0 y1 y2 y3 r0 r1 r2 r3 o0 o1 o2 o3
      clear hb2 HQ hw1
      go_wp2_with fail
      exact bodyPost_ret (v := .agg #[.int .u8 1, .string KB, .string E, .int .u64 0]) (by simp [results, Try.results26, go_sem, r0, r1, r2, r3]) rfl ⟨rfl, bel_sr (bel_sr (bel_sr (bel_sr (bel_so HQ2.out.tri.bel))))⟩
    · rw [jo_add h3 h1]
      have HAW := Lib.hid (u64_add a.delta b.delta)
      have HE : Hid (agU ⟨3, b.key, [], addN a.delta b.delta⟩ = .agg #[.int .u8 3, .string (Lend.strOf b.key), .string ⟨#[]⟩, .int .u64 (addN a.delta b.delta)]) := Lib.hid rfl
      rw [HE.out]
      unfold agU
      rw [h1, h3] at HQ ⊢
      generalize addN a.delta b.delta = S at *
      generalize b.delta = D at *
      generalize a.delta = D' at *
      generalize Lend.strOf a.key = KA at *
      generalize Lend.strOf b.key = KB at *
      generalize Lend.strOf a.val = VA at *
      generalize Lend.strOf b.val = VB at *
      clear HE HAL HAP h1 h3 hk0 hk1 hd0 hd1
      go_enter Try.func26, Try.ntmps26
      go_wp2_with fail
      rw [HAW.out]
      exact bodyPost_ret (v := .agg #[.int .u8 3, .string KB, .string ⟨#[]⟩, .int .u64 S]) (by simp [results, Try.results26, go_sem]) rfl ⟨rfl, below_nw (below_nw (below_nw (below_new _ _) _) _) _⟩
  · rw [jo_oth h3]
    unfold agU
    generalize b.delta = D at *
    generalize a.delta = D' at *
    generalize Lend.strOf a.key = KA at *
    generalize Lend.strOf b.key = KB at *
    generalize Lend.strOf a.val = VA at *
    generalize Lend.strOf b.val = VB at *
    generalize a.kind = ka at *
    generalize b.kind = kb at *
    clear HAL HAP hk0 hk1 hd0 hd1
    go_enter Try.func26, Try.ntmps26
    go_wp2_with fail
    exact bodyPost_ret (v := .agg #[.int .u8 kb, .string KB, .string VB, .int .u64 D]) (by simp [results, Try.results26, go_sem]) rfl ⟨rfl, below_nw (below_nw (below_new _ _) _) _⟩
end Go.Proofs.Ytiljcfmplbmooaa.Msg
