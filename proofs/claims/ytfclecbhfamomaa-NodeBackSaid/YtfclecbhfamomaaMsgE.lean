/- Layer 14 (msg): All, Join. -/
import Derived.Test.YtfclecbhfamomaaMsgB
namespace Go.Proofs.Ytfclecbhfamomaa.Msg
open Go Go.RowKit Go.Proofs.Ytfclecbhfamomaa Go.Proofs.Ytfclecbhfamomaa.Lend Go.Proofs.Ytfclecbhfamomaa.Rec
set_option linter.unusedVariables false

theorem bel_st {w w' : World} {i : Nat} {v : Value} (h : Below w.heap.size w w') : Below w.heap.size w (w'.setCell ⟨w.heap.size, i, none⟩ v) := h.setCell (Nat.le_refl _) v
set_option maxRecDepth 100000 in
set_option maxHeartbeats 4000000 in
theorem putOf_any (K : ByteArray) (n : Int) (w : World) (h0 : 0 ≤ n) (h1 : n < 18446744073709551616) : Calls Try.prog 62 #[.string K, .int .u64 n] w fun e w' => e = .returned (.agg #[.int .u8 1, .string K, .string (Lend.strOf (encN n 8)), .int .u64 0]) ∧ Below w.heap.size w w' := by
  have HV := Lib.hid (fun W => value_any n W h0 h1)
  generalize Lend.strOf (encN n 8) = E at *
  obtain ⟨w0, hw0⟩ : ∃ x, x = w.alloc (.cells #[.int .u8 0, .string ⟨#[]⟩, .string ⟨#[]⟩, .int .u64 0] 70) := ⟨_, rfl⟩
  have HB0 := Lib.hid (show Below w.heap.size w w0 by rw [hw0]; exact below_new _ _)
  have HX := Lib.hid (show Has w0 w.heap.size 70 [.int .u8 0, .string ⟨#[]⟩, .string ⟨#[]⟩, .int .u64 0] by rw [hw0]; exact Has.new _ _ _)
  clear h0 h1
  go_enter Try.func62, Try.ntmps62
  go_wp2_with fail
  rw [← hw0]
  refine (HV.out _).mono ?_
  rintro e w1 ⟨rfl, hb1⟩
  have hx1 := HX.out.below hb1 HX.out.lt
  have HB1 := Lib.hid (below_on HB0.out hb1)
  have y0 := hx1.cell 0
  have y1 := hx1.cell 1
  have y2 := hx1.cell 2
  have y3 := hx1.cell 3
  have f0 := hx1.frozen 0
  have f1 := hx1.frozen 1
  have f2 := hx1.frozen 2
  have f3 := hx1.frozen 3
  simp only [List.getElem?_cons_zero, List.getElem?_cons_succ] at y0 y1 y2 y3
  clear hb1 hw0
  go_wp2_with fail
  exact bodyPost_ret (v := .agg #[.int .u8 1, .string K, .string E, .int .u64 0]) (by simp [results, Try.results62, go_sem, y0, y1, y2, y3]) rfl ⟨rfl, bel_st (bel_st (bel_st (bel_st HB1.out)))⟩
end Go.Proofs.Ytfclecbhfamomaa.Msg
/- Layer 14 (msg): Join. -/
namespace Go.Proofs.Ytfclecbhfamomaa.Msg
open Go Go.RowKit Go.Proofs.Ytfclecbhfamomaa Go.Proofs.Ytfclecbhfamomaa.Lend Go.Proofs.Ytfclecbhfamomaa.Rec
set_option linter.unusedVariables false

def z4 : List Value := [.int .u8 0, .string ⟨#[]⟩, .string ⟨#[]⟩, .int .u64 0]
/-- two arguments and a result, each in a block -/
structure Tri (w0 : World) (t : TypeId) (ca cb cr : List Value) (w : World) : Prop where
  a : Has w w0.heap.size t ca
  b : Has w (w0.heap.size + 1) t cb
  r : Has w (w0.heap.size + 1 + 1) t cr
  bel : Below w0.heap.size w0 w
section
variable {w0 w w' : World} {t : TypeId} {ca cb cr : List Value}
theorem Tri.on (h : Tri w0 t ca cb cr w) (hb : Below w.heap.size w w') : Tri w0 t ca cb cr w' := ⟨h.a.below hb h.a.lt, h.b.below hb h.b.lt, h.r.below hb h.r.lt, below_on h.bel hb⟩
theorem Tri.setA (h : Tri w0 t ca cb cr w) (i : Nat) (v : Value) : Tri w0 t (ca.set i v) cb cr (w.setCell ⟨w0.heap.size, i, none⟩ v) :=
  ⟨h.a.set i v, h.b.setOther (show w0.heap.size ≠ w0.heap.size + 1 by omega) v, h.r.setOther (show w0.heap.size ≠ w0.heap.size + 1 + 1 by omega) v, h.bel.setCell (Nat.le_refl _) v⟩
theorem Tri.setR (h : Tri w0 t ca cb cr w) (i : Nat) (v : Value) : Tri w0 t ca cb (cr.set i v) (w.setCell ⟨w0.heap.size + 1 + 1, i, none⟩ v) :=
  ⟨h.a.setOther (show w0.heap.size + 1 + 1 ≠ w0.heap.size by omega) v, h.b.setOther (show w0.heap.size + 1 + 1 ≠ w0.heap.size + 1 by omega) v, h.r.set i v, h.bel.setCell (show w0.heap.size ≤ w0.heap.size + 1 + 1 by omega) v⟩
theorem Tri.new (w : World) (t : TypeId) (ca cb cr : List Value) : Tri w t ca cb cr (((w.alloc (.cells ca.toArray t)).alloc (.cells cb.toArray t)).alloc (.cells cr.toArray t)) := by
  have h1 := Has.new w ca t
  have h2 := Has.new (w.alloc (.cells ca.toArray t)) cb t
  have h3 := Has.new ((w.alloc (.cells ca.toArray t)).alloc (.cells cb.toArray t)) cr t
  simp only [World.size_alloc] at h2 h3
  exact ⟨(h1.alloc _).alloc _, h2.alloc _, h3, below_nw (below_nw (below_new w _) _) _⟩
end
theorem bel_sr {w w' : World} {i : Nat} {v : Value} (h : Below w.heap.size w w') : Below w.heap.size w (w'.setCell ⟨w.heap.size + 1 + 1, i, none⟩ v) := h.setCell (show w.heap.size ≤ w.heap.size + 1 + 1 by omega) v
set_option maxRecDepth 100000 in
set_option maxHeartbeats 4000000 in
theorem joinPut_any (ka kb : List UInt8) (va vb : List UInt8) (k1 k2 d : Int) (w : World) (hs : va.length ≤ 9223372036854775807) (h0 : 0 ≤ d) (h1 : d < 18446744073709551616) :
    Calls Try.prog 61 #[.agg #[.int .u8 1, .string (Lend.strOf ka), .string (Lend.strOf va), .int .u64 0], .agg #[.int .u8 k2, .string (Lend.strOf kb), .string (Lend.strOf vb), .int .u64 d]] w fun e w' =>
      e = .returned (.agg #[.int .u8 1, .string (Lend.strOf kb), .string (Lend.strOf (if va.length = 8 then encN (addN (numN va) d) 8 else va)), .int .u64 0]) ∧ Below w.heap.size w w' := by
  have HNU := Lib.hid (fun W => number_any va W hs)
  have HPU := Lib.hid (fun W => putOf_any (Lend.strOf kb) (addN (numN va) d) W (addN_bd _ _).1 (addN_bd _ _).2)
  have HAW := Lib.hid (u64_add (numN va) d)
  have HTR := Lib.hid (Tri.new w 70 [.int .u8 1, .string (Lend.strOf ka), .string (Lend.strOf va), .int .u64 0] [.int .u8 k2, .string (Lend.strOf kb), .string (Lend.strOf vb), .int .u64 d] z4)
  by_cases h8 : va.length = 8
  · have HB := Lib.hid (show numB va = true by simp [numB, h8])
    rw [HB.out] at HNU
    rw [if_pos h8]
    generalize Lend.strOf (encN (addN (numN va) d) 8) = E at *
    generalize addN (numN va) d = n at *
    generalize numN va = k at *
    generalize Lend.strOf ka = KA at *
    generalize Lend.strOf kb = KB at *
    generalize Lend.strOf va = VA at *
    generalize Lend.strOf vb = VB at *
    unfold z4 at HTR
    obtain ⟨w1, hw1⟩ : ∃ x, x = ((w.alloc (.cells #[.int .u8 1, .string KA, .string VA, .int .u64 0] 70)).alloc (.cells #[.int .u8 k2, .string KB, .string VB, .int .u64 d] 70)).alloc (.cells #[.int .u8 0, .string ⟨#[]⟩, .string ⟨#[]⟩, .int .u64 0] 70) := ⟨_, rfl⟩
    rw [← hw1] at HTR
    clear hs h0 h1 h8 HB
    go_enter Try.func61, Try.ntmps61
    go_wp2_with fail
    rw [← hw1]
    refine (HNU.out _).mono ?_
    rintro e w2 ⟨rfl, hb2⟩
    have HT2 := Lib.hid (HTR.out.on hb2)
    have y1 := HT2.out.b.cell 1
    have y3 := HT2.out.b.cell 3
    simp only [List.getElem?_cons_zero, List.getElem?_cons_succ] at y1 y3
    clear hb2 hw1 HTR
    go_wp2_with fail
    rw [HAW.out]
    refine (HPU.out _).mono ?_
    rintro e w3 ⟨rfl, hb3⟩
    have HT3 := Lib.hid (HT2.out.on hb3)
    have r0 := HT3.out.r.cell 0
    have r1 := HT3.out.r.cell 1
    have r2 := HT3.out.r.cell 2
    have r3 := HT3.out.r.cell 3
    have f0 := HT3.out.r.frozen 0
    have f1 := HT3.out.r.frozen 1
    have f2 := HT3.out.r.frozen 2
    have f3 := HT3.out.r.frozen 3
    simp only [List.getElem?_cons_zero, List.getElem?_cons_succ] at r0 r1 r2 r3
    clear hb3 y1 y3 HT2
    go_wp2_with fail
    exact bodyPost_ret (v := .agg #[.int .u8 1, .string KB, .string E, .int .u64 0]) (by simp [results, Try.results61, go_sem, r0, r1, r2, r3]) rfl ⟨rfl, bel_sr (bel_sr (bel_sr (bel_sr HT3.out.bel)))⟩
  · have HB := Lib.hid (show numB va = false by simp [numB, h8])
    rw [HB.out] at HNU
    rw [if_neg h8]
    generalize addN (numN va) d = n at *
    generalize numN va = k at *
    generalize Lend.strOf ka = KA at *
    generalize Lend.strOf kb = KB at *
    generalize Lend.strOf va = VA at *
    generalize Lend.strOf vb = VB at *
    unfold z4 at HTR
    obtain ⟨w1, hw1⟩ : ∃ x, x = ((w.alloc (.cells #[.int .u8 1, .string KA, .string VA, .int .u64 0] 70)).alloc (.cells #[.int .u8 k2, .string KB, .string VB, .int .u64 d] 70)).alloc (.cells #[.int .u8 0, .string ⟨#[]⟩, .string ⟨#[]⟩, .int .u64 0] 70) := ⟨_, rfl⟩
    rw [← hw1] at HTR
    clear hs h0 h1 h8 HB HPU HAW
    go_enter Try.func61, Try.ntmps61
    go_wp2_with fail
    rw [← hw1]
    refine (HNU.out _).mono ?_
    rintro e w2 ⟨rfl, hb2⟩
    have HT2 := Lib.hid (HTR.out.on hb2)
    have y1 := HT2.out.b.cell 1
    have x0 := HT2.out.a.cell 0
    have x1 := HT2.out.a.cell 1
    have x2 := HT2.out.a.cell 2
    have x3 := HT2.out.a.cell 3
    have g1 := HT2.out.a.frozen 1
    have r0 := HT2.out.r.cell 0
    have r1 := HT2.out.r.cell 1
    have r2 := HT2.out.r.cell 2
    have r3 := HT2.out.r.cell 3
    have f0 := HT2.out.r.frozen 0
    have f1 := HT2.out.r.frozen 1
    have f2 := HT2.out.r.frozen 2
    have f3 := HT2.out.r.frozen 3
    simp only [List.getElem?_cons_zero, List.getElem?_cons_succ] at y1 x0 x1 x2 x3 r0 r1 r2 r3
    clear hb2 hw1 HTR
    go_wp2_with fail
    exact bodyPost_ret (v := .agg #[.int .u8 1, .string KB, .string VA, .int .u64 0]) (by simp [results, Try.results61, go_sem, r0, r1, r2, r3]) rfl ⟨rfl, bel_sr (bel_sr (bel_sr (bel_sr (bel_st HT2.out.bel))))⟩
end Go.Proofs.Ytfclecbhfamomaa.Msg
/- Layer 14 (msg): Join, whole. -/
namespace Go.Proofs.Ytfclecbhfamomaa.Msg
open Go Go.RowKit Go.Proofs.Ytfclecbhfamomaa Go.Proofs.Ytfclecbhfamomaa.Lend Go.Proofs.Ytfclecbhfamomaa.Rec
set_option linter.unusedVariables false

set_option maxRecDepth 100000 in
set_option maxHeartbeats 8000000 in
theorem join_any (a b : Up) (w : World) (ha : Tm a) (hb : Tm b) : Calls Try.prog 42 #[agU a, agU b] w fun e w' => e = .returned (agU (joU a b)) ∧ Below w.heap.size w w' := by
  have HTR := Lib.hid (Tri.new w 70 [.int .u8 a.kind, .string (Lend.strOf a.key), .string (Lend.strOf a.val), .int .u64 a.delta] [.int .u8 b.kind, .string (Lend.strOf b.key), .string (Lend.strOf b.val), .int .u64 b.delta] z4)
  have HAL := Lib.hid ha.len
  have HAP := Lib.hid ha.pd
  have hk0 := ha.k0
  have hk1 := ha.k1
  have hd0 := hb.d0
  have hd1 := hb.d1
  clear ha hb
  unfold z4 at HTR
  by_cases h3 : b.kind = 3
  · rcases (show a.kind = 1 ∨ a.kind = 2 ∨ a.kind = 3 by omega) with h1 | h1 | h1
    · rw [jo_put h3 h1]
      have HJP := Lib.hid (fun W => joinPut_any a.key b.key a.val b.val a.kind b.kind b.delta W (by have := HAL.out; omega) hd0 hd1)
      have HE : Hid (agU ⟨1, b.key, if a.val.length = 8 then encN (addN (numN a.val) b.delta) 8 else a.val, 0⟩ = .agg #[.int .u8 1, .string (Lend.strOf b.key), .string (Lend.strOf (if a.val.length = 8 then encN (addN (numN a.val) b.delta) 8 else a.val)), .int .u64 0]) := Lib.hid rfl
      rw [HE.out]
      unfold agU
      have hap := HAP.out h1
      rw [hap, h1, h3] at HTR ⊢
      rw [h3] at HJP
      clear hap
      generalize Lend.strOf (if a.val.length = 8 then encN (addN (numN a.val) b.delta) 8 else a.val) = E at *
      generalize b.delta = D at *
      generalize Lend.strOf a.key = KA at *
      generalize Lend.strOf b.key = KB at *
      generalize Lend.strOf a.val = VA at *
      generalize Lend.strOf b.val = VB at *
      obtain ⟨w1, hw1⟩ : ∃ x, x = ((w.alloc (.cells #[.int .u8 1, .string KA, .string VA, .int .u64 0] 70)).alloc (.cells #[.int .u8 3, .string KB, .string VB, .int .u64 D] 70)).alloc (.cells #[.int .u8 0, .string ⟨#[]⟩, .string ⟨#[]⟩, .int .u64 0] 70) := ⟨_, rfl⟩
      rw [← hw1] at HTR
      clear HE HAL HAP h1 h3 hk0 hk1 hd0 hd1
      go_enter Try.func42, Try.ntmps42
      go_wp2_with fail
      rw [← hw1]
      refine (HJP.out _).mono ?_
      rintro e w2 ⟨rfl, hb2⟩
      have HT2 := Lib.hid (HTR.out.on hb2)
      have r0 := HT2.out.r.cell 0
      have r1 := HT2.out.r.cell 1
      have r2 := HT2.out.r.cell 2
      have r3 := HT2.out.r.cell 3
      have f0 := HT2.out.r.frozen 0
      have f1 := HT2.out.r.frozen 1
      have f2 := HT2.out.r.frozen 2
      have f3 := HT2.out.r.frozen 3
      simp only [List.getElem?_cons_zero, List.getElem?_cons_succ] at r0 r1 r2 r3
      clear hb2 hw1 HTR
      go_wp2_with fail
      exact bodyPost_ret (v := .agg #[.int .u8 1, .string KB, .string E, .int .u64 0]) (by simp [results, Try.results42, go_sem, r0, r1, r2, r3]) rfl ⟨rfl, bel_sr (bel_sr (bel_sr (bel_sr HT2.out.bel)))⟩
    · rw [jo_del h3 h1]
      have HPU := Lib.hid (fun W => putOf_any (Lend.strOf b.key) b.delta W hd0 hd1)
      have HE : Hid (agU ⟨1, b.key, encN b.delta 8, 0⟩ = .agg #[.int .u8 1, .string (Lend.strOf b.key), .string (Lend.strOf (encN b.delta 8)), .int .u64 0]) := Lib.hid rfl
      rw [HE.out]
      unfold agU
      rw [h1, h3] at HTR ⊢
      generalize Lend.strOf (encN b.delta 8) = E at *
      generalize b.delta = D at *
      generalize a.delta = D' at *
      generalize Lend.strOf a.key = KA at *
      generalize Lend.strOf b.key = KB at *
      generalize Lend.strOf a.val = VA at *
      generalize Lend.strOf b.val = VB at *
      obtain ⟨w1, hw1⟩ : ∃ x, x = ((w.alloc (.cells #[.int .u8 2, .string KA, .string VA, .int .u64 D'] 70)).alloc (.cells #[.int .u8 3, .string KB, .string VB, .int .u64 D] 70)).alloc (.cells #[.int .u8 0, .string ⟨#[]⟩, .string ⟨#[]⟩, .int .u64 0] 70) := ⟨_, rfl⟩
      rw [← hw1] at HTR
      clear HE HAL HAP h1 h3 hk0 hk1 hd0 hd1
      go_enter Try.func42, Try.ntmps42
      go_wp2_with fail
      rw [← hw1]
      refine (HPU.out _).mono ?_
      rintro e w2 ⟨rfl, hb2⟩
      have HT2 := Lib.hid (HTR.out.on hb2)
      have r0 := HT2.out.r.cell 0
      have r1 := HT2.out.r.cell 1
      have r2 := HT2.out.r.cell 2
      have r3 := HT2.out.r.cell 3
      have f0 := HT2.out.r.frozen 0
      have f1 := HT2.out.r.frozen 1
      have f2 := HT2.out.r.frozen 2
      have f3 := HT2.out.r.frozen 3
      simp only [List.getElem?_cons_zero, List.getElem?_cons_succ] at r0 r1 r2 r3
      clear hb2 hw1 HTR
      go_wp2_with fail
      exact bodyPost_ret (v := .agg #[.int .u8 1, .string KB, .string E, .int .u64 0]) (by simp [results, Try.results42, go_sem, r0, r1, r2, r3]) rfl ⟨rfl, bel_sr (bel_sr (bel_sr (bel_sr HT2.out.bel)))⟩
    · rw [jo_add h3 h1]
      have HAW := Lib.hid (u64_add a.delta b.delta)
      have HE : Hid (agU ⟨3, b.key, [], addN a.delta b.delta⟩ = .agg #[.int .u8 3, .string (Lend.strOf b.key), .string ⟨#[]⟩, .int .u64 (addN a.delta b.delta)]) := Lib.hid rfl
      rw [HE.out]
      unfold agU
      rw [h1, h3] at HTR ⊢
      generalize addN a.delta b.delta = S at *
      generalize b.delta = D at *
      generalize a.delta = D' at *
      generalize Lend.strOf a.key = KA at *
      generalize Lend.strOf b.key = KB at *
      generalize Lend.strOf a.val = VA at *
      generalize Lend.strOf b.val = VB at *
      obtain ⟨w1, hw1⟩ : ∃ x, x = ((w.alloc (.cells #[.int .u8 3, .string KA, .string VA, .int .u64 D'] 70)).alloc (.cells #[.int .u8 3, .string KB, .string VB, .int .u64 D] 70)).alloc (.cells #[.int .u8 0, .string ⟨#[]⟩, .string ⟨#[]⟩, .int .u64 0] 70) := ⟨_, rfl⟩
      rw [← hw1] at HTR
      clear HE HAL HAP h1 h3 hk0 hk1 hd0 hd1
      go_enter Try.func42, Try.ntmps42
      go_wp2_with fail
      rw [HAW.out]
      exact bodyPost_ret (v := .agg #[.int .u8 3, .string KB, .string ⟨#[]⟩, .int .u64 S]) (by simp [results, Try.results42, go_sem]) rfl ⟨rfl, below_nw (below_nw (below_new _ _) _) _⟩
  · rw [jo_oth h3]
    unfold agU
    generalize b.delta = D at *
    generalize a.delta = D' at *
    generalize Lend.strOf a.key = KA at *
    generalize Lend.strOf b.key = KB at *
    generalize Lend.strOf a.val = VA at *
    generalize Lend.strOf b.val = VB at *
    generalize a.kind = ka at *
    generalize b.kind = kb at *
    clear HAL HAP hk0 hk1 hd0 hd1
    obtain ⟨w1, hw1⟩ : ∃ x, x = ((w.alloc (.cells #[.int .u8 ka, .string KA, .string VA, .int .u64 D'] 70)).alloc (.cells #[.int .u8 kb, .string KB, .string VB, .int .u64 D] 70)).alloc (.cells #[.int .u8 0, .string ⟨#[]⟩, .string ⟨#[]⟩, .int .u64 0] 70) := ⟨_, rfl⟩
    rw [← hw1] at HTR
    go_enter Try.func42, Try.ntmps42
    go_wp2_with fail
    exact bodyPost_ret (v := .agg #[.int .u8 kb, .string KB, .string VB, .int .u64 D]) (by simp [results, Try.results42, go_sem]) rfl ⟨rfl, below_nw (below_nw (below_new _ _) _) _⟩
end Go.Proofs.Ytfclecbhfamomaa.Msg
