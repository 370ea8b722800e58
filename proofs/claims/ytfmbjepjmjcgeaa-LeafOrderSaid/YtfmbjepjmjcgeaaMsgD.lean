/- Layer 14 (msg): Join. -/
import Derived.Test.YtfmbjepjmjcgeaaMsgC
namespace Go.Proofs.Ytfmbjepjmjcgeaa.Msg
open Go Go.RowKit Go.Proofs.Ytfmbjepjmjcgeaa Go.Proofs.Ytfmbjepjmjcgeaa.Lend Go.Proofs.Ytfmbjepjmjcgeaa.Rec
set_option linter.unusedVariables false

def z4 : List Value := [.int .u8 0, .string ⟨#[]⟩, .string ⟨#[]⟩, .int .u64 0]
/-- two arguments and a result, each in a block -/
structure Tri (w0 : World) (t : TypeId) (ca cb cr : List Value) (w : World) : Prop where
  a : Has w w0.heap.size t ca
  b : Has w (w0.heap.size + 1) t cb
  r : Has w (w0.heap.size + 1 + 1) t cr
  bel : Below w0.heap.size w0 w
section
variable {w0 w w' : World} {t : TypeId} {ca cb cr : List Value}
theorem Tri.on (h : Tri w0 t ca cb cr w) (hb : Below w.heap.size w w') : Tri w0 t ca cb cr w' := ⟨h.a.below hb h.a.lt, h.b.below hb h.b.lt, h.r.below hb h.r.lt, below_on h.bel hb⟩
theorem Tri.setA (h : Tri w0 t ca cb cr w) (i : Nat) (v : Value) : Tri w0 t (ca.set i v) cb cr (w.setCell ⟨w0.heap.size, i, none⟩ v) :=
  ⟨h.a.set i v, h.b.setOther (show w0.heap.size ≠ w0.heap.size + 1 by omega) v, h.r.setOther (show w0.heap.size ≠ w0.heap.size + 1 + 1 by omega) v, h.bel.setCell (Nat.le_refl _) v⟩
theorem Tri.setR (h : Tri w0 t ca cb cr w) (i : Nat) (v : Value) : Tri w0 t ca cb (cr.set i v) (w.setCell ⟨w0.heap.size + 1 + 1, i, none⟩ v) :=
  ⟨h.a.setOther (show w0.heap.size + 1 + 1 ≠ w0.heap.size by omega) v, h.b.setOther (show w0.heap.size + 1 + 1 ≠ w0.heap.size + 1 by omega) v, h.r.set i v, h.bel.setCell (show w0.heap.size ≤ w0.heap.size + 1 + 1 by omega) v⟩
theorem Tri.new (w : World) (t : TypeId) (ca cb cr : List Value) : Tri w t ca cb cr (((w.alloc (.cells ca.toArray t)).alloc (.cells cb.toArray t)).alloc (.cells cr.toArray t)) := by
  have h1 := Has.new w ca t
  have h2 := Has.new (w.alloc (.cells ca.toArray t)) cb t
  have h3 := Has.new ((w.alloc (.cells ca.toArray t)).alloc (.cells cb.toArray t)) cr t
  simp only [World.size_alloc] at h2 h3
  exact ⟨(h1.alloc _).alloc _, h2.alloc _, h3, below_nw (below_nw (below_new w _) _) _⟩
end
theorem bel_sr {w w' : World} {i : Nat} {v : Value} (h : Below w.heap.size w w') : Below w.heap.size w (w'.setCell ⟨w.heap.size + 1 + 1, i, none⟩ v) := h.setCell (show w.heap.size ≤ w.heap.size + 1 + 1 by omega) v
set_option maxRecDepth 100000 in
set_option maxHeartbeats 4000000 in
theorem joinPut_any (ka kb : List UInt8) (va vb : List UInt8) (k1 k2 d : Int) (w : World) (hs : va.length ≤ 9223372036854775807) (h0 : 0 ≤ d) (h1 : d < 18446744073709551616) :
    Calls Try.prog 59 #[.agg #[.int .u8 1, .string (Lend.strOf ka), .string (Lend.strOf va), .int .u64 0], .agg #[.int .u8 k2, .string (Lend.strOf kb), .string (Lend.strOf vb), .int .u64 d]] w fun e w' =>
      e = .returned (.agg #[.int .u8 1, .string (Lend.strOf kb), .string (Lend.strOf (if va.length = 8 then encN (addN (numN va) d) 8 else va)), .int .u64 0]) ∧ Below w.heap.size w w' := by
  have HNU := Lib.hid (fun W => number_any va W hs)
  have HPU := Lib.hid (fun W => putOf_any (Lend.strOf kb) (addN (numN va) d) W (addN_bd _ _).1 (addN_bd _ _).2)
  have HAW := Lib.hid (u64_add (numN va) d)
  have HTR := Lib.hid (Tri.new w 34 [.int .u8 1, .string (Lend.strOf ka), .string (Lend.strOf va), .int .u64 0] [.int .u8 k2, .string (Lend.strOf kb), .string (Lend.strOf vb), .int .u64 d] z4)
  by_cases h8 : va.length = 8
  · have HB := Lib.hid (show numB va = true by simp [numB, h8])
    rw [HB.out] at HNU
    rw [if_pos h8]
    generalize Lend.strOf (encN (addN (numN va) d) 8) = E at *
    generalize addN (numN va) d = n at *
    generalize numN va = k at *
    generalize Lend.strOf ka = KA at *
    generalize Lend.strOf kb = KB at *
    generalize Lend.strOf va = VA at *
    generalize Lend.strOf vb = VB at *
    unfold z4 at HTR
    obtain ⟨w1, hw1⟩ : ∃ x, x = ((w.alloc (.cells #[.int .u8 1, .string KA, .string VA, .int .u64 0] 34)).alloc (.cells #[.int .u8 k2, .string KB, .string VB, .int .u64 d] 34)).alloc (.cells #[.int .u8 0, .string ⟨#[]⟩, .string ⟨#[]⟩, .int .u64 0] 34) := ⟨_, rfl⟩
    rw [← hw1] at HTR
    clear hs h0 h1 h8 HB
    go_enter Try.func59, Try.ntmps59
    go_wp2_with fail
    rw [← hw1]
    refine (HNU.out _).mono ?_
    rintro e w2 ⟨rfl, hb2⟩
    have HT2 := Lib.hid (HTR.out.on hb2)
    have y1 := HT2.out.b.cell 1
    have y3 := HT2.out.b.cell 3
    simp only [List.getElem?_cons_zero, List.getElem?_cons_succ] at y1 y3
    clear hb2 hw1 HTR
    go_wp2_with fail
    rw [HAW.out]
    refine (HPU.out _).mono ?_
    rintro e w3 ⟨rfl, hb3⟩
    have HT3 := Lib.hid (HT2.out.on hb3)
    have r0 := HT3.out.r.cell 0
    have r1 := HT3.out.r.cell 1
    have r2 := HT3.out.r.cell 2
    have r3 := HT3.out.r.cell 3
    have f0 := HT3.out.r.frozen 0
    have f1 := HT3.out.r.frozen 1
    have f2 := HT3.out.r.frozen 2
    have f3 := HT3.out.r.frozen 3
    simp only [List.getElem?_cons_zero, List.getElem?_cons_succ] at r0 r1 r2 r3
    clear hb3 y1 y3 HT2
    go_wp2_with fail
    exact bodyPost_ret (v := .agg #[.int .u8 1, .string KB, .string E, .int .u64 0]) (by simp [results, Try.results59, go_sem, r0, r1, r2, r3]) rfl ⟨rfl, bel_sr (bel_sr (bel_sr (bel_sr HT3.out.bel)))⟩
  · have HB := Lib.hid (show numB va = false by simp [numB, h8])
    rw [HB.out] at HNU
    rw [if_neg h8]
    generalize addN (numN va) d = n at *
    generalize numN va = k at *
    generalize Lend.strOf ka = KA at *
    generalize Lend.strOf kb = KB at *
    generalize Lend.strOf va = VA at *
    generalize Lend.strOf vb = VB at *
    unfold z4 at HTR
    obtain ⟨w1, hw1⟩ : ∃ x, x = ((w.alloc (.cells #[.int .u8 1, .string KA, .string VA, .int .u64 0] 34)).alloc (.cells #[.int .u8 k2, .string KB, .string VB, .int .u64 d] 34)).alloc (.cells #[.int .u8 0, .string ⟨#[]⟩, .string ⟨#[]⟩, .int .u64 0] 34) := ⟨_, rfl⟩
    rw [← hw1] at HTR
    clear hs h0 h1 h8 HB HPU HAW
    go_enter Try.func59, Try.ntmps59
    go_wp2_with fail
    rw [← hw1]
    refine (HNU.out _).mono ?_
    rintro e w2 ⟨rfl, hb2⟩
    have HT2 := Lib.hid (HTR.out.on hb2)
    have y1 := HT2.out.b.cell 1
    have x0 := HT2.out.a.cell 0
    have x1 := HT2.out.a.cell 1
    have x2 := HT2.out.a.cell 2
    have x3 := HT2.out.a.cell 3
    have g1 := HT2.out.a.frozen 1
    have r0 := HT2.out.r.cell 0
    have r1 := HT2.out.r.cell 1
    have r2 := HT2.out.r.cell 2
    have r3 := HT2.out.r.cell 3
    have f0 := HT2.out.r.frozen 0
    have f1 := HT2.out.r.frozen 1
    have f2 := HT2.out.r.frozen 2
    have f3 := HT2.out.r.frozen 3
    simp only [List.getElem?_cons_zero, List.getElem?_cons_succ] at y1 x0 x1 x2 x3 r0 r1 r2 r3
    clear hb2 hw1 HTR
    go_wp2_with fail
    exact bodyPost_ret (v := .agg #[.int .u8 1, .string KB, .string VA, .int .u64 0]) (by simp [results, Try.results59, go_sem, r0, r1, r2, r3]) rfl ⟨rfl, bel_sr (bel_sr (bel_sr (bel_sr (bel_st HT2.out.bel))))⟩
end Go.Proofs.Ytfmbjepjmjcgeaa.Msg
