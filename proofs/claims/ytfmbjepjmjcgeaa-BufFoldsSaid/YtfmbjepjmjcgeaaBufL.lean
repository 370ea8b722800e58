/- Layer 15 (buf): the law's own tame. -/
import Derived.Test.YtfmbjepjmjcgeaaBufR
namespace Go.Proofs.Ytfmbjepjmjcgeaa.Buf
open Go Go.RowKit Go.Proofs.Ytfmbjepjmjcgeaa Go.Proofs.Ytfmbjepjmjcgeaa.Lend Go.Proofs.Ytfmbjepjmjcgeaa.Rec Go.Proofs.Ytfmbjepjmjcgeaa.Msg
set_option linter.unusedVariables false

/-- what tame makes -/
def tmV (u : Up) : List UInt8 := if 1 + u.kind % 3 = 1 then u.val.take 20 else []
def tmD (u : Up) : Int := if 1 + u.kind % 3 = 3 then u.delta else 0
def tmU (u : Up) : Up := ⟨1 + u.kind % 3, (u.key ++ [107]).take 3, tmV u, tmD u⟩
theorem tmU_tm {u : Up} (h : WfU u) : Tm (tmU u) := by
  obtain ⟨k0, k1, d0, d1⟩ := h
  refine ⟨?_, ?_, ?_, ?_, ?_, ?_⟩
  · show 1 ≤ 1 + u.kind % 3; omega
  · show 1 + u.kind % 3 ≤ 3; omega
  · show 0 ≤ tmD u; unfold tmD; split <;> omega
  · show tmD u < 18446744073709551616; unfold tmD; split <;> omega
  · intro h
    have h : 1 + u.kind % 3 = 1 := h
    show tmD u = 0
    unfold tmD
    rw [if_neg (by omega)]
  · show (tmV u).length ≤ 40
    unfold tmV; split <;> simp; omega
theorem tmU_key (u : Up) : (tmU u).key ≠ [] := by
  show (u.key ++ [107]).take 3 ≠ []
  intro h
  have := congrArg List.length h
  rw [List.length_take, List.length_append] at this
  simp only [List.length_cons, List.length_nil] at this
  omega
/-- the law's update's block, and both that are made -/
structure T3 (w0 : World) (gq : Nat) (cs : List Value) (x y : Bool) (w : World) : Prop where
  m : Has w gq 35 cs
  b : Has w (w0.heap.size + 1) 34 (if x = true then cs else z4)
  r : Has w (w0.heap.size + 1 + 1) 35 (if y = true then cs else z4)
  bel : Below w0.heap.size w0 w
  ge : w0.heap.size + 1 + 1 < gq
section
variable {w0 w : World} {gq : Nat} {x y : Bool} {v0 v1 v2 v3 : Value}
theorem set4_z {b : Bool} {n : Nat} {t : TypeId} (h : Has w n t (if b = true then [v0, v1, v2, v3] else z4)) : Has ((((w.setCell ⟨n, 0, none⟩ v0).setCell ⟨n, 1, none⟩ v1).setCell ⟨n, 2, none⟩ v2).setCell ⟨n, 3, none⟩ v3) n t (if true = true then [v0, v1, v2, v3] else z4) := by
  have h2 := (((h.set 0 v0).set 1 v1).set 2 v2).set 3 v3
  cases b <;> exact h2
theorem oth4 {n m : Nat} {t : TypeId} {cs : List Value} (h : Has w n t cs) (hm : m ≠ n) : Has ((((w.setCell ⟨m, 0, none⟩ v0).setCell ⟨m, 1, none⟩ v1).setCell ⟨m, 2, none⟩ v2).setCell ⟨m, 3, none⟩ v3) n t cs :=
  (((h.setOther (by simpa using hm) v0).setOther (by simpa using hm) v1).setOther (by simpa using hm) v2).setOther (by simpa using hm) v3
theorem bel4 {m : Nat} (h : Below w0.heap.size w0 w) (hm : w0.heap.size ≤ m) : Below w0.heap.size w0 ((((w.setCell ⟨m, 0, none⟩ v0).setCell ⟨m, 1, none⟩ v1).setCell ⟨m, 2, none⟩ v2).setCell ⟨m, 3, none⟩ v3) :=
  (((h.setCell hm v0).setCell hm v1).setCell hm v2).setCell hm v3
theorem T3.stB (h : T3 w0 gq [v0, v1, v2, v3] x y w) : T3 w0 gq [v0, v1, v2, v3] true y ((((w.setCell ⟨w0.heap.size + 1, 0, none⟩ v0).setCell ⟨w0.heap.size + 1, 1, none⟩ v1).setCell ⟨w0.heap.size + 1, 2, none⟩ v2).setCell ⟨w0.heap.size + 1, 3, none⟩ v3) := by
  have := h.ge
  exact ⟨oth4 h.m (by omega), set4_z h.b, oth4 h.r (by omega), bel4 h.bel (by omega), h.ge⟩
theorem T3.stR (h : T3 w0 gq [v0, v1, v2, v3] x y w) : T3 w0 gq [v0, v1, v2, v3] x true ((((w.setCell ⟨w0.heap.size + 1 + 1, 0, none⟩ v0).setCell ⟨w0.heap.size + 1 + 1, 1, none⟩ v1).setCell ⟨w0.heap.size + 1 + 1, 2, none⟩ v2).setCell ⟨w0.heap.size + 1 + 1, 3, none⟩ v3) := by
  have := h.ge
  exact ⟨oth4 h.m (by omega), oth4 h.b (by omega), set4_z h.r, bel4 h.bel (by omega), h.ge⟩
theorem T3.dr {cs : List Value} (h : T3 w0 gq cs x y w) : T3 w0 gq cs x y w.drew := ⟨h.m.drew, h.b.drew, h.r.drew, h.bel.drew, h.ge⟩
theorem T3.set {cs : List Value} (h : T3 w0 gq cs false false w) (i : Nat) (v : Value) : T3 w0 gq (cs.set i v) false false (w.setCell ⟨gq, i, none⟩ v) := by
  have := h.ge
  exact ⟨h.m.set i v, h.b.setOther (show gq ≠ w0.heap.size + 1 by omega) v, h.r.setOther (show gq ≠ w0.heap.size + 1 + 1 by omega) v, h.bel.setCell (show w0.heap.size ≤ gq by omega) v, h.ge⟩
end
/-- a law's update, and both blocks that are answered -/
structure T0 (w0 : World) (ca : List Value) (w : World) : Prop where
  a : Has w w0.heap.size 77 ca
  b : Has w (w0.heap.size + 1) 34 z4
  r : Has w (w0.heap.size + 1 + 1) 35 z4
  bel : Below w0.heap.size w0 w
theorem T0.new (w : World) (ca : List Value) : T0 w ca (((w.alloc (.cells ca.toArray 77)).alloc (.cells z4.toArray 34)).alloc (.cells z4.toArray 35)) := by
  have h1 := Has.new w ca 77
  have h2 := Has.new (w.alloc (.cells ca.toArray 77)) z4 34
  have h3 := Has.new ((w.alloc (.cells ca.toArray 77)).alloc (.cells z4.toArray 34)) z4 35
  simp only [World.size_alloc] at h2 h3
  exact ⟨(h1.alloc _).alloc _, h2.alloc _, h3, below_nw (below_nw (below_new w _) _) _⟩
/-- what tame answers -/
def TaE (u : Up) : Ending := .returned (.tuple #[agU (tmU u), agU (tmU u)])
theorem emptyStr : Lend.strOf [] = ⟨#[]⟩ := rfl
set_option maxHeartbeats 8000000 in
set_option maxRecDepth 100000 in
theorem tame_0 (kd dl : Int) (K V KT VT : ByteArray) (n : Nat) (w : World) (k0 : 0 ≤ kd) (k1 : kd ≤ 255) (hr : kd % 3 = 0) (hks : K.size ≤ 140737488355327) (hvs : V.size ≤ 140737488355327) (hn : min (K.size + 1) 3 = n) (HKE : Hid ((K ++ ⟨#[107]⟩).extract 0 n = KT)) (HVE : Hid (V.extract 0 (min V.size 20) = VT)) :
    Calls Try.prog 24 #[.agg #[.int .u8 kd, .string K, .string V, .int .u64 dl]] w fun e w' => e = .returned (.tuple #[.agg #[.int .u8 1, .string KT, .string VT, .int .u64 0], .agg #[.int .u8 1, .string KT, .string VT, .int .u64 0]]) ∧ Below w.heap.size w w' := by
  have HT0 := Lib.hid (T0.new w [.int .u8 kd, .string K, .string V, .int .u64 dl])
  obtain ⟨w1, hw1⟩ : ∃ x, x = ((w.alloc (.cells #[.int .u8 kd, .string K, .string V, .int .u64 dl] 77)).alloc (.cells #[.int .u8 0, .string ⟨#[]⟩, .string ⟨#[]⟩, .int .u64 0] 34)).alloc (.cells #[.int .u8 0, .string ⟨#[]⟩, .string ⟨#[]⟩, .int .u64 0] 35) := ⟨_, rfl⟩
  unfold z4 at HT0
  rw [← hw1] at HT0
  have HSZ := Lib.hid (show w1.heap.size = w.heap.size + 1 + 1 + 1 by rw [hw1]; simp)
  have hke := HKE.out
  have hrt : kd.tmod 3 = 0 := by rw [Int.tmod_eq_emod_of_nonneg k0]; exact hr
  have hcc : ¬ 9223372036854775807 < K.size + 1 := by omega
  have hmn : min ((K.size : Int) + 1) 3 = (n : Int) := by omega
  have hmi : (if (3 : Int) < (K.size : Int) + 1 then 3 else (K.size : Int) + 1) = (n : Int) := by split <;> omega
  have hw8 : IntKind.u8.wrap 1 = 1 := rfl
  have hnk : n ≤ K.size + 1 := by omega
  have hn0 : (n : Int) ≤ (K.size : Int) + 1 := by omega
  have hws : IntKind.i64.wrap ((K.size : Int) + 1) = (K.size : Int) + 1 := IntWalk.i64_in _ (by omega)
  have HN := Lib.hid hn
  have HR := Lib.hid hr
  clear hn hr
  go_enter Try.func24, Try.ntmps24
  go_wp2_with fail
  rw [← hw1]
  clear hw1
  refine Reg.region_vals3 (by kernel_rfl) [(5, .pointer (some ⟨w.heap.size, 0, none⟩)), (6, .int .u8 kd), (7, .int .u8 0), (8, .int .u8 1), (9, .pointer (some ⟨w.heap.size, 1, none⟩)), (10, .string K), (11, .string (K ++ (⟨#[107]⟩ : ByteArray))), (12, .pointer (some ⟨w.heap.size, 1, none⟩)), (13, .string K), (14, .int .i64 (K.size : Nat)), (15, .int .i64 ((K.size : Int) + 1)), (16, .int .i64 (n : Nat)), (17, .string KT), (18, .agg #[.int .u8 1, .string KT, .string ⟨#[]⟩, .int .u64 0])] [4] (Uno w1 4 14 15 35 [.int .u8 0, .string ⟨#[]⟩, .string ⟨#[]⟩, .int .u64 0] [.int .u8 1, .string KT, .string ⟨#[]⟩, .int .u64 0]) ?a1 ?a2 ?a3 ?a4 ?a5 ?a6 ?a7 ?hend
  case a1 => kernel_rfl
  case a2 => kernel_rfl
  case a3 => kernel_rfl
  case a4 => kernel_rfl
  case a5 => kernel_rfl
  case a6 => exact Uno.start _
  case a7 =>
    refine ⟨?_, ?_, ?_, ?_, ?_, ?_, ?_, ?_, ?_, ?_, ?_, ?_, ?_, ?_, ?_, ?_, trivial⟩
    · -- 0: 5 := Op.fieldAddr 77 t1 0
      intro aq wq lq hz hI hl hdone hlater hold hd ho
      have h1 : aq.tmps.getD 1 undef = .pointer (some ⟨w.heap.size, 0, none⟩) := ho 1 (by kernel_rfl)
      clear hd ho hdone hlater hold
      rw [Array.getD_eq_getD_getElem?] at h1
      have hc : 5 < aq.tmps.size := by have hz' : aq.tmps.size = 46 := hz; omega
      refine Reg.step3_val (.pointer (some ⟨w.heap.size, 0, none⟩)) ?_ rfl (hI.keep _ (Below.refl _ _) (by decide) (by decide) (by decide) hc) trivial
      clear hz hc hI
      go_simp
    · -- 1: 6 := Op.load 5 t5
      intro aq wq lq hz hI hl hdone hlater hold hd ho
      have h5 : aq.tmps.getD 5 undef = .pointer (some ⟨w.heap.size, 0, none⟩) := hd 5 (by kernel_rfl)
      clear hd ho hdone hlater hold
      rw [Array.getD_eq_getD_getElem?] at h5
      have hc : 6 < aq.tmps.size := by have hz' : aq.tmps.size = 46 := hz; omega
      have e0 : wq.cell? ⟨w.heap.size, 0, none⟩ = some (.int .u8 kd) := keep1 (HT0.out.a.cell 0) hI.1
      refine Reg.step3_val (.int .u8 kd) ?_ rfl (hI.keep _ (Below.refl _ _) (by decide) (by decide) (by decide) hc) trivial
      clear hz hc hI
      go_simp
    · -- 2: 7 := Op.binOp BinOp.rem 5 t6 (const (3:u8)) 5
      intro aq wq lq hz hI hl hdone hlater hold hd ho
      have h6 : aq.tmps.getD 6 undef = .int .u8 kd := hd 6 (by kernel_rfl)
      clear hd ho hdone hlater hold
      rw [Array.getD_eq_getD_getElem?] at h6
      have hc : 7 < aq.tmps.size := by have hz' : aq.tmps.size = 46 := hz; omega
      refine Reg.step3_val (.int .u8 0) ?_ rfl (hI.keep _ (Below.refl _ _) (by decide) (by decide) (by decide) hc) trivial
      clear hz hc hI
      simp [execOp]
      go_simp
    · -- 3: 8 := Op.binOp BinOp.add 5 (const (1:u8)) t7 5
      intro aq wq lq hz hI hl hdone hlater hold hd ho
      have h7 : aq.tmps.getD 7 undef = .int .u8 0 := hd 7 (by kernel_rfl)
      clear hd ho hdone hlater hold
      rw [Array.getD_eq_getD_getElem?] at h7
      have hc : 8 < aq.tmps.size := by have hz' : aq.tmps.size = 46 := hz; omega
      refine Reg.step3_val (.int .u8 1) ?_ rfl (hI.keep _ (Below.refl _ _) (by decide) (by decide) (by decide) hc) trivial
      clear hz hc hI
      simp [execOp]
      go_simp
    · -- 4: 9 := Op.fieldAddr 77 t1 1
      intro aq wq lq hz hI hl hdone hlater hold hd ho
      have h1 : aq.tmps.getD 1 undef = .pointer (some ⟨w.heap.size, 0, none⟩) := ho 1 (by kernel_rfl)
      clear hd ho hdone hlater hold
      rw [Array.getD_eq_getD_getElem?] at h1
      have hc : 9 < aq.tmps.size := by have hz' : aq.tmps.size = 46 := hz; omega
      refine Reg.step3_val (.pointer (some ⟨w.heap.size, 1, none⟩)) ?_ rfl (hI.keep _ (Below.refl _ _) (by decide) (by decide) (by decide) hc) trivial
      clear hz hc hI
      go_simp
    · -- 5: 10 := Op.load 9 t9
      intro aq wq lq hz hI hl hdone hlater hold hd ho
      have h9 : aq.tmps.getD 9 undef = .pointer (some ⟨w.heap.size, 1, none⟩) := hd 9 (by kernel_rfl)
      clear hd ho hdone hlater hold
      rw [Array.getD_eq_getD_getElem?] at h9
      have hc : 10 < aq.tmps.size := by have hz' : aq.tmps.size = 46 := hz; omega
      have e0 : wq.cell? ⟨w.heap.size, 1, none⟩ = some (.string K) := keep1 (HT0.out.a.cell 1) hI.1
      refine Reg.step3_val (.string K) ?_ rfl (hI.keep _ (Below.refl _ _) (by decide) (by decide) (by decide) hc) trivial
      clear hz hc hI
      go_simp
    · -- 6: 11 := Op.binOp BinOp.add 9 t10 (const (Value.string  data := #10
      intro aq wq lq hz hI hl hdone hlater hold hd ho
      have h10 : aq.tmps.getD 10 undef = .string K := hd 10 (by kernel_rfl)
      clear hd ho hdone hlater hold
      rw [Array.getD_eq_getD_getElem?] at h10
      have hc : 11 < aq.tmps.size := by have hz' : aq.tmps.size = 46 := hz; omega
      refine Reg.step3_val (.string (K ++ (⟨#[107]⟩ : ByteArray))) ?_ rfl (hI.keep _ (Below.refl _ _) (by decide) (by decide) (by decide) hc) trivial
      clear hz hc hI
      simp [execOp]
      go_simp
    · -- 7: 12 := Op.fieldAddr 77 t1 1
      intro aq wq lq hz hI hl hdone hlater hold hd ho
      have h1 : aq.tmps.getD 1 undef = .pointer (some ⟨w.heap.size, 0, none⟩) := ho 1 (by kernel_rfl)
      clear hd ho hdone hlater hold
      rw [Array.getD_eq_getD_getElem?] at h1
      have hc : 12 < aq.tmps.size := by have hz' : aq.tmps.size = 46 := hz; omega
      refine Reg.step3_val (.pointer (some ⟨w.heap.size, 1, none⟩)) ?_ rfl (hI.keep _ (Below.refl _ _) (by decide) (by decide) (by decide) hc) trivial
      clear hz hc hI
      go_simp
    · -- 8: 13 := Op.load 9 t12
      intro aq wq lq hz hI hl hdone hlater hold hd ho
      have h12 : aq.tmps.getD 12 undef = .pointer (some ⟨w.heap.size, 1, none⟩) := hd 12 (by kernel_rfl)
      clear hd ho hdone hlater hold
      rw [Array.getD_eq_getD_getElem?] at h12
      have hc : 13 < aq.tmps.size := by have hz' : aq.tmps.size = 46 := hz; omega
      have e0 : wq.cell? ⟨w.heap.size, 1, none⟩ = some (.string K) := keep1 (HT0.out.a.cell 1) hI.1
      refine Reg.step3_val (.string K) ?_ rfl (hI.keep _ (Below.refl _ _) (by decide) (by decide) (by decide) hc) trivial
      clear hz hc hI
      go_simp
    · -- 9: 14 := Op.call  builtin len, args := #t13, argTypes := #9 
      intro aq wq lq hz hI hl hdone hlater hold hd ho
      have h13 : aq.tmps.getD 13 undef = .string K := hd 13 (by kernel_rfl)
      clear hd ho hdone hlater hold
      rw [Array.getD_eq_getD_getElem?] at h13
      have hc : 14 < aq.tmps.size := by have hz' : aq.tmps.size = 46 := hz; omega
      refine Reg.step3_val (.int .i64 (K.size : Nat)) ?_ rfl (hI.keep _ (Below.refl _ _) (by decide) (by decide) (by decide) hc) trivial
      clear hz hc hI
      simp [execOp]
      go_simp
    · -- 10: 15 := Op.binOp BinOp.add 3 t14 (const (1:i64)) 3
      intro aq wq lq hz hI hl hdone hlater hold hd ho
      have h14 : aq.tmps.getD 14 undef = .int .i64 (K.size : Nat) := hd 14 (by kernel_rfl)
      clear hd ho hdone hlater hold
      rw [Array.getD_eq_getD_getElem?] at h14
      have hc : 15 < aq.tmps.size := by have hz' : aq.tmps.size = 46 := hz; omega
      refine Reg.step3_val (.int .i64 ((K.size : Int) + 1)) ?_ rfl (hI.keep _ (Below.refl _ _) (by decide) (by decide) (by decide) hc) trivial
      clear hz hc hI
      simp [execOp]
      go_simp
    · -- 11: 16 := Op.call  builtin min, args := #t15, const (3:i64), argTyp
      intro aq wq lq hz hI hl hdone hlater hold hd ho
      have h15 : aq.tmps.getD 15 undef = .int .i64 ((K.size : Int) + 1) := hd 15 (by kernel_rfl)
      clear hd ho hdone hlater hold
      rw [Array.getD_eq_getD_getElem?] at h15
      have hc : 16 < aq.tmps.size := by have hz' : aq.tmps.size = 46 := hz; omega
      refine Reg.step3_val (.int .i64 (n : Nat)) ?_ rfl (hI.keep _ (Below.refl _ _) (by decide) (by decide) (by decide) hc) trivial
      clear hz hc hI
      simp [execOp]
      go_simp
    · -- 12: 17 := Op.slice 9 t11 none (some t16) none
      intro aq wq lq hz hI hl hdone hlater hold hd ho
      have h11 : aq.tmps.getD 11 undef = .string (K ++ (⟨#[107]⟩ : ByteArray)) := hd 11 (by kernel_rfl)
      have h16 : aq.tmps.getD 16 undef = .int .i64 (n : Nat) := hd 16 (by kernel_rfl)
      clear hd ho hdone hlater hold
      rw [Array.getD_eq_getD_getElem?] at h11 h16
      have hc : 17 < aq.tmps.size := by have hz' : aq.tmps.size = 46 := hz; omega
      refine Reg.step3_val (.string KT) ?_ rfl (hI.keep _ (Below.refl _ _) (by decide) (by decide) (by decide) hc) trivial
      clear hz hc hI
      simp [execOp]
      go_simp
    · -- 13: 18 := Op.build 35 #(0, t8), (1, t17)
      intro aq wq lq hz hI hl hdone hlater hold hd ho
      have h8 : aq.tmps.getD 8 undef = .int .u8 1 := hd 8 (by kernel_rfl)
      have h17 : aq.tmps.getD 17 undef = .string KT := hd 17 (by kernel_rfl)
      clear hd ho hdone hlater hold
      rw [Array.getD_eq_getD_getElem?] at h8 h17
      have hc : 18 < aq.tmps.size := by have hz' : aq.tmps.size = 46 := hz; omega
      refine Reg.step3_val (.agg #[.int .u8 1, .string KT, .string ⟨#[]⟩, .int .u64 0]) ?_ rfl (hI.keep _ (Below.refl _ _) (by decide) (by decide) (by decide) hc) trivial
      clear hz hc hI
      simp [execOp]
      go_simp
    · -- 14: 4 := Op.alloc 35
      intro aq wq lq hz hI hl hdone hlater hold hd ho
      have hst : lq 15 = false := hlater 15 (by kernel_rfl)
      clear hd ho hdone hlater hold
      have hc : 4 < aq.tmps.size := by have hz' : aq.tmps.size = 46 := hz; omega
      refine Reg.step3_do (.pointer (some ⟨wq.heap.size, 0, none⟩)) (wq.alloc (.cells #[.int .u8 0, .string ⟨#[]⟩, .string ⟨#[]⟩, .int .u64 0] 35)) ?_ trivial (Uno.mk hI hst (by decide) hc) trivial
      clear hz hc hI
      simp [execOp]
      go_simp
    · -- 15: None := Op.store 35 t4 t18
      intro aq wq lq hz hI hl hdone hlater hold hd ho
      have h18 : aq.tmps.getD 18 undef = .agg #[.int .u8 1, .string KT, .string ⟨#[]⟩, .int .u64 0] := hd 18 (by kernel_rfl)
      have hia : lq 14 = true := hdone 14 (by kernel_rfl)
      clear hd ho hdone hlater hold
      rw [Array.getD_eq_getD_getElem?] at h18
      obtain ⟨gq, hgp, hge, hH, hBx, hU⟩ := hI.st hia hl (by decide)
      rw [Array.getD_eq_getD_getElem?] at hgp
      have e0 : wq.cell? ⟨gq, 0, none⟩ = some (.int .u8 0) := hH.cell 0
      have e1 : wq.cell? ⟨gq, 1, none⟩ = some (.string ⟨#[]⟩) := hH.cell 1
      have e2 : wq.cell? ⟨gq, 2, none⟩ = some (.string ⟨#[]⟩) := hH.cell 2
      have e3 : wq.cell? ⟨gq, 3, none⟩ = some (.int .u64 0) := hH.cell 3
      have fz := hH.frozen
      refine Reg.step3_skip ((((wq.setCell ⟨gq, 0, none⟩ (.int .u8 1)).setCell ⟨gq, 1, none⟩ (.string KT)).setCell ⟨gq, 2, none⟩ (.string ⟨#[]⟩)).setCell ⟨gq, 3, none⟩ (.int .u64 0)) rfl ?_ (hU _ (Has.set (Has.set (Has.set (Has.set hH 0 (.int .u8 1)) 1 (.string KT)) 2 (.string ⟨#[]⟩)) 3 (.int .u64 0)) (Below.setCell (Below.setCell (Below.setCell (Below.setCell hBx (by exact hge) _) (by exact hge) _) (by exact hge) _) (by exact hge) _)) trivial
      clear hU hH hBx hI hz
      simp [execOp]
      go_simp
  case hend =>
    intro wx v aq hv hI
    obtain ⟨gq, hgp, hge, hH, hBx⟩ := Uno.done hI (by decide) (by decide)
    rw [hv 4 (by decide)] at hgp
    clear hv hI
    simp only [Reg.fill, List.map_cons, List.map_nil, List.foldl_cons, List.foldl_nil, List.setIfInBounds_toArray, List.set_cons_zero, List.set_cons_succ]
    rw [hgp]
    clear hgp
    have hgs : w.heap.size + 1 + 1 < gq := by have := HSZ.out; omega
    have HA := Lib.hid (HT0.out.a.below hBx HT0.out.a.lt)
    have HT3 : Hid (T3 w gq [.int .u8 1, .string KT, .string ⟨#[]⟩, .int .u64 0] false false wx) := Lib.hid ⟨hH, HT0.out.b.below hBx HT0.out.b.lt, HT0.out.r.below hBx HT0.out.r.lt, HT0.out.bel.trans (hBx.mono HT0.out.bel.size), hgs⟩
    have a2 : wx.cell? ⟨w.heap.size, 2, none⟩ = some (.string V) := HA.out.cell 2
    have a3 : wx.cell? ⟨w.heap.size, 3, none⟩ = some (.int .u64 dl) := HA.out.cell 3
    have q0 : wx.cell? ⟨gq, 0, none⟩ = some (.int .u8 1) := hH.cell 0
    have q1 : wx.cell? ⟨gq, 1, none⟩ = some (.string KT) := hH.cell 1
    have q2 : wx.cell? ⟨gq, 2, none⟩ = some (.string ⟨#[]⟩) := hH.cell 2
    have q3 : wx.cell? ⟨gq, 3, none⟩ = some (.int .u64 0) := hH.cell 3
    have f2 := hH.frozen 2
    have f3 := hH.frozen 3
    have hgn : ¬ gq = w.heap.size := by omega
    have hgn' : ¬ w.heap.size = gq := by omega
    clear hH hBx hge hke hrt hcc hmn hmi hw8 hnk hn0 hws
    have cV : (20 < V.size ∧ min V.size 20 = 20) ∨ (¬ 20 < V.size ∧ min V.size 20 = V.size) := by omega
    rcases cV with ⟨hv, hm⟩ | ⟨hv, hm⟩
    all_goals
      have hve := HVE.out
      rw [hm] at hve
      clear hm
      have HT4 := Lib.hid (HT3.out.set 2 (.string VT))
      simp only [List.set_cons_zero, List.set_cons_succ] at HT4
      go_wp2_with fail
      refine Reg.region_vals (by kernel_rfl) [(36, .pointer (some ⟨gq, 0, none⟩)), (37, .int .u8 1), (38, .pointer (some ⟨gq, 1, none⟩)), (39, .string KT), (40, .pointer (some ⟨gq, 2, none⟩)), (41, .string VT), (42, .pointer (some ⟨gq, 3, none⟩)), (43, .int .u64 0), (44, .agg #[.int .u8 1, .string KT, .string VT, .int .u64 0]), (45, .agg #[.int .u8 1, .string KT, .string VT, .int .u64 0])] (fun l wy => T3 w gq [.int .u8 1, .string KT, .string VT, .int .u64 0] (l 10) (l 11) wy) (by kernel_rfl) (by kernel_rfl) (by kernel_rfl) (HT4.out.dr) ⟨?_, ?_, ?_, ?_, ?_, ?_, ?_, ?_, ?_, ?_, ?_, ?_, trivial⟩ ?hend
      · -- 0: 36 := Op.fieldAddr 35 t4 0
        intro aq wq lq hI hl hdone hlater hold hd ho
        have h4 : aq.tmps.getD 4 undef = .pointer (some ⟨gq, 0, none⟩) := ho 4 (by kernel_rfl)
        clear hd ho hdone hlater hold
        rw [Array.getD_eq_getD_getElem?] at h4
        refine Reg.step2_val (.pointer (some ⟨gq, 0, none⟩)) ?_ rfl hI trivial
        go_simp
      · -- 1: 37 := Op.load 5 t36
        intro aq wq lq hI hl hdone hlater hold hd ho
        have h36 : aq.tmps.getD 36 undef = .pointer (some ⟨gq, 0, none⟩) := hd 36 (by kernel_rfl)
        clear hd ho hdone hlater hold
        rw [Array.getD_eq_getD_getElem?] at h36
        have e0 : wq.cell? ⟨gq, 0, none⟩ = some (.int .u8 1) := hI.m.cell 0
        refine Reg.step2_val (.int .u8 1) ?_ rfl hI trivial
        go_simp
      · -- 2: 38 := Op.fieldAddr 35 t4 1
        intro aq wq lq hI hl hdone hlater hold hd ho
        have h4 : aq.tmps.getD 4 undef = .pointer (some ⟨gq, 0, none⟩) := ho 4 (by kernel_rfl)
        clear hd ho hdone hlater hold
        rw [Array.getD_eq_getD_getElem?] at h4
        refine Reg.step2_val (.pointer (some ⟨gq, 1, none⟩)) ?_ rfl hI trivial
        go_simp
      · -- 3: 39 := Op.load 9 t38
        intro aq wq lq hI hl hdone hlater hold hd ho
        have h38 : aq.tmps.getD 38 undef = .pointer (some ⟨gq, 1, none⟩) := hd 38 (by kernel_rfl)
        clear hd ho hdone hlater hold
        rw [Array.getD_eq_getD_getElem?] at h38
        have e0 : wq.cell? ⟨gq, 1, none⟩ = some (.string KT) := hI.m.cell 1
        refine Reg.step2_val (.string KT) ?_ rfl hI trivial
        go_simp
      · -- 4: 40 := Op.fieldAddr 35 t4 2
        intro aq wq lq hI hl hdone hlater hold hd ho
        have h4 : aq.tmps.getD 4 undef = .pointer (some ⟨gq, 0, none⟩) := ho 4 (by kernel_rfl)
        clear hd ho hdone hlater hold
        rw [Array.getD_eq_getD_getElem?] at h4
        refine Reg.step2_val (.pointer (some ⟨gq, 2, none⟩)) ?_ rfl hI trivial
        go_simp
      · -- 5: 41 := Op.load 9 t40
        intro aq wq lq hI hl hdone hlater hold hd ho
        have h40 : aq.tmps.getD 40 undef = .pointer (some ⟨gq, 2, none⟩) := hd 40 (by kernel_rfl)
        clear hd ho hdone hlater hold
        rw [Array.getD_eq_getD_getElem?] at h40
        have e0 : wq.cell? ⟨gq, 2, none⟩ = some (.string VT) := hI.m.cell 2
        refine Reg.step2_val (.string VT) ?_ rfl hI trivial
        go_simp
      · -- 6: 42 := Op.fieldAddr 35 t4 3
        intro aq wq lq hI hl hdone hlater hold hd ho
        have h4 : aq.tmps.getD 4 undef = .pointer (some ⟨gq, 0, none⟩) := ho 4 (by kernel_rfl)
        clear hd ho hdone hlater hold
        rw [Array.getD_eq_getD_getElem?] at h4
        refine Reg.step2_val (.pointer (some ⟨gq, 3, none⟩)) ?_ rfl hI trivial
        go_simp
      · -- 7: 43 := Op.load 29 t42
        intro aq wq lq hI hl hdone hlater hold hd ho
        have h42 : aq.tmps.getD 42 undef = .pointer (some ⟨gq, 3, none⟩) := hd 42 (by kernel_rfl)
        clear hd ho hdone hlater hold
        rw [Array.getD_eq_getD_getElem?] at h42
        have e0 : wq.cell? ⟨gq, 3, none⟩ = some (.int .u64 0) := hI.m.cell 3
        refine Reg.step2_val (.int .u64 0) ?_ rfl hI trivial
        go_simp
      · -- 8: 44 := Op.build 34 #((0, t37), (1, t39), (2, t41), (3, t43))
        intro aq wq lq hI hl hdone hlater hold hd ho
        have h37 : aq.tmps.getD 37 undef = .int .u8 1 := hd 37 (by kernel_rfl)
        have h39 : aq.tmps.getD 39 undef = .string KT := hd 39 (by kernel_rfl)
        have h41 : aq.tmps.getD 41 undef = .string VT := hd 41 (by kernel_rfl)
        have h43 : aq.tmps.getD 43 undef = .int .u64 0 := hd 43 (by kernel_rfl)
        clear hd ho hdone hlater hold
        rw [Array.getD_eq_getD_getElem?] at h37 h39 h41 h43
        refine Reg.step2_val (.agg #[.int .u8 1, .string KT, .string VT, .int .u64 0]) ?_ rfl hI trivial
        simp [execOp, Act.eval, h37, h39, h41, h43]
        try go_simp
      · -- 9: 45 := Op.load 35 t4
        intro aq wq lq hI hl hdone hlater hold hd ho
        have h4 : aq.tmps.getD 4 undef = .pointer (some ⟨gq, 0, none⟩) := ho 4 (by kernel_rfl)
        clear hd ho hdone hlater hold
        rw [Array.getD_eq_getD_getElem?] at h4
        have e0 : wq.cell? ⟨gq, 0, none⟩ = some (.int .u8 1) := hI.m.cell 0
        have e1 : wq.cell? ⟨gq, 1, none⟩ = some (.string KT) := hI.m.cell 1
        have e2 : wq.cell? ⟨gq, 2, none⟩ = some (.string VT) := hI.m.cell 2
        have e3 : wq.cell? ⟨gq, 3, none⟩ = some (.int .u64 0) := hI.m.cell 3
        refine Reg.step2_val (.agg #[.int .u8 1, .string KT, .string VT, .int .u64 0]) ?_ rfl hI trivial
        go_simp
      · -- 10: None := Op.store 34 t2 t44
        intro aq wq lq hI hl hdone hlater hold hd ho
        have h2 : aq.tmps.getD 2 undef = .pointer (some ⟨w.heap.size + 1, 0, none⟩) := ho 2 (by kernel_rfl)
        have h44 : aq.tmps.getD 44 undef = .agg #[.int .u8 1, .string KT, .string VT, .int .u64 0] := hd 44 (by kernel_rfl)
        clear hd ho hdone hlater hold
        rw [Array.getD_eq_getD_getElem?] at h2 h44
        have hB := hI.b
        rw [hl] at hB
        have e0 := hB.cell 0
        have e1 := hB.cell 1
        have e2 := hB.cell 2
        have e3 := hB.cell 3
        have f0 := hB.frozen 0
        have f1 := hB.frozen 1
        have f2 := hB.frozen 2
        have f3 := hB.frozen 3
        simp only [z4, if_neg Bool.false_ne_true, List.getElem?_cons_zero, List.getElem?_cons_succ] at e0 e1 e2 e3
        have hJ := hI
        clear hI hB hl
        refine Reg.step2_skip _ rfl ?_ (T3.stB hJ) trivial
        clear hJ
        simp [execOp]
        go_simp
      · -- 11: None := Op.store 35 t3 t45
        intro aq wq lq hI hl hdone hlater hold hd ho
        have h3 : aq.tmps.getD 3 undef = .pointer (some ⟨w.heap.size + 1 + 1, 0, none⟩) := ho 3 (by kernel_rfl)
        have h45 : aq.tmps.getD 45 undef = .agg #[.int .u8 1, .string KT, .string VT, .int .u64 0] := hd 45 (by kernel_rfl)
        clear hd ho hdone hlater hold
        rw [Array.getD_eq_getD_getElem?] at h3 h45
        have hB := hI.r
        rw [hl] at hB
        have e0 := hB.cell 0
        have e1 := hB.cell 1
        have e2 := hB.cell 2
        have e3 := hB.cell 3
        have f0 := hB.frozen 0
        have f1 := hB.frozen 1
        have f2 := hB.frozen 2
        have f3 := hB.frozen 3
        simp only [z4, if_neg Bool.false_ne_true, List.getElem?_cons_zero, List.getElem?_cons_succ] at e0 e1 e2 e3
        have hJ := hI
        clear hI hB hl
        refine Reg.step2_skip _ rfl ?_ (T3.stR hJ) trivial
        clear hJ
        simp [execOp]
        go_simp
      case hend =>
        intro wt hI
        simp only [Reg.fill, List.foldl_cons, List.foldl_nil, List.setIfInBounds_toArray, List.set_cons_zero, List.set_cons_succ]
        have hJ : T3 w gq [.int .u8 1, .string KT, .string VT, .int .u64 0] true true wt := hI
        clear hI HT3 HT4
        have r0 := hJ.b.cell 0
        have r1 := hJ.b.cell 1
        have r2 := hJ.b.cell 2
        have r3 := hJ.b.cell 3
        have s0 := hJ.r.cell 0
        have s1 := hJ.r.cell 1
        have s2 := hJ.r.cell 2
        have s3 := hJ.r.cell 3
        simp only [if_true, List.getElem?_cons_zero, List.getElem?_cons_succ] at r0 r1 r2 r3 s0 s1 s2 s3
        have hbel := hJ.bel
        clear hJ
        go_wp2_with fail
        exact bodyPost_ret (v := .tuple #[.agg #[.int .u8 1, .string KT, .string VT, .int .u64 0], .agg #[.int .u8 1, .string KT, .string VT, .int .u64 0]]) (by simp [results, Try.results24, go_sem, r0, r1, r2, r3, s0, s1, s2, s3]) rfl ⟨rfl, hbel⟩
set_option maxHeartbeats 8000000 in
set_option maxRecDepth 100000 in
theorem tame_1 (kd dl : Int) (K V KT VT : ByteArray) (n : Nat) (w : World) (k0 : 0 ≤ kd) (k1 : kd ≤ 255) (hr : kd % 3 = 1) (hks : K.size ≤ 140737488355327) (hvs : V.size ≤ 140737488355327) (hn : min (K.size + 1) 3 = n) (HKE : Hid ((K ++ ⟨#[107]⟩).extract 0 n = KT)) (HVE : Hid (V.extract 0 (min V.size 20) = VT)) :
    Calls Try.prog 24 #[.agg #[.int .u8 kd, .string K, .string V, .int .u64 dl]] w fun e w' => e = .returned (.tuple #[.agg #[.int .u8 2, .string KT, .string ⟨#[]⟩, .int .u64 0], .agg #[.int .u8 2, .string KT, .string ⟨#[]⟩, .int .u64 0]]) ∧ Below w.heap.size w w' := by
  have HT0 := Lib.hid (T0.new w [.int .u8 kd, .string K, .string V, .int .u64 dl])
  obtain ⟨w1, hw1⟩ : ∃ x, x = ((w.alloc (.cells #[.int .u8 kd, .string K, .string V, .int .u64 dl] 77)).alloc (.cells #[.int .u8 0, .string ⟨#[]⟩, .string ⟨#[]⟩, .int .u64 0] 34)).alloc (.cells #[.int .u8 0, .string ⟨#[]⟩, .string ⟨#[]⟩, .int .u64 0] 35) := ⟨_, rfl⟩
  unfold z4 at HT0
  rw [← hw1] at HT0
  have HSZ := Lib.hid (show w1.heap.size = w.heap.size + 1 + 1 + 1 by rw [hw1]; simp)
  have hke := HKE.out
  have hrt : kd.tmod 3 = 1 := by rw [Int.tmod_eq_emod_of_nonneg k0]; exact hr
  have hcc : ¬ 9223372036854775807 < K.size + 1 := by omega
  have hmn : min ((K.size : Int) + 1) 3 = (n : Int) := by omega
  have hmi : (if (3 : Int) < (K.size : Int) + 1 then 3 else (K.size : Int) + 1) = (n : Int) := by split <;> omega
  have hw8 : IntKind.u8.wrap 2 = 2 := rfl
  have hnk : n ≤ K.size + 1 := by omega
  have hn0 : (n : Int) ≤ (K.size : Int) + 1 := by omega
  have hws : IntKind.i64.wrap ((K.size : Int) + 1) = (K.size : Int) + 1 := IntWalk.i64_in _ (by omega)
  have HN := Lib.hid hn
  have HR := Lib.hid hr
  clear hn hr
  go_enter Try.func24, Try.ntmps24
  go_wp2_with fail
  rw [← hw1]
  clear hw1
  refine Reg.region_vals3 (by kernel_rfl) [(5, .pointer (some ⟨w.heap.size, 0, none⟩)), (6, .int .u8 kd), (7, .int .u8 1), (8, .int .u8 2), (9, .pointer (some ⟨w.heap.size, 1, none⟩)), (10, .string K), (11, .string (K ++ (⟨#[107]⟩ : ByteArray))), (12, .pointer (some ⟨w.heap.size, 1, none⟩)), (13, .string K), (14, .int .i64 (K.size : Nat)), (15, .int .i64 ((K.size : Int) + 1)), (16, .int .i64 (n : Nat)), (17, .string KT), (18, .agg #[.int .u8 2, .string KT, .string ⟨#[]⟩, .int .u64 0])] [4] (Uno w1 4 14 15 35 [.int .u8 0, .string ⟨#[]⟩, .string ⟨#[]⟩, .int .u64 0] [.int .u8 2, .string KT, .string ⟨#[]⟩, .int .u64 0]) ?a1 ?a2 ?a3 ?a4 ?a5 ?a6 ?a7 ?hend
  case a1 => kernel_rfl
  case a2 => kernel_rfl
  case a3 => kernel_rfl
  case a4 => kernel_rfl
  case a5 => kernel_rfl
  case a6 => exact Uno.start _
  case a7 =>
    refine ⟨?_, ?_, ?_, ?_, ?_, ?_, ?_, ?_, ?_, ?_, ?_, ?_, ?_, ?_, ?_, ?_, trivial⟩
    · -- 0: 5 := Op.fieldAddr 77 t1 0
      intro aq wq lq hz hI hl hdone hlater hold hd ho
      have h1 : aq.tmps.getD 1 undef = .pointer (some ⟨w.heap.size, 0, none⟩) := ho 1 (by kernel_rfl)
      clear hd ho hdone hlater hold
      rw [Array.getD_eq_getD_getElem?] at h1
      have hc : 5 < aq.tmps.size := by have hz' : aq.tmps.size = 46 := hz; omega
      refine Reg.step3_val (.pointer (some ⟨w.heap.size, 0, none⟩)) ?_ rfl (hI.keep _ (Below.refl _ _) (by decide) (by decide) (by decide) hc) trivial
      clear hz hc hI
      go_simp
    · -- 1: 6 := Op.load 5 t5
      intro aq wq lq hz hI hl hdone hlater hold hd ho
      have h5 : aq.tmps.getD 5 undef = .pointer (some ⟨w.heap.size, 0, none⟩) := hd 5 (by kernel_rfl)
      clear hd ho hdone hlater hold
      rw [Array.getD_eq_getD_getElem?] at h5
      have hc : 6 < aq.tmps.size := by have hz' : aq.tmps.size = 46 := hz; omega
      have e0 : wq.cell? ⟨w.heap.size, 0, none⟩ = some (.int .u8 kd) := keep1 (HT0.out.a.cell 0) hI.1
      refine Reg.step3_val (.int .u8 kd) ?_ rfl (hI.keep _ (Below.refl _ _) (by decide) (by decide) (by decide) hc) trivial
      clear hz hc hI
      go_simp
    · -- 2: 7 := Op.binOp BinOp.rem 5 t6 (const (3:u8)) 5
      intro aq wq lq hz hI hl hdone hlater hold hd ho
      have h6 : aq.tmps.getD 6 undef = .int .u8 kd := hd 6 (by kernel_rfl)
      clear hd ho hdone hlater hold
      rw [Array.getD_eq_getD_getElem?] at h6
      have hc : 7 < aq.tmps.size := by have hz' : aq.tmps.size = 46 := hz; omega
      refine Reg.step3_val (.int .u8 1) ?_ rfl (hI.keep _ (Below.refl _ _) (by decide) (by decide) (by decide) hc) trivial
      clear hz hc hI
      simp [execOp]
      go_simp
    · -- 3: 8 := Op.binOp BinOp.add 5 (const (1:u8)) t7 5
      intro aq wq lq hz hI hl hdone hlater hold hd ho
      have h7 : aq.tmps.getD 7 undef = .int .u8 1 := hd 7 (by kernel_rfl)
      clear hd ho hdone hlater hold
      rw [Array.getD_eq_getD_getElem?] at h7
      have hc : 8 < aq.tmps.size := by have hz' : aq.tmps.size = 46 := hz; omega
      refine Reg.step3_val (.int .u8 2) ?_ rfl (hI.keep _ (Below.refl _ _) (by decide) (by decide) (by decide) hc) trivial
      clear hz hc hI
      simp [execOp]
      go_simp
    · -- 4: 9 := Op.fieldAddr 77 t1 1
      intro aq wq lq hz hI hl hdone hlater hold hd ho
      have h1 : aq.tmps.getD 1 undef = .pointer (some ⟨w.heap.size, 0, none⟩) := ho 1 (by kernel_rfl)
      clear hd ho hdone hlater hold
      rw [Array.getD_eq_getD_getElem?] at h1
      have hc : 9 < aq.tmps.size := by have hz' : aq.tmps.size = 46 := hz; omega
      refine Reg.step3_val (.pointer (some ⟨w.heap.size, 1, none⟩)) ?_ rfl (hI.keep _ (Below.refl _ _) (by decide) (by decide) (by decide) hc) trivial
      clear hz hc hI
      go_simp
    · -- 5: 10 := Op.load 9 t9
      intro aq wq lq hz hI hl hdone hlater hold hd ho
      have h9 : aq.tmps.getD 9 undef = .pointer (some ⟨w.heap.size, 1, none⟩) := hd 9 (by kernel_rfl)
      clear hd ho hdone hlater hold
      rw [Array.getD_eq_getD_getElem?] at h9
      have hc : 10 < aq.tmps.size := by have hz' : aq.tmps.size = 46 := hz; omega
      have e0 : wq.cell? ⟨w.heap.size, 1, none⟩ = some (.string K) := keep1 (HT0.out.a.cell 1) hI.1
      refine Reg.step3_val (.string K) ?_ rfl (hI.keep _ (Below.refl _ _) (by decide) (by decide) (by decide) hc) trivial
      clear hz hc hI
      go_simp
    · -- 6: 11 := Op.binOp BinOp.add 9 t10 (const (Value.string  data := #10
      intro aq wq lq hz hI hl hdone hlater hold hd ho
      have h10 : aq.tmps.getD 10 undef = .string K := hd 10 (by kernel_rfl)
      clear hd ho hdone hlater hold
      rw [Array.getD_eq_getD_getElem?] at h10
      have hc : 11 < aq.tmps.size := by have hz' : aq.tmps.size = 46 := hz; omega
      refine Reg.step3_val (.string (K ++ (⟨#[107]⟩ : ByteArray))) ?_ rfl (hI.keep _ (Below.refl _ _) (by decide) (by decide) (by decide) hc) trivial
      clear hz hc hI
      simp [execOp]
      go_simp
    · -- 7: 12 := Op.fieldAddr 77 t1 1
      intro aq wq lq hz hI hl hdone hlater hold hd ho
      have h1 : aq.tmps.getD 1 undef = .pointer (some ⟨w.heap.size, 0, none⟩) := ho 1 (by kernel_rfl)
      clear hd ho hdone hlater hold
      rw [Array.getD_eq_getD_getElem?] at h1
      have hc : 12 < aq.tmps.size := by have hz' : aq.tmps.size = 46 := hz; omega
      refine Reg.step3_val (.pointer (some ⟨w.heap.size, 1, none⟩)) ?_ rfl (hI.keep _ (Below.refl _ _) (by decide) (by decide) (by decide) hc) trivial
      clear hz hc hI
      go_simp
    · -- 8: 13 := Op.load 9 t12
      intro aq wq lq hz hI hl hdone hlater hold hd ho
      have h12 : aq.tmps.getD 12 undef = .pointer (some ⟨w.heap.size, 1, none⟩) := hd 12 (by kernel_rfl)
      clear hd ho hdone hlater hold
      rw [Array.getD_eq_getD_getElem?] at h12
      have hc : 13 < aq.tmps.size := by have hz' : aq.tmps.size = 46 := hz; omega
      have e0 : wq.cell? ⟨w.heap.size, 1, none⟩ = some (.string K) := keep1 (HT0.out.a.cell 1) hI.1
      refine Reg.step3_val (.string K) ?_ rfl (hI.keep _ (Below.refl _ _) (by decide) (by decide) (by decide) hc) trivial
      clear hz hc hI
      go_simp
    · -- 9: 14 := Op.call  builtin len, args := #t13, argTypes := #9 
      intro aq wq lq hz hI hl hdone hlater hold hd ho
      have h13 : aq.tmps.getD 13 undef = .string K := hd 13 (by kernel_rfl)
      clear hd ho hdone hlater hold
      rw [Array.getD_eq_getD_getElem?] at h13
      have hc : 14 < aq.tmps.size := by have hz' : aq.tmps.size = 46 := hz; omega
      refine Reg.step3_val (.int .i64 (K.size : Nat)) ?_ rfl (hI.keep _ (Below.refl _ _) (by decide) (by decide) (by decide) hc) trivial
      clear hz hc hI
      simp [execOp]
      go_simp
    · -- 10: 15 := Op.binOp BinOp.add 3 t14 (const (1:i64)) 3
      intro aq wq lq hz hI hl hdone hlater hold hd ho
      have h14 : aq.tmps.getD 14 undef = .int .i64 (K.size : Nat) := hd 14 (by kernel_rfl)
      clear hd ho hdone hlater hold
      rw [Array.getD_eq_getD_getElem?] at h14
      have hc : 15 < aq.tmps.size := by have hz' : aq.tmps.size = 46 := hz; omega
      refine Reg.step3_val (.int .i64 ((K.size : Int) + 1)) ?_ rfl (hI.keep _ (Below.refl _ _) (by decide) (by decide) (by decide) hc) trivial
      clear hz hc hI
      simp [execOp]
      go_simp
    · -- 11: 16 := Op.call  builtin min, args := #t15, const (3:i64), argTyp
      intro aq wq lq hz hI hl hdone hlater hold hd ho
      have h15 : aq.tmps.getD 15 undef = .int .i64 ((K.size : Int) + 1) := hd 15 (by kernel_rfl)
      clear hd ho hdone hlater hold
      rw [Array.getD_eq_getD_getElem?] at h15
      have hc : 16 < aq.tmps.size := by have hz' : aq.tmps.size = 46 := hz; omega
      refine Reg.step3_val (.int .i64 (n : Nat)) ?_ rfl (hI.keep _ (Below.refl _ _) (by decide) (by decide) (by decide) hc) trivial
      clear hz hc hI
      simp [execOp]
      go_simp
    · -- 12: 17 := Op.slice 9 t11 none (some t16) none
      intro aq wq lq hz hI hl hdone hlater hold hd ho
      have h11 : aq.tmps.getD 11 undef = .string (K ++ (⟨#[107]⟩ : ByteArray)) := hd 11 (by kernel_rfl)
      have h16 : aq.tmps.getD 16 undef = .int .i64 (n : Nat) := hd 16 (by kernel_rfl)
      clear hd ho hdone hlater hold
      rw [Array.getD_eq_getD_getElem?] at h11 h16
      have hc : 17 < aq.tmps.size := by have hz' : aq.tmps.size = 46 := hz; omega
      refine Reg.step3_val (.string KT) ?_ rfl (hI.keep _ (Below.refl _ _) (by decide) (by decide) (by decide) hc) trivial
      clear hz hc hI
      simp [execOp]
      go_simp
    · -- 13: 18 := Op.build 35 #(0, t8), (1, t17)
      intro aq wq lq hz hI hl hdone hlater hold hd ho
      have h8 : aq.tmps.getD 8 undef = .int .u8 2 := hd 8 (by kernel_rfl)
      have h17 : aq.tmps.getD 17 undef = .string KT := hd 17 (by kernel_rfl)
      clear hd ho hdone hlater hold
      rw [Array.getD_eq_getD_getElem?] at h8 h17
      have hc : 18 < aq.tmps.size := by have hz' : aq.tmps.size = 46 := hz; omega
      refine Reg.step3_val (.agg #[.int .u8 2, .string KT, .string ⟨#[]⟩, .int .u64 0]) ?_ rfl (hI.keep _ (Below.refl _ _) (by decide) (by decide) (by decide) hc) trivial
      clear hz hc hI
      simp [execOp]
      go_simp
    · -- 14: 4 := Op.alloc 35
      intro aq wq lq hz hI hl hdone hlater hold hd ho
      have hst : lq 15 = false := hlater 15 (by kernel_rfl)
      clear hd ho hdone hlater hold
      have hc : 4 < aq.tmps.size := by have hz' : aq.tmps.size = 46 := hz; omega
      refine Reg.step3_do (.pointer (some ⟨wq.heap.size, 0, none⟩)) (wq.alloc (.cells #[.int .u8 0, .string ⟨#[]⟩, .string ⟨#[]⟩, .int .u64 0] 35)) ?_ trivial (Uno.mk hI hst (by decide) hc) trivial
      clear hz hc hI
      simp [execOp]
      go_simp
    · -- 15: None := Op.store 35 t4 t18
      intro aq wq lq hz hI hl hdone hlater hold hd ho
      have h18 : aq.tmps.getD 18 undef = .agg #[.int .u8 2, .string KT, .string ⟨#[]⟩, .int .u64 0] := hd 18 (by kernel_rfl)
      have hia : lq 14 = true := hdone 14 (by kernel_rfl)
      clear hd ho hdone hlater hold
      rw [Array.getD_eq_getD_getElem?] at h18
      obtain ⟨gq, hgp, hge, hH, hBx, hU⟩ := hI.st hia hl (by decide)
      rw [Array.getD_eq_getD_getElem?] at hgp
      have e0 : wq.cell? ⟨gq, 0, none⟩ = some (.int .u8 0) := hH.cell 0
      have e1 : wq.cell? ⟨gq, 1, none⟩ = some (.string ⟨#[]⟩) := hH.cell 1
      have e2 : wq.cell? ⟨gq, 2, none⟩ = some (.string ⟨#[]⟩) := hH.cell 2
      have e3 : wq.cell? ⟨gq, 3, none⟩ = some (.int .u64 0) := hH.cell 3
      have fz := hH.frozen
      refine Reg.step3_skip ((((wq.setCell ⟨gq, 0, none⟩ (.int .u8 2)).setCell ⟨gq, 1, none⟩ (.string KT)).setCell ⟨gq, 2, none⟩ (.string ⟨#[]⟩)).setCell ⟨gq, 3, none⟩ (.int .u64 0)) rfl ?_ (hU _ (Has.set (Has.set (Has.set (Has.set hH 0 (.int .u8 2)) 1 (.string KT)) 2 (.string ⟨#[]⟩)) 3 (.int .u64 0)) (Below.setCell (Below.setCell (Below.setCell (Below.setCell hBx (by exact hge) _) (by exact hge) _) (by exact hge) _) (by exact hge) _)) trivial
      clear hU hH hBx hI hz
      simp [execOp]
      go_simp
  case hend =>
    intro wx v aq hv hI
    obtain ⟨gq, hgp, hge, hH, hBx⟩ := Uno.done hI (by decide) (by decide)
    rw [hv 4 (by decide)] at hgp
    clear hv hI
    simp only [Reg.fill, List.map_cons, List.map_nil, List.foldl_cons, List.foldl_nil, List.setIfInBounds_toArray, List.set_cons_zero, List.set_cons_succ]
    rw [hgp]
    clear hgp
    have hgs : w.heap.size + 1 + 1 < gq := by have := HSZ.out; omega
    have HA := Lib.hid (HT0.out.a.below hBx HT0.out.a.lt)
    have HT3 : Hid (T3 w gq [.int .u8 2, .string KT, .string ⟨#[]⟩, .int .u64 0] false false wx) := Lib.hid ⟨hH, HT0.out.b.below hBx HT0.out.b.lt, HT0.out.r.below hBx HT0.out.r.lt, HT0.out.bel.trans (hBx.mono HT0.out.bel.size), hgs⟩
    have a2 : wx.cell? ⟨w.heap.size, 2, none⟩ = some (.string V) := HA.out.cell 2
    have a3 : wx.cell? ⟨w.heap.size, 3, none⟩ = some (.int .u64 dl) := HA.out.cell 3
    have q0 : wx.cell? ⟨gq, 0, none⟩ = some (.int .u8 2) := hH.cell 0
    have q1 : wx.cell? ⟨gq, 1, none⟩ = some (.string KT) := hH.cell 1
    have q2 : wx.cell? ⟨gq, 2, none⟩ = some (.string ⟨#[]⟩) := hH.cell 2
    have q3 : wx.cell? ⟨gq, 3, none⟩ = some (.int .u64 0) := hH.cell 3
    have f2 := hH.frozen 2
    have f3 := hH.frozen 3
    have hgn : ¬ gq = w.heap.size := by omega
    have hgn' : ¬ w.heap.size = gq := by omega
    clear hH hBx hge hke hrt hcc hmn hmi hw8 hnk hn0 hws
    have HT4 := HT3
    go_wp2_with fail
    refine Reg.region_vals (by kernel_rfl) [(36, .pointer (some ⟨gq, 0, none⟩)), (37, .int .u8 2), (38, .pointer (some ⟨gq, 1, none⟩)), (39, .string KT), (40, .pointer (some ⟨gq, 2, none⟩)), (41, .string ⟨#[]⟩), (42, .pointer (some ⟨gq, 3, none⟩)), (43, .int .u64 0), (44, .agg #[.int .u8 2, .string KT, .string ⟨#[]⟩, .int .u64 0]), (45, .agg #[.int .u8 2, .string KT, .string ⟨#[]⟩, .int .u64 0])] (fun l wy => T3 w gq [.int .u8 2, .string KT, .string ⟨#[]⟩, .int .u64 0] (l 10) (l 11) wy) (by kernel_rfl) (by kernel_rfl) (by kernel_rfl) (HT4.out.dr) ⟨?_, ?_, ?_, ?_, ?_, ?_, ?_, ?_, ?_, ?_, ?_, ?_, trivial⟩ ?hend
    · -- 0: 36 := Op.fieldAddr 35 t4 0
      intro aq wq lq hI hl hdone hlater hold hd ho
      have h4 : aq.tmps.getD 4 undef = .pointer (some ⟨gq, 0, none⟩) := ho 4 (by kernel_rfl)
      clear hd ho hdone hlater hold
      rw [Array.getD_eq_getD_getElem?] at h4
      refine Reg.step2_val (.pointer (some ⟨gq, 0, none⟩)) ?_ rfl hI trivial
      go_simp
    · -- 1: 37 := Op.load 5 t36
      intro aq wq lq hI hl hdone hlater hold hd ho
      have h36 : aq.tmps.getD 36 undef = .pointer (some ⟨gq, 0, none⟩) := hd 36 (by kernel_rfl)
      clear hd ho hdone hlater hold
      rw [Array.getD_eq_getD_getElem?] at h36
      have e0 : wq.cell? ⟨gq, 0, none⟩ = some (.int .u8 2) := hI.m.cell 0
      refine Reg.step2_val (.int .u8 2) ?_ rfl hI trivial
      go_simp
    · -- 2: 38 := Op.fieldAddr 35 t4 1
      intro aq wq lq hI hl hdone hlater hold hd ho
      have h4 : aq.tmps.getD 4 undef = .pointer (some ⟨gq, 0, none⟩) := ho 4 (by kernel_rfl)
      clear hd ho hdone hlater hold
      rw [Array.getD_eq_getD_getElem?] at h4
      refine Reg.step2_val (.pointer (some ⟨gq, 1, none⟩)) ?_ rfl hI trivial
      go_simp
    · -- 3: 39 := Op.load 9 t38
      intro aq wq lq hI hl hdone hlater hold hd ho
      have h38 : aq.tmps.getD 38 undef = .pointer (some ⟨gq, 1, none⟩) := hd 38 (by kernel_rfl)
      clear hd ho hdone hlater hold
      rw [Array.getD_eq_getD_getElem?] at h38
      have e0 : wq.cell? ⟨gq, 1, none⟩ = some (.string KT) := hI.m.cell 1
      refine Reg.step2_val (.string KT) ?_ rfl hI trivial
      go_simp
    · -- 4: 40 := Op.fieldAddr 35 t4 2
      intro aq wq lq hI hl hdone hlater hold hd ho
      have h4 : aq.tmps.getD 4 undef = .pointer (some ⟨gq, 0, none⟩) := ho 4 (by kernel_rfl)
      clear hd ho hdone hlater hold
      rw [Array.getD_eq_getD_getElem?] at h4
      refine Reg.step2_val (.pointer (some ⟨gq, 2, none⟩)) ?_ rfl hI trivial
      go_simp
    · -- 5: 41 := Op.load 9 t40
      intro aq wq lq hI hl hdone hlater hold hd ho
      have h40 : aq.tmps.getD 40 undef = .pointer (some ⟨gq, 2, none⟩) := hd 40 (by kernel_rfl)
      clear hd ho hdone hlater hold
      rw [Array.getD_eq_getD_getElem?] at h40
      have e0 : wq.cell? ⟨gq, 2, none⟩ = some (.string ⟨#[]⟩) := hI.m.cell 2
      refine Reg.step2_val (.string ⟨#[]⟩) ?_ rfl hI trivial
      go_simp
    · -- 6: 42 := Op.fieldAddr 35 t4 3
      intro aq wq lq hI hl hdone hlater hold hd ho
      have h4 : aq.tmps.getD 4 undef = .pointer (some ⟨gq, 0, none⟩) := ho 4 (by kernel_rfl)
      clear hd ho hdone hlater hold
      rw [Array.getD_eq_getD_getElem?] at h4
      refine Reg.step2_val (.pointer (some ⟨gq, 3, none⟩)) ?_ rfl hI trivial
      go_simp
    · -- 7: 43 := Op.load 29 t42
      intro aq wq lq hI hl hdone hlater hold hd ho
      have h42 : aq.tmps.getD 42 undef = .pointer (some ⟨gq, 3, none⟩) := hd 42 (by kernel_rfl)
      clear hd ho hdone hlater hold
      rw [Array.getD_eq_getD_getElem?] at h42
      have e0 : wq.cell? ⟨gq, 3, none⟩ = some (.int .u64 0) := hI.m.cell 3
      refine Reg.step2_val (.int .u64 0) ?_ rfl hI trivial
      go_simp
    · -- 8: 44 := Op.build 34 #((0, t37), (1, t39), (2, t41), (3, t43))
      intro aq wq lq hI hl hdone hlater hold hd ho
      have h37 : aq.tmps.getD 37 undef = .int .u8 2 := hd 37 (by kernel_rfl)
      have h39 : aq.tmps.getD 39 undef = .string KT := hd 39 (by kernel_rfl)
      have h41 : aq.tmps.getD 41 undef = .string ⟨#[]⟩ := hd 41 (by kernel_rfl)
      have h43 : aq.tmps.getD 43 undef = .int .u64 0 := hd 43 (by kernel_rfl)
      clear hd ho hdone hlater hold
      rw [Array.getD_eq_getD_getElem?] at h37 h39 h41 h43
      refine Reg.step2_val (.agg #[.int .u8 2, .string KT, .string ⟨#[]⟩, .int .u64 0]) ?_ rfl hI trivial
      simp [execOp, Act.eval, h37, h39, h41, h43]
      try go_simp
    · -- 9: 45 := Op.load 35 t4
      intro aq wq lq hI hl hdone hlater hold hd ho
      have h4 : aq.tmps.getD 4 undef = .pointer (some ⟨gq, 0, none⟩) := ho 4 (by kernel_rfl)
      clear hd ho hdone hlater hold
      rw [Array.getD_eq_getD_getElem?] at h4
      have e0 : wq.cell? ⟨gq, 0, none⟩ = some (.int .u8 2) := hI.m.cell 0
      have e1 : wq.cell? ⟨gq, 1, none⟩ = some (.string KT) := hI.m.cell 1
      have e2 : wq.cell? ⟨gq, 2, none⟩ = some (.string ⟨#[]⟩) := hI.m.cell 2
      have e3 : wq.cell? ⟨gq, 3, none⟩ = some (.int .u64 0) := hI.m.cell 3
      refine Reg.step2_val (.agg #[.int .u8 2, .string KT, .string ⟨#[]⟩, .int .u64 0]) ?_ rfl hI trivial
      go_simp
    · -- 10: None := Op.store 34 t2 t44
      intro aq wq lq hI hl hdone hlater hold hd ho
      have h2 : aq.tmps.getD 2 undef = .pointer (some ⟨w.heap.size + 1, 0, none⟩) := ho 2 (by kernel_rfl)
      have h44 : aq.tmps.getD 44 undef = .agg #[.int .u8 2, .string KT, .string ⟨#[]⟩, .int .u64 0] := hd 44 (by kernel_rfl)
      clear hd ho hdone hlater hold
      rw [Array.getD_eq_getD_getElem?] at h2 h44
      have hB := hI.b
      rw [hl] at hB
      have e0 := hB.cell 0
      have e1 := hB.cell 1
      have e2 := hB.cell 2
      have e3 := hB.cell 3
      have f0 := hB.frozen 0
      have f1 := hB.frozen 1
      have f2 := hB.frozen 2
      have f3 := hB.frozen 3
      simp only [z4, if_neg Bool.false_ne_true, List.getElem?_cons_zero, List.getElem?_cons_succ] at e0 e1 e2 e3
      have hJ := hI
      clear hI hB hl
      refine Reg.step2_skip _ rfl ?_ (T3.stB hJ) trivial
      clear hJ
      simp [execOp]
      go_simp
    · -- 11: None := Op.store 35 t3 t45
      intro aq wq lq hI hl hdone hlater hold hd ho
      have h3 : aq.tmps.getD 3 undef = .pointer (some ⟨w.heap.size + 1 + 1, 0, none⟩) := ho 3 (by kernel_rfl)
      have h45 : aq.tmps.getD 45 undef = .agg #[.int .u8 2, .string KT, .string ⟨#[]⟩, .int .u64 0] := hd 45 (by kernel_rfl)
      clear hd ho hdone hlater hold
      rw [Array.getD_eq_getD_getElem?] at h3 h45
      have hB := hI.r
      rw [hl] at hB
      have e0 := hB.cell 0
      have e1 := hB.cell 1
      have e2 := hB.cell 2
      have e3 := hB.cell 3
      have f0 := hB.frozen 0
      have f1 := hB.frozen 1
      have f2 := hB.frozen 2
      have f3 := hB.frozen 3
      simp only [z4, if_neg Bool.false_ne_true, List.getElem?_cons_zero, List.getElem?_cons_succ] at e0 e1 e2 e3
      have hJ := hI
      clear hI hB hl
      refine Reg.step2_skip _ rfl ?_ (T3.stR hJ) trivial
      clear hJ
      simp [execOp]
      go_simp
    case hend =>
      intro wt hI
      simp only [Reg.fill, List.foldl_cons, List.foldl_nil, List.setIfInBounds_toArray, List.set_cons_zero, List.set_cons_succ]
      have hJ : T3 w gq [.int .u8 2, .string KT, .string ⟨#[]⟩, .int .u64 0] true true wt := hI
      clear hI HT3 HT4
      have r0 := hJ.b.cell 0
      have r1 := hJ.b.cell 1
      have r2 := hJ.b.cell 2
      have r3 := hJ.b.cell 3
      have s0 := hJ.r.cell 0
      have s1 := hJ.r.cell 1
      have s2 := hJ.r.cell 2
      have s3 := hJ.r.cell 3
      simp only [if_true, List.getElem?_cons_zero, List.getElem?_cons_succ] at r0 r1 r2 r3 s0 s1 s2 s3
      have hbel := hJ.bel
      clear hJ
      go_wp2_with fail
      exact bodyPost_ret (v := .tuple #[.agg #[.int .u8 2, .string KT, .string ⟨#[]⟩, .int .u64 0], .agg #[.int .u8 2, .string KT, .string ⟨#[]⟩, .int .u64 0]]) (by simp [results, Try.results24, go_sem, r0, r1, r2, r3, s0, s1, s2, s3]) rfl ⟨rfl, hbel⟩
set_option maxHeartbeats 8000000 in
set_option maxRecDepth 100000 in
theorem tame_2 (kd dl : Int) (K V KT VT : ByteArray) (n : Nat) (w : World) (k0 : 0 ≤ kd) (k1 : kd ≤ 255) (hr : kd % 3 = 2) (hks : K.size ≤ 140737488355327) (hvs : V.size ≤ 140737488355327) (hn : min (K.size + 1) 3 = n) (HKE : Hid ((K ++ ⟨#[107]⟩).extract 0 n = KT)) (HVE : Hid (V.extract 0 (min V.size 20) = VT)) :
    Calls Try.prog 24 #[.agg #[.int .u8 kd, .string K, .string V, .int .u64 dl]] w fun e w' => e = .returned (.tuple #[.agg #[.int .u8 3, .string KT, .string ⟨#[]⟩, .int .u64 dl], .agg #[.int .u8 3, .string KT, .string ⟨#[]⟩, .int .u64 dl]]) ∧ Below w.heap.size w w' := by
  have HT0 := Lib.hid (T0.new w [.int .u8 kd, .string K, .string V, .int .u64 dl])
  obtain ⟨w1, hw1⟩ : ∃ x, x = ((w.alloc (.cells #[.int .u8 kd, .string K, .string V, .int .u64 dl] 77)).alloc (.cells #[.int .u8 0, .string ⟨#[]⟩, .string ⟨#[]⟩, .int .u64 0] 34)).alloc (.cells #[.int .u8 0, .string ⟨#[]⟩, .string ⟨#[]⟩, .int .u64 0] 35) := ⟨_, rfl⟩
  unfold z4 at HT0
  rw [← hw1] at HT0
  have HSZ := Lib.hid (show w1.heap.size = w.heap.size + 1 + 1 + 1 by rw [hw1]; simp)
  have hke := HKE.out
  have hrt : kd.tmod 3 = 2 := by rw [Int.tmod_eq_emod_of_nonneg k0]; exact hr
  have hcc : ¬ 9223372036854775807 < K.size + 1 := by omega
  have hmn : min ((K.size : Int) + 1) 3 = (n : Int) := by omega
  have hmi : (if (3 : Int) < (K.size : Int) + 1 then 3 else (K.size : Int) + 1) = (n : Int) := by split <;> omega
  have hw8 : IntKind.u8.wrap 3 = 3 := rfl
  have hnk : n ≤ K.size + 1 := by omega
  have hn0 : (n : Int) ≤ (K.size : Int) + 1 := by omega
  have hws : IntKind.i64.wrap ((K.size : Int) + 1) = (K.size : Int) + 1 := IntWalk.i64_in _ (by omega)
  have HN := Lib.hid hn
  have HR := Lib.hid hr
  clear hn hr
  go_enter Try.func24, Try.ntmps24
  go_wp2_with fail
  rw [← hw1]
  clear hw1
  refine Reg.region_vals3 (by kernel_rfl) [(5, .pointer (some ⟨w.heap.size, 0, none⟩)), (6, .int .u8 kd), (7, .int .u8 2), (8, .int .u8 3), (9, .pointer (some ⟨w.heap.size, 1, none⟩)), (10, .string K), (11, .string (K ++ (⟨#[107]⟩ : ByteArray))), (12, .pointer (some ⟨w.heap.size, 1, none⟩)), (13, .string K), (14, .int .i64 (K.size : Nat)), (15, .int .i64 ((K.size : Int) + 1)), (16, .int .i64 (n : Nat)), (17, .string KT), (18, .agg #[.int .u8 3, .string KT, .string ⟨#[]⟩, .int .u64 0])] [4] (Uno w1 4 14 15 35 [.int .u8 0, .string ⟨#[]⟩, .string ⟨#[]⟩, .int .u64 0] [.int .u8 3, .string KT, .string ⟨#[]⟩, .int .u64 0]) ?a1 ?a2 ?a3 ?a4 ?a5 ?a6 ?a7 ?hend
  case a1 => kernel_rfl
  case a2 => kernel_rfl
  case a3 => kernel_rfl
  case a4 => kernel_rfl
  case a5 => kernel_rfl
  case a6 => exact Uno.start _
  case a7 =>
    refine ⟨?_, ?_, ?_, ?_, ?_, ?_, ?_, ?_, ?_, ?_, ?_, ?_, ?_, ?_, ?_, ?_, trivial⟩
    · -- 0: 5 := Op.fieldAddr 77 t1 0
      intro aq wq lq hz hI hl hdone hlater hold hd ho
      have h1 : aq.tmps.getD 1 undef = .pointer (some ⟨w.heap.size, 0, none⟩) := ho 1 (by kernel_rfl)
      clear hd ho hdone hlater hold
      rw [Array.getD_eq_getD_getElem?] at h1
      have hc : 5 < aq.tmps.size := by have hz' : aq.tmps.size = 46 := hz; omega
      refine Reg.step3_val (.pointer (some ⟨w.heap.size, 0, none⟩)) ?_ rfl (hI.keep _ (Below.refl _ _) (by decide) (by decide) (by decide) hc) trivial
      clear hz hc hI
      go_simp
    · -- 1: 6 := Op.load 5 t5
      intro aq wq lq hz hI hl hdone hlater hold hd ho
      have h5 : aq.tmps.getD 5 undef = .pointer (some ⟨w.heap.size, 0, none⟩) := hd 5 (by kernel_rfl)
      clear hd ho hdone hlater hold
      rw [Array.getD_eq_getD_getElem?] at h5
      have hc : 6 < aq.tmps.size := by have hz' : aq.tmps.size = 46 := hz; omega
      have e0 : wq.cell? ⟨w.heap.size, 0, none⟩ = some (.int .u8 kd) := keep1 (HT0.out.a.cell 0) hI.1
      refine Reg.step3_val (.int .u8 kd) ?_ rfl (hI.keep _ (Below.refl _ _) (by decide) (by decide) (by decide) hc) trivial
      clear hz hc hI
      go_simp
    · -- 2: 7 := Op.binOp BinOp.rem 5 t6 (const (3:u8)) 5
      intro aq wq lq hz hI hl hdone hlater hold hd ho
      have h6 : aq.tmps.getD 6 undef = .int .u8 kd := hd 6 (by kernel_rfl)
      clear hd ho hdone hlater hold
      rw [Array.getD_eq_getD_getElem?] at h6
      have hc : 7 < aq.tmps.size := by have hz' : aq.tmps.size = 46 := hz; omega
      refine Reg.step3_val (.int .u8 2) ?_ rfl (hI.keep _ (Below.refl _ _) (by decide) (by decide) (by decide) hc) trivial
      clear hz hc hI
      simp [execOp]
      go_simp
    · -- 3: 8 := Op.binOp BinOp.add 5 (const (1:u8)) t7 5
      intro aq wq lq hz hI hl hdone hlater hold hd ho
      have h7 : aq.tmps.getD 7 undef = .int .u8 2 := hd 7 (by kernel_rfl)
      clear hd ho hdone hlater hold
      rw [Array.getD_eq_getD_getElem?] at h7
      have hc : 8 < aq.tmps.size := by have hz' : aq.tmps.size = 46 := hz; omega
      refine Reg.step3_val (.int .u8 3) ?_ rfl (hI.keep _ (Below.refl _ _) (by decide) (by decide) (by decide) hc) trivial
      clear hz hc hI
      simp [execOp]
      go_simp
    · -- 4: 9 := Op.fieldAddr 77 t1 1
      intro aq wq lq hz hI hl hdone hlater hold hd ho
      have h1 : aq.tmps.getD 1 undef = .pointer (some ⟨w.heap.size, 0, none⟩) := ho 1 (by kernel_rfl)
      clear hd ho hdone hlater hold
      rw [Array.getD_eq_getD_getElem?] at h1
      have hc : 9 < aq.tmps.size := by have hz' : aq.tmps.size = 46 := hz; omega
      refine Reg.step3_val (.pointer (some ⟨w.heap.size, 1, none⟩)) ?_ rfl (hI.keep _ (Below.refl _ _) (by decide) (by decide) (by decide) hc) trivial
      clear hz hc hI
      go_simp
    · -- 5: 10 := Op.load 9 t9
      intro aq wq lq hz hI hl hdone hlater hold hd ho
      have h9 : aq.tmps.getD 9 undef = .pointer (some ⟨w.heap.size, 1, none⟩) := hd 9 (by kernel_rfl)
      clear hd ho hdone hlater hold
      rw [Array.getD_eq_getD_getElem?] at h9
      have hc : 10 < aq.tmps.size := by have hz' : aq.tmps.size = 46 := hz; omega
      have e0 : wq.cell? ⟨w.heap.size, 1, none⟩ = some (.string K) := keep1 (HT0.out.a.cell 1) hI.1
      refine Reg.step3_val (.string K) ?_ rfl (hI.keep _ (Below.refl _ _) (by decide) (by decide) (by decide) hc) trivial
      clear hz hc hI
      go_simp
    · -- 6: 11 := Op.binOp BinOp.add 9 t10 (const (Value.string  data := #10
      intro aq wq lq hz hI hl hdone hlater hold hd ho
      have h10 : aq.tmps.getD 10 undef = .string K := hd 10 (by kernel_rfl)
      clear hd ho hdone hlater hold
      rw [Array.getD_eq_getD_getElem?] at h10
      have hc : 11 < aq.tmps.size := by have hz' : aq.tmps.size = 46 := hz; omega
      refine Reg.step3_val (.string (K ++ (⟨#[107]⟩ : ByteArray))) ?_ rfl (hI.keep _ (Below.refl _ _) (by decide) (by decide) (by decide) hc) trivial
      clear hz hc hI
      simp [execOp]
      go_simp
    · -- 7: 12 := Op.fieldAddr 77 t1 1
      intro aq wq lq hz hI hl hdone hlater hold hd ho
      have h1 : aq.tmps.getD 1 undef = .pointer (some ⟨w.heap.size, 0, none⟩) := ho 1 (by kernel_rfl)
      clear hd ho hdone hlater hold
      rw [Array.getD_eq_getD_getElem?] at h1
      have hc : 12 < aq.tmps.size := by have hz' : aq.tmps.size = 46 := hz; omega
      refine Reg.step3_val (.pointer (some ⟨w.heap.size, 1, none⟩)) ?_ rfl (hI.keep _ (Below.refl _ _) (by decide) (by decide) (by decide) hc) trivial
      clear hz hc hI
      go_simp
    · -- 8: 13 := Op.load 9 t12
      intro aq wq lq hz hI hl hdone hlater hold hd ho
      have h12 : aq.tmps.getD 12 undef = .pointer (some ⟨w.heap.size, 1, none⟩) := hd 12 (by kernel_rfl)
      clear hd ho hdone hlater hold
      rw [Array.getD_eq_getD_getElem?] at h12
      have hc : 13 < aq.tmps.size := by have hz' : aq.tmps.size = 46 := hz; omega
      have e0 : wq.cell? ⟨w.heap.size, 1, none⟩ = some (.string K) := keep1 (HT0.out.a.cell 1) hI.1
      refine Reg.step3_val (.string K) ?_ rfl (hI.keep _ (Below.refl _ _) (by decide) (by decide) (by decide) hc) trivial
      clear hz hc hI
      go_simp
    · -- 9: 14 := Op.call  builtin len, args := #t13, argTypes := #9 
      intro aq wq lq hz hI hl hdone hlater hold hd ho
      have h13 : aq.tmps.getD 13 undef = .string K := hd 13 (by kernel_rfl)
      clear hd ho hdone hlater hold
      rw [Array.getD_eq_getD_getElem?] at h13
      have hc : 14 < aq.tmps.size := by have hz' : aq.tmps.size = 46 := hz; omega
      refine Reg.step3_val (.int .i64 (K.size : Nat)) ?_ rfl (hI.keep _ (Below.refl _ _) (by decide) (by decide) (by decide) hc) trivial
      clear hz hc hI
      simp [execOp]
      go_simp
    · -- 10: 15 := Op.binOp BinOp.add 3 t14 (const (1:i64)) 3
      intro aq wq lq hz hI hl hdone hlater hold hd ho
      have h14 : aq.tmps.getD 14 undef = .int .i64 (K.size : Nat) := hd 14 (by kernel_rfl)
      clear hd ho hdone hlater hold
      rw [Array.getD_eq_getD_getElem?] at h14
      have hc : 15 < aq.tmps.size := by have hz' : aq.tmps.size = 46 := hz; omega
      refine Reg.step3_val (.int .i64 ((K.size : Int) + 1)) ?_ rfl (hI.keep _ (Below.refl _ _) (by decide) (by decide) (by decide) hc) trivial
      clear hz hc hI
      simp [execOp]
      go_simp
    · -- 11: 16 := Op.call  builtin min, args := #t15, const (3:i64), argTyp
      intro aq wq lq hz hI hl hdone hlater hold hd ho
      have h15 : aq.tmps.getD 15 undef = .int .i64 ((K.size : Int) + 1) := hd 15 (by kernel_rfl)
      clear hd ho hdone hlater hold
      rw [Array.getD_eq_getD_getElem?] at h15
      have hc : 16 < aq.tmps.size := by have hz' : aq.tmps.size = 46 := hz; omega
      refine Reg.step3_val (.int .i64 (n : Nat)) ?_ rfl (hI.keep _ (Below.refl _ _) (by decide) (by decide) (by decide) hc) trivial
      clear hz hc hI
      simp [execOp]
      go_simp
    · -- 12: 17 := Op.slice 9 t11 none (some t16) none
      intro aq wq lq hz hI hl hdone hlater hold hd ho
      have h11 : aq.tmps.getD 11 undef = .string (K ++ (⟨#[107]⟩ : ByteArray)) := hd 11 (by kernel_rfl)
      have h16 : aq.tmps.getD 16 undef = .int .i64 (n : Nat) := hd 16 (by kernel_rfl)
      clear hd ho hdone hlater hold
      rw [Array.getD_eq_getD_getElem?] at h11 h16
      have hc : 17 < aq.tmps.size := by have hz' : aq.tmps.size = 46 := hz; omega
      refine Reg.step3_val (.string KT) ?_ rfl (hI.keep _ (Below.refl _ _) (by decide) (by decide) (by decide) hc) trivial
      clear hz hc hI
      simp [execOp]
      go_simp
    · -- 13: 18 := Op.build 35 #(0, t8), (1, t17)
      intro aq wq lq hz hI hl hdone hlater hold hd ho
      have h8 : aq.tmps.getD 8 undef = .int .u8 3 := hd 8 (by kernel_rfl)
      have h17 : aq.tmps.getD 17 undef = .string KT := hd 17 (by kernel_rfl)
      clear hd ho hdone hlater hold
      rw [Array.getD_eq_getD_getElem?] at h8 h17
      have hc : 18 < aq.tmps.size := by have hz' : aq.tmps.size = 46 := hz; omega
      refine Reg.step3_val (.agg #[.int .u8 3, .string KT, .string ⟨#[]⟩, .int .u64 0]) ?_ rfl (hI.keep _ (Below.refl _ _) (by decide) (by decide) (by decide) hc) trivial
      clear hz hc hI
      simp [execOp]
      go_simp
    · -- 14: 4 := Op.alloc 35
      intro aq wq lq hz hI hl hdone hlater hold hd ho
      have hst : lq 15 = false := hlater 15 (by kernel_rfl)
      clear hd ho hdone hlater hold
      have hc : 4 < aq.tmps.size := by have hz' : aq.tmps.size = 46 := hz; omega
      refine Reg.step3_do (.pointer (some ⟨wq.heap.size, 0, none⟩)) (wq.alloc (.cells #[.int .u8 0, .string ⟨#[]⟩, .string ⟨#[]⟩, .int .u64 0] 35)) ?_ trivial (Uno.mk hI hst (by decide) hc) trivial
      clear hz hc hI
      simp [execOp]
      go_simp
    · -- 15: None := Op.store 35 t4 t18
      intro aq wq lq hz hI hl hdone hlater hold hd ho
      have h18 : aq.tmps.getD 18 undef = .agg #[.int .u8 3, .string KT, .string ⟨#[]⟩, .int .u64 0] := hd 18 (by kernel_rfl)
      have hia : lq 14 = true := hdone 14 (by kernel_rfl)
      clear hd ho hdone hlater hold
      rw [Array.getD_eq_getD_getElem?] at h18
      obtain ⟨gq, hgp, hge, hH, hBx, hU⟩ := hI.st hia hl (by decide)
      rw [Array.getD_eq_getD_getElem?] at hgp
      have e0 : wq.cell? ⟨gq, 0, none⟩ = some (.int .u8 0) := hH.cell 0
      have e1 : wq.cell? ⟨gq, 1, none⟩ = some (.string ⟨#[]⟩) := hH.cell 1
      have e2 : wq.cell? ⟨gq, 2, none⟩ = some (.string ⟨#[]⟩) := hH.cell 2
      have e3 : wq.cell? ⟨gq, 3, none⟩ = some (.int .u64 0) := hH.cell 3
      have fz := hH.frozen
      refine Reg.step3_skip ((((wq.setCell ⟨gq, 0, none⟩ (.int .u8 3)).setCell ⟨gq, 1, none⟩ (.string KT)).setCell ⟨gq, 2, none⟩ (.string ⟨#[]⟩)).setCell ⟨gq, 3, none⟩ (.int .u64 0)) rfl ?_ (hU _ (Has.set (Has.set (Has.set (Has.set hH 0 (.int .u8 3)) 1 (.string KT)) 2 (.string ⟨#[]⟩)) 3 (.int .u64 0)) (Below.setCell (Below.setCell (Below.setCell (Below.setCell hBx (by exact hge) _) (by exact hge) _) (by exact hge) _) (by exact hge) _)) trivial
      clear hU hH hBx hI hz
      simp [execOp]
      go_simp
  case hend =>
    intro wx v aq hv hI
    obtain ⟨gq, hgp, hge, hH, hBx⟩ := Uno.done hI (by decide) (by decide)
    rw [hv 4 (by decide)] at hgp
    clear hv hI
    simp only [Reg.fill, List.map_cons, List.map_nil, List.foldl_cons, List.foldl_nil, List.setIfInBounds_toArray, List.set_cons_zero, List.set_cons_succ]
    rw [hgp]
    clear hgp
    have hgs : w.heap.size + 1 + 1 < gq := by have := HSZ.out; omega
    have HA := Lib.hid (HT0.out.a.below hBx HT0.out.a.lt)
    have HT3 : Hid (T3 w gq [.int .u8 3, .string KT, .string ⟨#[]⟩, .int .u64 0] false false wx) := Lib.hid ⟨hH, HT0.out.b.below hBx HT0.out.b.lt, HT0.out.r.below hBx HT0.out.r.lt, HT0.out.bel.trans (hBx.mono HT0.out.bel.size), hgs⟩
    have a2 : wx.cell? ⟨w.heap.size, 2, none⟩ = some (.string V) := HA.out.cell 2
    have a3 : wx.cell? ⟨w.heap.size, 3, none⟩ = some (.int .u64 dl) := HA.out.cell 3
    have q0 : wx.cell? ⟨gq, 0, none⟩ = some (.int .u8 3) := hH.cell 0
    have q1 : wx.cell? ⟨gq, 1, none⟩ = some (.string KT) := hH.cell 1
    have q2 : wx.cell? ⟨gq, 2, none⟩ = some (.string ⟨#[]⟩) := hH.cell 2
    have q3 : wx.cell? ⟨gq, 3, none⟩ = some (.int .u64 0) := hH.cell 3
    have f2 := hH.frozen 2
    have f3 := hH.frozen 3
    have hgn : ¬ gq = w.heap.size := by omega
    have hgn' : ¬ w.heap.size = gq := by omega
    clear hH hBx hge hke hrt hcc hmn hmi hw8 hnk hn0 hws
    have HT4 := Lib.hid (HT3.out.set 3 (.int .u64 dl))
    simp only [List.set_cons_zero, List.set_cons_succ] at HT4
    go_wp2_with fail
    refine Reg.region_vals (by kernel_rfl) [(36, .pointer (some ⟨gq, 0, none⟩)), (37, .int .u8 3), (38, .pointer (some ⟨gq, 1, none⟩)), (39, .string KT), (40, .pointer (some ⟨gq, 2, none⟩)), (41, .string ⟨#[]⟩), (42, .pointer (some ⟨gq, 3, none⟩)), (43, .int .u64 dl), (44, .agg #[.int .u8 3, .string KT, .string ⟨#[]⟩, .int .u64 dl]), (45, .agg #[.int .u8 3, .string KT, .string ⟨#[]⟩, .int .u64 dl])] (fun l wy => T3 w gq [.int .u8 3, .string KT, .string ⟨#[]⟩, .int .u64 dl] (l 10) (l 11) wy) (by kernel_rfl) (by kernel_rfl) (by kernel_rfl) (HT4.out.dr) ⟨?_, ?_, ?_, ?_, ?_, ?_, ?_, ?_, ?_, ?_, ?_, ?_, trivial⟩ ?hend
    · -- 0: 36 := Op.fieldAddr 35 t4 0
      intro aq wq lq hI hl hdone hlater hold hd ho
      have h4 : aq.tmps.getD 4 undef = .pointer (some ⟨gq, 0, none⟩) := ho 4 (by kernel_rfl)
      clear hd ho hdone hlater hold
      rw [Array.getD_eq_getD_getElem?] at h4
      refine Reg.step2_val (.pointer (some ⟨gq, 0, none⟩)) ?_ rfl hI trivial
      go_simp
    · -- 1: 37 := Op.load 5 t36
      intro aq wq lq hI hl hdone hlater hold hd ho
      have h36 : aq.tmps.getD 36 undef = .pointer (some ⟨gq, 0, none⟩) := hd 36 (by kernel_rfl)
      clear hd ho hdone hlater hold
      rw [Array.getD_eq_getD_getElem?] at h36
      have e0 : wq.cell? ⟨gq, 0, none⟩ = some (.int .u8 3) := hI.m.cell 0
      refine Reg.step2_val (.int .u8 3) ?_ rfl hI trivial
      go_simp
    · -- 2: 38 := Op.fieldAddr 35 t4 1
      intro aq wq lq hI hl hdone hlater hold hd ho
      have h4 : aq.tmps.getD 4 undef = .pointer (some ⟨gq, 0, none⟩) := ho 4 (by kernel_rfl)
      clear hd ho hdone hlater hold
      rw [Array.getD_eq_getD_getElem?] at h4
      refine Reg.step2_val (.pointer (some ⟨gq, 1, none⟩)) ?_ rfl hI trivial
      go_simp
    · -- 3: 39 := Op.load 9 t38
      intro aq wq lq hI hl hdone hlater hold hd ho
      have h38 : aq.tmps.getD 38 undef = .pointer (some ⟨gq, 1, none⟩) := hd 38 (by kernel_rfl)
      clear hd ho hdone hlater hold
      rw [Array.getD_eq_getD_getElem?] at h38
      have e0 : wq.cell? ⟨gq, 1, none⟩ = some (.string KT) := hI.m.cell 1
      refine Reg.step2_val (.string KT) ?_ rfl hI trivial
      go_simp
    · -- 4: 40 := Op.fieldAddr 35 t4 2
      intro aq wq lq hI hl hdone hlater hold hd ho
      have h4 : aq.tmps.getD 4 undef = .pointer (some ⟨gq, 0, none⟩) := ho 4 (by kernel_rfl)
      clear hd ho hdone hlater hold
      rw [Array.getD_eq_getD_getElem?] at h4
      refine Reg.step2_val (.pointer (some ⟨gq, 2, none⟩)) ?_ rfl hI trivial
      go_simp
    · -- 5: 41 := Op.load 9 t40
      intro aq wq lq hI hl hdone hlater hold hd ho
      have h40 : aq.tmps.getD 40 undef = .pointer (some ⟨gq, 2, none⟩) := hd 40 (by kernel_rfl)
      clear hd ho hdone hlater hold
      rw [Array.getD_eq_getD_getElem?] at h40
      have e0 : wq.cell? ⟨gq, 2, none⟩ = some (.string ⟨#[]⟩) := hI.m.cell 2
      refine Reg.step2_val (.string ⟨#[]⟩) ?_ rfl hI trivial
      go_simp
    · -- 6: 42 := Op.fieldAddr 35 t4 3
      intro aq wq lq hI hl hdone hlater hold hd ho
      have h4 : aq.tmps.getD 4 undef = .pointer (some ⟨gq, 0, none⟩) := ho 4 (by kernel_rfl)
      clear hd ho hdone hlater hold
      rw [Array.getD_eq_getD_getElem?] at h4
      refine Reg.step2_val (.pointer (some ⟨gq, 3, none⟩)) ?_ rfl hI trivial
      go_simp
    · -- 7: 43 := Op.load 29 t42
      intro aq wq lq hI hl hdone hlater hold hd ho
      have h42 : aq.tmps.getD 42 undef = .pointer (some ⟨gq, 3, none⟩) := hd 42 (by kernel_rfl)
      clear hd ho hdone hlater hold
      rw [Array.getD_eq_getD_getElem?] at h42
      have e0 : wq.cell? ⟨gq, 3, none⟩ = some (.int .u64 dl) := hI.m.cell 3
      refine Reg.step2_val (.int .u64 dl) ?_ rfl hI trivial
      go_simp
    · -- 8: 44 := Op.build 34 #((0, t37), (1, t39), (2, t41), (3, t43))
      intro aq wq lq hI hl hdone hlater hold hd ho
      have h37 : aq.tmps.getD 37 undef = .int .u8 3 := hd 37 (by kernel_rfl)
      have h39 : aq.tmps.getD 39 undef = .string KT := hd 39 (by kernel_rfl)
      have h41 : aq.tmps.getD 41 undef = .string ⟨#[]⟩ := hd 41 (by kernel_rfl)
      have h43 : aq.tmps.getD 43 undef = .int .u64 dl := hd 43 (by kernel_rfl)
      clear hd ho hdone hlater hold
      rw [Array.getD_eq_getD_getElem?] at h37 h39 h41 h43
      refine Reg.step2_val (.agg #[.int .u8 3, .string KT, .string ⟨#[]⟩, .int .u64 dl]) ?_ rfl hI trivial
      simp [execOp, Act.eval, h37, h39, h41, h43]
      try go_simp
    · -- 9: 45 := Op.load 35 t4
      intro aq wq lq hI hl hdone hlater hold hd ho
      have h4 : aq.tmps.getD 4 undef = .pointer (some ⟨gq, 0, none⟩) := ho 4 (by kernel_rfl)
      clear hd ho hdone hlater hold
      rw [Array.getD_eq_getD_getElem?] at h4
      have e0 : wq.cell? ⟨gq, 0, none⟩ = some (.int .u8 3) := hI.m.cell 0
      have e1 : wq.cell? ⟨gq, 1, none⟩ = some (.string KT) := hI.m.cell 1
      have e2 : wq.cell? ⟨gq, 2, none⟩ = some (.string ⟨#[]⟩) := hI.m.cell 2
      have e3 : wq.cell? ⟨gq, 3, none⟩ = some (.int .u64 dl) := hI.m.cell 3
      refine Reg.step2_val (.agg #[.int .u8 3, .string KT, .string ⟨#[]⟩, .int .u64 dl]) ?_ rfl hI trivial
      go_simp
    · -- 10: None := Op.store 34 t2 t44
      intro aq wq lq hI hl hdone hlater hold hd ho
      have h2 : aq.tmps.getD 2 undef = .pointer (some ⟨w.heap.size + 1, 0, none⟩) := ho 2 (by kernel_rfl)
      have h44 : aq.tmps.getD 44 undef = .agg #[.int .u8 3, .string KT, .string ⟨#[]⟩, .int .u64 dl] := hd 44 (by kernel_rfl)
      clear hd ho hdone hlater hold
      rw [Array.getD_eq_getD_getElem?] at h2 h44
      have hB := hI.b
      rw [hl] at hB
      have e0 := hB.cell 0
      have e1 := hB.cell 1
      have e2 := hB.cell 2
      have e3 := hB.cell 3
      have f0 := hB.frozen 0
      have f1 := hB.frozen 1
      have f2 := hB.frozen 2
      have f3 := hB.frozen 3
      simp only [z4, if_neg Bool.false_ne_true, List.getElem?_cons_zero, List.getElem?_cons_succ] at e0 e1 e2 e3
      have hJ := hI
      clear hI hB hl
      refine Reg.step2_skip _ rfl ?_ (T3.stB hJ) trivial
      clear hJ
      simp [execOp]
      go_simp
    · -- 11: None := Op.store 35 t3 t45
      intro aq wq lq hI hl hdone hlater hold hd ho
      have h3 : aq.tmps.getD 3 undef = .pointer (some ⟨w.heap.size + 1 + 1, 0, none⟩) := ho 3 (by kernel_rfl)
      have h45 : aq.tmps.getD 45 undef = .agg #[.int .u8 3, .string KT, .string ⟨#[]⟩, .int .u64 dl] := hd 45 (by kernel_rfl)
      clear hd ho hdone hlater hold
      rw [Array.getD_eq_getD_getElem?] at h3 h45
      have hB := hI.r
      rw [hl] at hB
      have e0 := hB.cell 0
      have e1 := hB.cell 1
      have e2 := hB.cell 2
      have e3 := hB.cell 3
      have f0 := hB.frozen 0
      have f1 := hB.frozen 1
      have f2 := hB.frozen 2
      have f3 := hB.frozen 3
      simp only [z4, if_neg Bool.false_ne_true, List.getElem?_cons_zero, List.getElem?_cons_succ] at e0 e1 e2 e3
      have hJ := hI
      clear hI hB hl
      refine Reg.step2_skip _ rfl ?_ (T3.stR hJ) trivial
      clear hJ
      simp [execOp]
      go_simp
    case hend =>
      intro wt hI
      simp only [Reg.fill, List.foldl_cons, List.foldl_nil, List.setIfInBounds_toArray, List.set_cons_zero, List.set_cons_succ]
      have hJ : T3 w gq [.int .u8 3, .string KT, .string ⟨#[]⟩, .int .u64 dl] true true wt := hI
      clear hI HT3 HT4
      have r0 := hJ.b.cell 0
      have r1 := hJ.b.cell 1
      have r2 := hJ.b.cell 2
      have r3 := hJ.b.cell 3
      have s0 := hJ.r.cell 0
      have s1 := hJ.r.cell 1
      have s2 := hJ.r.cell 2
      have s3 := hJ.r.cell 3
      simp only [if_true, List.getElem?_cons_zero, List.getElem?_cons_succ] at r0 r1 r2 r3 s0 s1 s2 s3
      have hbel := hJ.bel
      clear hJ
      go_wp2_with fail
      exact bodyPost_ret (v := .tuple #[.agg #[.int .u8 3, .string KT, .string ⟨#[]⟩, .int .u64 dl], .agg #[.int .u8 3, .string KT, .string ⟨#[]⟩, .int .u64 dl]]) (by simp [results, Try.results24, go_sem, r0, r1, r2, r3, s0, s1, s2, s3]) rfl ⟨rfl, hbel⟩
theorem tame_any (u : Up) (w : World) (h : WfU u) (hks : u.key.length ≤ 140737488355327) (hvs : u.val.length ≤ 140737488355327) :
    Calls Try.prog 24 #[agU u] w fun e w' => e = TaE u ∧ Below w.heap.size w w' := by
  obtain ⟨k0, k1, d0, d1⟩ := h
  have hk : (Lend.strOf u.key).size ≤ 140737488355327 := by rw [ssize]; exact hks
  have hv : (Lend.strOf u.val).size ≤ 140737488355327 := by rw [ssize]; exact hvs
  have hve : (Lend.strOf u.val).extract 0 (min (Lend.strOf u.val).size 20) = Lend.strOf (u.val.take 20) := by
    apply Lend.strOf_ext
    rw [Lib.extract_data, Lend.strOf_data, List.drop_zero, Nat.sub_zero, ssize]
    rw [List.take_eq_take_iff]; omega
  have hke : (Lend.strOf u.key ++ ⟨#[107]⟩).extract 0 (min ((Lend.strOf u.key).size + 1) 3) = Lend.strOf ((u.key ++ [107]).take 3) := by
    apply Lend.strOf_ext
    rw [Lib.extract_data, List.drop_zero, Nat.sub_zero, ssize, show (Lend.strOf u.key ++ (⟨#[107]⟩ : ByteArray)).data.toList = u.key ++ [107] by simp [Lend.strOf]]
    rw [List.take_eq_take_iff, List.length_append]; simp only [List.length_cons, List.length_nil]; omega
  unfold TaE agU
  rcases (show u.kind % 3 = 0 ∨ u.kind % 3 = 1 ∨ u.kind % 3 = 2 by omega) with hr | hr | hr
  · have e1 : (tmU u).kind = 1 := by show 1 + u.kind % 3 = 1; omega
    have e2 : (tmU u).val = u.val.take 20 := by show tmV u = _; unfold tmV; rw [if_pos (by omega)]
    have e3 : (tmU u).delta = 0 := by show tmD u = _; unfold tmD; rw [if_neg (by omega)]
    rw [e1, e2, e3]
    exact tame_0 u.kind u.delta _ _ _ _ _ w k0 k1 hr hk hv rfl (Lib.hid hke) (Lib.hid hve)
  · have e1 : (tmU u).kind = 2 := by show 1 + u.kind % 3 = 2; omega
    have e2 : (tmU u).val = [] := by show tmV u = _; unfold tmV; rw [if_neg (by omega)]
    have e3 : (tmU u).delta = 0 := by show tmD u = _; unfold tmD; rw [if_neg (by omega)]
    rw [e1, e2, e3, emptyStr]
    exact tame_1 u.kind u.delta _ _ _ _ _ w k0 k1 hr hk hv rfl (Lib.hid hke) (Lib.hid hve)
  · have e1 : (tmU u).kind = 3 := by show 1 + u.kind % 3 = 3; omega
    have e2 : (tmU u).val = [] := by show tmV u = _; unfold tmV; rw [if_neg (by omega)]
    have e3 : (tmU u).delta = u.delta := by show tmD u = _; unfold tmD; rw [if_pos (by omega)]
    rw [e1, e2, e3, emptyStr]
    exact tame_2 u.kind u.delta _ _ _ _ _ w k0 k1 hr hk hv rfl (Lib.hid hke) (Lib.hid hve)
end Go.Proofs.Ytfmbjepjmjcgeaa.Buf
