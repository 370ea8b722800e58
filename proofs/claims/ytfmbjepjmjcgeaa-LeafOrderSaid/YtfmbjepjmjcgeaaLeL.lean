/- Layer 16 (leaf): the law's own of. -/
import Derived.Test.YtfmbjepjmjcgeaaLeR
import Derived.Test.YtfmbjepjmjcgeaaLeP
import Derived.Test.YtfmbjepjmjcgeaaRegion
import Derived.Test.YtfmbjepjmjcgeaaRegionW
import Derived.Test.YtfmbjepjmjcgeaaRegionV
namespace Go.Proofs.Ytfmbjepjmjcgeaa.Leaf
open Go Go.RowKit Go.Proofs.Ytfmbjepjmjcgeaa Go.Proofs.Ytfmbjepjmjcgeaa.Lend Go.Proofs.Ytfmbjepjmjcgeaa.Rec Go.Proofs.Ytfmbjepjmjcgeaa.Msg Go.Proofs.Ytfmbjepjmjcgeaa.Buf
set_option linter.unusedVariables false

/-- what of makes -/
def ofF (u : Up) : Up := ⟨u.kind, u.key.take 20, u.val.take 36, u.delta⟩
theorem ofF_wf {u : Up} (h : WfU u) : WfU (ofF u) := h
theorem takeS (l : List UInt8) (m : Nat) : (Lend.strOf l).extract 0 (min (Lend.strOf l).size m) = Lend.strOf (l.take m) := by
  apply Lend.strOf_ext
  rw [Lib.extract_data, Lend.strOf_data, List.drop_zero, Nat.sub_zero, ssize]
  rw [List.take_eq_take_iff]; omega
def z4 : List Value := [.int .u8 0, .string ⟨#[]⟩, .string ⟨#[]⟩, .int .u64 0]
/-- the law's update, and both that are made of it -/
structure Of4 (w0 : World) (ca cs : List Value) (x y : Bool) (w : World) : Prop where
  a : Has w w0.heap.size 31 ca
  b : Has w (w0.heap.size + 1) 34 (if x = true then cs else z4)
  r : Has w (w0.heap.size + 1 + 1) 35 (if y = true then cs else z4)
  bel : Below w0.heap.size w0 w
/-- its cells, while they are written -/
def cA (kd D : Int) (K V KT VT : ByteArray) (p q : Bool) : List Value := [.int .u8 kd, .string (if p = true then KT else K), .string (if q = true then VT else V), .int .u64 D]
section
variable {w0 w : World} {ca cs : List Value} {x y p q : Bool} {v0 v1 v2 v3 : Value} {kd D : Int} {K V KT VT : ByteArray}
theorem Of4.new (w : World) (ca cs : List Value) : Of4 w ca cs false false (((w.alloc (.cells ca.toArray 31)).alloc (.cells z4.toArray 34)).alloc (.cells z4.toArray 35)) := by
  have h1 := Has.new w ca 31
  have h2 := Has.new (w.alloc (.cells ca.toArray 31)) z4 34
  have h3 := Has.new ((w.alloc (.cells ca.toArray 31)).alloc (.cells z4.toArray 34)) z4 35
  simp only [World.size_alloc] at h2 h3
  exact ⟨(h1.alloc _).alloc _, h2.alloc _, h3, below_nw (below_nw (below_new w _) _) _⟩
theorem set4_z {b : Bool} {n : Nat} {t : TypeId} (h : Has w n t (if b = true then [v0, v1, v2, v3] else z4)) : Has ((((w.setCell ⟨n, 0, none⟩ v0).setCell ⟨n, 1, none⟩ v1).setCell ⟨n, 2, none⟩ v2).setCell ⟨n, 3, none⟩ v3) n t (if true = true then [v0, v1, v2, v3] else z4) := by
  have h2 := (((h.set 0 v0).set 1 v1).set 2 v2).set 3 v3
  cases b <;> exact h2
theorem oth4 {n m : Nat} {t : TypeId} {cs : List Value} (h : Has w n t cs) (hm : m ≠ n) : Has ((((w.setCell ⟨m, 0, none⟩ v0).setCell ⟨m, 1, none⟩ v1).setCell ⟨m, 2, none⟩ v2).setCell ⟨m, 3, none⟩ v3) n t cs :=
  (((h.setOther (by simpa using hm) v0).setOther (by simpa using hm) v1).setOther (by simpa using hm) v2).setOther (by simpa using hm) v3
theorem bel4 {m : Nat} (h : Below w0.heap.size w0 w) (hm : w0.heap.size ≤ m) : Below w0.heap.size w0 ((((w.setCell ⟨m, 0, none⟩ v0).setCell ⟨m, 1, none⟩ v1).setCell ⟨m, 2, none⟩ v2).setCell ⟨m, 3, none⟩ v3) :=
  (((h.setCell hm v0).setCell hm v1).setCell hm v2).setCell hm v3
theorem Of4.stB (h : Of4 w0 ca [v0, v1, v2, v3] x y w) : Of4 w0 ca [v0, v1, v2, v3] true y ((((w.setCell ⟨w0.heap.size + 1, 0, none⟩ v0).setCell ⟨w0.heap.size + 1, 1, none⟩ v1).setCell ⟨w0.heap.size + 1, 2, none⟩ v2).setCell ⟨w0.heap.size + 1, 3, none⟩ v3) :=
  ⟨oth4 h.a (by omega), set4_z h.b, oth4 h.r (by omega), bel4 h.bel (by omega)⟩
theorem Of4.stR (h : Of4 w0 ca [v0, v1, v2, v3] x y w) : Of4 w0 ca [v0, v1, v2, v3] x true ((((w.setCell ⟨w0.heap.size + 1 + 1, 0, none⟩ v0).setCell ⟨w0.heap.size + 1 + 1, 1, none⟩ v1).setCell ⟨w0.heap.size + 1 + 1, 2, none⟩ v2).setCell ⟨w0.heap.size + 1 + 1, 3, none⟩ v3) :=
  ⟨oth4 h.a (by omega), oth4 h.b (by omega), set4_z h.r, bel4 h.bel (by omega)⟩
theorem Of4.dr (h : Of4 w0 ca cs x y w) : Of4 w0 ca cs x y w.drew := ⟨h.a.drew, h.b.drew, h.r.drew, h.bel.drew⟩
theorem Of4.stK (h : Of4 w0 (cA kd D K V KT VT p q) cs x y w) : Of4 w0 (cA kd D K V KT VT true q) cs x y (w.setCell ⟨w0.heap.size, 1, none⟩ (.string KT)) :=
  ⟨h.a.set 1 _, h.b.setOther (show w0.heap.size ≠ w0.heap.size + 1 by omega) _, h.r.setOther (show w0.heap.size ≠ w0.heap.size + 1 + 1 by omega) _, h.bel.setCell (Nat.le_refl _) _⟩
theorem Of4.stV (h : Of4 w0 (cA kd D K V KT VT p q) cs x y w) : Of4 w0 (cA kd D K V KT VT p true) cs x y (w.setCell ⟨w0.heap.size, 2, none⟩ (.string VT)) :=
  ⟨h.a.set 2 _, h.b.setOther (show w0.heap.size ≠ w0.heap.size + 1 by omega) _, h.r.setOther (show w0.heap.size ≠ w0.heap.size + 1 + 1 by omega) _, h.bel.setCell (Nat.le_refl _) _⟩
end
set_option maxRecDepth 100000 in
set_option maxHeartbeats 8000000 in
theorem of_0 (kd D : Int) (K V KT VT : ByteArray) (w : World) (hks : K.size ≤ 9223372036854775807) (hvs : V.size ≤ 9223372036854775807) (HKE : Hid (K.extract 0 (min K.size 20) = KT)) (HVE : Hid (V.extract 0 (min V.size 36) = VT)) :
    Calls Try.prog 9 #[.agg #[.int .u8 kd, .string K, .string V, .int .u64 D]] w fun e w' => e = .returned (.tuple #[.agg #[.int .u8 kd, .string KT, .string VT, .int .u64 D], .agg #[.int .u8 kd, .string KT, .string VT, .int .u64 D]]) ∧ Below w.heap.size w w' := by
  have HOF : Hid (Of4 w (cA kd D K V KT VT false false) [.int .u8 kd, .string KT, .string VT, .int .u64 D] false false _) := Lib.hid (Of4.new w [.int .u8 kd, .string K, .string V, .int .u64 D] [.int .u8 kd, .string KT, .string VT, .int .u64 D])
  obtain ⟨w1, hw1⟩ : ∃ x, x = ((w.alloc (.cells #[.int .u8 kd, .string K, .string V, .int .u64 D] 31)).alloc (.cells #[.int .u8 0, .string ⟨#[]⟩, .string ⟨#[]⟩, .int .u64 0] 34)).alloc (.cells #[.int .u8 0, .string ⟨#[]⟩, .string ⟨#[]⟩, .int .u64 0] 35) := ⟨_, rfl⟩
  unfold z4 at HOF
  rw [← hw1] at HOF
  obtain ⟨kn, hkn⟩ : ∃ n, n = min K.size 20 := ⟨_, rfl⟩
  obtain ⟨vn, hvn⟩ : ∃ n, n = min V.size 36 := ⟨_, rfl⟩
  rw [← hkn] at HKE
  rw [← hvn] at HVE
  have HKN := Lib.hid hkn
  have HVN := Lib.hid hvn
  clear hkn hvn
  go_enter Try.func9, Try.ntmps9
  go_wp2_with fail
  rw [← hw1]
  clear hw1
  refine Reg.region_vals (by kernel_rfl) [(4, .pointer (some ⟨w.heap.size, 1, none⟩)), (5, .string K), (6, .pointer (some ⟨w.heap.size, 1, none⟩)), (7, .string K), (8, .int .i64 (K.size : Nat)), (9, .int .i64 (kn : Nat)), (10, .string KT), (11, .pointer (some ⟨w.heap.size, 2, none⟩)), (12, .string V), (13, .pointer (some ⟨w.heap.size, 2, none⟩)), (14, .string V), (15, .int .i64 (V.size : Nat)), (16, .int .i64 (vn : Nat)), (17, .string VT), (18, .pointer (some ⟨w.heap.size, 1, none⟩)), (19, .pointer (some ⟨w.heap.size, 2, none⟩))] (fun l wy => Of4 w (cA kd D K V KT VT (l 15) (l 17)) [.int .u8 kd, .string KT, .string VT, .int .u64 D] false false wy) (by kernel_rfl) (by kernel_rfl) (by kernel_rfl) (HOF.out.dr) ⟨?_, ?_, ?_, ?_, ?_, ?_, ?_, ?_, ?_, ?_, ?_, ?_, ?_, ?_, ?_, ?_, ?_, ?_, trivial⟩ ?hend
  · -- 0: 4 := Op.fieldAddr 31 t1 1
    intro aq wq lq hI hl hdone hlater hold hd ho
    have h1 : aq.tmps.getD 1 undef = .pointer (some ⟨w.heap.size, 0, none⟩) := ho 1 (by kernel_rfl)
    clear hd ho hdone hlater hold
    rw [Array.getD_eq_getD_getElem?] at h1
    refine Reg.step2_val (.pointer (some ⟨w.heap.size, 1, none⟩)) ?_ rfl hI trivial
    go_simp
  · -- 1: 5 := Op.load 9 t4
    intro aq wq lq hI hl hdone hlater hold hd ho
    have h4 : aq.tmps.getD 4 undef = .pointer (some ⟨w.heap.size, 1, none⟩) := hd 4 (by kernel_rfl)
    have gl15 : lq 15 = false := hlater 15 (by kernel_rfl)
    clear hd ho hdone hlater hold
    rw [Array.getD_eq_getD_getElem?] at h4
    have e0 : wq.cell? ⟨w.heap.size, 1, none⟩ = some (.string K) := by have h := hI.a.cell 1; rw [gl15] at h; exact h
    refine Reg.step2_val (.string K) ?_ rfl hI trivial
    go_simp
  · -- 2: 6 := Op.fieldAddr 31 t1 1
    intro aq wq lq hI hl hdone hlater hold hd ho
    have h1 : aq.tmps.getD 1 undef = .pointer (some ⟨w.heap.size, 0, none⟩) := ho 1 (by kernel_rfl)
    clear hd ho hdone hlater hold
    rw [Array.getD_eq_getD_getElem?] at h1
    refine Reg.step2_val (.pointer (some ⟨w.heap.size, 1, none⟩)) ?_ rfl hI trivial
    go_simp
  · -- 3: 7 := Op.load 9 t6
    intro aq wq lq hI hl hdone hlater hold hd ho
    have h6 : aq.tmps.getD 6 undef = .pointer (some ⟨w.heap.size, 1, none⟩) := hd 6 (by kernel_rfl)
    have gl15 : lq 15 = false := hlater 15 (by kernel_rfl)
    clear hd ho hdone hlater hold
    rw [Array.getD_eq_getD_getElem?] at h6
    have e0 : wq.cell? ⟨w.heap.size, 1, none⟩ = some (.string K) := by have h := hI.a.cell 1; rw [gl15] at h; exact h
    refine Reg.step2_val (.string K) ?_ rfl hI trivial
    go_simp
  · -- 4: 8 := Op.call ( builtin len, args := #(t7), argTypes := #(9) )
    intro aq wq lq hI hl hdone hlater hold hd ho
    have h7 : aq.tmps.getD 7 undef = .string K := hd 7 (by kernel_rfl)
    clear hd ho hdone hlater hold
    rw [Array.getD_eq_getD_getElem?] at h7
    refine Reg.step2_val (.int .i64 (K.size : Nat)) ?_ rfl hI trivial
    simp [execOp]
    go_simp
  · -- 5: 9 := Op.call ( builtin min, args := #(t8, const (20:i64)), argTyp
    intro aq wq lq hI hl hdone hlater hold hd ho
    have h8 : aq.tmps.getD 8 undef = .int .i64 (K.size : Nat) := hd 8 (by kernel_rfl)
    clear hd ho hdone hlater hold
    rw [Array.getD_eq_getD_getElem?] at h8
    refine Reg.step2_val (.int .i64 (kn : Nat)) ?_ rfl hI trivial
    simp [execOp]
    try go_simp
    have := HKN.out
    omega
  · -- 6: 10 := Op.slice 9 t5 none (some t9) none
    intro aq wq lq hI hl hdone hlater hold hd ho
    have h5 : aq.tmps.getD 5 undef = .string K := hd 5 (by kernel_rfl)
    have h9 : aq.tmps.getD 9 undef = .int .i64 (kn : Nat) := hd 9 (by kernel_rfl)
    clear hd ho hdone hlater hold
    rw [Array.getD_eq_getD_getElem?] at h5 h9
    refine Reg.step2_val (.string KT) ?_ rfl hI trivial
    simp [execOp, Act.eval, h5, h9]
    try go_simp
    rw [if_pos (by rw [HKN.out]; exact Nat.min_le_left _ _), HKE.out]
  · -- 7: 11 := Op.fieldAddr 31 t1 2
    intro aq wq lq hI hl hdone hlater hold hd ho
    have h1 : aq.tmps.getD 1 undef = .pointer (some ⟨w.heap.size, 0, none⟩) := ho 1 (by kernel_rfl)
    clear hd ho hdone hlater hold
    rw [Array.getD_eq_getD_getElem?] at h1
    refine Reg.step2_val (.pointer (some ⟨w.heap.size, 2, none⟩)) ?_ rfl hI trivial
    go_simp
  · -- 8: 12 := Op.load 9 t11
    intro aq wq lq hI hl hdone hlater hold hd ho
    have h11 : aq.tmps.getD 11 undef = .pointer (some ⟨w.heap.size, 2, none⟩) := hd 11 (by kernel_rfl)
    have gl17 : lq 17 = false := hlater 17 (by kernel_rfl)
    clear hd ho hdone hlater hold
    rw [Array.getD_eq_getD_getElem?] at h11
    have e0 : wq.cell? ⟨w.heap.size, 2, none⟩ = some (.string V) := by have h := hI.a.cell 2; rw [gl17] at h; exact h
    refine Reg.step2_val (.string V) ?_ rfl hI trivial
    go_simp
  · -- 9: 13 := Op.fieldAddr 31 t1 2
    intro aq wq lq hI hl hdone hlater hold hd ho
    have h1 : aq.tmps.getD 1 undef = .pointer (some ⟨w.heap.size, 0, none⟩) := ho 1 (by kernel_rfl)
    clear hd ho hdone hlater hold
    rw [Array.getD_eq_getD_getElem?] at h1
    refine Reg.step2_val (.pointer (some ⟨w.heap.size, 2, none⟩)) ?_ rfl hI trivial
    go_simp
  · -- 10: 14 := Op.load 9 t13
    intro aq wq lq hI hl hdone hlater hold hd ho
    have h13 : aq.tmps.getD 13 undef = .pointer (some ⟨w.heap.size, 2, none⟩) := hd 13 (by kernel_rfl)
    have gl17 : lq 17 = false := hlater 17 (by kernel_rfl)
    clear hd ho hdone hlater hold
    rw [Array.getD_eq_getD_getElem?] at h13
    have e0 : wq.cell? ⟨w.heap.size, 2, none⟩ = some (.string V) := by have h := hI.a.cell 2; rw [gl17] at h; exact h
    refine Reg.step2_val (.string V) ?_ rfl hI trivial
    go_simp
  · -- 11: 15 := Op.call ( builtin len, args := #(t14), argTypes := #(9) )
    intro aq wq lq hI hl hdone hlater hold hd ho
    have h14 : aq.tmps.getD 14 undef = .string V := hd 14 (by kernel_rfl)
    clear hd ho hdone hlater hold
    rw [Array.getD_eq_getD_getElem?] at h14
    refine Reg.step2_val (.int .i64 (V.size : Nat)) ?_ rfl hI trivial
    simp [execOp]
    go_simp
  · -- 12: 16 := Op.call ( builtin min, args := #(t15, const (36:i64)), argTy
    intro aq wq lq hI hl hdone hlater hold hd ho
    have h15 : aq.tmps.getD 15 undef = .int .i64 (V.size : Nat) := hd 15 (by kernel_rfl)
    clear hd ho hdone hlater hold
    rw [Array.getD_eq_getD_getElem?] at h15
    refine Reg.step2_val (.int .i64 (vn : Nat)) ?_ rfl hI trivial
    simp [execOp]
    try go_simp
    have := HVN.out
    omega
  · -- 13: 17 := Op.slice 9 t12 none (some t16) none
    intro aq wq lq hI hl hdone hlater hold hd ho
    have h12 : aq.tmps.getD 12 undef = .string V := hd 12 (by kernel_rfl)
    have h16 : aq.tmps.getD 16 undef = .int .i64 (vn : Nat) := hd 16 (by kernel_rfl)
    clear hd ho hdone hlater hold
    rw [Array.getD_eq_getD_getElem?] at h12 h16
    refine Reg.step2_val (.string VT) ?_ rfl hI trivial
    simp [execOp, Act.eval, h12, h16]
    try go_simp
    rw [if_pos (by rw [HVN.out]; exact Nat.min_le_left _ _), HVE.out]
  · -- 14: 18 := Op.fieldAddr 31 t1 1
    intro aq wq lq hI hl hdone hlater hold hd ho
    have h1 : aq.tmps.getD 1 undef = .pointer (some ⟨w.heap.size, 0, none⟩) := ho 1 (by kernel_rfl)
    clear hd ho hdone hlater hold
    rw [Array.getD_eq_getD_getElem?] at h1
    refine Reg.step2_val (.pointer (some ⟨w.heap.size, 1, none⟩)) ?_ rfl hI trivial
    go_simp
  · -- 15: None := Op.store 9 t18 t10
    intro aq wq lq hI hl hdone hlater hold hd ho
    have h18 : aq.tmps.getD 18 undef = .pointer (some ⟨w.heap.size, 1, none⟩) := hd 18 (by kernel_rfl)
    have h10 : aq.tmps.getD 10 undef = .string KT := hd 10 (by kernel_rfl)
    clear hd ho hdone hlater hold
    rw [Array.getD_eq_getD_getElem?] at h18 h10
    have e1 := hI.a.cell 1
    have f1 := hI.a.frozen 1
    simp only [cA, List.getElem?_cons_zero, List.getElem?_cons_succ] at e1
    have hJ := hI
    clear hI hl
    refine Reg.step2_skip _ rfl ?_ (Of4.stK hJ) trivial
    clear hJ
    simp [execOp]
    go_simp
  · -- 16: 19 := Op.fieldAddr 31 t1 2
    intro aq wq lq hI hl hdone hlater hold hd ho
    have h1 : aq.tmps.getD 1 undef = .pointer (some ⟨w.heap.size, 0, none⟩) := ho 1 (by kernel_rfl)
    clear hd ho hdone hlater hold
    rw [Array.getD_eq_getD_getElem?] at h1
    refine Reg.step2_val (.pointer (some ⟨w.heap.size, 2, none⟩)) ?_ rfl hI trivial
    go_simp
  · -- 17: None := Op.store 9 t19 t17
    intro aq wq lq hI hl hdone hlater hold hd ho
    have h19 : aq.tmps.getD 19 undef = .pointer (some ⟨w.heap.size, 2, none⟩) := hd 19 (by kernel_rfl)
    have h17 : aq.tmps.getD 17 undef = .string VT := hd 17 (by kernel_rfl)
    clear hd ho hdone hlater hold
    rw [Array.getD_eq_getD_getElem?] at h19 h17
    have e1 := hI.a.cell 2
    have f1 := hI.a.frozen 2
    simp only [cA, List.getElem?_cons_zero, List.getElem?_cons_succ] at e1
    have hJ := hI
    clear hI hl
    refine Reg.step2_skip _ rfl ?_ (Of4.stV hJ) trivial
    clear hJ
    simp [execOp]
    go_simp
  case hend =>
    intro wx hI
    simp only [Reg.fill, List.foldl_cons, List.foldl_nil, List.setIfInBounds_toArray, List.set_cons_zero, List.set_cons_succ]
    have HOF2 : Hid (Of4 w [.int .u8 kd, .string KT, .string VT, .int .u64 D] [.int .u8 kd, .string KT, .string VT, .int .u64 D] false false wx) := Lib.hid hI
    clear hI HOF
    go_wp2_with fail
    refine Reg.region_vals (by kernel_rfl) [(20, .pointer (some ⟨w.heap.size, 0, none⟩)), (21, .int .u8 kd), (22, .pointer (some ⟨w.heap.size, 1, none⟩)), (23, .string KT), (24, .pointer (some ⟨w.heap.size, 2, none⟩)), (25, .string VT), (26, .pointer (some ⟨w.heap.size, 3, none⟩)), (27, .int .u64 D), (28, .agg #[.int .u8 kd, .string KT, .string VT, .int .u64 D]), (29, .agg #[.int .u8 kd, .string KT, .string VT, .int .u64 D])] (fun l wy => Of4 w [.int .u8 kd, .string KT, .string VT, .int .u64 D] [.int .u8 kd, .string KT, .string VT, .int .u64 D] (l 10) (l 11) wy) (by kernel_rfl) (by kernel_rfl) (by kernel_rfl) (HOF2.out.dr) ⟨?_, ?_, ?_, ?_, ?_, ?_, ?_, ?_, ?_, ?_, ?_, ?_, trivial⟩ ?hend
    · -- 0: 20 := Op.fieldAddr 31 t1 0
      intro aq wq lq hI hl hdone hlater hold hd ho
      have h1 : aq.tmps.getD 1 undef = .pointer (some ⟨w.heap.size, 0, none⟩) := ho 1 (by kernel_rfl)
      clear hd ho hdone hlater hold
      rw [Array.getD_eq_getD_getElem?] at h1
      refine Reg.step2_val (.pointer (some ⟨w.heap.size, 0, none⟩)) ?_ rfl hI trivial
      go_simp
    · -- 1: 21 := Op.load 5 t20
      intro aq wq lq hI hl hdone hlater hold hd ho
      have h20 : aq.tmps.getD 20 undef = .pointer (some ⟨w.heap.size, 0, none⟩) := hd 20 (by kernel_rfl)
      clear hd ho hdone hlater hold
      rw [Array.getD_eq_getD_getElem?] at h20
      have e0 : wq.cell? ⟨w.heap.size, 0, none⟩ = some (.int .u8 kd) := hI.a.cell 0
      refine Reg.step2_val (.int .u8 kd) ?_ rfl hI trivial
      go_simp
    · -- 2: 22 := Op.fieldAddr 31 t1 1
      intro aq wq lq hI hl hdone hlater hold hd ho
      have h1 : aq.tmps.getD 1 undef = .pointer (some ⟨w.heap.size, 0, none⟩) := ho 1 (by kernel_rfl)
      clear hd ho hdone hlater hold
      rw [Array.getD_eq_getD_getElem?] at h1
      refine Reg.step2_val (.pointer (some ⟨w.heap.size, 1, none⟩)) ?_ rfl hI trivial
      go_simp
    · -- 3: 23 := Op.load 9 t22
      intro aq wq lq hI hl hdone hlater hold hd ho
      have h22 : aq.tmps.getD 22 undef = .pointer (some ⟨w.heap.size, 1, none⟩) := hd 22 (by kernel_rfl)
      clear hd ho hdone hlater hold
      rw [Array.getD_eq_getD_getElem?] at h22
      have e0 : wq.cell? ⟨w.heap.size, 1, none⟩ = some (.string KT) := hI.a.cell 1
      refine Reg.step2_val (.string KT) ?_ rfl hI trivial
      go_simp
    · -- 4: 24 := Op.fieldAddr 31 t1 2
      intro aq wq lq hI hl hdone hlater hold hd ho
      have h1 : aq.tmps.getD 1 undef = .pointer (some ⟨w.heap.size, 0, none⟩) := ho 1 (by kernel_rfl)
      clear hd ho hdone hlater hold
      rw [Array.getD_eq_getD_getElem?] at h1
      refine Reg.step2_val (.pointer (some ⟨w.heap.size, 2, none⟩)) ?_ rfl hI trivial
      go_simp
    · -- 5: 25 := Op.load 9 t24
      intro aq wq lq hI hl hdone hlater hold hd ho
      have h24 : aq.tmps.getD 24 undef = .pointer (some ⟨w.heap.size, 2, none⟩) := hd 24 (by kernel_rfl)
      clear hd ho hdone hlater hold
      rw [Array.getD_eq_getD_getElem?] at h24
      have e0 : wq.cell? ⟨w.heap.size, 2, none⟩ = some (.string VT) := hI.a.cell 2
      refine Reg.step2_val (.string VT) ?_ rfl hI trivial
      go_simp
    · -- 6: 26 := Op.fieldAddr 31 t1 3
      intro aq wq lq hI hl hdone hlater hold hd ho
      have h1 : aq.tmps.getD 1 undef = .pointer (some ⟨w.heap.size, 0, none⟩) := ho 1 (by kernel_rfl)
      clear hd ho hdone hlater hold
      rw [Array.getD_eq_getD_getElem?] at h1
      refine Reg.step2_val (.pointer (some ⟨w.heap.size, 3, none⟩)) ?_ rfl hI trivial
      go_simp
    · -- 7: 27 := Op.load 29 t26
      intro aq wq lq hI hl hdone hlater hold hd ho
      have h26 : aq.tmps.getD 26 undef = .pointer (some ⟨w.heap.size, 3, none⟩) := hd 26 (by kernel_rfl)
      clear hd ho hdone hlater hold
      rw [Array.getD_eq_getD_getElem?] at h26
      have e0 : wq.cell? ⟨w.heap.size, 3, none⟩ = some (.int .u64 D) := hI.a.cell 3
      refine Reg.step2_val (.int .u64 D) ?_ rfl hI trivial
      go_simp
    · -- 8: 28 := Op.build 34 #((0, t21), (1, t23), (2, t25), (3, t27))
      intro aq wq lq hI hl hdone hlater hold hd ho
      have h21 : aq.tmps.getD 21 undef = .int .u8 kd := hd 21 (by kernel_rfl)
      have h23 : aq.tmps.getD 23 undef = .string KT := hd 23 (by kernel_rfl)
      have h25 : aq.tmps.getD 25 undef = .string VT := hd 25 (by kernel_rfl)
      have h27 : aq.tmps.getD 27 undef = .int .u64 D := hd 27 (by kernel_rfl)
      clear hd ho hdone hlater hold
      rw [Array.getD_eq_getD_getElem?] at h21 h23 h25 h27
      refine Reg.step2_val (.agg #[.int .u8 kd, .string KT, .string VT, .int .u64 D]) ?_ rfl hI trivial
      simp [execOp, Act.eval, h21, h23, h25, h27]
      try go_simp
    · -- 9: 29 := Op.load 31 t1
      intro aq wq lq hI hl hdone hlater hold hd ho
      have h1 : aq.tmps.getD 1 undef = .pointer (some ⟨w.heap.size, 0, none⟩) := ho 1 (by kernel_rfl)
      clear hd ho hdone hlater hold
      rw [Array.getD_eq_getD_getElem?] at h1
      have e0 : wq.cell? ⟨w.heap.size, 0, none⟩ = some (.int .u8 kd) := hI.a.cell 0
      have e1 : wq.cell? ⟨w.heap.size, 1, none⟩ = some (.string KT) := hI.a.cell 1
      have e2 : wq.cell? ⟨w.heap.size, 2, none⟩ = some (.string VT) := hI.a.cell 2
      have e3 : wq.cell? ⟨w.heap.size, 3, none⟩ = some (.int .u64 D) := hI.a.cell 3
      refine Reg.step2_val (.agg #[.int .u8 kd, .string KT, .string VT, .int .u64 D]) ?_ rfl hI trivial
      go_simp
    · -- 10: None := Op.store 34 t2 t28
      intro aq wq lq hI hl hdone hlater hold hd ho
      have h2 : aq.tmps.getD 2 undef = .pointer (some ⟨w.heap.size + 1, 0, none⟩) := ho 2 (by kernel_rfl)
      have h28 : aq.tmps.getD 28 undef = .agg #[.int .u8 kd, .string KT, .string VT, .int .u64 D] := hd 28 (by kernel_rfl)
      clear hd ho hdone hlater hold
      rw [Array.getD_eq_getD_getElem?] at h2 h28
      have hB := hI.b
      rw [hl] at hB
      have e0 := hB.cell 0
      have e1 := hB.cell 1
      have e2 := hB.cell 2
      have e3 := hB.cell 3
      have f0 := hB.frozen 0
      have f1 := hB.frozen 1
      have f2 := hB.frozen 2
      have f3 := hB.frozen 3
      simp only [z4, if_neg Bool.false_ne_true, List.getElem?_cons_zero, List.getElem?_cons_succ] at e0 e1 e2 e3
      have hJ := hI
      clear hI hB hl
      refine Reg.step2_skip _ rfl ?_ (Of4.stB hJ) trivial
      clear hJ
      simp [execOp]
      go_simp
    · -- 11: None := Op.store 35 t3 t29
      intro aq wq lq hI hl hdone hlater hold hd ho
      have h3 : aq.tmps.getD 3 undef = .pointer (some ⟨w.heap.size + 1 + 1, 0, none⟩) := ho 3 (by kernel_rfl)
      have h29 : aq.tmps.getD 29 undef = .agg #[.int .u8 kd, .string KT, .string VT, .int .u64 D] := hd 29 (by kernel_rfl)
      clear hd ho hdone hlater hold
      rw [Array.getD_eq_getD_getElem?] at h3 h29
      have hB := hI.r
      rw [hl] at hB
      have e0 := hB.cell 0
      have e1 := hB.cell 1
      have e2 := hB.cell 2
      have e3 := hB.cell 3
      have f0 := hB.frozen 0
      have f1 := hB.frozen 1
      have f2 := hB.frozen 2
      have f3 := hB.frozen 3
      simp only [z4, if_neg Bool.false_ne_true, List.getElem?_cons_zero, List.getElem?_cons_succ] at e0 e1 e2 e3
      have hJ := hI
      clear hI hB hl
      refine Reg.step2_skip _ rfl ?_ (Of4.stR hJ) trivial
      clear hJ
      simp [execOp]
      go_simp
    case hend =>
      intro wy hI
      simp only [Reg.fill, List.foldl_cons, List.foldl_nil, List.setIfInBounds_toArray, List.set_cons_zero, List.set_cons_succ]
      have hJ : Of4 w [.int .u8 kd, .string KT, .string VT, .int .u64 D] [.int .u8 kd, .string KT, .string VT, .int .u64 D] true true wy := hI
      clear hI HOF2
      have r0 := hJ.b.cell 0
      have r1 := hJ.b.cell 1
      have r2 := hJ.b.cell 2
      have r3 := hJ.b.cell 3
      have s0 := hJ.r.cell 0
      have s1 := hJ.r.cell 1
      have s2 := hJ.r.cell 2
      have s3 := hJ.r.cell 3
      simp only [if_true, List.getElem?_cons_zero, List.getElem?_cons_succ] at r0 r1 r2 r3 s0 s1 s2 s3
      have hbel := hJ.bel
      clear hJ
      go_wp2_with fail
      exact bodyPost_ret (v := .tuple #[.agg #[.int .u8 kd, .string KT, .string VT, .int .u64 D], .agg #[.int .u8 kd, .string KT, .string VT, .int .u64 D]]) (by simp [results, Try.results9, go_sem, r0, r1, r2, r3, s0, s1, s2, s3]) rfl ⟨rfl, hbel⟩
theorem of_any (u : Up) (w : World) (hk : u.key.length ≤ 9223372036854775807) (hv : u.val.length ≤ 9223372036854775807) :
    Calls Try.prog 9 #[agU u] w fun e w' => e = .returned (.tuple #[agU (ofF u), agU (ofF u)]) ∧ Below w.heap.size w w' :=
  of_0 u.kind u.delta _ _ _ _ w (by rw [ssize]; exact hk) (by rw [ssize]; exact hv) (Lib.hid (takeS u.key 20)) (Lib.hid (takeS u.val 36))
end Go.Proofs.Ytfmbjepjmjcgeaa.Leaf
