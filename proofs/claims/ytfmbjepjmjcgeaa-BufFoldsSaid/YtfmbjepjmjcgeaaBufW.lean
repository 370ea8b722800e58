/- Layer 15 (buf): the law's own wakes. -/
import Derived.Test.YtfmbjepjmjcgeaaBufI
import Derived.Test.YtfmbjepjmjcgeaaBufJ
import Derived.Test.YtfmbjepjmjcgeaaBufL
import Derived.Test.YtfmbjepjmjcgeaaBufV
namespace Go.Proofs.Ytfmbjepjmjcgeaa.Buf
open Go Go.RowKit Go.Proofs.Ytfmbjepjmjcgeaa Go.Proofs.Ytfmbjepjmjcgeaa.Lend Go.Proofs.Ytfmbjepjmjcgeaa.Rec Go.Proofs.Ytfmbjepjmjcgeaa.Msg
set_option linter.unusedVariables false

def P4 : Up := ⟨1, [107], encN 4 8, 0⟩
def A3 : Up := ⟨3, [107], [], 3⟩
def U7 : Up := ⟨1, [107], encN 7 8, 0⟩
theorem p4_tm : Tm P4 := ⟨by show (1 : Int) ≤ 1; omega, by show (1 : Int) ≤ 3; omega, by show (0 : Int) ≤ 0; omega, by show (0 : Int) < 18446744073709551616; omega, fun _ => rfl, by show (encN 4 8).length ≤ 40; rw [encN_length]; omega⟩
theorem a3_tm : Tm A3 := ⟨by show (1 : Int) ≤ 3; omega, by show (3 : Int) ≤ 3; omega, by show (0 : Int) ≤ 3; omega, by show (3 : Int) < 18446744073709551616; omega, (fun h => by have h3 : (3 : Int) = 1 := h; omega), by show ([] : List UInt8).length ≤ 40; simp⟩
theorem wk_with : withU [] P4 = [P4] ∧ withU [P4] A3 = [U7] := by
  refine ⟨rfl, ?_⟩
  have h : joU P4 A3 = U7 := by
    rw [jo_put (a := P4) (b := A3) rfl rfl]
    unfold P4 A3 U7
    simp only
    rw [if_pos (encN_length 4 8), numN_enc (by omega) (by omega)]
    rfl
  unfold withU
  rw [if_pos (show P4.key = A3.key from rfl), h]
theorem wk_srt (u : Up) : Srt [u] := srt_cons.2 ⟨(fun y hy => by cases hy), srt_nil⟩
theorem wk_get : getO [U7] [107] = some U7 := (getO_iff (wk_srt _) _ _).2 ⟨by simp, rfl⟩
theorem wk_cut : cutI [107] [108] [U7] = [U7] ∧ cutO [107] [108] [U7] = [] := ⟨rfl, rfl⟩
theorem e107 : (⟨#[107]⟩ : ByteArray) = Lend.strOf [107] := rfl
theorem e108 : (⟨#[108]⟩ : ByteArray) = Lend.strOf [108] := rfl
set_option maxRecDepth 100000 in
set_option maxHeartbeats 8000000 in
theorem wakes_any (w : World) : Calls Try.prog 27 #[] w fun e w' => e = .returned (.bool true) ∧ Below w.heap.size w w' := by
  have HV4 := Lib.hid (fun W => value_any 4 W (by omega) (by omega))
  have HV7 := Lib.hid (fun W => value_any 7 W (by omega) (by omega))
  have HW1 : Hid (∀ W, Calls Try.prog 25 #[.agg #[.slice none 0 0], .agg #[.int .u8 1, .string ⟨#[107]⟩, .string (Lend.strOf (encN 4 8)), .int .u64 0]] W fun e w' => ∃ v', e = .returned (.agg #[v']) ∧ RA w' W.heap.size v' [P4] ∧ Below W.heap.size W w') := Lib.hid (fun W => by
    have h := with_any (w := W) (u := P4) (UR.nil W) cp_nil srt_nil (by decide) (fun x hx => by cases hx) p4_tm
    rw [wk_with.1] at h
    exact h)
  have HW2 : Hid (∀ W v, RA W 0 v [P4] → Calls Try.prog 25 #[.agg #[v], .agg #[.int .u8 3, .string ⟨#[107]⟩, .string ⟨#[]⟩, .int .u64 3]] W fun e w' => ∃ v', e = .returned (.agg #[v']) ∧ RA w' W.heap.size v' [U7] ∧ Below W.heap.size W w') := Lib.hid (fun W v hv => by
    have h := with_any (w := W) (u := A3) (UR.of_own hv) (cp_own hv) (wk_srt _) (by decide) (fun x hx => by rw [List.mem_singleton] at hx; rw [hx]; exact p4_tm) a3_tm
    rw [wk_with.2] at h
    exact h)
  have HGE : Hid (∀ W v, UR W v [U7] → Calls Try.prog 29 #[.agg #[v], .string ⟨#[107]⟩] W fun e w' => e = .returned (.tuple #[.agg #[.int .u8 1, .string ⟨#[107]⟩, .string (Lend.strOf (encN 7 8)), .int .u64 0], .bool true]) ∧ Below W.heap.size W w') := Lib.hid (fun W v hv => by
    have h := get_any (w := W) [107] hv (wk_srt _) (by decide)
    rw [wk_get] at h
    exact h)
  have HCU : Hid (∀ W v, UR W v [U7] → CpOk v → Calls Try.prog 26 #[.agg #[v], .string ⟨#[107]⟩, .string ⟨#[108]⟩] W fun e w' => ∃ v1 v2, e = .returned (.tuple #[.agg #[v1], .agg #[v2]]) ∧ RA w' W.heap.size v1 [U7] ∧ RA w' W.heap.size v2 [] ∧ Below W.heap.size W w') := Lib.hid (fun W v hv hc => by
    have h := cut_any (w := W) [107] [108] hv hc (wk_srt _) (by decide)
    unfold CuP at h
    rw [wk_cut.1, wk_cut.2] at h
    exact h)
  generalize Lend.strOf (encN 4 8) = E4 at *
  generalize Lend.strOf (encN 7 8) = E7 at *
  go_enter Try.func27, Try.ntmps27
  go_wp2_with fail
  refine (HV4.out _).mono ?_
  rintro e w1 ⟨rfl, hb1⟩
  have HB1 := Lib.hid hb1
  clear hb1
  go_wp2_with fail
  refine (HW1.out _).mono ?_
  rintro e w2 ⟨v1, rfl, hr, hb⟩
  have HB2 := Lib.hid (below_on HB1.out hb)
  have HR2 := Lib.hid (own_base hr (Nat.zero_le _))
  obtain ⟨a1, c1, rfl, _⟩ := own_shape hr
  clear hr hb
  go_wp2_with fail
  refine (HW2.out _ _ HR2.out).mono ?_
  rintro e w3 ⟨v2, rfl, hr, hb⟩
  have HB3 := Lib.hid (below_on HB2.out hb)
  obtain ⟨a2, c2, rfl, hc2⟩ := own_shape hr
  have HC := Lib.hid (show CpOk (.slice a2 [U7].length c2) from hc2)
  have HR3 := Lib.hid (UR.of_own hr)
  have hl1 : ([U7] : List Up).length = 1 := rfl
  rw [hl1] at HC HR3 ⊢
  clear hr hb hc2 HR2 hl1
  obtain ⟨w4, hw4⟩ : ∃ x, x = w3.alloc (.cells #[.slice a2 1 c2] 75) := ⟨_, rfl⟩
  have HX1 := Lib.hid (show Has w4 w3.heap.size 75 [.slice a2 1 c2] by rw [hw4]; exact Has.new w3 _ _)
  have HB34 := Lib.hid (show Below w3.heap.size w3 w4 by rw [hw4]; exact below_new _ _)
  have HB4 := Lib.hid (below_on HB3.out HB34.out)
  have HR4 := Lib.hid (HR3.out.below HB34.out)
  have cb4 := HX1.out.cell 0
  simp only [List.getElem?_cons_zero] at cb4
  go_wp2_with fail
  rw [← hw4]
  clear hw4
  go_wp2_with fail
  refine (HGE.out _ _ HR4.out).mono ?_
  rintro e w5 ⟨rfl, hb⟩
  have HB5 := Lib.hid (below_on HB4.out hb)
  have HX5 := Lib.hid (HX1.out.below hb HX1.out.lt)
  have HR5 := Lib.hid (HR4.out.below hb)
  have cb5 := HX5.out.cell 0
  simp only [List.getElem?_cons_zero] at cb5
  have hlt5 : w3.heap.size < w5.heap.size := HX5.out.lt
  clear hb cb4
  obtain ⟨w6, hw6⟩ : ∃ x, x = w5.alloc (.cells #[.int .u8 1, .string ⟨#[107]⟩, .string E7, .int .u64 0] 34) := ⟨_, rfl⟩
  have HX2 := Lib.hid (show Has w6 w5.heap.size 34 [.int .u8 1, .string ⟨#[107]⟩, .string E7, .int .u64 0] by rw [hw6]; exact Has.new w5 _ _)
  have HB56 := Lib.hid (show Below w5.heap.size w5 w6 by rw [hw6]; exact below_new _ _)
  have HB6 := Lib.hid (below_on HB5.out HB56.out)
  have HX6 := Lib.hid (HX5.out.below HB56.out HX5.out.lt)
  have HR6 := Lib.hid (HR5.out.below HB56.out)
  have cb6 := HX6.out.cell 0
  simp only [List.getElem?_cons_zero] at cb6
  go_wp2_with fail
  rw [← hw6]
  clear hw6
  go_wp2_with fail
  refine (HCU.out _ _ HR6.out HC.out).mono ?_
  rintro e w7 ⟨vi, vo, rfl, hri, hro, hb⟩
  have HB7 := Lib.hid (below_on HB6.out hb)
  have HX7 := Lib.hid (HX6.out.below hb HX6.out.lt)
  have HY7 := Lib.hid (HX2.out.below hb HX2.out.lt)
  have HR7 := Lib.hid (HR6.out.below hb)
  have HI7 := Lib.hid (UR.of_own hri)
  have HO7 := Lib.hid (UR.of_own hro)
  obtain ⟨ai, ci, rfl, _⟩ := own_shape hri
  obtain ⟨ao, co, rfl, _⟩ := own_shape hro
  have hl1 : ([U7] : List Up).length = 1 := rfl
  have hl0 : ([] : List Up).length = 0 := rfl
  rw [hl1] at HI7
  rw [hl0] at HO7
  rw [hl1, hl0]
  clear hri hro hb hl1 hl0 cb5 cb6
  obtain ⟨w8, hw8⟩ : ∃ x, x = (w7.alloc (.cells #[.slice ai 1 ci] 75)).alloc (.cells #[.slice ao 0 co] 75) := ⟨_, rfl⟩
  have h1 := Has.new w7 [.slice ai 1 ci] 75
  have h2 := Has.new (w7.alloc (.cells #[.slice ai 1 ci] 75)) [.slice ao 0 co] 75
  simp only [World.size_alloc] at h2
  have HXI := Lib.hid (show Has w8 w7.heap.size 75 [.slice ai 1 ci] by rw [hw8]; exact h1.alloc _)
  have HXO := Lib.hid (show Has w8 (w7.heap.size + 1) 75 [.slice ao 0 co] by rw [hw8]; exact h2)
  have HB78 := Lib.hid (show Below w7.heap.size w7 w8 by rw [hw8]; exact below_nw (below_new _ _) _)
  have HB8 := Lib.hid (below_on HB7.out HB78.out)
  have HX8 := Lib.hid (HX7.out.below HB78.out HX7.out.lt)
  have HY8 := Lib.hid (HY7.out.below HB78.out HY7.out.lt)
  have HR8 := Lib.hid (HR7.out.below HB78.out)
  have HI8 := Lib.hid (HI7.out.below HB78.out)
  have HO8 := Lib.hid (HO7.out.below HB78.out)
  clear h1 h2
  go_wp2_with fail
  rw [← hw8]
  clear hw8
  refine Reg.region_vals (by kernel_rfl) [(22, .agg #[.slice a2 1 c2]), (23, .int .i64 1), (24, .bool true), (25, .bool true), (26, .bool true), (27, .bool true), (28, .bool true), (29, .pointer (some ⟨w5.heap.size, 2, none⟩)), (30, .string E7), (31, .string E7), (32, .bool true), (33, .bool true), (34, .bool true), (35, .agg #[.slice ai 1 ci]), (36, .int .i64 1), (37, .bool true), (38, .bool true), (39, .bool true), (40, .agg #[.slice ao 0 co]), (41, .int .i64 0), (42, .bool true), (43, .bool true), (0, .bool true)] (fun l wy => Below w8.heap.size w8 wy) (by kernel_rfl) (by kernel_rfl) (by kernel_rfl) ((Below.refl _ _).drew) ⟨?_, ?_, ?_, ?_, ?_, ?_, ?_, ?_, ?_, ?_, ?_, ?_, ?_, ?_, ?_, ?_, ?_, ?_, ?_, ?_, ?_, ?_, ?_, trivial⟩ ?hend
  · -- 0: 22 := Op.load 75 t1
    intro aq wq lq hI hl hdone hlater hold hd ho
    have h1 : aq.tmps.getD 1 undef = .pointer (some ⟨w3.heap.size, 0, none⟩) := ho 1 (by kernel_rfl)
    clear hd ho hdone hlater hold
    rw [Array.getD_eq_getD_getElem?] at h1
    have e0 : wq.cell? ⟨w3.heap.size, 0, none⟩ = some (.slice a2 1 c2) := keep1 (HX8.out.cell 0) hI
    refine Reg.step2_val (.agg #[.slice a2 1 c2]) ?_ rfl hI trivial
    go_simp
  · -- 1: 23 := Op.call ( value (Operand.func 28), args := #(t22), argTypes 
    intro aq wq lq hI hl hdone hlater hold hd ho
    have h22 : aq.tmps.getD 22 undef = .agg #[.slice a2 1 c2] := hd 22 (by kernel_rfl)
    clear hd ho hdone hlater hold
    rw [Array.getD_eq_getD_getElem?] at h22
    refine Reg.step2_call 28 #[.agg #[.slice a2 1 c2]] ?_ ((len_any (HR8.out.below hI)).mono ?_)
    · clear hI
      simp [execOp]
      go_simp
    · rintro e w' ⟨rfl, hb⟩
      exact ⟨_, rfl, rfl, below_on hI hb, trivial⟩
  · -- 2: 24 := Op.binOp BinOp.eql 3 t23 (const (1:i64)) 3
    intro aq wq lq hI hl hdone hlater hold hd ho
    have h23 : aq.tmps.getD 23 undef = .int .i64 1 := hd 23 (by kernel_rfl)
    clear hd ho hdone hlater hold
    rw [Array.getD_eq_getD_getElem?] at h23
    refine Reg.step2_val (.bool true) ?_ rfl hI trivial
    simp [execOp, Act.eval, h23]
    try go_simp
  · -- 3: 25 := Op.move t24
    intro aq wq lq hI hl hdone hlater hold hd ho
    have h24 : aq.tmps.getD 24 undef = .bool true := hd 24 (by kernel_rfl)
    clear hd ho hdone hlater hold
    exact Reg.step2_move (.tmp 24) rfl h24 hI trivial
  · -- 4: 26 := Op.move t3
    intro aq wq lq hI hl hdone hlater hold hd ho
    have h3 : aq.tmps.getD 3 undef = .bool true := ho 3 (by kernel_rfl)
    clear hd ho hdone hlater hold
    exact Reg.step2_move (.tmp 3) rfl h3 hI trivial
  · -- 5: 27 := Op.pick t25 t26 (const (Value.bool false))
    intro aq wq lq hI hl hdone hlater hold hd ho
    have h25 : aq.tmps.getD 25 undef = .bool true := hd 25 (by kernel_rfl)
    have h26 : aq.tmps.getD 26 undef = .bool true := hd 26 (by kernel_rfl)
    clear hd ho hdone hlater hold
    rw [Array.getD_eq_getD_getElem?] at h25 h26
    refine Reg.step2_val (.bool true) ?_ rfl hI trivial
    simp [execOp, Act.eval, h25, h26]
    try go_simp
  · -- 6: 28 := Op.move t27
    intro aq wq lq hI hl hdone hlater hold hd ho
    have h27 : aq.tmps.getD 27 undef = .bool true := hd 27 (by kernel_rfl)
    clear hd ho hdone hlater hold
    exact Reg.step2_move (.tmp 27) rfl h27 hI trivial
  · -- 7: 29 := Op.fieldAddr 34 t2 2
    intro aq wq lq hI hl hdone hlater hold hd ho
    have h2 : aq.tmps.getD 2 undef = .pointer (some ⟨w5.heap.size, 0, none⟩) := ho 2 (by kernel_rfl)
    clear hd ho hdone hlater hold
    rw [Array.getD_eq_getD_getElem?] at h2
    refine Reg.step2_val (.pointer (some ⟨w5.heap.size, 2, none⟩)) ?_ rfl hI trivial
    go_simp
  · -- 8: 30 := Op.load 9 t29
    intro aq wq lq hI hl hdone hlater hold hd ho
    have h29 : aq.tmps.getD 29 undef = .pointer (some ⟨w5.heap.size, 2, none⟩) := hd 29 (by kernel_rfl)
    clear hd ho hdone hlater hold
    rw [Array.getD_eq_getD_getElem?] at h29
    have e0 : wq.cell? ⟨w5.heap.size, 2, none⟩ = some (.string E7) := keep1 (HY8.out.cell 2) hI
    refine Reg.step2_val (.string E7) ?_ rfl hI trivial
    go_simp
  · -- 9: 31 := Op.call ( value (Operand.func 48), args := #(const (7:u64)),
    intro aq wq lq hI hl hdone hlater hold hd ho
    clear hd ho hdone hlater hold
    refine Reg.step2_call 48 #[.int .u64 7] ?_ ((HV7.out wq).mono ?_)
    · clear hI
      simp [execOp]
      go_simp
    · rintro e w' ⟨rfl, hb⟩
      exact ⟨_, rfl, rfl, below_on hI hb, trivial⟩
  · -- 10: 32 := Op.binOp BinOp.eql 9 t30 t31 9
    intro aq wq lq hI hl hdone hlater hold hd ho
    have h30 : aq.tmps.getD 30 undef = .string E7 := hd 30 (by kernel_rfl)
    have h31 : aq.tmps.getD 31 undef = .string E7 := hd 31 (by kernel_rfl)
    clear hd ho hdone hlater hold
    rw [Array.getD_eq_getD_getElem?] at h30 h31
    refine Reg.step2_val (.bool true) ?_ rfl hI trivial
    simp [execOp, Act.eval, h30, h31]
    try go_simp
  · -- 11: 33 := Op.pick t28 t32 (const (Value.bool false))
    intro aq wq lq hI hl hdone hlater hold hd ho
    have h28 : aq.tmps.getD 28 undef = .bool true := hd 28 (by kernel_rfl)
    have h32 : aq.tmps.getD 32 undef = .bool true := hd 32 (by kernel_rfl)
    clear hd ho hdone hlater hold
    rw [Array.getD_eq_getD_getElem?] at h28 h32
    refine Reg.step2_val (.bool true) ?_ rfl hI trivial
    simp [execOp, Act.eval, h28, h32]
    try go_simp
  · -- 12: 34 := Op.move t33
    intro aq wq lq hI hl hdone hlater hold hd ho
    have h33 : aq.tmps.getD 33 undef = .bool true := hd 33 (by kernel_rfl)
    clear hd ho hdone hlater hold
    exact Reg.step2_move (.tmp 33) rfl h33 hI trivial
  · -- 13: 35 := Op.load 75 t4
    intro aq wq lq hI hl hdone hlater hold hd ho
    have h4 : aq.tmps.getD 4 undef = .pointer (some ⟨w7.heap.size, 0, none⟩) := ho 4 (by kernel_rfl)
    clear hd ho hdone hlater hold
    rw [Array.getD_eq_getD_getElem?] at h4
    have e0 : wq.cell? ⟨w7.heap.size, 0, none⟩ = some (.slice ai 1 ci) := keep1 (HXI.out.cell 0) hI
    refine Reg.step2_val (.agg #[.slice ai 1 ci]) ?_ rfl hI trivial
    go_simp
  · -- 14: 36 := Op.call ( value (Operand.func 28), args := #(t35), argTypes 
    intro aq wq lq hI hl hdone hlater hold hd ho
    have h35 : aq.tmps.getD 35 undef = .agg #[.slice ai 1 ci] := hd 35 (by kernel_rfl)
    clear hd ho hdone hlater hold
    rw [Array.getD_eq_getD_getElem?] at h35
    refine Reg.step2_call 28 #[.agg #[.slice ai 1 ci]] ?_ ((len_any (HI8.out.below hI)).mono ?_)
    · clear hI
      simp [execOp]
      go_simp
    · rintro e w' ⟨rfl, hb⟩
      exact ⟨_, rfl, rfl, below_on hI hb, trivial⟩
  · -- 15: 37 := Op.binOp BinOp.eql 3 t36 (const (1:i64)) 3
    intro aq wq lq hI hl hdone hlater hold hd ho
    have h36 : aq.tmps.getD 36 undef = .int .i64 1 := hd 36 (by kernel_rfl)
    clear hd ho hdone hlater hold
    rw [Array.getD_eq_getD_getElem?] at h36
    refine Reg.step2_val (.bool true) ?_ rfl hI trivial
    simp [execOp, Act.eval, h36]
    try go_simp
  · -- 16: 38 := Op.pick t34 t37 (const (Value.bool false))
    intro aq wq lq hI hl hdone hlater hold hd ho
    have h34 : aq.tmps.getD 34 undef = .bool true := hd 34 (by kernel_rfl)
    have h37 : aq.tmps.getD 37 undef = .bool true := hd 37 (by kernel_rfl)
    clear hd ho hdone hlater hold
    rw [Array.getD_eq_getD_getElem?] at h34 h37
    refine Reg.step2_val (.bool true) ?_ rfl hI trivial
    simp [execOp, Act.eval, h34, h37]
    try go_simp
  · -- 17: 39 := Op.move t38
    intro aq wq lq hI hl hdone hlater hold hd ho
    have h38 : aq.tmps.getD 38 undef = .bool true := hd 38 (by kernel_rfl)
    clear hd ho hdone hlater hold
    exact Reg.step2_move (.tmp 38) rfl h38 hI trivial
  · -- 18: 40 := Op.load 75 t5
    intro aq wq lq hI hl hdone hlater hold hd ho
    have h5 : aq.tmps.getD 5 undef = .pointer (some ⟨w7.heap.size + 1, 0, none⟩) := ho 5 (by kernel_rfl)
    clear hd ho hdone hlater hold
    rw [Array.getD_eq_getD_getElem?] at h5
    have e0 : wq.cell? ⟨w7.heap.size + 1, 0, none⟩ = some (.slice ao 0 co) := keep1 (HXO.out.cell 0) hI
    refine Reg.step2_val (.agg #[.slice ao 0 co]) ?_ rfl hI trivial
    go_simp
  · -- 19: 41 := Op.call ( value (Operand.func 28), args := #(t40), argTypes 
    intro aq wq lq hI hl hdone hlater hold hd ho
    have h40 : aq.tmps.getD 40 undef = .agg #[.slice ao 0 co] := hd 40 (by kernel_rfl)
    clear hd ho hdone hlater hold
    rw [Array.getD_eq_getD_getElem?] at h40
    refine Reg.step2_call 28 #[.agg #[.slice ao 0 co]] ?_ ((len_any (HO8.out.below hI)).mono ?_)
    · clear hI
      simp [execOp]
      go_simp
    · rintro e w' ⟨rfl, hb⟩
      exact ⟨_, rfl, rfl, below_on hI hb, trivial⟩
  · -- 20: 42 := Op.binOp BinOp.eql 3 t41 (const (0:i64)) 3
    intro aq wq lq hI hl hdone hlater hold hd ho
    have h41 : aq.tmps.getD 41 undef = .int .i64 0 := hd 41 (by kernel_rfl)
    clear hd ho hdone hlater hold
    rw [Array.getD_eq_getD_getElem?] at h41
    refine Reg.step2_val (.bool true) ?_ rfl hI trivial
    simp [execOp, Act.eval, h41]
    try go_simp
  · -- 21: 43 := Op.pick t39 t42 (const (Value.bool false))
    intro aq wq lq hI hl hdone hlater hold hd ho
    have h39 : aq.tmps.getD 39 undef = .bool true := hd 39 (by kernel_rfl)
    have h42 : aq.tmps.getD 42 undef = .bool true := hd 42 (by kernel_rfl)
    clear hd ho hdone hlater hold
    rw [Array.getD_eq_getD_getElem?] at h39 h42
    refine Reg.step2_val (.bool true) ?_ rfl hI trivial
    simp [execOp, Act.eval, h39, h42]
    try go_simp
  · -- 22: 0 := Op.assign t43
    intro aq wq lq hI hl hdone hlater hold hd ho
    have h43 : aq.tmps.getD 43 undef = .bool true := hd 43 (by kernel_rfl)
    clear hd ho hdone hlater hold
    exact Reg.step2_assign (.tmp 43) rfl h43 hI trivial
  case hend =>
    intro wx hI
    simp only [Reg.fill, List.foldl_cons, List.foldl_nil, List.setIfInBounds_toArray, List.set_cons_zero, List.set_cons_succ]
    have HF := Lib.hid (below_on HB8.out (show Below w8.heap.size w8 wx from hI))
    clear hI
    go_wp2_with fail
    go_ret
    exact ⟨rfl, HF.out⟩
end Go.Proofs.Ytfmbjepjmjcgeaa.Buf
