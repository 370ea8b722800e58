/- DevPlays: cases 0, 1 of its round. -/
import Derived.Test.YtlnocdmechidfaaDevPlaysS
namespace Go.Proofs.Ytlnocdmechidfaa.Dev
open Go Go.RowKit Go.Proofs.Ytlnocdmechidfaa
set_option linter.unusedVariables false

set_option maxHeartbeats 4000000 in
set_option maxRecDepth 100000 in
theorem sw_case0 {w W : World} {p m a0l a0c n t ab off dl M b2 x4l x4c : Nat} {D : Dv} {x0 x1 x2 : Int} {x3 data : ByteArray} {x4 : Option Addr} {x4z : List Int} {cs : List Value} {u2 u10 u11 u12 u13 u14 u52 u53 u54 u55 u56 u57 u58 u59 u60 u61 u62 u63 u64 u65 u66 u67 u68 u69 u70 u71 u72 u73 u74 u75 u76 u77 u78 u79 u80 u81 u82 u83 u84 u85 u86 u87 u88 u89 u90 u91 u92 u93 u94 u95 u96 u97 u98 u99 u100 u101 u102 u103 u104 u105 u106 u107 u108 u109 u110 u111 u112 u113 u114 u115 u116 u117 u118 u119 u120 u121 u122 u123 u124 u125 u126 u127 u128 u129 u130 u131 u132 u133 u134 u135 u136 u137 u138 u139 u140 u141 u142 u143 u144 u145 u146 u147 u148 u149 u150 u151 u152 u153 u154 u155 u156 u157 u158 u159 u160 u161 u162 u163 u164 u165 u166 u167 u168 u169 u170 u171 u172 u173 u174 u175 u176 u177 u178 u179 u180 u181 u182 u183 u184 u185 u186 u187 u188 u189 u190 u191 u192 u193 u194 u195 u196 u197 u198 u199 u200 u201 u202 u203 u204 u205 u206 u207 u208 u209 u210 u211 u212 u213 u214 u215 u216 u217 u218 u219 u220 : Value} {J K' : Act → World → Prop} {Q0 : Exit → Act → World → Prop}
    (hlen2 : D.cache.length ≤ 60) (hds : data.size ≤ 140) (hxl : x4l ≤ x4c) (hxm : x4c ≤ maxLen) (HROW : Hid (Row .i64 w x4 x4l x4z)) (HXW : Hid (∀ n ∈ x4z, (Lit.int .i64 n).wf = true)) (HF2 : Hid (-9223372036854775808 ≤ x2 ∧ x2 ≤ 9223372036854775807)) (HDU : Hid (Duet b2 cs w p m D D W)) (HCS : Hid (cs = [.int .i64 x0, .int .i64 x1, .int .i64 x2, .string x3, .slice x4 x4l x4c])) (c0 : W.cell? ⟨b2, 0, none⟩ = some (.int .i64 x0)) (c1 : W.cell? ⟨b2, 1, none⟩ = some (.int .i64 x1)) (c2 : W.cell? ⟨b2, 2, none⟩ = some (.int .i64 x2)) (c4 : W.cell? ⟨b2, 4, none⟩ = some (.slice x4 x4l x4c)) (HC1 : Hid (∀ X E F, Duet b2 cs w p m E F X → X.cell? ⟨b2, 1, none⟩ = some (.int .i64 x1))) (HC2 : Hid (∀ X E F, Duet b2 cs w p m E F X → X.cell? ⟨b2, 2, none⟩ = some (.int .i64 x2))) (HH9 : Hid (D.n = 9)) (hmax : max (0 : Int) x0 = ((M : Nat) : Int)) (hmod : Int.tmod ((M : Nat) : Int) 12 = ((0 : Nat) : Int))
    (hMetJ : ∀ (a' : Act) (w' : World), (∃ u9 u10 u11 u12 u13 u14 u38 u39 u40 u41 u42 u43 u44 u45 u46 u47 u48 u49 u50 u52 u53 u54 u55 u56 u57 u58 u59 u60 u61 u62 u63 u64 u65 u66 u67 u68 u69 u70 u71 u72 u73 u74 u75 u76 u77 u78 u79 u80 u81 u82 u83 u84 u85 u86 u87 u88 u89 u90 u91 u92 u93 u94 u95 u96 u97 u98 u99 u100 u101 u102 u103 u104 u105 u106 u107 u108 u109 u110 u111 u112 u113 u114 u115 u116 u117 u118 u119 u120 u121 u122 u123 u124 u125 u126 u127 u128 u129 u130 u131 u132 u133 u134 u135 u136 u137 u138 u139 u140 u141 u142 u143 u144 u145 u146 u147 u148 u149 u150 u151 u152 u153 u154 u155 u156 u157 u158 u159 u160 u161 u162 u163 u164 u165 u166 u167 u168 u169 u170 u171 u172 u173 u174 u175 u176 u177 u178 u179 u180 u181 u182 u183 u184 u185 u186 u187 u188 u189 u190 u191 u192 u193 u194 u195 u196 u197 u198 u199 u200 u201 u202 u203 u204 u205 u206 u207 u208 u209 u210 u211 u212 u213 u214 u215 u216 u217 u218 u219 u220, (u9 = .bool true ∧ ∃ D', D'.n = 9 ∧ D'.cache.length ≤ D.cache.length + 1 ∧ Pair (fun k => k = b2) w p m D' D' w') ∧ a' = ⟨#[Value.slice (some ⟨ab, off, none⟩) a0l a0c, undef, u2, Value.pointer (some ⟨p, 0, none⟩), Value.int IntKind.i64 0, Value.pointer (some ⟨m, 0, none⟩), undef, Value.pointer (some ⟨b2, 0, none⟩), Value.string data, u9, u10, u11, u12, u13, u14, Value.tuple #[Value.pointer (some ⟨p, 0, none⟩), Value.int IntKind.i64 0], Value.agg #[Value.int IntKind.i64 9, Value.int IntKind.i64 128], Value.tuple #[Value.pointer (some ⟨p, 0, none⟩), Value.int IntKind.i64 0], Value.pointer (some ⟨p, 0, none⟩), Value.int IntKind.i64 0, Value.pointer (some ⟨m, 0, none⟩), Value.bool true, Value.bool false, Value.bool false, Value.int IntKind.i64 0, Value.bool false, Value.bool false, Value.bool false, Value.pointer (some ⟨p, 0, none⟩), Value.bool false, Value.bool false, Value.slice (some ⟨ab, off, none⟩) a0l a0c, Value.slice (some ⟨ab, off, none⟩) a0l a0c, Value.int IntKind.i64 ((a0l : Nat) : Int), Value.int IntKind.i64 ((n : Nat) : Int), Value.slice (some ⟨ab, off, none⟩) n a0c, Value.int IntKind.i64 ((n : Nat) : Int), Value.int IntKind.i64 ((t : Nat) : Int), u38, u39, u40, u41, u42, u43, u44, u45, u46, u47, u48, u49, u50, Value.int IntKind.i64 ((0 : Nat) : Int), u52, u53, u54, u55, u56, u57, u58, u59, u60, u61, u62, u63, u64, u65, u66, u67, u68, u69, u70, u71, u72, u73, u74, u75, u76, u77, u78, u79, u80, u81, u82, u83, u84, u85, u86, u87, u88, u89, u90, u91, u92, u93, u94, u95, u96, u97, u98, u99, u100, u101, u102, u103, u104, u105, u106, u107, u108, u109, u110, u111, u112, u113, u114, u115, u116, u117, u118, u119, u120, u121, u122, u123, u124, u125, u126, u127, u128, u129, u130, u131, u132, u133, u134, u135, u136, u137, u138, u139, u140, u141, u142, u143, u144, u145, u146, u147, u148, u149, u150, u151, u152, u153, u154, u155, u156, u157, u158, u159, u160, u161, u162, u163, u164, u165, u166, u167, u168, u169, u170, u171, u172, u173, u174, u175, u176, u177, u178, u179, u180, u181, u182, u183, u184, u185, u186, u187, u188, u189, u190, u191, u192, u193, u194, u195, u196, u197, u198, u199, u200, u201, u202, u203, u204, u205, u206, u207, u208, u209, u210, u211, u212, u213, u214, u215, u216, u217, u218, u219, u220, undef, undef, undef, undef, undef, undef, undef, undef], []⟩) → J a' w')
    (hMetK : ∀ (a' : Act) (w' : World), Met J a' w' → K' a' w') :
    Code.wp Try.prog switch (Exit.then K' Q0) ⟨#[Value.slice (some ⟨ab, off, none⟩) a0l a0c, undef, u2, Value.pointer (some ⟨p, 0, none⟩), Value.int IntKind.i64 0, Value.pointer (some ⟨m, 0, none⟩), undef, Value.pointer (some ⟨b2, 0, none⟩), Value.string data, Value.bool true, u10, u11, u12, u13, u14, Value.tuple #[Value.pointer (some ⟨p, 0, none⟩), Value.int IntKind.i64 0], Value.agg #[Value.int IntKind.i64 9, Value.int IntKind.i64 128], Value.tuple #[Value.pointer (some ⟨p, 0, none⟩), Value.int IntKind.i64 0], Value.pointer (some ⟨p, 0, none⟩), Value.int IntKind.i64 0, Value.pointer (some ⟨m, 0, none⟩), Value.bool true, Value.bool false, Value.bool false, Value.int IntKind.i64 0, Value.bool false, Value.bool false, Value.bool false, Value.pointer (some ⟨p, 0, none⟩), Value.bool false, Value.bool false, Value.slice (some ⟨ab, off, none⟩) a0l a0c, Value.slice (some ⟨ab, off, none⟩) a0l a0c, Value.int IntKind.i64 ((a0l : Nat) : Int), Value.int IntKind.i64 ((n : Nat) : Int), Value.slice (some ⟨ab, off, none⟩) n a0c, Value.int IntKind.i64 ((n : Nat) : Int), Value.int IntKind.i64 ((t : Nat) : Int), Value.bool true, Value.pointer (some ⟨ab, off + t * 5, none⟩), Value.agg #[Value.int IntKind.i64 x0, Value.int IntKind.i64 x1, Value.int IntKind.i64 x2, Value.string x3, Value.slice x4 x4l x4c], Value.pointer (some ⟨b2, 3, none⟩), Value.string x3, Value.pointer (some ⟨b2, 3, none⟩), Value.string x3, Value.int IntKind.i64 ((x3.size : Nat) : Int), Value.int IntKind.i64 ((dl : Nat) : Int), Value.string data, Value.pointer (some ⟨b2, 0, none⟩), Value.int IntKind.i64 x0, Value.int IntKind.i64 ((M : Nat) : Int), Value.int IntKind.i64 ((0 : Nat) : Int), u52, u53, u54, u55, u56, u57, u58, u59, u60, u61, u62, u63, u64, u65, u66, u67, u68, u69, u70, u71, u72, u73, u74, u75, u76, u77, u78, u79, u80, u81, u82, u83, u84, u85, u86, u87, u88, u89, u90, u91, u92, u93, u94, u95, u96, u97, u98, u99, u100, u101, u102, u103, u104, u105, u106, u107, u108, u109, u110, u111, u112, u113, u114, u115, u116, u117, u118, u119, u120, u121, u122, u123, u124, u125, u126, u127, u128, u129, u130, u131, u132, u133, u134, u135, u136, u137, u138, u139, u140, u141, u142, u143, u144, u145, u146, u147, u148, u149, u150, u151, u152, u153, u154, u155, u156, u157, u158, u159, u160, u161, u162, u163, u164, u165, u166, u167, u168, u169, u170, u171, u172, u173, u174, u175, u176, u177, u178, u179, u180, u181, u182, u183, u184, u185, u186, u187, u188, u189, u190, u191, u192, u193, u194, u195, u196, u197, u198, u199, u200, u201, u202, u203, u204, u205, u206, u207, u208, u209, u210, u211, u212, u213, u214, u215, u216, u217, u218, u219, u220, undef, undef, undef, undef, undef, undef, undef, undef], []⟩ W := by
  conv => arg 2; whnf
  replace hmod : Int.tmod (M : Int) 12 = 0 := hmod
  obtain ⟨fd, hfd⟩ : ∃ fd, fd = fullN data := ⟨_, rfl⟩
  have hfs : fd.size ≤ 1000000000 := by rw [hfd, fullN_size]; omega
  have HFD := Lib.hid hfd
  clear hfd
  obtain ⟨E, hE⟩ : ∃ E, E = D.writeE x1 fd := ⟨_, rfl⟩
  have HE := Lib.hid hE
  have H0 := Lib.hid (show DuetB b2 cs w p m D (D.writeD x1 fd) false false W.drew from Duet.later HDU.out ⟨rfl, rfl, rfl, Nat.le_refl _, fun _ _ => rfl⟩)
  have HC1' := Lib.hid (show cs[1]? = some (.int .i64 x1) by rw [HCS.out]; rfl)
  clear hE
  go_wp2_with fail
  refine Reg.region_vals (by kernel_rfl) [(55, .pointer (some ⟨p, 0, none⟩)), (56, .pointer (some ⟨b2, 1, none⟩)), (57, .int .i64 x1), (58, .string data), (59, .string fd), (60, .int .i64 E), (61, .pointer (some ⟨m, 0, none⟩)), (62, .pointer (some ⟨b2, 1, none⟩)), (63, .int .i64 x1), (64, .string data), (65, .string fd), (66, .int .i64 E), (67, .bool true), (9, .bool true)] (fun l wx => DuetB b2 cs w p m D (D.writeD x1 fd) (l 5) (l 11) wx) (by kernel_rfl) (by kernel_rfl) (by kernel_rfl) (H0.out) ⟨?_, ?_, ?_, ?_, ?_, ?_, ?_, ?_, ?_, ?_, ?_, ?_, ?_, ?_, trivial⟩ ?hend
  · -- 0: 55 := Op.move t3
    intro aq wq lq hI hl hdone hlater hold hd ho
    have h3 : aq.tmps.getD 3 undef = .pointer (some ⟨p, 0, none⟩) := ho 3 (by kernel_rfl)
    clear hd ho hdone hlater hold
    exact Reg.step2_move (.tmp 3) rfl h3 hI trivial
  · -- 1: 56 := Op.fieldAddr 34 t7 1
    intro aq wq lq hI hl hdone hlater hold hd ho
    have h7 : aq.tmps.getD 7 undef = .pointer (some ⟨b2, 0, none⟩) := ho 7 (by kernel_rfl)
    clear hd ho hdone hlater hold
    rw [Array.getD_eq_getD_getElem?] at h7
    refine Reg.step2_val (.pointer (some ⟨b2, 1, none⟩)) ?_ rfl hI trivial
    go_simp
  · -- 2: 57 := Op.load 3 t56
    intro aq wq lq hI hl hdone hlater hold hd ho
    have h56 : aq.tmps.getD 56 undef = .pointer (some ⟨b2, 1, none⟩) := hd 56 (by kernel_rfl)
    clear hd ho hdone hlater hold
    rw [Array.getD_eq_getD_getElem?] at h56
    have e0 := hI.cell 1
    rw [HC1'.out] at e0
    refine Reg.step2_val (.int .i64 x1) ?_ rfl hI trivial
    go_simp
  · -- 3: 58 := Op.move t8
    intro aq wq lq hI hl hdone hlater hold hd ho
    have h8 : aq.tmps.getD 8 undef = .string data := ho 8 (by kernel_rfl)
    clear hd ho hdone hlater hold
    exact Reg.step2_move (.tmp 8) rfl h8 hI trivial
  · -- 4: 59 := Op.call ( value (Operand.func 8), args := #(t58), argTypes :
    intro aq wq lq hI hl hdone hlater hold hd ho
    have h58 : aq.tmps.getD 58 undef = .string data := hd 58 (by kernel_rfl)
    clear hd ho hdone hlater hold
    rw [Array.getD_eq_getD_getElem?] at h58
    refine Reg.step2_call 8 #[.string data] ?_ ((full_any data wq (by omega)).mono ?_)
    · simp [execOp]
      go_simp
    · rintro e w' ⟨rfl, hb⟩
      exact ⟨_, rfl, by rw [← HFD.out]; rfl, hI.later hb, trivial⟩
  · -- 5: 60 := Op.call ( value (Operand.func 7), args := #(t55, t57, t59), 
    intro aq wq lq hI hl hdone hlater hold hd ho
    have h55 : aq.tmps.getD 55 undef = .pointer (some ⟨p, 0, none⟩) := hd 55 (by kernel_rfl)
    have h57 : aq.tmps.getD 57 undef = .int .i64 x1 := hd 57 (by kernel_rfl)
    have h59 : aq.tmps.getD 59 undef = .string fd := hd 59 (by kernel_rfl)
    clear hd ho hdone hlater hold
    rw [Array.getD_eq_getD_getElem?] at h55 h57 h59
    have hJ := hI
    clear hI
    rw [show lq 5 = false from hl] at hJ
    refine Reg.step2_call 7 #[.pointer (some ⟨p, 0, none⟩), .int .i64 x1, .string fd] ?_ ((write_bd hJ hlen2 hfs).mono ?_)
    · clear hJ
      simp [execOp]
      go_simp
    · rintro e w' ⟨rfl, hb⟩
      exact ⟨_, rfl, by rw [← HE.out]; rfl, hb, trivial⟩
  · -- 6: 61 := Op.move t5
    intro aq wq lq hI hl hdone hlater hold hd ho
    have h5 : aq.tmps.getD 5 undef = .pointer (some ⟨m, 0, none⟩) := ho 5 (by kernel_rfl)
    clear hd ho hdone hlater hold
    exact Reg.step2_move (.tmp 5) rfl h5 hI trivial
  · -- 7: 62 := Op.fieldAddr 34 t7 1
    intro aq wq lq hI hl hdone hlater hold hd ho
    have h7 : aq.tmps.getD 7 undef = .pointer (some ⟨b2, 0, none⟩) := ho 7 (by kernel_rfl)
    clear hd ho hdone hlater hold
    rw [Array.getD_eq_getD_getElem?] at h7
    refine Reg.step2_val (.pointer (some ⟨b2, 1, none⟩)) ?_ rfl hI trivial
    go_simp
  · -- 8: 63 := Op.load 3 t62
    intro aq wq lq hI hl hdone hlater hold hd ho
    have h62 : aq.tmps.getD 62 undef = .pointer (some ⟨b2, 1, none⟩) := hd 62 (by kernel_rfl)
    clear hd ho hdone hlater hold
    rw [Array.getD_eq_getD_getElem?] at h62
    have e0 := hI.cell 1
    rw [HC1'.out] at e0
    refine Reg.step2_val (.int .i64 x1) ?_ rfl hI trivial
    go_simp
  · -- 9: 64 := Op.move t8
    intro aq wq lq hI hl hdone hlater hold hd ho
    have h8 : aq.tmps.getD 8 undef = .string data := ho 8 (by kernel_rfl)
    clear hd ho hdone hlater hold
    exact Reg.step2_move (.tmp 8) rfl h8 hI trivial
  · -- 10: 65 := Op.call ( value (Operand.func 8), args := #(t64), argTypes :
    intro aq wq lq hI hl hdone hlater hold hd ho
    have h64 : aq.tmps.getD 64 undef = .string data := hd 64 (by kernel_rfl)
    clear hd ho hdone hlater hold
    rw [Array.getD_eq_getD_getElem?] at h64
    refine Reg.step2_call 8 #[.string data] ?_ ((full_any data wq (by omega)).mono ?_)
    · simp [execOp]
      go_simp
    · rintro e w' ⟨rfl, hb⟩
      exact ⟨_, rfl, by rw [← HFD.out]; rfl, hI.later hb, trivial⟩
  · -- 11: 66 := Op.call ( value (Operand.func 9), args := #(t61, t63, t65), 
    intro aq wq lq hI hl hdone hlater hold hd ho
    have h61 : aq.tmps.getD 61 undef = .pointer (some ⟨m, 0, none⟩) := hd 61 (by kernel_rfl)
    have h63 : aq.tmps.getD 63 undef = .int .i64 x1 := hd 63 (by kernel_rfl)
    have h65 : aq.tmps.getD 65 undef = .string fd := hd 65 (by kernel_rfl)
    clear hd ho hdone hlater hold
    rw [Array.getD_eq_getD_getElem?] at h61 h63 h65
    have hJ := hI
    clear hI
    rw [show lq 11 = false from hl] at hJ
    refine Reg.step2_call 9 #[.pointer (some ⟨m, 0, none⟩), .int .i64 x1, .string fd] ?_ ((write_br hJ hlen2 hfs).mono ?_)
    · clear hJ
      simp [execOp]
      go_simp
    · rintro e w' ⟨rfl, hb⟩
      exact ⟨_, rfl, by rw [← HE.out]; rfl, hb, trivial⟩
  · -- 12: 67 := Op.binOp BinOp.eql 3 t60 t66 3
    intro aq wq lq hI hl hdone hlater hold hd ho
    have h60 : aq.tmps.getD 60 undef = .int .i64 E := hd 60 (by kernel_rfl)
    have h66 : aq.tmps.getD 66 undef = .int .i64 E := hd 66 (by kernel_rfl)
    clear hd ho hdone hlater hold
    rw [Array.getD_eq_getD_getElem?] at h60 h66
    refine Reg.step2_val (.bool true) ?_ rfl hI trivial
    simp [execOp, Act.eval, h60, h66]
    try go_simp
  · -- 13: 9 := Op.assign t67
    intro aq wq lq hI hl hdone hlater hold hd ho
    have h67 : aq.tmps.getD 67 undef = .bool true := hd 67 (by kernel_rfl)
    clear hd ho hdone hlater hold
    exact Reg.step2_assign (.tmp 67) rfl h67 hI trivial
  case hend =>
  intro wx hI
  simp only [Reg.fill, List.foldl_cons, List.foldl_nil, List.setIfInBounds_toArray, List.set_cons_zero, List.set_cons_succ]
  have HI := Lib.hid (show Duet b2 cs w p m (D.writeD x1 fd) (D.writeD x1 fd) wx from hI)
  clear hI
  go_wp2_with fail
  go_meet
  exact ⟨rfl, _, (len_write D x1 fd).2.trans HH9.out, (len_write D x1 fd).1, HI.out.1⟩
set_option maxHeartbeats 4000000 in
set_option maxRecDepth 100000 in
theorem sw_case1 {w W : World} {p m a0l a0c n t ab off dl M b2 x4l x4c : Nat} {D : Dv} {x0 x1 x2 : Int} {x3 data : ByteArray} {x4 : Option Addr} {x4z : List Int} {cs : List Value} {u2 u10 u11 u12 u13 u14 u52 u53 u54 u55 u56 u57 u58 u59 u60 u61 u62 u63 u64 u65 u66 u67 u68 u69 u70 u71 u72 u73 u74 u75 u76 u77 u78 u79 u80 u81 u82 u83 u84 u85 u86 u87 u88 u89 u90 u91 u92 u93 u94 u95 u96 u97 u98 u99 u100 u101 u102 u103 u104 u105 u106 u107 u108 u109 u110 u111 u112 u113 u114 u115 u116 u117 u118 u119 u120 u121 u122 u123 u124 u125 u126 u127 u128 u129 u130 u131 u132 u133 u134 u135 u136 u137 u138 u139 u140 u141 u142 u143 u144 u145 u146 u147 u148 u149 u150 u151 u152 u153 u154 u155 u156 u157 u158 u159 u160 u161 u162 u163 u164 u165 u166 u167 u168 u169 u170 u171 u172 u173 u174 u175 u176 u177 u178 u179 u180 u181 u182 u183 u184 u185 u186 u187 u188 u189 u190 u191 u192 u193 u194 u195 u196 u197 u198 u199 u200 u201 u202 u203 u204 u205 u206 u207 u208 u209 u210 u211 u212 u213 u214 u215 u216 u217 u218 u219 u220 : Value} {J K' : Act → World → Prop} {Q0 : Exit → Act → World → Prop}
    (hlen2 : D.cache.length ≤ 60) (hds : data.size ≤ 140) (hxl : x4l ≤ x4c) (hxm : x4c ≤ maxLen) (HROW : Hid (Row .i64 w x4 x4l x4z)) (HXW : Hid (∀ n ∈ x4z, (Lit.int .i64 n).wf = true)) (HF2 : Hid (-9223372036854775808 ≤ x2 ∧ x2 ≤ 9223372036854775807)) (HDU : Hid (Duet b2 cs w p m D D W)) (HCS : Hid (cs = [.int .i64 x0, .int .i64 x1, .int .i64 x2, .string x3, .slice x4 x4l x4c])) (c0 : W.cell? ⟨b2, 0, none⟩ = some (.int .i64 x0)) (c1 : W.cell? ⟨b2, 1, none⟩ = some (.int .i64 x1)) (c2 : W.cell? ⟨b2, 2, none⟩ = some (.int .i64 x2)) (c4 : W.cell? ⟨b2, 4, none⟩ = some (.slice x4 x4l x4c)) (HC1 : Hid (∀ X E F, Duet b2 cs w p m E F X → X.cell? ⟨b2, 1, none⟩ = some (.int .i64 x1))) (HC2 : Hid (∀ X E F, Duet b2 cs w p m E F X → X.cell? ⟨b2, 2, none⟩ = some (.int .i64 x2))) (HH9 : Hid (D.n = 9)) (hmax : max (0 : Int) x0 = ((M : Nat) : Int)) (hmod : Int.tmod ((M : Nat) : Int) 12 = ((1 : Nat) : Int))
    (hMetJ : ∀ (a' : Act) (w' : World), (∃ u9 u10 u11 u12 u13 u14 u38 u39 u40 u41 u42 u43 u44 u45 u46 u47 u48 u49 u50 u52 u53 u54 u55 u56 u57 u58 u59 u60 u61 u62 u63 u64 u65 u66 u67 u68 u69 u70 u71 u72 u73 u74 u75 u76 u77 u78 u79 u80 u81 u82 u83 u84 u85 u86 u87 u88 u89 u90 u91 u92 u93 u94 u95 u96 u97 u98 u99 u100 u101 u102 u103 u104 u105 u106 u107 u108 u109 u110 u111 u112 u113 u114 u115 u116 u117 u118 u119 u120 u121 u122 u123 u124 u125 u126 u127 u128 u129 u130 u131 u132 u133 u134 u135 u136 u137 u138 u139 u140 u141 u142 u143 u144 u145 u146 u147 u148 u149 u150 u151 u152 u153 u154 u155 u156 u157 u158 u159 u160 u161 u162 u163 u164 u165 u166 u167 u168 u169 u170 u171 u172 u173 u174 u175 u176 u177 u178 u179 u180 u181 u182 u183 u184 u185 u186 u187 u188 u189 u190 u191 u192 u193 u194 u195 u196 u197 u198 u199 u200 u201 u202 u203 u204 u205 u206 u207 u208 u209 u210 u211 u212 u213 u214 u215 u216 u217 u218 u219 u220, (u9 = .bool true ∧ ∃ D', D'.n = 9 ∧ D'.cache.length ≤ D.cache.length + 1 ∧ Pair (fun k => k = b2) w p m D' D' w') ∧ a' = ⟨#[Value.slice (some ⟨ab, off, none⟩) a0l a0c, undef, u2, Value.pointer (some ⟨p, 0, none⟩), Value.int IntKind.i64 0, Value.pointer (some ⟨m, 0, none⟩), undef, Value.pointer (some ⟨b2, 0, none⟩), Value.string data, u9, u10, u11, u12, u13, u14, Value.tuple #[Value.pointer (some ⟨p, 0, none⟩), Value.int IntKind.i64 0], Value.agg #[Value.int IntKind.i64 9, Value.int IntKind.i64 128], Value.tuple #[Value.pointer (some ⟨p, 0, none⟩), Value.int IntKind.i64 0], Value.pointer (some ⟨p, 0, none⟩), Value.int IntKind.i64 0, Value.pointer (some ⟨m, 0, none⟩), Value.bool true, Value.bool false, Value.bool false, Value.int IntKind.i64 0, Value.bool false, Value.bool false, Value.bool false, Value.pointer (some ⟨p, 0, none⟩), Value.bool false, Value.bool false, Value.slice (some ⟨ab, off, none⟩) a0l a0c, Value.slice (some ⟨ab, off, none⟩) a0l a0c, Value.int IntKind.i64 ((a0l : Nat) : Int), Value.int IntKind.i64 ((n : Nat) : Int), Value.slice (some ⟨ab, off, none⟩) n a0c, Value.int IntKind.i64 ((n : Nat) : Int), Value.int IntKind.i64 ((t : Nat) : Int), u38, u39, u40, u41, u42, u43, u44, u45, u46, u47, u48, u49, u50, Value.int IntKind.i64 ((1 : Nat) : Int), u52, u53, u54, u55, u56, u57, u58, u59, u60, u61, u62, u63, u64, u65, u66, u67, u68, u69, u70, u71, u72, u73, u74, u75, u76, u77, u78, u79, u80, u81, u82, u83, u84, u85, u86, u87, u88, u89, u90, u91, u92, u93, u94, u95, u96, u97, u98, u99, u100, u101, u102, u103, u104, u105, u106, u107, u108, u109, u110, u111, u112, u113, u114, u115, u116, u117, u118, u119, u120, u121, u122, u123, u124, u125, u126, u127, u128, u129, u130, u131, u132, u133, u134, u135, u136, u137, u138, u139, u140, u141, u142, u143, u144, u145, u146, u147, u148, u149, u150, u151, u152, u153, u154, u155, u156, u157, u158, u159, u160, u161, u162, u163, u164, u165, u166, u167, u168, u169, u170, u171, u172, u173, u174, u175, u176, u177, u178, u179, u180, u181, u182, u183, u184, u185, u186, u187, u188, u189, u190, u191, u192, u193, u194, u195, u196, u197, u198, u199, u200, u201, u202, u203, u204, u205, u206, u207, u208, u209, u210, u211, u212, u213, u214, u215, u216, u217, u218, u219, u220, undef, undef, undef, undef, undef, undef, undef, undef], []⟩) → J a' w')
    (hMetK : ∀ (a' : Act) (w' : World), Met J a' w' → K' a' w') :
    Code.wp Try.prog switch (Exit.then K' Q0) ⟨#[Value.slice (some ⟨ab, off, none⟩) a0l a0c, undef, u2, Value.pointer (some ⟨p, 0, none⟩), Value.int IntKind.i64 0, Value.pointer (some ⟨m, 0, none⟩), undef, Value.pointer (some ⟨b2, 0, none⟩), Value.string data, Value.bool true, u10, u11, u12, u13, u14, Value.tuple #[Value.pointer (some ⟨p, 0, none⟩), Value.int IntKind.i64 0], Value.agg #[Value.int IntKind.i64 9, Value.int IntKind.i64 128], Value.tuple #[Value.pointer (some ⟨p, 0, none⟩), Value.int IntKind.i64 0], Value.pointer (some ⟨p, 0, none⟩), Value.int IntKind.i64 0, Value.pointer (some ⟨m, 0, none⟩), Value.bool true, Value.bool false, Value.bool false, Value.int IntKind.i64 0, Value.bool false, Value.bool false, Value.bool false, Value.pointer (some ⟨p, 0, none⟩), Value.bool false, Value.bool false, Value.slice (some ⟨ab, off, none⟩) a0l a0c, Value.slice (some ⟨ab, off, none⟩) a0l a0c, Value.int IntKind.i64 ((a0l : Nat) : Int), Value.int IntKind.i64 ((n : Nat) : Int), Value.slice (some ⟨ab, off, none⟩) n a0c, Value.int IntKind.i64 ((n : Nat) : Int), Value.int IntKind.i64 ((t : Nat) : Int), Value.bool true, Value.pointer (some ⟨ab, off + t * 5, none⟩), Value.agg #[Value.int IntKind.i64 x0, Value.int IntKind.i64 x1, Value.int IntKind.i64 x2, Value.string x3, Value.slice x4 x4l x4c], Value.pointer (some ⟨b2, 3, none⟩), Value.string x3, Value.pointer (some ⟨b2, 3, none⟩), Value.string x3, Value.int IntKind.i64 ((x3.size : Nat) : Int), Value.int IntKind.i64 ((dl : Nat) : Int), Value.string data, Value.pointer (some ⟨b2, 0, none⟩), Value.int IntKind.i64 x0, Value.int IntKind.i64 ((M : Nat) : Int), Value.int IntKind.i64 ((1 : Nat) : Int), u52, u53, u54, u55, u56, u57, u58, u59, u60, u61, u62, u63, u64, u65, u66, u67, u68, u69, u70, u71, u72, u73, u74, u75, u76, u77, u78, u79, u80, u81, u82, u83, u84, u85, u86, u87, u88, u89, u90, u91, u92, u93, u94, u95, u96, u97, u98, u99, u100, u101, u102, u103, u104, u105, u106, u107, u108, u109, u110, u111, u112, u113, u114, u115, u116, u117, u118, u119, u120, u121, u122, u123, u124, u125, u126, u127, u128, u129, u130, u131, u132, u133, u134, u135, u136, u137, u138, u139, u140, u141, u142, u143, u144, u145, u146, u147, u148, u149, u150, u151, u152, u153, u154, u155, u156, u157, u158, u159, u160, u161, u162, u163, u164, u165, u166, u167, u168, u169, u170, u171, u172, u173, u174, u175, u176, u177, u178, u179, u180, u181, u182, u183, u184, u185, u186, u187, u188, u189, u190, u191, u192, u193, u194, u195, u196, u197, u198, u199, u200, u201, u202, u203, u204, u205, u206, u207, u208, u209, u210, u211, u212, u213, u214, u215, u216, u217, u218, u219, u220, undef, undef, undef, undef, undef, undef, undef, undef], []⟩ W := by
  conv => arg 2; whnf
  replace hmod : Int.tmod (M : Int) 12 = 1 := hmod
  obtain ⟨fd, hfd⟩ : ∃ fd, fd = fullN data := ⟨_, rfl⟩
  have hfs : fd.size ≤ 1000000000 := by rw [hfd, fullN_size]; omega
  have HFD := Lib.hid hfd
  clear hfd
  obtain ⟨E, hE⟩ : ∃ E, E = D.writeE x1 fd := ⟨_, rfl⟩
  have HE := Lib.hid hE
  have H0 := Lib.hid (show DuetB b2 cs w p m D (D.writeD x1 fd) false false W.drew from Duet.later HDU.out ⟨rfl, rfl, rfl, Nat.le_refl _, fun _ _ => rfl⟩)
  have HC1' := Lib.hid (show cs[1]? = some (.int .i64 x1) by rw [HCS.out]; rfl)
  clear hE
  go_wp2_with fail
  refine Reg.region_vals (by kernel_rfl) [(55, .pointer (some ⟨p, 0, none⟩)), (56, .pointer (some ⟨b2, 1, none⟩)), (57, .int .i64 x1), (58, .string data), (59, .string fd), (60, .int .i64 E), (61, .pointer (some ⟨m, 0, none⟩)), (62, .pointer (some ⟨b2, 1, none⟩)), (63, .int .i64 x1), (64, .string data), (65, .string fd), (66, .int .i64 E), (67, .bool true), (9, .bool true)] (fun l wx => DuetB b2 cs w p m D (D.writeD x1 fd) (l 5) (l 11) wx) (by kernel_rfl) (by kernel_rfl) (by kernel_rfl) (H0.out) ⟨?_, ?_, ?_, ?_, ?_, ?_, ?_, ?_, ?_, ?_, ?_, ?_, ?_, ?_, trivial⟩ ?hend
  · -- 0: 55 := Op.move t3
    intro aq wq lq hI hl hdone hlater hold hd ho
    have h3 : aq.tmps.getD 3 undef = .pointer (some ⟨p, 0, none⟩) := ho 3 (by kernel_rfl)
    clear hd ho hdone hlater hold
    exact Reg.step2_move (.tmp 3) rfl h3 hI trivial
  · -- 1: 56 := Op.fieldAddr 34 t7 1
    intro aq wq lq hI hl hdone hlater hold hd ho
    have h7 : aq.tmps.getD 7 undef = .pointer (some ⟨b2, 0, none⟩) := ho 7 (by kernel_rfl)
    clear hd ho hdone hlater hold
    rw [Array.getD_eq_getD_getElem?] at h7
    refine Reg.step2_val (.pointer (some ⟨b2, 1, none⟩)) ?_ rfl hI trivial
    go_simp
  · -- 2: 57 := Op.load 3 t56
    intro aq wq lq hI hl hdone hlater hold hd ho
    have h56 : aq.tmps.getD 56 undef = .pointer (some ⟨b2, 1, none⟩) := hd 56 (by kernel_rfl)
    clear hd ho hdone hlater hold
    rw [Array.getD_eq_getD_getElem?] at h56
    have e0 := hI.cell 1
    rw [HC1'.out] at e0
    refine Reg.step2_val (.int .i64 x1) ?_ rfl hI trivial
    go_simp
  · -- 3: 58 := Op.move t8
    intro aq wq lq hI hl hdone hlater hold hd ho
    have h8 : aq.tmps.getD 8 undef = .string data := ho 8 (by kernel_rfl)
    clear hd ho hdone hlater hold
    exact Reg.step2_move (.tmp 8) rfl h8 hI trivial
  · -- 4: 59 := Op.call ( value (Operand.func 8), args := #(t58), argTypes :
    intro aq wq lq hI hl hdone hlater hold hd ho
    have h58 : aq.tmps.getD 58 undef = .string data := hd 58 (by kernel_rfl)
    clear hd ho hdone hlater hold
    rw [Array.getD_eq_getD_getElem?] at h58
    refine Reg.step2_call 8 #[.string data] ?_ ((full_any data wq (by omega)).mono ?_)
    · simp [execOp]
      go_simp
    · rintro e w' ⟨rfl, hb⟩
      exact ⟨_, rfl, by rw [← HFD.out]; rfl, hI.later hb, trivial⟩
  · -- 5: 60 := Op.call ( value (Operand.func 7), args := #(t55, t57, t59), 
    intro aq wq lq hI hl hdone hlater hold hd ho
    have h55 : aq.tmps.getD 55 undef = .pointer (some ⟨p, 0, none⟩) := hd 55 (by kernel_rfl)
    have h57 : aq.tmps.getD 57 undef = .int .i64 x1 := hd 57 (by kernel_rfl)
    have h59 : aq.tmps.getD 59 undef = .string fd := hd 59 (by kernel_rfl)
    clear hd ho hdone hlater hold
    rw [Array.getD_eq_getD_getElem?] at h55 h57 h59
    have hJ := hI
    clear hI
    rw [show lq 5 = false from hl] at hJ
    refine Reg.step2_call 7 #[.pointer (some ⟨p, 0, none⟩), .int .i64 x1, .string fd] ?_ ((write_bd hJ hlen2 hfs).mono ?_)
    · clear hJ
      simp [execOp]
      go_simp
    · rintro e w' ⟨rfl, hb⟩
      exact ⟨_, rfl, by rw [← HE.out]; rfl, hb, trivial⟩
  · -- 6: 61 := Op.move t5
    intro aq wq lq hI hl hdone hlater hold hd ho
    have h5 : aq.tmps.getD 5 undef = .pointer (some ⟨m, 0, none⟩) := ho 5 (by kernel_rfl)
    clear hd ho hdone hlater hold
    exact Reg.step2_move (.tmp 5) rfl h5 hI trivial
  · -- 7: 62 := Op.fieldAddr 34 t7 1
    intro aq wq lq hI hl hdone hlater hold hd ho
    have h7 : aq.tmps.getD 7 undef = .pointer (some ⟨b2, 0, none⟩) := ho 7 (by kernel_rfl)
    clear hd ho hdone hlater hold
    rw [Array.getD_eq_getD_getElem?] at h7
    refine Reg.step2_val (.pointer (some ⟨b2, 1, none⟩)) ?_ rfl hI trivial
    go_simp
  · -- 8: 63 := Op.load 3 t62
    intro aq wq lq hI hl hdone hlater hold hd ho
    have h62 : aq.tmps.getD 62 undef = .pointer (some ⟨b2, 1, none⟩) := hd 62 (by kernel_rfl)
    clear hd ho hdone hlater hold
    rw [Array.getD_eq_getD_getElem?] at h62
    have e0 := hI.cell 1
    rw [HC1'.out] at e0
    refine Reg.step2_val (.int .i64 x1) ?_ rfl hI trivial
    go_simp
  · -- 9: 64 := Op.move t8
    intro aq wq lq hI hl hdone hlater hold hd ho
    have h8 : aq.tmps.getD 8 undef = .string data := ho 8 (by kernel_rfl)
    clear hd ho hdone hlater hold
    exact Reg.step2_move (.tmp 8) rfl h8 hI trivial
  · -- 10: 65 := Op.call ( value (Operand.func 8), args := #(t64), argTypes :
    intro aq wq lq hI hl hdone hlater hold hd ho
    have h64 : aq.tmps.getD 64 undef = .string data := hd 64 (by kernel_rfl)
    clear hd ho hdone hlater hold
    rw [Array.getD_eq_getD_getElem?] at h64
    refine Reg.step2_call 8 #[.string data] ?_ ((full_any data wq (by omega)).mono ?_)
    · simp [execOp]
      go_simp
    · rintro e w' ⟨rfl, hb⟩
      exact ⟨_, rfl, by rw [← HFD.out]; rfl, hI.later hb, trivial⟩
  · -- 11: 66 := Op.call ( value (Operand.func 9), args := #(t61, t63, t65), 
    intro aq wq lq hI hl hdone hlater hold hd ho
    have h61 : aq.tmps.getD 61 undef = .pointer (some ⟨m, 0, none⟩) := hd 61 (by kernel_rfl)
    have h63 : aq.tmps.getD 63 undef = .int .i64 x1 := hd 63 (by kernel_rfl)
    have h65 : aq.tmps.getD 65 undef = .string fd := hd 65 (by kernel_rfl)
    clear hd ho hdone hlater hold
    rw [Array.getD_eq_getD_getElem?] at h61 h63 h65
    have hJ := hI
    clear hI
    rw [show lq 11 = false from hl] at hJ
    refine Reg.step2_call 9 #[.pointer (some ⟨m, 0, none⟩), .int .i64 x1, .string fd] ?_ ((write_br hJ hlen2 hfs).mono ?_)
    · clear hJ
      simp [execOp]
      go_simp
    · rintro e w' ⟨rfl, hb⟩
      exact ⟨_, rfl, by rw [← HE.out]; rfl, hb, trivial⟩
  · -- 12: 67 := Op.binOp BinOp.eql 3 t60 t66 3
    intro aq wq lq hI hl hdone hlater hold hd ho
    have h60 : aq.tmps.getD 60 undef = .int .i64 E := hd 60 (by kernel_rfl)
    have h66 : aq.tmps.getD 66 undef = .int .i64 E := hd 66 (by kernel_rfl)
    clear hd ho hdone hlater hold
    rw [Array.getD_eq_getD_getElem?] at h60 h66
    refine Reg.step2_val (.bool true) ?_ rfl hI trivial
    simp [execOp, Act.eval, h60, h66]
    try go_simp
  · -- 13: 9 := Op.assign t67
    intro aq wq lq hI hl hdone hlater hold hd ho
    have h67 : aq.tmps.getD 67 undef = .bool true := hd 67 (by kernel_rfl)
    clear hd ho hdone hlater hold
    exact Reg.step2_assign (.tmp 67) rfl h67 hI trivial
  case hend =>
  intro wx hI
  simp only [Reg.fill, List.foldl_cons, List.foldl_nil, List.setIfInBounds_toArray, List.set_cons_zero, List.set_cons_succ]
  have HI := Lib.hid (show Duet b2 cs w p m (D.writeD x1 fd) (D.writeD x1 fd) wx from hI)
  clear hI
  go_wp2_with fail
  go_meet
  exact ⟨rfl, _, (len_write D x1 fd).2.trans HH9.out, (len_write D x1 fd).1, HI.out.1⟩
end Go.Proofs.Ytlnocdmechidfaa.Dev
