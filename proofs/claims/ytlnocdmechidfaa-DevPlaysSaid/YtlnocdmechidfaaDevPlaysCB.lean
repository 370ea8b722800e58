/- DevPlays: cases 2, 8 of its round. -/
import Derived.Test.YtlnocdmechidfaaDevPlaysS
namespace Go.Proofs.Ytlnocdmechidfaa.Dev
open Go Go.RowKit Go.Proofs.Ytlnocdmechidfaa
set_option linter.unusedVariables false

set_option maxHeartbeats 4000000 in
set_option maxRecDepth 100000 in
theorem sw_case2 {w W : World} {p m a0l a0c n t ab off dl M b2 x4l x4c : Nat} {D : Dv} {x0 x1 x2 : Int} {x3 data : ByteArray} {x4 : Option Addr} {x4z : List Int} {cs : List Value} {u2 u10 u11 u12 u13 u14 u52 u53 u54 u55 u56 u57 u58 u59 u60 u61 u62 u63 u64 u65 u66 u67 u68 u69 u70 u71 u72 u73 u74 u75 u76 u77 u78 u79 u80 u81 u82 u83 u84 u85 u86 u87 u88 u89 u90 u91 u92 u93 u94 u95 u96 u97 u98 u99 u100 u101 u102 u103 u104 u105 u106 u107 u108 u109 u110 u111 u112 u113 u114 u115 u116 u117 u118 u119 u120 u121 u122 u123 u124 u125 u126 u127 u128 u129 u130 u131 u132 u133 u134 u135 u136 u137 u138 u139 u140 u141 u142 u143 u144 u145 u146 u147 u148 u149 u150 u151 u152 u153 u154 u155 u156 u157 u158 u159 u160 u161 u162 u163 u164 u165 u166 u167 u168 u169 u170 u171 u172 u173 u174 u175 u176 u177 u178 u179 u180 u181 u182 u183 u184 u185 u186 u187 u188 u189 u190 u191 u192 u193 u194 u195 u196 u197 u198 u199 u200 u201 u202 u203 u204 u205 u206 u207 u208 u209 u210 u211 u212 u213 u214 u215 u216 u217 u218 u219 u220 : Value} {J K' : Act → World → Prop} {Q0 : Exit → Act → World → Prop}
    (hlen2 : D.cache.length ≤ 60) (hds : data.size ≤ 140) (hxl : x4l ≤ x4c) (hxm : x4c ≤ maxLen) (HROW : Hid (Row .i64 w x4 x4l x4z)) (HXW : Hid (∀ n ∈ x4z, (Lit.int .i64 n).wf = true)) (HF2 : Hid (-9223372036854775808 ≤ x2 ∧ x2 ≤ 9223372036854775807)) (HDU : Hid (Duet b2 cs w p m D D W)) (HCS : Hid (cs = [.int .i64 x0, .int .i64 x1, .int .i64 x2, .string x3, .slice x4 x4l x4c])) (c0 : W.cell? ⟨b2, 0, none⟩ = some (.int .i64 x0)) (c1 : W.cell? ⟨b2, 1, none⟩ = some (.int .i64 x1)) (c2 : W.cell? ⟨b2, 2, none⟩ = some (.int .i64 x2)) (c4 : W.cell? ⟨b2, 4, none⟩ = some (.slice x4 x4l x4c)) (HC1 : Hid (∀ X E F, Duet b2 cs w p m E F X → X.cell? ⟨b2, 1, none⟩ = some (.int .i64 x1))) (HC2 : Hid (∀ X E F, Duet b2 cs w p m E F X → X.cell? ⟨b2, 2, none⟩ = some (.int .i64 x2))) (HH9 : Hid (D.n = 9)) (hmax : max (0 : Int) x0 = ((M : Nat) : Int)) (hmod : Int.tmod ((M : Nat) : Int) 12 = ((2 : Nat) : Int))
    (hMetJ : ∀ (a' : Act) (w' : World), (∃ u9 u10 u11 u12 u13 u14 u38 u39 u40 u41 u42 u43 u44 u45 u46 u47 u48 u49 u50 u52 u53 u54 u55 u56 u57 u58 u59 u60 u61 u62 u63 u64 u65 u66 u67 u68 u69 u70 u71 u72 u73 u74 u75 u76 u77 u78 u79 u80 u81 u82 u83 u84 u85 u86 u87 u88 u89 u90 u91 u92 u93 u94 u95 u96 u97 u98 u99 u100 u101 u102 u103 u104 u105 u106 u107 u108 u109 u110 u111 u112 u113 u114 u115 u116 u117 u118 u119 u120 u121 u122 u123 u124 u125 u126 u127 u128 u129 u130 u131 u132 u133 u134 u135 u136 u137 u138 u139 u140 u141 u142 u143 u144 u145 u146 u147 u148 u149 u150 u151 u152 u153 u154 u155 u156 u157 u158 u159 u160 u161 u162 u163 u164 u165 u166 u167 u168 u169 u170 u171 u172 u173 u174 u175 u176 u177 u178 u179 u180 u181 u182 u183 u184 u185 u186 u187 u188 u189 u190 u191 u192 u193 u194 u195 u196 u197 u198 u199 u200 u201 u202 u203 u204 u205 u206 u207 u208 u209 u210 u211 u212 u213 u214 u215 u216 u217 u218 u219 u220, (u9 = .bool true ∧ ∃ D', D'.n = 9 ∧ D'.cache.length ≤ D.cache.length + 1 ∧ Pair (fun k => k = b2) w p m D' D' w') ∧ a' = ⟨#[Value.slice (some ⟨ab, off, none⟩) a0l a0c, undef, u2, Value.pointer (some ⟨p, 0, none⟩), Value.int IntKind.i64 0, Value.pointer (some ⟨m, 0, none⟩), undef, Value.pointer (some ⟨b2, 0, none⟩), Value.string data, u9, u10, u11, u12, u13, u14, Value.tuple #[Value.pointer (some ⟨p, 0, none⟩), Value.int IntKind.i64 0], Value.agg #[Value.int IntKind.i64 9, Value.int IntKind.i64 128], Value.tuple #[Value.pointer (some ⟨p, 0, none⟩), Value.int IntKind.i64 0], Value.pointer (some ⟨p, 0, none⟩), Value.int IntKind.i64 0, Value.pointer (some ⟨m, 0, none⟩), Value.bool true, Value.bool false, Value.bool false, Value.int IntKind.i64 0, Value.bool false, Value.bool false, Value.bool false, Value.pointer (some ⟨p, 0, none⟩), Value.bool false, Value.bool false, Value.slice (some ⟨ab, off, none⟩) a0l a0c, Value.slice (some ⟨ab, off, none⟩) a0l a0c, Value.int IntKind.i64 ((a0l : Nat) : Int), Value.int IntKind.i64 ((n : Nat) : Int), Value.slice (some ⟨ab, off, none⟩) n a0c, Value.int IntKind.i64 ((n : Nat) : Int), Value.int IntKind.i64 ((t : Nat) : Int), u38, u39, u40, u41, u42, u43, u44, u45, u46, u47, u48, u49, u50, Value.int IntKind.i64 ((2 : Nat) : Int), u52, u53, u54, u55, u56, u57, u58, u59, u60, u61, u62, u63, u64, u65, u66, u67, u68, u69, u70, u71, u72, u73, u74, u75, u76, u77, u78, u79, u80, u81, u82, u83, u84, u85, u86, u87, u88, u89, u90, u91, u92, u93, u94, u95, u96, u97, u98, u99, u100, u101, u102, u103, u104, u105, u106, u107, u108, u109, u110, u111, u112, u113, u114, u115, u116, u117, u118, u119, u120, u121, u122, u123, u124, u125, u126, u127, u128, u129, u130, u131, u132, u133, u134, u135, u136, u137, u138, u139, u140, u141, u142, u143, u144, u145, u146, u147, u148, u149, u150, u151, u152, u153, u154, u155, u156, u157, u158, u159, u160, u161, u162, u163, u164, u165, u166, u167, u168, u169, u170, u171, u172, u173, u174, u175, u176, u177, u178, u179, u180, u181, u182, u183, u184, u185, u186, u187, u188, u189, u190, u191, u192, u193, u194, u195, u196, u197, u198, u199, u200, u201, u202, u203, u204, u205, u206, u207, u208, u209, u210, u211, u212, u213, u214, u215, u216, u217, u218, u219, u220, undef, undef, undef, undef, undef, undef, undef, undef], []⟩) → J a' w')
    (hMetK : ∀ (a' : Act) (w' : World), Met J a' w' → K' a' w') :
    Code.wp Try.prog switch (Exit.then K' Q0) ⟨#[Value.slice (some ⟨ab, off, none⟩) a0l a0c, undef, u2, Value.pointer (some ⟨p, 0, none⟩), Value.int IntKind.i64 0, Value.pointer (some ⟨m, 0, none⟩), undef, Value.pointer (some ⟨b2, 0, none⟩), Value.string data, Value.bool true, u10, u11, u12, u13, u14, Value.tuple #[Value.pointer (some ⟨p, 0, none⟩), Value.int IntKind.i64 0], Value.agg #[Value.int IntKind.i64 9, Value.int IntKind.i64 128], Value.tuple #[Value.pointer (some ⟨p, 0, none⟩), Value.int IntKind.i64 0], Value.pointer (some ⟨p, 0, none⟩), Value.int IntKind.i64 0, Value.pointer (some ⟨m, 0, none⟩), Value.bool true, Value.bool false, Value.bool false, Value.int IntKind.i64 0, Value.bool false, Value.bool false, Value.bool false, Value.pointer (some ⟨p, 0, none⟩), Value.bool false, Value.bool false, Value.slice (some ⟨ab, off, none⟩) a0l a0c, Value.slice (some ⟨ab, off, none⟩) a0l a0c, Value.int IntKind.i64 ((a0l : Nat) : Int), Value.int IntKind.i64 ((n : Nat) : Int), Value.slice (some ⟨ab, off, none⟩) n a0c, Value.int IntKind.i64 ((n : Nat) : Int), Value.int IntKind.i64 ((t : Nat) : Int), Value.bool true, Value.pointer (some ⟨ab, off + t * 5, none⟩), Value.agg #[Value.int IntKind.i64 x0, Value.int IntKind.i64 x1, Value.int IntKind.i64 x2, Value.string x3, Value.slice x4 x4l x4c], Value.pointer (some ⟨b2, 3, none⟩), Value.string x3, Value.pointer (some ⟨b2, 3, none⟩), Value.string x3, Value.int IntKind.i64 ((x3.size : Nat) : Int), Value.int IntKind.i64 ((dl : Nat) : Int), Value.string data, Value.pointer (some ⟨b2, 0, none⟩), Value.int IntKind.i64 x0, Value.int IntKind.i64 ((M : Nat) : Int), Value.int IntKind.i64 ((2 : Nat) : Int), u52, u53, u54, u55, u56, u57, u58, u59, u60, u61, u62, u63, u64, u65, u66, u67, u68, u69, u70, u71, u72, u73, u74, u75, u76, u77, u78, u79, u80, u81, u82, u83, u84, u85, u86, u87, u88, u89, u90, u91, u92, u93, u94, u95, u96, u97, u98, u99, u100, u101, u102, u103, u104, u105, u106, u107, u108, u109, u110, u111, u112, u113, u114, u115, u116, u117, u118, u119, u120, u121, u122, u123, u124, u125, u126, u127, u128, u129, u130, u131, u132, u133, u134, u135, u136, u137, u138, u139, u140, u141, u142, u143, u144, u145, u146, u147, u148, u149, u150, u151, u152, u153, u154, u155, u156, u157, u158, u159, u160, u161, u162, u163, u164, u165, u166, u167, u168, u169, u170, u171, u172, u173, u174, u175, u176, u177, u178, u179, u180, u181, u182, u183, u184, u185, u186, u187, u188, u189, u190, u191, u192, u193, u194, u195, u196, u197, u198, u199, u200, u201, u202, u203, u204, u205, u206, u207, u208, u209, u210, u211, u212, u213, u214, u215, u216, u217, u218, u219, u220, undef, undef, undef, undef, undef, undef, undef, undef], []⟩ W := by
  conv => arg 2; whnf
  replace hmod : Int.tmod (M : Int) 12 = 2 := hmod
  have hfs : data.size ≤ 1000000000 := by omega
  obtain ⟨E, hE⟩ : ∃ E, E = D.writeE x1 data := ⟨_, rfl⟩
  have HE := Lib.hid hE
  have H0 := Lib.hid (show DuetB b2 cs w p m D (D.writeD x1 data) false false W.drew from Duet.later HDU.out ⟨rfl, rfl, rfl, Nat.le_refl _, fun _ _ => rfl⟩)
  have HC1' := Lib.hid (show cs[1]? = some (.int .i64 x1) by rw [HCS.out]; rfl)
  clear hE
  go_wp2_with fail
  refine Reg.region_vals (by kernel_rfl) [(70, .pointer (some ⟨p, 0, none⟩)), (71, .pointer (some ⟨b2, 1, none⟩)), (72, .int .i64 x1), (73, .string data), (74, .int .i64 E), (75, .pointer (some ⟨m, 0, none⟩)), (76, .pointer (some ⟨b2, 1, none⟩)), (77, .int .i64 x1), (78, .string data), (79, .int .i64 E), (80, .bool true), (9, .bool true)] (fun l wx => DuetB b2 cs w p m D (D.writeD x1 data) (l 4) (l 9) wx) (by kernel_rfl) (by kernel_rfl) (by kernel_rfl) (H0.out) ⟨?_, ?_, ?_, ?_, ?_, ?_, ?_, ?_, ?_, ?_, ?_, ?_, trivial⟩ ?hend
  · -- 0: 70 := Op.move t3
    intro aq wq lq hI hl hdone hlater hold hd ho
    have h3 : aq.tmps.getD 3 undef = .pointer (some ⟨p, 0, none⟩) := ho 3 (by kernel_rfl)
    clear hd ho hdone hlater hold
    exact Reg.step2_move (.tmp 3) rfl h3 hI trivial
  · -- 1: 71 := Op.fieldAddr 34 t7 1
    intro aq wq lq hI hl hdone hlater hold hd ho
    have h7 : aq.tmps.getD 7 undef = .pointer (some ⟨b2, 0, none⟩) := ho 7 (by kernel_rfl)
    clear hd ho hdone hlater hold
    rw [Array.getD_eq_getD_getElem?] at h7
    refine Reg.step2_val (.pointer (some ⟨b2, 1, none⟩)) ?_ rfl hI trivial
    go_simp
  · -- 2: 72 := Op.load 3 t71
    intro aq wq lq hI hl hdone hlater hold hd ho
    have h71 : aq.tmps.getD 71 undef = .pointer (some ⟨b2, 1, none⟩) := hd 71 (by kernel_rfl)
    clear hd ho hdone hlater hold
    rw [Array.getD_eq_getD_getElem?] at h71
    have e0 := hI.cell 1
    rw [HC1'.out] at e0
    refine Reg.step2_val (.int .i64 x1) ?_ rfl hI trivial
    go_simp
  · -- 3: 73 := Op.move t8
    intro aq wq lq hI hl hdone hlater hold hd ho
    have h8 : aq.tmps.getD 8 undef = .string data := ho 8 (by kernel_rfl)
    clear hd ho hdone hlater hold
    exact Reg.step2_move (.tmp 8) rfl h8 hI trivial
  · -- 4: 74 := Op.call ( value (Operand.func 7), args := #(t70, t72, t73), 
    intro aq wq lq hI hl hdone hlater hold hd ho
    have h70 : aq.tmps.getD 70 undef = .pointer (some ⟨p, 0, none⟩) := hd 70 (by kernel_rfl)
    have h72 : aq.tmps.getD 72 undef = .int .i64 x1 := hd 72 (by kernel_rfl)
    have h73 : aq.tmps.getD 73 undef = .string data := hd 73 (by kernel_rfl)
    clear hd ho hdone hlater hold
    rw [Array.getD_eq_getD_getElem?] at h70 h72 h73
    have hJ := hI
    clear hI
    rw [show lq 4 = false from hl] at hJ
    refine Reg.step2_call 7 #[.pointer (some ⟨p, 0, none⟩), .int .i64 x1, .string data] ?_ ((write_bd hJ hlen2 hfs).mono ?_)
    · clear hJ
      simp [execOp]
      go_simp
    · rintro e w' ⟨rfl, hb⟩
      exact ⟨_, rfl, by rw [← HE.out]; rfl, hb, trivial⟩
  · -- 5: 75 := Op.move t5
    intro aq wq lq hI hl hdone hlater hold hd ho
    have h5 : aq.tmps.getD 5 undef = .pointer (some ⟨m, 0, none⟩) := ho 5 (by kernel_rfl)
    clear hd ho hdone hlater hold
    exact Reg.step2_move (.tmp 5) rfl h5 hI trivial
  · -- 6: 76 := Op.fieldAddr 34 t7 1
    intro aq wq lq hI hl hdone hlater hold hd ho
    have h7 : aq.tmps.getD 7 undef = .pointer (some ⟨b2, 0, none⟩) := ho 7 (by kernel_rfl)
    clear hd ho hdone hlater hold
    rw [Array.getD_eq_getD_getElem?] at h7
    refine Reg.step2_val (.pointer (some ⟨b2, 1, none⟩)) ?_ rfl hI trivial
    go_simp
  · -- 7: 77 := Op.load 3 t76
    intro aq wq lq hI hl hdone hlater hold hd ho
    have h76 : aq.tmps.getD 76 undef = .pointer (some ⟨b2, 1, none⟩) := hd 76 (by kernel_rfl)
    clear hd ho hdone hlater hold
    rw [Array.getD_eq_getD_getElem?] at h76
    have e0 := hI.cell 1
    rw [HC1'.out] at e0
    refine Reg.step2_val (.int .i64 x1) ?_ rfl hI trivial
    go_simp
  · -- 8: 78 := Op.move t8
    intro aq wq lq hI hl hdone hlater hold hd ho
    have h8 : aq.tmps.getD 8 undef = .string data := ho 8 (by kernel_rfl)
    clear hd ho hdone hlater hold
    exact Reg.step2_move (.tmp 8) rfl h8 hI trivial
  · -- 9: 79 := Op.call ( value (Operand.func 9), args := #(t75, t77, t78), 
    intro aq wq lq hI hl hdone hlater hold hd ho
    have h75 : aq.tmps.getD 75 undef = .pointer (some ⟨m, 0, none⟩) := hd 75 (by kernel_rfl)
    have h77 : aq.tmps.getD 77 undef = .int .i64 x1 := hd 77 (by kernel_rfl)
    have h78 : aq.tmps.getD 78 undef = .string data := hd 78 (by kernel_rfl)
    clear hd ho hdone hlater hold
    rw [Array.getD_eq_getD_getElem?] at h75 h77 h78
    have hJ := hI
    clear hI
    rw [show lq 9 = false from hl] at hJ
    refine Reg.step2_call 9 #[.pointer (some ⟨m, 0, none⟩), .int .i64 x1, .string data] ?_ ((write_br hJ hlen2 hfs).mono ?_)
    · clear hJ
      simp [execOp]
      go_simp
    · rintro e w' ⟨rfl, hb⟩
      exact ⟨_, rfl, by rw [← HE.out]; rfl, hb, trivial⟩
  · -- 10: 80 := Op.binOp BinOp.eql 3 t74 t79 3
    intro aq wq lq hI hl hdone hlater hold hd ho
    have h74 : aq.tmps.getD 74 undef = .int .i64 E := hd 74 (by kernel_rfl)
    have h79 : aq.tmps.getD 79 undef = .int .i64 E := hd 79 (by kernel_rfl)
    clear hd ho hdone hlater hold
    rw [Array.getD_eq_getD_getElem?] at h74 h79
    refine Reg.step2_val (.bool true) ?_ rfl hI trivial
    simp [execOp, Act.eval, h74, h79]
    try go_simp
  · -- 11: 9 := Op.assign t80
    intro aq wq lq hI hl hdone hlater hold hd ho
    have h80 : aq.tmps.getD 80 undef = .bool true := hd 80 (by kernel_rfl)
    clear hd ho hdone hlater hold
    exact Reg.step2_assign (.tmp 80) rfl h80 hI trivial
  case hend =>
  intro wx hI
  simp only [Reg.fill, List.foldl_cons, List.foldl_nil, List.setIfInBounds_toArray, List.set_cons_zero, List.set_cons_succ]
  have HI := Lib.hid (show Duet b2 cs w p m (D.writeD x1 data) (D.writeD x1 data) wx from hI)
  clear hI
  go_wp2_with fail
  go_meet
  exact ⟨rfl, _, (len_write D x1 data).2.trans HH9.out, (len_write D x1 data).1, HI.out.1⟩
set_option maxHeartbeats 4000000 in
set_option maxRecDepth 100000 in
theorem sw_case8 {w W : World} {p m a0l a0c n t ab off dl M b2 x4l x4c : Nat} {D : Dv} {x0 x1 x2 : Int} {x3 data : ByteArray} {x4 : Option Addr} {x4z : List Int} {cs : List Value} {u2 u10 u11 u12 u13 u14 u52 u53 u54 u55 u56 u57 u58 u59 u60 u61 u62 u63 u64 u65 u66 u67 u68 u69 u70 u71 u72 u73 u74 u75 u76 u77 u78 u79 u80 u81 u82 u83 u84 u85 u86 u87 u88 u89 u90 u91 u92 u93 u94 u95 u96 u97 u98 u99 u100 u101 u102 u103 u104 u105 u106 u107 u108 u109 u110 u111 u112 u113 u114 u115 u116 u117 u118 u119 u120 u121 u122 u123 u124 u125 u126 u127 u128 u129 u130 u131 u132 u133 u134 u135 u136 u137 u138 u139 u140 u141 u142 u143 u144 u145 u146 u147 u148 u149 u150 u151 u152 u153 u154 u155 u156 u157 u158 u159 u160 u161 u162 u163 u164 u165 u166 u167 u168 u169 u170 u171 u172 u173 u174 u175 u176 u177 u178 u179 u180 u181 u182 u183 u184 u185 u186 u187 u188 u189 u190 u191 u192 u193 u194 u195 u196 u197 u198 u199 u200 u201 u202 u203 u204 u205 u206 u207 u208 u209 u210 u211 u212 u213 u214 u215 u216 u217 u218 u219 u220 : Value} {J K' : Act → World → Prop} {Q0 : Exit → Act → World → Prop}
    (hlen2 : D.cache.length ≤ 60) (hds : data.size ≤ 140) (hxl : x4l ≤ x4c) (hxm : x4c ≤ maxLen) (HROW : Hid (Row .i64 w x4 x4l x4z)) (HXW : Hid (∀ n ∈ x4z, (Lit.int .i64 n).wf = true)) (HF2 : Hid (-9223372036854775808 ≤ x2 ∧ x2 ≤ 9223372036854775807)) (HDU : Hid (Duet b2 cs w p m D D W)) (HCS : Hid (cs = [.int .i64 x0, .int .i64 x1, .int .i64 x2, .string x3, .slice x4 x4l x4c])) (c0 : W.cell? ⟨b2, 0, none⟩ = some (.int .i64 x0)) (c1 : W.cell? ⟨b2, 1, none⟩ = some (.int .i64 x1)) (c2 : W.cell? ⟨b2, 2, none⟩ = some (.int .i64 x2)) (c4 : W.cell? ⟨b2, 4, none⟩ = some (.slice x4 x4l x4c)) (HC1 : Hid (∀ X E F, Duet b2 cs w p m E F X → X.cell? ⟨b2, 1, none⟩ = some (.int .i64 x1))) (HC2 : Hid (∀ X E F, Duet b2 cs w p m E F X → X.cell? ⟨b2, 2, none⟩ = some (.int .i64 x2))) (HH9 : Hid (D.n = 9)) (hmax : max (0 : Int) x0 = ((M : Nat) : Int)) (hmod : Int.tmod ((M : Nat) : Int) 12 = ((8 : Nat) : Int))
    (hMetJ : ∀ (a' : Act) (w' : World), (∃ u9 u10 u11 u12 u13 u14 u38 u39 u40 u41 u42 u43 u44 u45 u46 u47 u48 u49 u50 u52 u53 u54 u55 u56 u57 u58 u59 u60 u61 u62 u63 u64 u65 u66 u67 u68 u69 u70 u71 u72 u73 u74 u75 u76 u77 u78 u79 u80 u81 u82 u83 u84 u85 u86 u87 u88 u89 u90 u91 u92 u93 u94 u95 u96 u97 u98 u99 u100 u101 u102 u103 u104 u105 u106 u107 u108 u109 u110 u111 u112 u113 u114 u115 u116 u117 u118 u119 u120 u121 u122 u123 u124 u125 u126 u127 u128 u129 u130 u131 u132 u133 u134 u135 u136 u137 u138 u139 u140 u141 u142 u143 u144 u145 u146 u147 u148 u149 u150 u151 u152 u153 u154 u155 u156 u157 u158 u159 u160 u161 u162 u163 u164 u165 u166 u167 u168 u169 u170 u171 u172 u173 u174 u175 u176 u177 u178 u179 u180 u181 u182 u183 u184 u185 u186 u187 u188 u189 u190 u191 u192 u193 u194 u195 u196 u197 u198 u199 u200 u201 u202 u203 u204 u205 u206 u207 u208 u209 u210 u211 u212 u213 u214 u215 u216 u217 u218 u219 u220, (u9 = .bool true ∧ ∃ D', D'.n = 9 ∧ D'.cache.length ≤ D.cache.length + 1 ∧ Pair (fun k => k = b2) w p m D' D' w') ∧ a' = ⟨#[Value.slice (some ⟨ab, off, none⟩) a0l a0c, undef, u2, Value.pointer (some ⟨p, 0, none⟩), Value.int IntKind.i64 0, Value.pointer (some ⟨m, 0, none⟩), undef, Value.pointer (some ⟨b2, 0, none⟩), Value.string data, u9, u10, u11, u12, u13, u14, Value.tuple #[Value.pointer (some ⟨p, 0, none⟩), Value.int IntKind.i64 0], Value.agg #[Value.int IntKind.i64 9, Value.int IntKind.i64 128], Value.tuple #[Value.pointer (some ⟨p, 0, none⟩), Value.int IntKind.i64 0], Value.pointer (some ⟨p, 0, none⟩), Value.int IntKind.i64 0, Value.pointer (some ⟨m, 0, none⟩), Value.bool true, Value.bool false, Value.bool false, Value.int IntKind.i64 0, Value.bool false, Value.bool false, Value.bool false, Value.pointer (some ⟨p, 0, none⟩), Value.bool false, Value.bool false, Value.slice (some ⟨ab, off, none⟩) a0l a0c, Value.slice (some ⟨ab, off, none⟩) a0l a0c, Value.int IntKind.i64 ((a0l : Nat) : Int), Value.int IntKind.i64 ((n : Nat) : Int), Value.slice (some ⟨ab, off, none⟩) n a0c, Value.int IntKind.i64 ((n : Nat) : Int), Value.int IntKind.i64 ((t : Nat) : Int), u38, u39, u40, u41, u42, u43, u44, u45, u46, u47, u48, u49, u50, Value.int IntKind.i64 ((8 : Nat) : Int), u52, u53, u54, u55, u56, u57, u58, u59, u60, u61, u62, u63, u64, u65, u66, u67, u68, u69, u70, u71, u72, u73, u74, u75, u76, u77, u78, u79, u80, u81, u82, u83, u84, u85, u86, u87, u88, u89, u90, u91, u92, u93, u94, u95, u96, u97, u98, u99, u100, u101, u102, u103, u104, u105, u106, u107, u108, u109, u110, u111, u112, u113, u114, u115, u116, u117, u118, u119, u120, u121, u122, u123, u124, u125, u126, u127, u128, u129, u130, u131, u132, u133, u134, u135, u136, u137, u138, u139, u140, u141, u142, u143, u144, u145, u146, u147, u148, u149, u150, u151, u152, u153, u154, u155, u156, u157, u158, u159, u160, u161, u162, u163, u164, u165, u166, u167, u168, u169, u170, u171, u172, u173, u174, u175, u176, u177, u178, u179, u180, u181, u182, u183, u184, u185, u186, u187, u188, u189, u190, u191, u192, u193, u194, u195, u196, u197, u198, u199, u200, u201, u202, u203, u204, u205, u206, u207, u208, u209, u210, u211, u212, u213, u214, u215, u216, u217, u218, u219, u220, undef, undef, undef, undef, undef, undef, undef, undef], []⟩) → J a' w')
    (hMetK : ∀ (a' : Act) (w' : World), Met J a' w' → K' a' w') :
    Code.wp Try.prog switch (Exit.then K' Q0) ⟨#[Value.slice (some ⟨ab, off, none⟩) a0l a0c, undef, u2, Value.pointer (some ⟨p, 0, none⟩), Value.int IntKind.i64 0, Value.pointer (some ⟨m, 0, none⟩), undef, Value.pointer (some ⟨b2, 0, none⟩), Value.string data, Value.bool true, u10, u11, u12, u13, u14, Value.tuple #[Value.pointer (some ⟨p, 0, none⟩), Value.int IntKind.i64 0], Value.agg #[Value.int IntKind.i64 9, Value.int IntKind.i64 128], Value.tuple #[Value.pointer (some ⟨p, 0, none⟩), Value.int IntKind.i64 0], Value.pointer (some ⟨p, 0, none⟩), Value.int IntKind.i64 0, Value.pointer (some ⟨m, 0, none⟩), Value.bool true, Value.bool false, Value.bool false, Value.int IntKind.i64 0, Value.bool false, Value.bool false, Value.bool false, Value.pointer (some ⟨p, 0, none⟩), Value.bool false, Value.bool false, Value.slice (some ⟨ab, off, none⟩) a0l a0c, Value.slice (some ⟨ab, off, none⟩) a0l a0c, Value.int IntKind.i64 ((a0l : Nat) : Int), Value.int IntKind.i64 ((n : Nat) : Int), Value.slice (some ⟨ab, off, none⟩) n a0c, Value.int IntKind.i64 ((n : Nat) : Int), Value.int IntKind.i64 ((t : Nat) : Int), Value.bool true, Value.pointer (some ⟨ab, off + t * 5, none⟩), Value.agg #[Value.int IntKind.i64 x0, Value.int IntKind.i64 x1, Value.int IntKind.i64 x2, Value.string x3, Value.slice x4 x4l x4c], Value.pointer (some ⟨b2, 3, none⟩), Value.string x3, Value.pointer (some ⟨b2, 3, none⟩), Value.string x3, Value.int IntKind.i64 ((x3.size : Nat) : Int), Value.int IntKind.i64 ((dl : Nat) : Int), Value.string data, Value.pointer (some ⟨b2, 0, none⟩), Value.int IntKind.i64 x0, Value.int IntKind.i64 ((M : Nat) : Int), Value.int IntKind.i64 ((8 : Nat) : Int), u52, u53, u54, u55, u56, u57, u58, u59, u60, u61, u62, u63, u64, u65, u66, u67, u68, u69, u70, u71, u72, u73, u74, u75, u76, u77, u78, u79, u80, u81, u82, u83, u84, u85, u86, u87, u88, u89, u90, u91, u92, u93, u94, u95, u96, u97, u98, u99, u100, u101, u102, u103, u104, u105, u106, u107, u108, u109, u110, u111, u112, u113, u114, u115, u116, u117, u118, u119, u120, u121, u122, u123, u124, u125, u126, u127, u128, u129, u130, u131, u132, u133, u134, u135, u136, u137, u138, u139, u140, u141, u142, u143, u144, u145, u146, u147, u148, u149, u150, u151, u152, u153, u154, u155, u156, u157, u158, u159, u160, u161, u162, u163, u164, u165, u166, u167, u168, u169, u170, u171, u172, u173, u174, u175, u176, u177, u178, u179, u180, u181, u182, u183, u184, u185, u186, u187, u188, u189, u190, u191, u192, u193, u194, u195, u196, u197, u198, u199, u200, u201, u202, u203, u204, u205, u206, u207, u208, u209, u210, u211, u212, u213, u214, u215, u216, u217, u218, u219, u220, undef, undef, undef, undef, undef, undef, undef, undef], []⟩ W := by
  conv => arg 2; whnf
  replace hmod : Int.tmod (M : Int) 12 = 8 := hmod
  obtain ⟨ln, hln⟩ : ∃ ln : Nat, ln = x2.toNat := ⟨_, rfl⟩
  have hmx : max x2 (0 : Int) = (ln : Int) := by omega
  go_wp2_with fail
  refine (stray_d HDU.out HF2.out.2).mono ?_
  rintro e wa ⟨rfl, hA⟩
  rw [← hln] at hA
  have HLN := Lib.hid (show ln ≤ 9223372036854775807 by have := HF2.out.2; omega)
  have H0 := Lib.hid (show StrayB b2 cs w p m D ln x1 false false wa.drew from Duet.later hA ⟨rfl, rfl, rfl, Nat.le_refl _, fun _ _ => rfl⟩)
  have HC1' := Lib.hid (show cs[1]? = some (.int .i64 x1) by rw [HCS.out]; rfl)
  have HC2' := Lib.hid (show cs[2]? = some (.int .i64 x2) by rw [HCS.out]; rfl)
  clear hA hln
  go_wp2_with fail
  refine Reg.region_vals (by kernel_rfl) [(162, .pointer (some ⟨m, 0, none⟩)), (163, .pointer (some ⟨m, 0, none⟩)), (164, .pointer (some ⟨b2, 2, none⟩)), (165, .int .i64 x2), (166, .int .i64 (ln : Int)), (167, .pointer (some ⟨b2, 1, none⟩)), (168, .int .i64 x1), (169, .pointer (some ⟨m, 0, none⟩)), (170, .pointer (some ⟨m, 6, none⟩)), (171, .pointer (some ⟨m, 0, none⟩)), (172, .pointer (some ⟨m, 7, none⟩))] (fun l wx => StrayB b2 cs w p m D ln x1 (l 9) (l 12) wx) (by kernel_rfl) (by kernel_rfl) (by kernel_rfl) (H0.out) ⟨?_, ?_, ?_, ?_, ?_, ?_, ?_, ?_, ?_, ?_, ?_, ?_, ?_, trivial⟩ ?hend
  · -- 0: 162 := Op.move t5
    intro aq wq lq hI hl hdone hlater hold hd ho
    have h5 : aq.tmps.getD 5 undef = .pointer (some ⟨m, 0, none⟩) := ho 5 (by kernel_rfl)
    clear hd ho hdone hlater hold
    exact Reg.step2_move (.tmp 5) rfl h5 hI trivial
  · -- 1: 163 := Op.move t5
    intro aq wq lq hI hl hdone hlater hold hd ho
    have h5 : aq.tmps.getD 5 undef = .pointer (some ⟨m, 0, none⟩) := ho 5 (by kernel_rfl)
    clear hd ho hdone hlater hold
    exact Reg.step2_move (.tmp 5) rfl h5 hI trivial
  · -- 2: 164 := Op.fieldAddr 34 t7 2
    intro aq wq lq hI hl hdone hlater hold hd ho
    have h7 : aq.tmps.getD 7 undef = .pointer (some ⟨b2, 0, none⟩) := ho 7 (by kernel_rfl)
    clear hd ho hdone hlater hold
    rw [Array.getD_eq_getD_getElem?] at h7
    refine Reg.step2_val (.pointer (some ⟨b2, 2, none⟩)) ?_ rfl hI trivial
    go_simp
  · -- 3: 165 := Op.load 3 t164
    intro aq wq lq hI hl hdone hlater hold hd ho
    have h164 : aq.tmps.getD 164 undef = .pointer (some ⟨b2, 2, none⟩) := hd 164 (by kernel_rfl)
    clear hd ho hdone hlater hold
    rw [Array.getD_eq_getD_getElem?] at h164
    have e0 := Has.cell hI.2 2
    rw [HC2'.out] at e0
    refine Reg.step2_val (.int .i64 x2) ?_ rfl hI trivial
    go_simp
  · -- 4: 166 := Op.call ( builtin max, args := #(t165, const (0:i64)), argTy
    intro aq wq lq hI hl hdone hlater hold hd ho
    have h165 : aq.tmps.getD 165 undef = .int .i64 x2 := hd 165 (by kernel_rfl)
    clear hd ho hdone hlater hold
    rw [Array.getD_eq_getD_getElem?] at h165
    refine Reg.step2_val (.int .i64 (ln : Int)) ?_ rfl hI trivial
    simp [execOp]
    go_simp
  · -- 5: 167 := Op.fieldAddr 34 t7 1
    intro aq wq lq hI hl hdone hlater hold hd ho
    have h7 : aq.tmps.getD 7 undef = .pointer (some ⟨b2, 0, none⟩) := ho 7 (by kernel_rfl)
    clear hd ho hdone hlater hold
    rw [Array.getD_eq_getD_getElem?] at h7
    refine Reg.step2_val (.pointer (some ⟨b2, 1, none⟩)) ?_ rfl hI trivial
    go_simp
  · -- 6: 168 := Op.load 3 t167
    intro aq wq lq hI hl hdone hlater hold hd ho
    have h167 : aq.tmps.getD 167 undef = .pointer (some ⟨b2, 1, none⟩) := hd 167 (by kernel_rfl)
    clear hd ho hdone hlater hold
    rw [Array.getD_eq_getD_getElem?] at h167
    have e0 := Has.cell hI.2 1
    rw [HC1'.out] at e0
    refine Reg.step2_val (.int .i64 x1) ?_ rfl hI trivial
    go_simp
  · -- 7: 169 := Op.nilCheck t162
    intro aq wq lq hI hl hdone hlater hold hd ho
    have h162 : aq.tmps.getD 162 undef = .pointer (some ⟨m, 0, none⟩) := hd 162 (by kernel_rfl)
    clear hd ho hdone hlater hold
    rw [Array.getD_eq_getD_getElem?] at h162
    refine Reg.step2_val (.pointer (some ⟨m, 0, none⟩)) ?_ rfl hI trivial
    go_simp
  · -- 8: 170 := Op.fieldAddr 52 t169 6
    intro aq wq lq hI hl hdone hlater hold hd ho
    have h169 : aq.tmps.getD 169 undef = .pointer (some ⟨m, 0, none⟩) := hd 169 (by kernel_rfl)
    clear hd ho hdone hlater hold
    rw [Array.getD_eq_getD_getElem?] at h169
    refine Reg.step2_val (.pointer (some ⟨m, 6, none⟩)) ?_ rfl hI trivial
    go_simp
  · -- 9: None := Op.store 3 t170 t166
    intro aq wq lq hI hl hdone hlater hold hd ho
    have h170 : aq.tmps.getD 170 undef = .pointer (some ⟨m, 6, none⟩) := hd 170 (by kernel_rfl)
    have h166 : aq.tmps.getD 166 undef = .int .i64 (ln : Int) := hd 166 (by kernel_rfl)
    clear hd ho hdone hlater hold
    rw [Array.getD_eq_getD_getElem?] at h170 h166
    have hJ := hI
    clear hI
    rw [show lq 9 = false from hl] at hJ
    obtain ⟨_, _, e6, _, _, hfz⟩ := hJ.1.rcell
    have f6 := hfz 6
    have hN := hJ.six HLN.out
    clear hJ hfz
    refine Reg.step2_skip (wq.setCell ⟨m, 6, none⟩ (.int .i64 (ln : Int))) rfl ?_ hN trivial
    clear hN
    simp [execOp]
    go_simp
  · -- 10: 171 := Op.nilCheck t163
    intro aq wq lq hI hl hdone hlater hold hd ho
    have h163 : aq.tmps.getD 163 undef = .pointer (some ⟨m, 0, none⟩) := hd 163 (by kernel_rfl)
    clear hd ho hdone hlater hold
    rw [Array.getD_eq_getD_getElem?] at h163
    refine Reg.step2_val (.pointer (some ⟨m, 0, none⟩)) ?_ rfl hI trivial
    go_simp
  · -- 11: 172 := Op.fieldAddr 52 t171 7
    intro aq wq lq hI hl hdone hlater hold hd ho
    have h171 : aq.tmps.getD 171 undef = .pointer (some ⟨m, 0, none⟩) := hd 171 (by kernel_rfl)
    clear hd ho hdone hlater hold
    rw [Array.getD_eq_getD_getElem?] at h171
    refine Reg.step2_val (.pointer (some ⟨m, 7, none⟩)) ?_ rfl hI trivial
    go_simp
  · -- 12: None := Op.store 3 t172 t168
    intro aq wq lq hI hl hdone hlater hold hd ho
    have h172 : aq.tmps.getD 172 undef = .pointer (some ⟨m, 7, none⟩) := hd 172 (by kernel_rfl)
    have h168 : aq.tmps.getD 168 undef = .int .i64 x1 := hd 168 (by kernel_rfl)
    clear hd ho hdone hlater hold
    rw [Array.getD_eq_getD_getElem?] at h172 h168
    have hJ := hI
    clear hI
    rw [show lq 12 = false from hl] at hJ
    obtain ⟨_, _, _, e7, _, hfz⟩ := hJ.1.rcell
    have f7 := hfz 7
    have hN := hJ.seven
    clear hJ hfz
    refine Reg.step2_skip (wq.setCell ⟨m, 7, none⟩ (.int .i64 x1)) rfl ?_ hN trivial
    clear hN
    simp [execOp]
    go_simp
  case hend =>
  intro wx hI
  simp only [Reg.fill, List.foldl_cons, List.foldl_nil, List.setIfInBounds_toArray, List.set_cons_zero, List.set_cons_succ]
  have HI := Lib.hid (show Duet b2 cs w p m { D with stray := ln, tgt := x1 } { D with stray := ln, tgt := x1 } wx from hI)
  clear hI
  go_wp2_with fail
  go_meet
  exact ⟨rfl, { D with stray := ln, tgt := x1 }, HH9.out, Nat.le_succ _, HI.out.1⟩
end Go.Proofs.Ytlnocdmechidfaa.Dev
