/- Layers' contracts, bundled: RemKA, Structs. -/
import Derived.Test.YtpdickpipdaphaaGreatDoorK12
import Derived.Test.YtpdickpipdaphaaGreatDoorK01
import Derived.Deep.CutBlock
import Derived.Deep.DeepCutAuto
import Derived.BigQuiet
import Derived.Deep.QuietTactic
import Derived.Deep.Slices
import Derived.Deep.Fields
import Derived.ChangeSame
/- A switch's arms, taken out of the law's code (treenail/treenaillaw07.RemapKeeps). -/
namespace Go.Proofs.YtpdickpipdaphaaGreatDoor.Rem
open Go Go.RowKit Go.Proofs.YtpdickpipdaphaaGreatDoor Dev Go.Maps
set_option linter.unusedVariables false

/-- The first block of a number in a code. -/
def blockOf (n : Nat) : Code → Option Code
  | .block k c => match Nat.beq k n with
    | true => some (.block k c)
    | false => blockOf n c
  | .loop c => blockOf n c
  | .scope c => blockOf n c
  | .seq a b => match blockOf n a with
    | some c => some c
    | none => blockOf n b
  | .cond _ a b => match blockOf n a with
    | some c => some c
    | none => blockOf n b
  | _ => none
noncomputable def rk_Switch : Code := ((Tryz.f3.body.bind (blockOf 2)).getD .skip)
set_option maxHeartbeats 4000000 in
set_option maxRecDepth 100000 in
theorem rk_move {w w4 : World} {a0l a0c pa pb q0 q mb ab off mm c s b r l f b9 b13 M0 n : Nat} {x0 : Int} {td : ByteArray} {S : Nat → Sd} {D : DataW Unit} {u2 u15 u16 u17 u18 u19 u20 u21 u22 u23 u24 u25 u26 u47 u48 u49 u50 u51 u52 u53 u54 u55 u56 u57 u58 u59 u60 u61 u62 u63 u64 u65 u77 u78 u79 u80 u81 u82 u83 u84 u85 u86 u87 u88 u89 u90 u91 u92 u93 u94 u95 u96 u97 u98 u99 u100 u101 u102 u103 u104 u105 u106 u107 u108 u109 u110 u111 u112 u113 u114 u115 u116 u117 u118 u119 u120 u121 u122 u123 u124 u125 u126 u127 u128 u129 u130 u131 u132 u133 u134 u135 u136 u137 u138 u139 u140 u141 u142 u143 u144 u145 u146 u147 u148 u149 u150 u151 u152 u153 u154 u155 u156 u157 u158 u159 u160 u161 u162 u163 u164 u165 u166 u167 u168 u169 u170 u171 u172 u173 u174 u175 u176 u177 u178 u179 u180 u181 u182 u183 u184 u185 u186 u187 u188 u189 u190 u191 u192 u193 u194 u195 u196 u197 u198 u199 u200 u201 u202 u203 u204 : Value} {J K' : Act → World → Prop} {Q0 : Exit → Act → World → Prop} 
    (HKN : Hid (Kn S D)) (HSP : Hid (∀ t, t < 2 → Spare (S t))) (HTS : Hid (td.size = 128)) (hs2 : s < 2) (hb12 : b < 12) (hn : n ≤ c) (hlt : c < mm) (hm40 : mm ≤ 40) (HL : Hid (l = (S s).m.length)) (HF : Hid (f = 4 - l)) (hg4 : l ≤ 4) (HC : Hid (CP w [b13, b9, mb] q (pdOf pa pb) S (4 + 4 * c) w4)) (HM : Hid (w4.ownsMap Tryz.prog 32 (plainElem (H := Unit) Tryz.prog 9) mb n D)) (H13 : Hid (Has w4 b13 32 [.int .i64 s, .int .i64 b]))
    (hMetJ : ∀ (a' : Act) (w' : World), (∃ u2 u5 u15 u16 u17 u18 u19 u20 u21 u22 u47 u48 u49 u50 u51 u52 u53 u54 u55 u56 u57 u58 u59 u60 u61 u62 u63 u64 u65 u66 u67 u68 u69 u70 u71 u72 u73 u74 u75 u77 u78 u79 u80 u81 u82 u83 u84 u85 u86 u87 u88 u89 u90 u91 u92 u93 u94 u95 u96 u97 u98 u99 u100 u101 u102 u103 u104 u105 u106 u107 u108 u109 u110 u111 u112 u113 u114 u115 u116 u117 u118 u119 u120 u121 u122 u123 u124 u125 u126 u127 u128 u129 u130 u131 u132 u133 u134 u135 u136 u137 u138 u139 u140 u141 u142 u143 u144 u145 u146 u147 u148 u149 u150 u151 u152 u153 u154 u155 u156 u157 u158 u159 u160 u161 u162 u163 u164 u165 u166 u167 u168 u169 u170 u171 u172 u173 u174 u175 u176 u177 u178 u179 u180 u181 u183 u184 u185 u186 u187 u188 u189 u190 u191 u192 u193 u194 u195 u196 u197 u198 u199 u200 u201 u202 u203 u204, (∃ (q' n' : Nat) (S' : Nat → Sd) (D' : DataW Unit), u5 = .pointer (some ⟨q', 0, none⟩) ∧ n' ≤ c + 1 ∧ Kn S' D' ∧ (∀ t, t < 2 → Spare (S' t)) ∧ w'.ownsMap Tryz.prog 32 (plainElem (H := Unit) Tryz.prog 9) mb n' D' ∧ CP w [mb] q' (pdOf pa pb) S' (4 + 4 * (c + 1)) w') ∧ a' = ⟨#[Value.slice (some ⟨ab, off, none⟩) a0l a0c, undef, u2, Value.pointer (some ⟨pa, 0, none⟩), Value.pointer (some ⟨pb, 0, none⟩), u5, Value.bool true, Value.map (some mb), undef, Value.pointer (some ⟨b9, 0, none⟩), Value.int IntKind.i64 ((s : Nat) : Int), Value.int IntKind.i64 ((b : Nat) : Int), Value.string td, Value.pointer (some ⟨b13, 0, none⟩), Value.int IntKind.i64 ((f : Nat) : Int), u15, u16, u17, u18, u19, u20, u21, u22, u23, u24, u25, u26, Value.tuple #[Value.pointer (some ⟨pa, 0, none⟩), Value.pointer (some ⟨pb, 0, none⟩), Value.pointer (some ⟨q0, 0, none⟩), Value.bool true], Value.tuple #[Value.pointer (some ⟨pa, 0, none⟩), Value.pointer (some ⟨pb, 0, none⟩), Value.pointer (some ⟨q0, 0, none⟩), Value.bool true], Value.pointer (some ⟨pa, 0, none⟩), Value.pointer (some ⟨pb, 0, none⟩), Value.pointer (some ⟨q0, 0, none⟩), Value.bool true, Value.bool true, Value.bool false, Value.bool false, Value.bool true, Value.bool false, Value.bool false, Value.map (some mb), Value.slice (some ⟨ab, off, none⟩) a0l a0c, Value.slice (some ⟨ab, off, none⟩) a0l a0c, Value.int IntKind.i64 ((a0l : Nat) : Int), Value.int IntKind.i64 ((mm : Nat) : Int), Value.slice (some ⟨ab, off, none⟩) mm a0c, Value.int IntKind.i64 ((mm : Nat) : Int), Value.int IntKind.i64 ((c : Nat) : Int), u47, u48, u49, u50, u51, u52, u53, u54, u55, u56, u57, u58, u59, u60, u61, u62, u63, u64, u65, u66, u67, u68, u69, u70, u71, u72, u73, u74, u75, Value.int IntKind.i64 4, u77, u78, u79, u80, u81, u82, u83, u84, u85, u86, u87, u88, u89, u90, u91, u92, u93, u94, u95, u96, u97, u98, u99, u100, u101, u102, u103, u104, u105, u106, u107, u108, u109, u110, u111, u112, u113, u114, u115, u116, u117, u118, u119, u120, u121, u122, u123, u124, u125, u126, u127, u128, u129, u130, u131, u132, u133, u134, u135, u136, u137, u138, u139, u140, u141, u142, u143, u144, u145, u146, u147, u148, u149, u150, u151, u152, u153, u154, u155, u156, u157, u158, u159, u160, u161, u162, u163, u164, u165, u166, u167, u168, u169, u170, u171, u172, u173, u174, u175, u176, u177, u178, u179, u180, u181, u182, u183, u184, u185, u186, u187, u188, u189, u190, u191, u192, u193, u194, u195, u196, u197, u198, u199, u200, u201, u202, u203, u204], []⟩) → J a' w')
    (hMetK : ∀ (a' : Act) (w' : World), Met J a' w' → K' a' w') :
    Code.wp Tryz.prog rk_Switch (Exit.then K' Q0) ⟨#[Value.slice (some ⟨ab, off, none⟩) a0l a0c, undef, u2, Value.pointer (some ⟨pa, 0, none⟩), Value.pointer (some ⟨pb, 0, none⟩), Value.pointer (some ⟨q, 0, none⟩), Value.bool true, Value.map (some mb), undef, Value.pointer (some ⟨b9, 0, none⟩), Value.int IntKind.i64 ((s : Nat) : Int), Value.int IntKind.i64 ((b : Nat) : Int), Value.string td, Value.pointer (some ⟨b13, 0, none⟩), Value.int IntKind.i64 ((f : Nat) : Int), u15, u16, u17, u18, u19, u20, u21, u22, u23, u24, u25, u26, Value.tuple #[Value.pointer (some ⟨pa, 0, none⟩), Value.pointer (some ⟨pb, 0, none⟩), Value.pointer (some ⟨q0, 0, none⟩), Value.bool true], Value.tuple #[Value.pointer (some ⟨pa, 0, none⟩), Value.pointer (some ⟨pb, 0, none⟩), Value.pointer (some ⟨q0, 0, none⟩), Value.bool true], Value.pointer (some ⟨pa, 0, none⟩), Value.pointer (some ⟨pb, 0, none⟩), Value.pointer (some ⟨q0, 0, none⟩), Value.bool true, Value.bool true, Value.bool false, Value.bool false, Value.bool true, Value.bool false, Value.bool false, Value.map (some mb), Value.slice (some ⟨ab, off, none⟩) a0l a0c, Value.slice (some ⟨ab, off, none⟩) a0l a0c, Value.int IntKind.i64 ((a0l : Nat) : Int), Value.int IntKind.i64 ((mm : Nat) : Int), Value.slice (some ⟨ab, off, none⟩) mm a0c, Value.int IntKind.i64 ((mm : Nat) : Int), Value.int IntKind.i64 ((c : Nat) : Int), u47, u48, u49, u50, u51, u52, u53, u54, u55, u56, u57, u58, u59, u60, u61, u62, u63, u64, u65, Value.int IntKind.i64 ((s : Nat) : Int), Value.int IntKind.i64 ((b : Nat) : Int), Value.agg #[Value.int IntKind.i64 ((s : Nat) : Int), Value.int IntKind.i64 ((b : Nat) : Int)], Value.pointer (some ⟨q, 0, none⟩), Value.int IntKind.i64 ((s : Nat) : Int), Value.agg (Tab.ta 12 4 (S s).m), Value.int IntKind.i64 ((f : Nat) : Int), Value.pointer (some ⟨b9, 0, none⟩), Value.int IntKind.i64 x0, Value.int IntKind.i64 ((M0 : Nat) : Int), Value.int IntKind.i64 4, u77, u78, u79, u80, u81, u82, u83, u84, u85, u86, u87, u88, u89, u90, u91, u92, u93, u94, u95, u96, u97, u98, u99, u100, u101, u102, u103, u104, u105, u106, u107, u108, u109, u110, u111, u112, u113, u114, u115, u116, u117, u118, u119, u120, u121, u122, u123, u124, u125, u126, u127, u128, u129, u130, u131, u132, u133, u134, u135, u136, u137, u138, u139, u140, u141, u142, u143, u144, u145, u146, u147, u148, u149, u150, u151, u152, u153, u154, u155, u156, u157, u158, u159, u160, u161, u162, u163, u164, u165, u166, u167, u168, u169, u170, u171, u172, u173, u174, u175, u176, u177, u178, u179, u180, u181, u182, u183, u184, u185, u186, u187, u188, u189, u190, u191, u192, u193, u194, u195, u196, u197, u198, u199, u200, u201, u202, u203, u204], []⟩ w4 := by
  conv => arg 2; whnf
  have HG := Lib.hid (show ∀ t, t < 2 → Tab.Good 12 4 (S t).m from fun t ht => HC.out.good ht)
  go_wp2_with fail
  refine (move_c HC.out hs2 hb12 (by omega)).mono ?_
  rintro e w5 ⟨S1, rfl, hmv, hno, hcp, hsm⟩
  have HC5 := Lib.hid hcp
  have HM5 := Lib.hid (owns_map_keep HM.out hsm (by simp))
  have HMV := Lib.hid hmv
  have HNO := Lib.hid hno
  rw [← HL.out]
  have h13 := Has.keep H13.out hsm (by simp)
  have d0 := h13.cell 0
  have d1 := h13.cell 1
  simp only [List.getElem?_cons_zero, List.getElem?_cons_succ] at d0 d1
  clear hmv hno hcp hsm HC HM H13 h13
  by_cases hl4 : l < 4
  · rw [if_pos hl4]
    have hf0 : 0 < f := by have := HF.out; omega
    have HMV := Lib.hid (HMV.out (by rw [← HL.out]; exact hl4))
    have HNEW := Lib.hid (And.intro (HKN.out.moved HMV.out hs2 hb12 HG.out) (HMV.out.spare HSP.out))
    clear HNO
    go_wp2_with (at_delete; refine wpList_delete_own _ rfl _ _ 28 32 rfl 9 keyed2 Tryz.underlying28 _ mb n D rfl HM5.out _ _ rfl (key2 hs2 hb12) ?_)
    intro w6 hown hturn
    have HC6 := Lib.hid (CP.map HC5.out (by simp) hturn.grown)
    have HM6 := Lib.hid hown
    clear hown hturn
    go_wp2_with fail
    go_meet
    exact ⟨q, n, S1, _, rfl, by omega, HNEW.out.1, HNEW.out.2, HM6.out, (HC6.out.sub (by simp)).mono (by omega)⟩
  · rw [if_neg hl4]
    have hf0 : f = 0 := by have := HF.out; omega
    clear HF
    subst hf0
    have HS1 := Lib.hid (HNO.out (by rw [← HL.out]; exact hl4))
    clear HNO HMV
    go_wp2_with fail
    go_meet
    exact ⟨q, n, S1, D, rfl, by omega, by rw [HS1.out]; exact HKN.out, by rw [HS1.out]; exact HSP.out, HM5.out, (HC5.out.sub (by simp)).mono (by omega)⟩
set_option maxHeartbeats 4000000 in
set_option maxRecDepth 100000 in
theorem rk_stick {w w4 : World} {a0l a0c pa pb q0 q mb ab off mm c s b r l f b9 b13 M0 n : Nat} {x0 : Int} {td : ByteArray} {S : Nat → Sd} {D : DataW Unit} {u2 u15 u16 u17 u18 u19 u20 u21 u22 u23 u24 u25 u26 u47 u48 u49 u50 u51 u52 u53 u54 u55 u56 u57 u58 u59 u60 u61 u62 u63 u64 u65 u77 u78 u79 u80 u81 u82 u83 u84 u85 u86 u87 u88 u89 u90 u91 u92 u93 u94 u95 u96 u97 u98 u99 u100 u101 u102 u103 u104 u105 u106 u107 u108 u109 u110 u111 u112 u113 u114 u115 u116 u117 u118 u119 u120 u121 u122 u123 u124 u125 u126 u127 u128 u129 u130 u131 u132 u133 u134 u135 u136 u137 u138 u139 u140 u141 u142 u143 u144 u145 u146 u147 u148 u149 u150 u151 u152 u153 u154 u155 u156 u157 u158 u159 u160 u161 u162 u163 u164 u165 u166 u167 u168 u169 u170 u171 u172 u173 u174 u175 u176 u177 u178 u179 u180 u181 u182 u183 u184 u185 u186 u187 u188 u189 u190 u191 u192 u193 u194 u195 u196 u197 u198 u199 u200 u201 u202 u203 u204 : Value} {J K' : Act → World → Prop} {Q0 : Exit → Act → World → Prop} 
    (HKN : Hid (Kn S D)) (HSP : Hid (∀ t, t < 2 → Spare (S t))) (HTS : Hid (td.size = 128)) (hs2 : s < 2) (hb12 : b < 12) (hn : n ≤ c) (hlt : c < mm) (hm40 : mm ≤ 40) (HL : Hid (l = (S s).m.length)) (HF : Hid (f = 4 - l)) (hg4 : l ≤ 4) (HC : Hid (CP w [b13, b9, mb] q (pdOf pa pb) S (4 + 4 * c) w4)) (HM : Hid (w4.ownsMap Tryz.prog 32 (plainElem (H := Unit) Tryz.prog 9) mb n D)) (H13 : Hid (Has w4 b13 32 [.int .i64 s, .int .i64 b]))
    (hMetJ : ∀ (a' : Act) (w' : World), (∃ u2 u5 u15 u16 u17 u18 u19 u20 u21 u22 u47 u48 u49 u50 u51 u52 u53 u54 u55 u56 u57 u58 u59 u60 u61 u62 u63 u64 u65 u66 u67 u68 u69 u70 u71 u72 u73 u74 u75 u77 u78 u79 u80 u81 u82 u83 u84 u85 u86 u87 u88 u89 u90 u91 u92 u93 u94 u95 u96 u97 u98 u99 u100 u101 u102 u103 u104 u105 u106 u107 u108 u109 u110 u111 u112 u113 u114 u115 u116 u117 u118 u119 u120 u121 u122 u123 u124 u125 u126 u127 u128 u129 u130 u131 u132 u133 u134 u135 u136 u137 u138 u139 u140 u141 u142 u143 u144 u145 u146 u147 u148 u149 u150 u151 u152 u153 u154 u155 u156 u157 u158 u159 u160 u161 u162 u163 u164 u165 u166 u167 u168 u169 u170 u171 u172 u173 u174 u175 u176 u177 u178 u179 u180 u181 u183 u184 u185 u186 u187 u188 u189 u190 u191 u192 u193 u194 u195 u196 u197 u198 u199 u200 u201 u202 u203 u204, (∃ (q' n' : Nat) (S' : Nat → Sd) (D' : DataW Unit), u5 = .pointer (some ⟨q', 0, none⟩) ∧ n' ≤ c + 1 ∧ Kn S' D' ∧ (∀ t, t < 2 → Spare (S' t)) ∧ w'.ownsMap Tryz.prog 32 (plainElem (H := Unit) Tryz.prog 9) mb n' D' ∧ CP w [mb] q' (pdOf pa pb) S' (4 + 4 * (c + 1)) w') ∧ a' = ⟨#[Value.slice (some ⟨ab, off, none⟩) a0l a0c, undef, u2, Value.pointer (some ⟨pa, 0, none⟩), Value.pointer (some ⟨pb, 0, none⟩), u5, Value.bool true, Value.map (some mb), undef, Value.pointer (some ⟨b9, 0, none⟩), Value.int IntKind.i64 ((s : Nat) : Int), Value.int IntKind.i64 ((b : Nat) : Int), Value.string td, Value.pointer (some ⟨b13, 0, none⟩), Value.int IntKind.i64 ((f : Nat) : Int), u15, u16, u17, u18, u19, u20, u21, u22, u23, u24, u25, u26, Value.tuple #[Value.pointer (some ⟨pa, 0, none⟩), Value.pointer (some ⟨pb, 0, none⟩), Value.pointer (some ⟨q0, 0, none⟩), Value.bool true], Value.tuple #[Value.pointer (some ⟨pa, 0, none⟩), Value.pointer (some ⟨pb, 0, none⟩), Value.pointer (some ⟨q0, 0, none⟩), Value.bool true], Value.pointer (some ⟨pa, 0, none⟩), Value.pointer (some ⟨pb, 0, none⟩), Value.pointer (some ⟨q0, 0, none⟩), Value.bool true, Value.bool true, Value.bool false, Value.bool false, Value.bool true, Value.bool false, Value.bool false, Value.map (some mb), Value.slice (some ⟨ab, off, none⟩) a0l a0c, Value.slice (some ⟨ab, off, none⟩) a0l a0c, Value.int IntKind.i64 ((a0l : Nat) : Int), Value.int IntKind.i64 ((mm : Nat) : Int), Value.slice (some ⟨ab, off, none⟩) mm a0c, Value.int IntKind.i64 ((mm : Nat) : Int), Value.int IntKind.i64 ((c : Nat) : Int), u47, u48, u49, u50, u51, u52, u53, u54, u55, u56, u57, u58, u59, u60, u61, u62, u63, u64, u65, u66, u67, u68, u69, u70, u71, u72, u73, u74, u75, Value.int IntKind.i64 5, u77, u78, u79, u80, u81, u82, u83, u84, u85, u86, u87, u88, u89, u90, u91, u92, u93, u94, u95, u96, u97, u98, u99, u100, u101, u102, u103, u104, u105, u106, u107, u108, u109, u110, u111, u112, u113, u114, u115, u116, u117, u118, u119, u120, u121, u122, u123, u124, u125, u126, u127, u128, u129, u130, u131, u132, u133, u134, u135, u136, u137, u138, u139, u140, u141, u142, u143, u144, u145, u146, u147, u148, u149, u150, u151, u152, u153, u154, u155, u156, u157, u158, u159, u160, u161, u162, u163, u164, u165, u166, u167, u168, u169, u170, u171, u172, u173, u174, u175, u176, u177, u178, u179, u180, u181, u182, u183, u184, u185, u186, u187, u188, u189, u190, u191, u192, u193, u194, u195, u196, u197, u198, u199, u200, u201, u202, u203, u204], []⟩) → J a' w')
    (hMetK : ∀ (a' : Act) (w' : World), Met J a' w' → K' a' w') :
    Code.wp Tryz.prog rk_Switch (Exit.then K' Q0) ⟨#[Value.slice (some ⟨ab, off, none⟩) a0l a0c, undef, u2, Value.pointer (some ⟨pa, 0, none⟩), Value.pointer (some ⟨pb, 0, none⟩), Value.pointer (some ⟨q, 0, none⟩), Value.bool true, Value.map (some mb), undef, Value.pointer (some ⟨b9, 0, none⟩), Value.int IntKind.i64 ((s : Nat) : Int), Value.int IntKind.i64 ((b : Nat) : Int), Value.string td, Value.pointer (some ⟨b13, 0, none⟩), Value.int IntKind.i64 ((f : Nat) : Int), u15, u16, u17, u18, u19, u20, u21, u22, u23, u24, u25, u26, Value.tuple #[Value.pointer (some ⟨pa, 0, none⟩), Value.pointer (some ⟨pb, 0, none⟩), Value.pointer (some ⟨q0, 0, none⟩), Value.bool true], Value.tuple #[Value.pointer (some ⟨pa, 0, none⟩), Value.pointer (some ⟨pb, 0, none⟩), Value.pointer (some ⟨q0, 0, none⟩), Value.bool true], Value.pointer (some ⟨pa, 0, none⟩), Value.pointer (some ⟨pb, 0, none⟩), Value.pointer (some ⟨q0, 0, none⟩), Value.bool true, Value.bool true, Value.bool false, Value.bool false, Value.bool true, Value.bool false, Value.bool false, Value.map (some mb), Value.slice (some ⟨ab, off, none⟩) a0l a0c, Value.slice (some ⟨ab, off, none⟩) a0l a0c, Value.int IntKind.i64 ((a0l : Nat) : Int), Value.int IntKind.i64 ((mm : Nat) : Int), Value.slice (some ⟨ab, off, none⟩) mm a0c, Value.int IntKind.i64 ((mm : Nat) : Int), Value.int IntKind.i64 ((c : Nat) : Int), u47, u48, u49, u50, u51, u52, u53, u54, u55, u56, u57, u58, u59, u60, u61, u62, u63, u64, u65, Value.int IntKind.i64 ((s : Nat) : Int), Value.int IntKind.i64 ((b : Nat) : Int), Value.agg #[Value.int IntKind.i64 ((s : Nat) : Int), Value.int IntKind.i64 ((b : Nat) : Int)], Value.pointer (some ⟨q, 0, none⟩), Value.int IntKind.i64 ((s : Nat) : Int), Value.agg (Tab.ta 12 4 (S s).m), Value.int IntKind.i64 ((f : Nat) : Int), Value.pointer (some ⟨b9, 0, none⟩), Value.int IntKind.i64 x0, Value.int IntKind.i64 ((M0 : Nat) : Int), Value.int IntKind.i64 5, u77, u78, u79, u80, u81, u82, u83, u84, u85, u86, u87, u88, u89, u90, u91, u92, u93, u94, u95, u96, u97, u98, u99, u100, u101, u102, u103, u104, u105, u106, u107, u108, u109, u110, u111, u112, u113, u114, u115, u116, u117, u118, u119, u120, u121, u122, u123, u124, u125, u126, u127, u128, u129, u130, u131, u132, u133, u134, u135, u136, u137, u138, u139, u140, u141, u142, u143, u144, u145, u146, u147, u148, u149, u150, u151, u152, u153, u154, u155, u156, u157, u158, u159, u160, u161, u162, u163, u164, u165, u166, u167, u168, u169, u170, u171, u172, u173, u174, u175, u176, u177, u178, u179, u180, u181, u182, u183, u184, u185, u186, u187, u188, u189, u190, u191, u192, u193, u194, u195, u196, u197, u198, u199, u200, u201, u202, u203, u204], []⟩ w4 := by
  conv => arg 2; whnf
  have HG := Lib.hid (show ∀ t, t < 2 → Tab.Good 12 4 (S t).m from fun t ht => HC.out.good ht)
  obtain ⟨p1, p2, p3⟩ := pl_bd (HG.out s hs2) hb12
  obtain ⟨q1, q2, q3⟩ := Tab.at_yes (m := (S s).m) (n := 12) (b := (b : Int)) (by omega) (by omega)
  obtain ⟨ix, hix⟩ : ∃ ix, ix = pl (S s) b := ⟨_, rfl⟩
  obtain ⟨P, hP⟩ : ∃ P, P = Tab.plc 12 (S s).m b := ⟨_, rfl⟩
  rw [← hP] at p3 q3
  rw [← hix] at p1 p2 p3
  rw [← HL.out] at p2
  have HAT := Lib.hid (And.intro q2 q3)
  have HIX := Lib.hid hix
  have HP3 := Lib.hid p3
  clear q1 q2 q3 hix hP p3
  go_wp2_with fail
  refine (table_c HC.out hs2).mono ?_
  rintro e w5 ⟨rfl, hb⟩
  have HC5 := Lib.hid (HC.out.later hb)
  have HM5 := Lib.hid (Tab.owns_map_on HM.out hb)
  have H135 := Lib.hid (H13.out.below hb H13.out.lt)
  clear hb HC HM H13
  go_wp2_with fail
  refine (Tab.at_any 12 4 b (S s).m _ (HG.out s hs2)).mono ?_
  rintro e w6 ⟨rfl, hb⟩
  rw [HAT.out.1, HAT.out.2]
  have HC6 := Lib.hid (HC5.out.later hb)
  have HM6 := Lib.hid (Tab.owns_map_on HM5.out hb)
  have H136 := Lib.hid (H135.out.below hb H135.out.lt)
  clear hb HC5 HM5 H135
  have hPb : 0 ≤ P ∧ P ≤ 1000 := by have := HP3.out; omega
  obtain ⟨hPb0, hPb1⟩ := hPb
  go_wp2_with fail
  refine (device_c HC6.out hs2).mono ?_
  rintro e w7 ⟨rfl, hb⟩
  have HC7 := Lib.hid (HC6.out.later hb)
  have HM7 := Lib.hid (Tab.owns_map_on HM6.out hb)
  have H137 := Lib.hid (H136.out.below hb H136.out.lt)
  clear hb HC6 HM6 H136
  go_wp2_with fail
  refine (stick_c HC7.out hs2 (i := ix) p1 (by omega) (by omega) (P + 4) (by rw [HP3.out]; omega)).mono ?_
  rintro e w8 ⟨S1, rfl, hk, hcp, hsm⟩
  rw [HIX.out] at hk
  have HC8 := Lib.hid hcp
  have HM8 := Lib.hid (owns_map_keep HM7.out hsm (by simp))
  have HNEW := Lib.hid (And.intro (HKN.out.stuck hk hs2 hb12 HG.out) (And.intro (hk.spare hs2 hb12 (HG.out s hs2) HSP.out) (show (S1 s).B (pl (S1 s) b) = true by rw [pl_congr hk.2.1, hk.2.2.1, upd_same])))
  have h13 := Has.keep H137.out hsm (by simp)
  have d0 := h13.cell 0
  have d1 := h13.cell 1
  simp only [List.getElem?_cons_zero, List.getElem?_cons_succ] at d0 d1
  clear hk hcp hsm HC7 HM7 H137 h13
  go_wp2_with (at_delete; refine wpList_delete_own _ rfl _ _ 28 32 rfl 9 keyed2 Tryz.underlying28 _ mb n D rfl HM8.out _ _ rfl (key2 hs2 hb12) ?_)
  intro w9 hown hturn
  have HC9 := Lib.hid (CP.map HC8.out (by simp) hturn.grown)
  have HM9 := Lib.hid hown
  clear hown hturn
  clear d0 d1
  go_wp2_with fail
  refine (read_c HC9.out hs2 hb12 (by omega)).mono ?_
  rintro e w10 ⟨rfl, hcp, hsm⟩
  rw [HNEW.out.2.2]
  have HC10 := Lib.hid hcp
  have HM10 := Lib.hid (owns_map_keep HM9.out hsm (by simp))
  clear hcp hsm HC9 HM9
  go_wp2_with fail
  go_meet
  exact ⟨q, n, S1, _, rfl, by omega, HNEW.out.1, HNEW.out.2.1, HM10.out, (HC10.out.sub (by simp)).mono (by omega)⟩
set_option maxHeartbeats 4000000 in
set_option maxRecDepth 100000 in
theorem rk_flush {w w4 : World} {a0l a0c pa pb q0 q mb ab off mm c s b r l f b9 b13 M0 n : Nat} {x0 : Int} {td : ByteArray} {S : Nat → Sd} {D : DataW Unit} {u2 u15 u16 u17 u18 u19 u20 u21 u22 u23 u24 u25 u26 u47 u48 u49 u50 u51 u52 u53 u54 u55 u56 u57 u58 u59 u60 u61 u62 u63 u64 u65 u77 u78 u79 u80 u81 u82 u83 u84 u85 u86 u87 u88 u89 u90 u91 u92 u93 u94 u95 u96 u97 u98 u99 u100 u101 u102 u103 u104 u105 u106 u107 u108 u109 u110 u111 u112 u113 u114 u115 u116 u117 u118 u119 u120 u121 u122 u123 u124 u125 u126 u127 u128 u129 u130 u131 u132 u133 u134 u135 u136 u137 u138 u139 u140 u141 u142 u143 u144 u145 u146 u147 u148 u149 u150 u151 u152 u153 u154 u155 u156 u157 u158 u159 u160 u161 u162 u163 u164 u165 u166 u167 u168 u169 u170 u171 u172 u173 u174 u175 u176 u177 u178 u179 u180 u181 u182 u183 u184 u185 u186 u187 u188 u189 u190 u191 u192 u193 u194 u195 u196 u197 u198 u199 u200 u201 u202 u203 u204 : Value} {J K' : Act → World → Prop} {Q0 : Exit → Act → World → Prop} 
    (HKN : Hid (Kn S D)) (HSP : Hid (∀ t, t < 2 → Spare (S t))) (HTS : Hid (td.size = 128)) (hs2 : s < 2) (hb12 : b < 12) (hn : n ≤ c) (hlt : c < mm) (hm40 : mm ≤ 40) (HL : Hid (l = (S s).m.length)) (HF : Hid (f = 4 - l)) (hg4 : l ≤ 4) (HC : Hid (CP w [b13, b9, mb] q (pdOf pa pb) S (4 + 4 * c) w4)) (HM : Hid (w4.ownsMap Tryz.prog 32 (plainElem (H := Unit) Tryz.prog 9) mb n D)) (H13 : Hid (Has w4 b13 32 [.int .i64 s, .int .i64 b]))
    (hMetJ : ∀ (a' : Act) (w' : World), (∃ u2 u5 u15 u16 u17 u18 u19 u20 u21 u22 u47 u48 u49 u50 u51 u52 u53 u54 u55 u56 u57 u58 u59 u60 u61 u62 u63 u64 u65 u66 u67 u68 u69 u70 u71 u72 u73 u74 u75 u77 u78 u79 u80 u81 u82 u83 u84 u85 u86 u87 u88 u89 u90 u91 u92 u93 u94 u95 u96 u97 u98 u99 u100 u101 u102 u103 u104 u105 u106 u107 u108 u109 u110 u111 u112 u113 u114 u115 u116 u117 u118 u119 u120 u121 u122 u123 u124 u125 u126 u127 u128 u129 u130 u131 u132 u133 u134 u135 u136 u137 u138 u139 u140 u141 u142 u143 u144 u145 u146 u147 u148 u149 u150 u151 u152 u153 u154 u155 u156 u157 u158 u159 u160 u161 u162 u163 u164 u165 u166 u167 u168 u169 u170 u171 u172 u173 u174 u175 u176 u177 u178 u179 u180 u181 u183 u184 u185 u186 u187 u188 u189 u190 u191 u192 u193 u194 u195 u196 u197 u198 u199 u200 u201 u202 u203 u204, (∃ (q' n' : Nat) (S' : Nat → Sd) (D' : DataW Unit), u5 = .pointer (some ⟨q', 0, none⟩) ∧ n' ≤ c + 1 ∧ Kn S' D' ∧ (∀ t, t < 2 → Spare (S' t)) ∧ w'.ownsMap Tryz.prog 32 (plainElem (H := Unit) Tryz.prog 9) mb n' D' ∧ CP w [mb] q' (pdOf pa pb) S' (4 + 4 * (c + 1)) w') ∧ a' = ⟨#[Value.slice (some ⟨ab, off, none⟩) a0l a0c, undef, u2, Value.pointer (some ⟨pa, 0, none⟩), Value.pointer (some ⟨pb, 0, none⟩), u5, Value.bool true, Value.map (some mb), undef, Value.pointer (some ⟨b9, 0, none⟩), Value.int IntKind.i64 ((s : Nat) : Int), Value.int IntKind.i64 ((b : Nat) : Int), Value.string td, Value.pointer (some ⟨b13, 0, none⟩), Value.int IntKind.i64 ((f : Nat) : Int), u15, u16, u17, u18, u19, u20, u21, u22, u23, u24, u25, u26, Value.tuple #[Value.pointer (some ⟨pa, 0, none⟩), Value.pointer (some ⟨pb, 0, none⟩), Value.pointer (some ⟨q0, 0, none⟩), Value.bool true], Value.tuple #[Value.pointer (some ⟨pa, 0, none⟩), Value.pointer (some ⟨pb, 0, none⟩), Value.pointer (some ⟨q0, 0, none⟩), Value.bool true], Value.pointer (some ⟨pa, 0, none⟩), Value.pointer (some ⟨pb, 0, none⟩), Value.pointer (some ⟨q0, 0, none⟩), Value.bool true, Value.bool true, Value.bool false, Value.bool false, Value.bool true, Value.bool false, Value.bool false, Value.map (some mb), Value.slice (some ⟨ab, off, none⟩) a0l a0c, Value.slice (some ⟨ab, off, none⟩) a0l a0c, Value.int IntKind.i64 ((a0l : Nat) : Int), Value.int IntKind.i64 ((mm : Nat) : Int), Value.slice (some ⟨ab, off, none⟩) mm a0c, Value.int IntKind.i64 ((mm : Nat) : Int), Value.int IntKind.i64 ((c : Nat) : Int), u47, u48, u49, u50, u51, u52, u53, u54, u55, u56, u57, u58, u59, u60, u61, u62, u63, u64, u65, u66, u67, u68, u69, u70, u71, u72, u73, u74, u75, Value.int IntKind.i64 6, u77, u78, u79, u80, u81, u82, u83, u84, u85, u86, u87, u88, u89, u90, u91, u92, u93, u94, u95, u96, u97, u98, u99, u100, u101, u102, u103, u104, u105, u106, u107, u108, u109, u110, u111, u112, u113, u114, u115, u116, u117, u118, u119, u120, u121, u122, u123, u124, u125, u126, u127, u128, u129, u130, u131, u132, u133, u134, u135, u136, u137, u138, u139, u140, u141, u142, u143, u144, u145, u146, u147, u148, u149, u150, u151, u152, u153, u154, u155, u156, u157, u158, u159, u160, u161, u162, u163, u164, u165, u166, u167, u168, u169, u170, u171, u172, u173, u174, u175, u176, u177, u178, u179, u180, u181, u182, u183, u184, u185, u186, u187, u188, u189, u190, u191, u192, u193, u194, u195, u196, u197, u198, u199, u200, u201, u202, u203, u204], []⟩) → J a' w')
    (hMetK : ∀ (a' : Act) (w' : World), Met J a' w' → K' a' w') :
    Code.wp Tryz.prog rk_Switch (Exit.then K' Q0) ⟨#[Value.slice (some ⟨ab, off, none⟩) a0l a0c, undef, u2, Value.pointer (some ⟨pa, 0, none⟩), Value.pointer (some ⟨pb, 0, none⟩), Value.pointer (some ⟨q, 0, none⟩), Value.bool true, Value.map (some mb), undef, Value.pointer (some ⟨b9, 0, none⟩), Value.int IntKind.i64 ((s : Nat) : Int), Value.int IntKind.i64 ((b : Nat) : Int), Value.string td, Value.pointer (some ⟨b13, 0, none⟩), Value.int IntKind.i64 ((f : Nat) : Int), u15, u16, u17, u18, u19, u20, u21, u22, u23, u24, u25, u26, Value.tuple #[Value.pointer (some ⟨pa, 0, none⟩), Value.pointer (some ⟨pb, 0, none⟩), Value.pointer (some ⟨q0, 0, none⟩), Value.bool true], Value.tuple #[Value.pointer (some ⟨pa, 0, none⟩), Value.pointer (some ⟨pb, 0, none⟩), Value.pointer (some ⟨q0, 0, none⟩), Value.bool true], Value.pointer (some ⟨pa, 0, none⟩), Value.pointer (some ⟨pb, 0, none⟩), Value.pointer (some ⟨q0, 0, none⟩), Value.bool true, Value.bool true, Value.bool false, Value.bool false, Value.bool true, Value.bool false, Value.bool false, Value.map (some mb), Value.slice (some ⟨ab, off, none⟩) a0l a0c, Value.slice (some ⟨ab, off, none⟩) a0l a0c, Value.int IntKind.i64 ((a0l : Nat) : Int), Value.int IntKind.i64 ((mm : Nat) : Int), Value.slice (some ⟨ab, off, none⟩) mm a0c, Value.int IntKind.i64 ((mm : Nat) : Int), Value.int IntKind.i64 ((c : Nat) : Int), u47, u48, u49, u50, u51, u52, u53, u54, u55, u56, u57, u58, u59, u60, u61, u62, u63, u64, u65, Value.int IntKind.i64 ((s : Nat) : Int), Value.int IntKind.i64 ((b : Nat) : Int), Value.agg #[Value.int IntKind.i64 ((s : Nat) : Int), Value.int IntKind.i64 ((b : Nat) : Int)], Value.pointer (some ⟨q, 0, none⟩), Value.int IntKind.i64 ((s : Nat) : Int), Value.agg (Tab.ta 12 4 (S s).m), Value.int IntKind.i64 ((f : Nat) : Int), Value.pointer (some ⟨b9, 0, none⟩), Value.int IntKind.i64 x0, Value.int IntKind.i64 ((M0 : Nat) : Int), Value.int IntKind.i64 6, u77, u78, u79, u80, u81, u82, u83, u84, u85, u86, u87, u88, u89, u90, u91, u92, u93, u94, u95, u96, u97, u98, u99, u100, u101, u102, u103, u104, u105, u106, u107, u108, u109, u110, u111, u112, u113, u114, u115, u116, u117, u118, u119, u120, u121, u122, u123, u124, u125, u126, u127, u128, u129, u130, u131, u132, u133, u134, u135, u136, u137, u138, u139, u140, u141, u142, u143, u144, u145, u146, u147, u148, u149, u150, u151, u152, u153, u154, u155, u156, u157, u158, u159, u160, u161, u162, u163, u164, u165, u166, u167, u168, u169, u170, u171, u172, u173, u174, u175, u176, u177, u178, u179, u180, u181, u182, u183, u184, u185, u186, u187, u188, u189, u190, u191, u192, u193, u194, u195, u196, u197, u198, u199, u200, u201, u202, u203, u204], []⟩ w4 := by
  conv => arg 2; whnf
  go_wp2_with fail
  refine (flush_c HC.out hs2 (by omega)).mono ?_
  rintro e w5 ⟨rfl, hcp, hsm⟩
  have HC5 := Lib.hid hcp
  have HM5 := Lib.hid (owns_map_keep HM.out hsm (by simp))
  clear hcp hsm HC HM H13
  go_wp2_with fail
  go_meet
  exact ⟨q, n, S, D, rfl, by omega, HKN.out, HSP.out, HM5.out, (HC5.out.sub (by simp)).mono (by omega)⟩
set_option maxHeartbeats 4000000 in
set_option maxRecDepth 100000 in
theorem rk_open {w w4 : World} {a0l a0c pa pb q0 q mb ab off mm c s b r l f b9 b13 M0 n : Nat} {x0 : Int} {td : ByteArray} {S : Nat → Sd} {D : DataW Unit} {u2 u15 u16 u17 u18 u19 u20 u21 u22 u23 u24 u25 u26 u47 u48 u49 u50 u51 u52 u53 u54 u55 u56 u57 u58 u59 u60 u61 u62 u63 u64 u65 u77 u78 u79 u80 u81 u82 u83 u84 u85 u86 u87 u88 u89 u90 u91 u92 u93 u94 u95 u96 u97 u98 u99 u100 u101 u102 u103 u104 u105 u106 u107 u108 u109 u110 u111 u112 u113 u114 u115 u116 u117 u118 u119 u120 u121 u122 u123 u124 u125 u126 u127 u128 u129 u130 u131 u132 u133 u134 u135 u136 u137 u138 u139 u140 u141 u142 u143 u144 u145 u146 u147 u148 u149 u150 u151 u152 u153 u154 u155 u156 u157 u158 u159 u160 u161 u162 u163 u164 u165 u166 u167 u168 u169 u170 u171 u172 u173 u174 u175 u176 u177 u178 u179 u180 u181 u182 u183 u184 u185 u186 u187 u188 u189 u190 u191 u192 u193 u194 u195 u196 u197 u198 u199 u200 u201 u202 u203 u204 : Value} {J K' : Act → World → Prop} {Q0 : Exit → Act → World → Prop} 
    (HKN : Hid (Kn S D)) (HSP : Hid (∀ t, t < 2 → Spare (S t))) (HTS : Hid (td.size = 128)) (hs2 : s < 2) (hb12 : b < 12) (hn : n ≤ c) (hlt : c < mm) (hm40 : mm ≤ 40) (HL : Hid (l = (S s).m.length)) (HF : Hid (f = 4 - l)) (hg4 : l ≤ 4) (HC : Hid (CP w [b13, b9, mb] q (pdOf pa pb) S (4 + 4 * c) w4)) (HM : Hid (w4.ownsMap Tryz.prog 32 (plainElem (H := Unit) Tryz.prog 9) mb n D)) (H13 : Hid (Has w4 b13 32 [.int .i64 s, .int .i64 b]))
    (hMetJ : ∀ (a' : Act) (w' : World), (∃ u2 u5 u15 u16 u17 u18 u19 u20 u21 u22 u47 u48 u49 u50 u51 u52 u53 u54 u55 u56 u57 u58 u59 u60 u61 u62 u63 u64 u65 u66 u67 u68 u69 u70 u71 u72 u73 u74 u75 u77 u78 u79 u80 u81 u82 u83 u84 u85 u86 u87 u88 u89 u90 u91 u92 u93 u94 u95 u96 u97 u98 u99 u100 u101 u102 u103 u104 u105 u106 u107 u108 u109 u110 u111 u112 u113 u114 u115 u116 u117 u118 u119 u120 u121 u122 u123 u124 u125 u126 u127 u128 u129 u130 u131 u132 u133 u134 u135 u136 u137 u138 u139 u140 u141 u142 u143 u144 u145 u146 u147 u148 u149 u150 u151 u152 u153 u154 u155 u156 u157 u158 u159 u160 u161 u162 u163 u164 u165 u166 u167 u168 u169 u170 u171 u172 u173 u174 u175 u176 u177 u178 u179 u180 u181 u183 u184 u185 u186 u187 u188 u189 u190 u191 u192 u193 u194 u195 u196 u197 u198 u199 u200 u201 u202 u203 u204, (∃ (q' n' : Nat) (S' : Nat → Sd) (D' : DataW Unit), u5 = .pointer (some ⟨q', 0, none⟩) ∧ n' ≤ c + 1 ∧ Kn S' D' ∧ (∀ t, t < 2 → Spare (S' t)) ∧ w'.ownsMap Tryz.prog 32 (plainElem (H := Unit) Tryz.prog 9) mb n' D' ∧ CP w [mb] q' (pdOf pa pb) S' (4 + 4 * (c + 1)) w') ∧ a' = ⟨#[Value.slice (some ⟨ab, off, none⟩) a0l a0c, undef, u2, Value.pointer (some ⟨pa, 0, none⟩), Value.pointer (some ⟨pb, 0, none⟩), u5, Value.bool true, Value.map (some mb), undef, Value.pointer (some ⟨b9, 0, none⟩), Value.int IntKind.i64 ((s : Nat) : Int), Value.int IntKind.i64 ((b : Nat) : Int), Value.string td, Value.pointer (some ⟨b13, 0, none⟩), Value.int IntKind.i64 ((f : Nat) : Int), u15, u16, u17, u18, u19, u20, u21, u22, u23, u24, u25, u26, Value.tuple #[Value.pointer (some ⟨pa, 0, none⟩), Value.pointer (some ⟨pb, 0, none⟩), Value.pointer (some ⟨q0, 0, none⟩), Value.bool true], Value.tuple #[Value.pointer (some ⟨pa, 0, none⟩), Value.pointer (some ⟨pb, 0, none⟩), Value.pointer (some ⟨q0, 0, none⟩), Value.bool true], Value.pointer (some ⟨pa, 0, none⟩), Value.pointer (some ⟨pb, 0, none⟩), Value.pointer (some ⟨q0, 0, none⟩), Value.bool true, Value.bool true, Value.bool false, Value.bool false, Value.bool true, Value.bool false, Value.bool false, Value.map (some mb), Value.slice (some ⟨ab, off, none⟩) a0l a0c, Value.slice (some ⟨ab, off, none⟩) a0l a0c, Value.int IntKind.i64 ((a0l : Nat) : Int), Value.int IntKind.i64 ((mm : Nat) : Int), Value.slice (some ⟨ab, off, none⟩) mm a0c, Value.int IntKind.i64 ((mm : Nat) : Int), Value.int IntKind.i64 ((c : Nat) : Int), u47, u48, u49, u50, u51, u52, u53, u54, u55, u56, u57, u58, u59, u60, u61, u62, u63, u64, u65, u66, u67, u68, u69, u70, u71, u72, u73, u74, u75, Value.int IntKind.i64 7, u77, u78, u79, u80, u81, u82, u83, u84, u85, u86, u87, u88, u89, u90, u91, u92, u93, u94, u95, u96, u97, u98, u99, u100, u101, u102, u103, u104, u105, u106, u107, u108, u109, u110, u111, u112, u113, u114, u115, u116, u117, u118, u119, u120, u121, u122, u123, u124, u125, u126, u127, u128, u129, u130, u131, u132, u133, u134, u135, u136, u137, u138, u139, u140, u141, u142, u143, u144, u145, u146, u147, u148, u149, u150, u151, u152, u153, u154, u155, u156, u157, u158, u159, u160, u161, u162, u163, u164, u165, u166, u167, u168, u169, u170, u171, u172, u173, u174, u175, u176, u177, u178, u179, u180, u181, u182, u183, u184, u185, u186, u187, u188, u189, u190, u191, u192, u193, u194, u195, u196, u197, u198, u199, u200, u201, u202, u203, u204], []⟩) → J a' w')
    (hMetK : ∀ (a' : Act) (w' : World), Met J a' w' → K' a' w') :
    Code.wp Tryz.prog rk_Switch (Exit.then K' Q0) ⟨#[Value.slice (some ⟨ab, off, none⟩) a0l a0c, undef, u2, Value.pointer (some ⟨pa, 0, none⟩), Value.pointer (some ⟨pb, 0, none⟩), Value.pointer (some ⟨q, 0, none⟩), Value.bool true, Value.map (some mb), undef, Value.pointer (some ⟨b9, 0, none⟩), Value.int IntKind.i64 ((s : Nat) : Int), Value.int IntKind.i64 ((b : Nat) : Int), Value.string td, Value.pointer (some ⟨b13, 0, none⟩), Value.int IntKind.i64 ((f : Nat) : Int), u15, u16, u17, u18, u19, u20, u21, u22, u23, u24, u25, u26, Value.tuple #[Value.pointer (some ⟨pa, 0, none⟩), Value.pointer (some ⟨pb, 0, none⟩), Value.pointer (some ⟨q0, 0, none⟩), Value.bool true], Value.tuple #[Value.pointer (some ⟨pa, 0, none⟩), Value.pointer (some ⟨pb, 0, none⟩), Value.pointer (some ⟨q0, 0, none⟩), Value.bool true], Value.pointer (some ⟨pa, 0, none⟩), Value.pointer (some ⟨pb, 0, none⟩), Value.pointer (some ⟨q0, 0, none⟩), Value.bool true, Value.bool true, Value.bool false, Value.bool false, Value.bool true, Value.bool false, Value.bool false, Value.map (some mb), Value.slice (some ⟨ab, off, none⟩) a0l a0c, Value.slice (some ⟨ab, off, none⟩) a0l a0c, Value.int IntKind.i64 ((a0l : Nat) : Int), Value.int IntKind.i64 ((mm : Nat) : Int), Value.slice (some ⟨ab, off, none⟩) mm a0c, Value.int IntKind.i64 ((mm : Nat) : Int), Value.int IntKind.i64 ((c : Nat) : Int), u47, u48, u49, u50, u51, u52, u53, u54, u55, u56, u57, u58, u59, u60, u61, u62, u63, u64, u65, Value.int IntKind.i64 ((s : Nat) : Int), Value.int IntKind.i64 ((b : Nat) : Int), Value.agg #[Value.int IntKind.i64 ((s : Nat) : Int), Value.int IntKind.i64 ((b : Nat) : Int)], Value.pointer (some ⟨q, 0, none⟩), Value.int IntKind.i64 ((s : Nat) : Int), Value.agg (Tab.ta 12 4 (S s).m), Value.int IntKind.i64 ((f : Nat) : Int), Value.pointer (some ⟨b9, 0, none⟩), Value.int IntKind.i64 x0, Value.int IntKind.i64 ((M0 : Nat) : Int), Value.int IntKind.i64 7, u77, u78, u79, u80, u81, u82, u83, u84, u85, u86, u87, u88, u89, u90, u91, u92, u93, u94, u95, u96, u97, u98, u99, u100, u101, u102, u103, u104, u105, u106, u107, u108, u109, u110, u111, u112, u113, u114, u115, u116, u117, u118, u119, u120, u121, u122, u123, u124, u125, u126, u127, u128, u129, u130, u131, u132, u133, u134, u135, u136, u137, u138, u139, u140, u141, u142, u143, u144, u145, u146, u147, u148, u149, u150, u151, u152, u153, u154, u155, u156, u157, u158, u159, u160, u161, u162, u163, u164, u165, u166, u167, u168, u169, u170, u171, u172, u173, u174, u175, u176, u177, u178, u179, u180, u181, u182, u183, u184, u185, u186, u187, u188, u189, u190, u191, u192, u193, u194, u195, u196, u197, u198, u199, u200, u201, u202, u203, u204], []⟩ w4 := by
  conv => arg 2; whnf
  have HG := Lib.hid (show ∀ t, t < 2 → Tab.Good 12 4 (S t).m from fun t ht => HC.out.good ht)
  go_wp2_with fail
  refine (open_c HC.out (by omega)).mono ?_
  rintro e w5 ⟨q1, X1, rfl, hcp, hpb, hsm⟩
  have HC5 := Lib.hid hcp
  have HP5 := Lib.hid hpb
  have HM5 := Lib.hid (owns_map_keep HM.out hsm (by simp))
  clear hcp hpb hsm HC HM H13
  go_wp2_with fail
  refine (table_c HC5.out (s := 0) (by decide)).mono ?_
  rintro e w6 ⟨rfl, hb⟩
  have HC6 := Lib.hid (HC5.out.later hb)
  have HP6 := Lib.hid (HP5.out.later hb)
  have HM6 := Lib.hid (Tab.owns_map_on HM5.out hb)
  clear hb HC5 HM5 HP5
  go_wp2_with fail
  refine (Tab.text_any 12 4 (S 0).m _ (HG.out 0 (by decide))).mono ?_
  rintro e w7 ⟨rfl, hb⟩
  have HC7 := Lib.hid (HC6.out.later hb)
  have HP7 := Lib.hid (HP6.out.later hb)
  have HM7 := Lib.hid (Tab.owns_map_on HM6.out hb)
  clear hb HC6 HM6 HP6
  go_wp2_with fail
  refine (table_p HP7.out (s := 0) (by decide)).mono ?_
  rintro e w8 ⟨rfl, hb⟩
  have HC8 := Lib.hid (HC7.out.later hb)
  have HP8 := Lib.hid (HP7.out.later hb)
  have HM8 := Lib.hid (Tab.owns_map_on HM7.out hb)
  clear hb HC7 HM7 HP7
  go_wp2_with fail
  refine (Tab.text_any 12 4 (S 0).m _ (HG.out 0 (by decide))).mono ?_
  rintro e w9 ⟨rfl, hb⟩
  have HC9 := Lib.hid (HC8.out.later hb)
  have HP9 := Lib.hid (HP8.out.later hb)
  have HM9 := Lib.hid (Tab.owns_map_on HM8.out hb)
  clear hb HC8 HM8 HP8
  go_wp2_with fail
  refine (table_c HC9.out (s := 1) (by decide)).mono ?_
  rintro e w10 ⟨rfl, hb⟩
  have HC10 := Lib.hid (HC9.out.later hb)
  have HP10 := Lib.hid (HP9.out.later hb)
  have HM10 := Lib.hid (Tab.owns_map_on HM9.out hb)
  clear hb HC9 HM9 HP9
  go_wp2_with fail
  refine (Tab.text_any 12 4 (S 1).m _ (HG.out 1 (by decide))).mono ?_
  rintro e w11 ⟨rfl, hb⟩
  have HC11 := Lib.hid (HC10.out.later hb)
  have HP11 := Lib.hid (HP10.out.later hb)
  have HM11 := Lib.hid (Tab.owns_map_on HM10.out hb)
  clear hb HC10 HM10 HP10
  go_wp2_with fail
  refine (table_p HP11.out (s := 1) (by decide)).mono ?_
  rintro e w12 ⟨rfl, hb⟩
  have HC12 := Lib.hid (HC11.out.later hb)
  have HP12 := Lib.hid (HP11.out.later hb)
  have HM12 := Lib.hid (Tab.owns_map_on HM11.out hb)
  clear hb HC11 HM11 HP11
  go_wp2_with fail
  refine (Tab.text_any 12 4 (S 1).m _ (HG.out 1 (by decide))).mono ?_
  rintro e w13 ⟨rfl, hb⟩
  have HC13 := Lib.hid (HC12.out.later hb)
  have HP13 := Lib.hid (HP12.out.later hb)
  have HM13 := Lib.hid (Tab.owns_map_on HM12.out hb)
  clear hb HC12 HM12 HP12
  go_wp2_with fail
  go_meet
  exact ⟨q1, n, S, D, rfl, by omega, HKN.out, HSP.out, HM13.out, (HC13.out.sub (by simp)).mono (by omega)⟩
set_option maxHeartbeats 4000000 in
set_option maxRecDepth 100000 in
theorem rk_write {w w4 : World} {a0l a0c pa pb q0 q mb ab off mm c s b r l f b9 b13 M0 n : Nat} {x0 : Int} {td : ByteArray} {S : Nat → Sd} {D : DataW Unit} {u2 u15 u16 u17 u18 u19 u20 u21 u22 u23 u24 u25 u26 u47 u48 u49 u50 u51 u52 u53 u54 u55 u56 u57 u58 u59 u60 u61 u62 u63 u64 u65 u77 u78 u79 u80 u81 u82 u83 u84 u85 u86 u87 u88 u89 u90 u91 u92 u93 u94 u95 u96 u97 u98 u99 u100 u101 u102 u103 u104 u105 u106 u107 u108 u109 u110 u111 u112 u113 u114 u115 u116 u117 u118 u119 u120 u121 u122 u123 u124 u125 u126 u127 u128 u129 u130 u131 u132 u133 u134 u135 u136 u137 u138 u139 u140 u141 u142 u143 u144 u145 u146 u147 u148 u149 u150 u151 u152 u153 u154 u155 u156 u157 u158 u159 u160 u161 u162 u163 u164 u165 u166 u167 u168 u169 u170 u171 u172 u173 u174 u175 u176 u177 u178 u179 u180 u181 u182 u183 u184 u185 u186 u187 u188 u189 u190 u191 u192 u193 u194 u195 u196 u197 u198 u199 u200 u201 u202 u203 u204 : Value} {J K' : Act → World → Prop} {Q0 : Exit → Act → World → Prop} (hr4 : (r : Int) ≠ 4) (hr5 : (r : Int) ≠ 5) (hr6 : (r : Int) ≠ 6) (hr7 : (r : Int) ≠ 7)
    (HKN : Hid (Kn S D)) (HSP : Hid (∀ t, t < 2 → Spare (S t))) (HTS : Hid (td.size = 128)) (hs2 : s < 2) (hb12 : b < 12) (hn : n ≤ c) (hlt : c < mm) (hm40 : mm ≤ 40) (HL : Hid (l = (S s).m.length)) (HF : Hid (f = 4 - l)) (hg4 : l ≤ 4) (HC : Hid (CP w [b13, b9, mb] q (pdOf pa pb) S (4 + 4 * c) w4)) (HM : Hid (w4.ownsMap Tryz.prog 32 (plainElem (H := Unit) Tryz.prog 9) mb n D)) (H13 : Hid (Has w4 b13 32 [.int .i64 s, .int .i64 b]))
    (hMetJ : ∀ (a' : Act) (w' : World), (∃ u2 u5 u15 u16 u17 u18 u19 u20 u21 u22 u47 u48 u49 u50 u51 u52 u53 u54 u55 u56 u57 u58 u59 u60 u61 u62 u63 u64 u65 u66 u67 u68 u69 u70 u71 u72 u73 u74 u75 u77 u78 u79 u80 u81 u82 u83 u84 u85 u86 u87 u88 u89 u90 u91 u92 u93 u94 u95 u96 u97 u98 u99 u100 u101 u102 u103 u104 u105 u106 u107 u108 u109 u110 u111 u112 u113 u114 u115 u116 u117 u118 u119 u120 u121 u122 u123 u124 u125 u126 u127 u128 u129 u130 u131 u132 u133 u134 u135 u136 u137 u138 u139 u140 u141 u142 u143 u144 u145 u146 u147 u148 u149 u150 u151 u152 u153 u154 u155 u156 u157 u158 u159 u160 u161 u162 u163 u164 u165 u166 u167 u168 u169 u170 u171 u172 u173 u174 u175 u176 u177 u178 u179 u180 u181 u183 u184 u185 u186 u187 u188 u189 u190 u191 u192 u193 u194 u195 u196 u197 u198 u199 u200 u201 u202 u203 u204, (∃ (q' n' : Nat) (S' : Nat → Sd) (D' : DataW Unit), u5 = .pointer (some ⟨q', 0, none⟩) ∧ n' ≤ c + 1 ∧ Kn S' D' ∧ (∀ t, t < 2 → Spare (S' t)) ∧ w'.ownsMap Tryz.prog 32 (plainElem (H := Unit) Tryz.prog 9) mb n' D' ∧ CP w [mb] q' (pdOf pa pb) S' (4 + 4 * (c + 1)) w') ∧ a' = ⟨#[Value.slice (some ⟨ab, off, none⟩) a0l a0c, undef, u2, Value.pointer (some ⟨pa, 0, none⟩), Value.pointer (some ⟨pb, 0, none⟩), u5, Value.bool true, Value.map (some mb), undef, Value.pointer (some ⟨b9, 0, none⟩), Value.int IntKind.i64 ((s : Nat) : Int), Value.int IntKind.i64 ((b : Nat) : Int), Value.string td, Value.pointer (some ⟨b13, 0, none⟩), Value.int IntKind.i64 ((f : Nat) : Int), u15, u16, u17, u18, u19, u20, u21, u22, u23, u24, u25, u26, Value.tuple #[Value.pointer (some ⟨pa, 0, none⟩), Value.pointer (some ⟨pb, 0, none⟩), Value.pointer (some ⟨q0, 0, none⟩), Value.bool true], Value.tuple #[Value.pointer (some ⟨pa, 0, none⟩), Value.pointer (some ⟨pb, 0, none⟩), Value.pointer (some ⟨q0, 0, none⟩), Value.bool true], Value.pointer (some ⟨pa, 0, none⟩), Value.pointer (some ⟨pb, 0, none⟩), Value.pointer (some ⟨q0, 0, none⟩), Value.bool true, Value.bool true, Value.bool false, Value.bool false, Value.bool true, Value.bool false, Value.bool false, Value.map (some mb), Value.slice (some ⟨ab, off, none⟩) a0l a0c, Value.slice (some ⟨ab, off, none⟩) a0l a0c, Value.int IntKind.i64 ((a0l : Nat) : Int), Value.int IntKind.i64 ((mm : Nat) : Int), Value.slice (some ⟨ab, off, none⟩) mm a0c, Value.int IntKind.i64 ((mm : Nat) : Int), Value.int IntKind.i64 ((c : Nat) : Int), u47, u48, u49, u50, u51, u52, u53, u54, u55, u56, u57, u58, u59, u60, u61, u62, u63, u64, u65, u66, u67, u68, u69, u70, u71, u72, u73, u74, u75, Value.int IntKind.i64 ((r : Nat) : Int), u77, u78, u79, u80, u81, u82, u83, u84, u85, u86, u87, u88, u89, u90, u91, u92, u93, u94, u95, u96, u97, u98, u99, u100, u101, u102, u103, u104, u105, u106, u107, u108, u109, u110, u111, u112, u113, u114, u115, u116, u117, u118, u119, u120, u121, u122, u123, u124, u125, u126, u127, u128, u129, u130, u131, u132, u133, u134, u135, u136, u137, u138, u139, u140, u141, u142, u143, u144, u145, u146, u147, u148, u149, u150, u151, u152, u153, u154, u155, u156, u157, u158, u159, u160, u161, u162, u163, u164, u165, u166, u167, u168, u169, u170, u171, u172, u173, u174, u175, u176, u177, u178, u179, u180, u181, u182, u183, u184, u185, u186, u187, u188, u189, u190, u191, u192, u193, u194, u195, u196, u197, u198, u199, u200, u201, u202, u203, u204], []⟩) → J a' w')
    (hMetK : ∀ (a' : Act) (w' : World), Met J a' w' → K' a' w') :
    Code.wp Tryz.prog rk_Switch (Exit.then K' Q0) ⟨#[Value.slice (some ⟨ab, off, none⟩) a0l a0c, undef, u2, Value.pointer (some ⟨pa, 0, none⟩), Value.pointer (some ⟨pb, 0, none⟩), Value.pointer (some ⟨q, 0, none⟩), Value.bool true, Value.map (some mb), undef, Value.pointer (some ⟨b9, 0, none⟩), Value.int IntKind.i64 ((s : Nat) : Int), Value.int IntKind.i64 ((b : Nat) : Int), Value.string td, Value.pointer (some ⟨b13, 0, none⟩), Value.int IntKind.i64 ((f : Nat) : Int), u15, u16, u17, u18, u19, u20, u21, u22, u23, u24, u25, u26, Value.tuple #[Value.pointer (some ⟨pa, 0, none⟩), Value.pointer (some ⟨pb, 0, none⟩), Value.pointer (some ⟨q0, 0, none⟩), Value.bool true], Value.tuple #[Value.pointer (some ⟨pa, 0, none⟩), Value.pointer (some ⟨pb, 0, none⟩), Value.pointer (some ⟨q0, 0, none⟩), Value.bool true], Value.pointer (some ⟨pa, 0, none⟩), Value.pointer (some ⟨pb, 0, none⟩), Value.pointer (some ⟨q0, 0, none⟩), Value.bool true, Value.bool true, Value.bool false, Value.bool false, Value.bool true, Value.bool false, Value.bool false, Value.map (some mb), Value.slice (some ⟨ab, off, none⟩) a0l a0c, Value.slice (some ⟨ab, off, none⟩) a0l a0c, Value.int IntKind.i64 ((a0l : Nat) : Int), Value.int IntKind.i64 ((mm : Nat) : Int), Value.slice (some ⟨ab, off, none⟩) mm a0c, Value.int IntKind.i64 ((mm : Nat) : Int), Value.int IntKind.i64 ((c : Nat) : Int), u47, u48, u49, u50, u51, u52, u53, u54, u55, u56, u57, u58, u59, u60, u61, u62, u63, u64, u65, Value.int IntKind.i64 ((s : Nat) : Int), Value.int IntKind.i64 ((b : Nat) : Int), Value.agg #[Value.int IntKind.i64 ((s : Nat) : Int), Value.int IntKind.i64 ((b : Nat) : Int)], Value.pointer (some ⟨q, 0, none⟩), Value.int IntKind.i64 ((s : Nat) : Int), Value.agg (Tab.ta 12 4 (S s).m), Value.int IntKind.i64 ((f : Nat) : Int), Value.pointer (some ⟨b9, 0, none⟩), Value.int IntKind.i64 x0, Value.int IntKind.i64 ((M0 : Nat) : Int), Value.int IntKind.i64 ((r : Nat) : Int), u77, u78, u79, u80, u81, u82, u83, u84, u85, u86, u87, u88, u89, u90, u91, u92, u93, u94, u95, u96, u97, u98, u99, u100, u101, u102, u103, u104, u105, u106, u107, u108, u109, u110, u111, u112, u113, u114, u115, u116, u117, u118, u119, u120, u121, u122, u123, u124, u125, u126, u127, u128, u129, u130, u131, u132, u133, u134, u135, u136, u137, u138, u139, u140, u141, u142, u143, u144, u145, u146, u147, u148, u149, u150, u151, u152, u153, u154, u155, u156, u157, u158, u159, u160, u161, u162, u163, u164, u165, u166, u167, u168, u169, u170, u171, u172, u173, u174, u175, u176, u177, u178, u179, u180, u181, u182, u183, u184, u185, u186, u187, u188, u189, u190, u191, u192, u193, u194, u195, u196, u197, u198, u199, u200, u201, u202, u203, u204], []⟩ w4 := by
  conv => arg 2; whnf
  have HG := Lib.hid (show ∀ t, t < 2 → Tab.Good 12 4 (S t).m from fun t ht => HC.out.good ht)
  go_wp2_with fail
  refine (write_c HC.out hs2 hb12 HTS.out (by omega) (HSP.out s hs2)).mono ?_
  rintro e w5 ⟨S1, rfl, hw, hcp, hsm⟩
  have HW := Lib.hid hw
  have HC5 := Lib.hid hcp
  have HM5 := Lib.hid (owns_map_keep HM.out hsm (by simp))
  have HG1 := Lib.hid (show ∀ t, t < 2 → Tab.Good 12 4 (S1 t).m from fun t ht => hcp.good ht)
  have h13 := Has.keep H13.out hsm (by simp)
  have d0 := h13.cell 0
  have d1 := h13.cell 1
  simp only [List.getElem?_cons_zero, List.getElem?_cons_succ] at d0 d1
  clear hw hcp hsm HC HM H13 h13
  by_cases hE : wrE (S s) b = 0
  · rw [hE]
    have HNEW := Lib.hid (And.intro (HKN.out.wrote HW.out hs2 hb12 HG.out HG1.out hE (HSP.out s hs2)) (HW.out.spare hs2 HSP.out))
    have HNL := Lib.hid (show n < maxLen by unfold maxLen; omega)
    have HTM := Lib.hid (show td.size ≤ maxLen by unfold maxLen; rw [HTS.out]; omega)
    clear hE
    go_wp2_with (at_mapUpdate; refine wpList_mapUpdate_own _ rfl _ _ _ 28 rfl 32 9 keyed2 Tryz.underlying28 (plainElem (H := Unit) Tryz.prog 9) mb n D rfl HM5.out HNL.out _ _ (kl s b) rfl rfl (key2 hs2 hb12) (.lit (.string td.data.toList)) [] (plainElem_str td HTM.out) ?_)
    intro w6 hown hgrow
    have HC6 := Lib.hid (CP.map HC5.out (by simp) hgrow)
    have HM6 := Lib.hid hown
    clear hown hgrow
    go_wp2_with fail
    go_meet
    exact ⟨q, n + 1, S1, _, rfl, by omega, HNEW.out.1, HNEW.out.2, HM6.out, (HC6.out.sub (by simp)).mono (by omega)⟩
  · have h9 : wrE (S s) b = 9 := by
      unfold wrE at hE ⊢
      split
      · rfl
      · rename_i h; rw [if_neg h] at hE; exact absurd rfl hE
    have hl4 : 4 ≤ (S s).m.length := by
      unfold wrE at hE
      by_cases h : (S s).B (pl (S s) b) = true ∧ 4 ≤ (S s).m.length
      · exact h.2
      · rw [if_neg h] at hE; exact absurd rfl hE
    have hm1 : (S1 s).m = (S s).m := by rw [HW.out.m, if_neg (by omega)]
    have HL1 := Lib.hid (show (S1 s).m.length = 4 by rw [hm1]; have := HL.out; omega)
    have HNEW := Lib.hid (And.intro (HKN.out.refused HW.out hs2 hb12 HG.out hE) (HW.out.spare hs2 HSP.out))
    rw [h9]
    clear hE h9 hl4 hm1 HL
    go_wp2_with fail
    refine (table_c HC5.out hs2).mono ?_
    rintro e w6 ⟨rfl, hb⟩
    have HC6 := Lib.hid (HC5.out.later hb)
    have HM6 := Lib.hid (Tab.owns_map_on HM5.out hb)
    clear hb HC5 HM5
    go_wp2_with fail
    refine (Tab.left_any 12 4 (S1 s).m _ (by decide) (by decide) (by rw [HL1.out]; decide)).mono ?_
    rintro e w7 ⟨rfl, hb⟩
    rw [HL1.out]
    have HC7 := Lib.hid (HC6.out.later hb)
    have HM7 := Lib.hid (Tab.owns_map_on HM6.out hb)
    clear hb HC6 HM6
    go_wp2_with fail
    go_meet
    exact ⟨q, n, S1, D, rfl, by omega, HNEW.out.1, HNEW.out.2, HM7.out, (HC7.out.sub (by simp)).mono (by omega)⟩
end Go.Proofs.YtpdickpipdaphaaGreatDoor.Rem

/- A slice of structs that came in, opened into its elements' cells. -/
namespace Go.Proofs.YtpdickpipdaphaaGreatDoor
open Go.ChangeShapes Go.WideShapes Go.RowKit Go.Deep
theorem open_structs {H : Type} {enc : TypeId × Value → H} {P : Program} {w : World} {held : Bool} {t e : TypeId} {fs : Array Field} {c : Value}
    (ht : P.underlying t = some (.slice e)) (he : P.underlying e = some (.struct fs)) (hone : oneCellFields P fs = true) (hC : P.cellsOf e = fs.size) (hpos : 0 < fs.size)
    (h : ∃ m y, DataW.trod enc P w 0 (fun _ => true) held m t [c] = some y) :
    ∃ a len cap, c = .slice a len cap ∧ len ≤ cap ∧ cap ≤ maxLen ∧ (0 < len → ∃ b off, a = some ⟨b, off, none⟩ ∧ ∀ i, i < len → ∀ (j : Nat) (f : Field), fs[j]? = some f →
      ∃ v, w.cell? ⟨b, off + (i * fs.size + j), none⟩ = some v ∧ ∃ m y, DataW.trod enc P w 0 (fun _ => true) held m f.type [v] = some y) := by
  obtain ⟨m, y, h⟩ := h
  rcases open_slice ht h with ⟨hcs, _⟩ | ⟨a, len, cap, m', n, D, Pl, hcs, _, hl, hm, hmm, _, hel⟩
  · simp at hcs
    exact ⟨none, 0, 0, hcs, Nat.le_refl _, by unfold maxLen; omega, fun h => absurd h (by decide)⟩
  · simp at hcs
    refine ⟨some a, len, cap, hcs, hl, hm, fun hlen => ?_⟩
    have hm' : m' = cap := by simpa using hmm
    have key : ∀ i, i < len → ∀ (j : Nat) (f : Field), fs[j]? = some f → ∃ v, w.cell? (a.add (i * fs.size + j)) = some v ∧ ∃ m y, DataW.trod enc P w 0 (fun _ => true) held m f.type [v] = some y := by
      intro i hi j f hj
      obtain ⟨cs, hcells, htr⟩ := hel i (by omega)
      rw [hC] at hcells
      obtain ⟨ys, k, _, _, _, hys, hg⟩ := DataW.trod_struct he htr
      obtain ⟨_, hcl, hat⟩ := World.cells?_some hcells
      obtain ⟨ho, hk⟩ := hone_of hone j f hj
      have hjl : j < fs.size := (Array.getElem?_eq_some_iff.1 hj).1
      have h1 := hg j f hj
      rw [ho, hk] at h1
      have hv : cs[j]? = some (cs[j]'(by omega)) := List.getElem?_eq_getElem (by omega)
      rw [show (cs.drop j).take 1 = [cs[j]'(by omega)] by rw [List.drop_eq_getElem_cons (by omega)]; rfl] at h1
      refine ⟨cs[j]'(by omega), ?_, k, _, h1.trans (List.getElem?_eq_getElem (show j < ys.length by omega))⟩
      have := hat j (by omega)
      rw [Go.Deep.add_add] at this
      rw [this, hv]
    obtain ⟨b, off, spot⟩ := a
    obtain ⟨v0, hv0, _⟩ := key 0 hlen 0 _ (Array.getElem?_eq_getElem hpos)
    have hs : spot = none := by simpa [Addr.add] using World.cell?_spot hv0
    subst hs
    refine ⟨b, off, rfl, fun i hi j f hj => ?_⟩
    obtain ⟨v, hv, hx⟩ := key i hi j f hj
    rw [Addr.add_lit] at hv
    exact ⟨v, hv, hx⟩
theorem open_bool_cell {H : Type} {enc : TypeId × Value → H} {P : Program} {w : World} {base : Nat} {sp : Nat → Bool} {held : Bool} {e : TypeId} {c : Value} (he : P.underlying e = some .bool) (h : ∃ m y, DataW.trod enc P w base sp held m e [c] = some y) : ∃ b : Bool, c = .bool b := by
  obtain ⟨m, y, h⟩ := h
  obtain ⟨b, hb, _⟩ := DataW.trod_bool he h
  exact ⟨b, by simpa using hb⟩
end Go.Proofs.YtpdickpipdaphaaGreatDoor

