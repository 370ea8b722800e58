/- SpacePlays: the switch of its round, taken out of the law's code, and its arms. -/
import Derived.Test.YtkflccecdjfkiaaDoorSpW
import Derived.Test.YtkflccecdjfkiaaDoorRegionV
import Derived.Deep.CutBlock
import Derived.Deep.DeepCutAuto
import Derived.BigQuiet
import Derived.Deep.QuietTactic
namespace Go.Proofs.YtkflccecdjfkiaaDoor.Spc
open Go Go.RowKit Go.Proofs.YtkflccecdjfkiaaDoor Go.Proofs.YtkflccecdjfkiaaDoor.Bit
set_option linter.unusedVariables false

/-- The first block of a number in a code. -/
def blockOf (n : Nat) : Code → Option Code
  | .block k c => match Nat.beq k n with
    | true => some (.block k c)
    | false => blockOf n c
  | .loop c => blockOf n c
  | .scope c => blockOf n c
  | .seq a b => match blockOf n a with
    | some c => some c
    | none => blockOf n b
  | .cond _ a b => match blockOf n a with
    | some c => some c
    | none => blockOf n b
  | _ => none
noncomputable def spSwitch : Code := ((Tryd.f3.body.bind (blockOf 2)).getD .skip)
set_option maxHeartbeats 4000000 in
set_option maxRecDepth 100000 in
theorem sp_arm0 {w W7 : World} {n f l p q X zb zo a2l a2c mm c x0 x1 : Nat} {S : Sp} {a0x0 a0x1 a1x0 a1x1 d0 d1 M : Int} {u6 u7 u8 u18 u19 u20 u21 u22 u23 u24 u25 u26 u27 u28 u29 u30 u31 u32 u33 u34 u35 u36 u37 u38 u39 u40 u41 u42 u43 u44 u45 u46 u47 u48 u49 u50 u51 u52 u53 u54 u55 u56 u57 u58 u59 u60 u61 u62 u63 u64 u65 u66 u67 u68 u69 u70 u71 u72 u73 u74 u75 u76 u77 u113 u114 u115 u116 u117 u118 u119 u120 u121 u122 u123 u124 u125 u126 u127 u128 u129 u130 u131 u132 u133 u134 u135 u136 u137 u138 u139 u140 u141 u142 u143 u144 u145 u146 u147 u148 u149 u150 u151 u152 u153 u154 u155 u156 u157 u158 u159 u160 u161 u162 u163 u164 u165 u166 u167 u168 u169 u170 u171 u172 u173 u174 u175 u176 u177 u178 u179 u180 u181 u182 u183 u184 u185 u186 u187 u188 u189 u190 u191 u192 u193 u194 u195 u196 u197 u198 u199 u200 u201 u202 u203 u204 u205 u206 u207 u208 u209 u210 u211 u212 u213 u214 u215 u216 u217 u218 u219 u220 u221 u222 u223 u224 u225 u226 u227 u228 u229 u230 u231 u232 u233 u234 u235 u236 u237 : Value} {J K' : Act → World → Prop} {Q0 : Exit → Act → World → Prop}
    (HD : Hid (Duo w p q X 35 [.int .i64 d0, .int .i64 d1] S S W7)) (HSN : Hid (S.used.length = n))
    (hMetJ : ∀ (a' : Act) (w' : World), (∃ u17 u18 u19 u20 u21 u22 u23 u24 u25 u106 u107 u108 u109 u110 u111 u113 u114 u115 u116 u117 u118 u119 u120 u121 u122 u123 u124 u125 u126 u127 u128 u129 u130 u131 u132 u133 u134 u135 u136 u137 u138 u139 u140 u141 u142 u143 u144 u145 u146 u147 u148 u149 u150 u151 u152 u153 u154 u155 u156 u157 u158 u159 u160 u161 u162 u163 u164 u165 u166 u167 u168 u169 u170 u171 u172 u173 u174 u175 u176 u177 u178 u179 u180 u181 u182 u183 u184 u185 u186 u187 u188 u189 u190 u194 u195 u196 u197 u198 u199 u200 u201 u202 u203 u204 u205 u206 u207 u208 u209 u210 u211 u212 u213 u214 u215 u216 u217 u218 u219 u220 u221 u222 u223 u224 u225 u226 u227 u228 u229 u230 u231 u232 u233 u234 u235 u236 u237, (u17 = .bool true ∧ ∃ S', S'.used.length = n ∧ Two w p q S' S' w') ∧ a' = ⟨#[Value.agg #[Value.int IntKind.i64 a0x0, Value.int IntKind.i64 a0x1], Value.agg #[Value.int IntKind.u64 a1x0, Value.int IntKind.u64 a1x1], Value.slice (some ⟨zb, zo, none⟩) a2l a2c, Value.pointer (some ⟨x0, 0, none⟩), Value.pointer (some ⟨x1, 0, none⟩), undef, u6, u7, u8, Value.int IntKind.i64 ((n : Nat) : Int), Value.int IntKind.i64 ((f : Nat) : Int), Value.int IntKind.u64 ((l : Nat) : Int), Value.pointer (some ⟨p, 0, none⟩), Value.int IntKind.i64 0, Value.pointer (some ⟨q, 0, none⟩), undef, Value.pointer (some ⟨X, 0, none⟩), u17, u18, u19, u20, u21, u22, u23, u24, u25, u26, u27, u28, u29, u30, u31, u32, u33, u34, u35, u36, u37, u38, u39, u40, u41, u42, u43, u44, u45, u46, u47, u48, u49, u50, u51, u52, u53, u54, u55, u56, u57, u58, u59, u60, u61, u62, u63, u64, u65, u66, u67, u68, u69, u70, u71, u72, u73, u74, u75, u76, u77, Value.tuple #[Value.pointer (some ⟨p, 0, none⟩), Value.int IntKind.i64 0], Value.int IntKind.i64 ((n : Nat) : Int), Value.int IntKind.i64 ((f : Nat) : Int), Value.int IntKind.u64 ((l : Nat) : Int), Value.tuple #[Value.pointer (some ⟨p, 0, none⟩), Value.int IntKind.i64 0], Value.pointer (some ⟨p, 0, none⟩), Value.int IntKind.i64 0, Value.int IntKind.i64 ((n : Nat) : Int), Value.int IntKind.i64 ((f : Nat) : Int), Value.int IntKind.u64 ((l : Nat) : Int), Value.pointer (some ⟨q, 0, none⟩), Value.bool true, Value.bool false, Value.bool false, Value.int IntKind.i64 0, Value.bool false, Value.bool false, Value.bool false, Value.pointer (some ⟨p, 0, none⟩), Value.bool false, Value.bool false, Value.slice (some ⟨zb, zo, none⟩) a2l a2c, Value.slice (some ⟨zb, zo, none⟩) a2l a2c, Value.int IntKind.i64 ((a2l : Nat) : Int), Value.int IntKind.i64 ((mm : Nat) : Int), Value.slice (some ⟨zb, zo, none⟩) mm a2c, Value.int IntKind.i64 ((mm : Nat) : Int), Value.int IntKind.i64 ((c : Nat) : Int), u106, u107, u108, u109, u110, u111, Value.int IntKind.i64 0, u113, u114, u115, u116, u117, u118, u119, u120, u121, u122, u123, u124, u125, u126, u127, u128, u129, u130, u131, u132, u133, u134, u135, u136, u137, u138, u139, u140, u141, u142, u143, u144, u145, u146, u147, u148, u149, u150, u151, u152, u153, u154, u155, u156, u157, u158, u159, u160, u161, u162, u163, u164, u165, u166, u167, u168, u169, u170, u171, u172, u173, u174, u175, u176, u177, u178, u179, u180, u181, u182, u183, u184, u185, u186, u187, u188, u189, u190, u191, u192, u193, u194, u195, u196, u197, u198, u199, u200, u201, u202, u203, u204, u205, u206, u207, u208, u209, u210, u211, u212, u213, u214, u215, u216, u217, u218, u219, u220, u221, u222, u223, u224, u225, u226, u227, u228, u229, u230, u231, u232, u233, u234, u235, u236, u237], []⟩) → J a' w')
    (hMetK : ∀ (a' : Act) (w' : World), Met J a' w' → K' a' w') :
    Code.wp Tryd.prog spSwitch (Exit.then K' Q0) ⟨#[Value.agg #[Value.int IntKind.i64 a0x0, Value.int IntKind.i64 a0x1], Value.agg #[Value.int IntKind.u64 a1x0, Value.int IntKind.u64 a1x1], Value.slice (some ⟨zb, zo, none⟩) a2l a2c, Value.pointer (some ⟨x0, 0, none⟩), Value.pointer (some ⟨x1, 0, none⟩), undef, u6, u7, u8, Value.int IntKind.i64 ((n : Nat) : Int), Value.int IntKind.i64 ((f : Nat) : Int), Value.int IntKind.u64 ((l : Nat) : Int), Value.pointer (some ⟨p, 0, none⟩), Value.int IntKind.i64 0, Value.pointer (some ⟨q, 0, none⟩), undef, Value.pointer (some ⟨X, 0, none⟩), Value.bool true, u18, u19, u20, u21, u22, u23, u24, u25, u26, u27, u28, u29, u30, u31, u32, u33, u34, u35, u36, u37, u38, u39, u40, u41, u42, u43, u44, u45, u46, u47, u48, u49, u50, u51, u52, u53, u54, u55, u56, u57, u58, u59, u60, u61, u62, u63, u64, u65, u66, u67, u68, u69, u70, u71, u72, u73, u74, u75, u76, u77, Value.tuple #[Value.pointer (some ⟨p, 0, none⟩), Value.int IntKind.i64 0], Value.int IntKind.i64 ((n : Nat) : Int), Value.int IntKind.i64 ((f : Nat) : Int), Value.int IntKind.u64 ((l : Nat) : Int), Value.tuple #[Value.pointer (some ⟨p, 0, none⟩), Value.int IntKind.i64 0], Value.pointer (some ⟨p, 0, none⟩), Value.int IntKind.i64 0, Value.int IntKind.i64 ((n : Nat) : Int), Value.int IntKind.i64 ((f : Nat) : Int), Value.int IntKind.u64 ((l : Nat) : Int), Value.pointer (some ⟨q, 0, none⟩), Value.bool true, Value.bool false, Value.bool false, Value.int IntKind.i64 0, Value.bool false, Value.bool false, Value.bool false, Value.pointer (some ⟨p, 0, none⟩), Value.bool false, Value.bool false, Value.slice (some ⟨zb, zo, none⟩) a2l a2c, Value.slice (some ⟨zb, zo, none⟩) a2l a2c, Value.int IntKind.i64 ((a2l : Nat) : Int), Value.int IntKind.i64 ((mm : Nat) : Int), Value.slice (some ⟨zb, zo, none⟩) mm a2c, Value.int IntKind.i64 ((mm : Nat) : Int), Value.int IntKind.i64 ((c : Nat) : Int), Value.bool true, Value.pointer (some ⟨zb, zo + c * 2, none⟩), Value.agg #[Value.int IntKind.i64 d0, Value.int IntKind.i64 d1], Value.pointer (some ⟨X, 0, none⟩), Value.int IntKind.i64 d0, Value.int IntKind.i64 M, Value.int IntKind.i64 0, u113, u114, u115, u116, u117, u118, u119, u120, u121, u122, u123, u124, u125, u126, u127, u128, u129, u130, u131, u132, u133, u134, u135, u136, u137, u138, u139, u140, u141, u142, u143, u144, u145, u146, u147, u148, u149, u150, u151, u152, u153, u154, u155, u156, u157, u158, u159, u160, u161, u162, u163, u164, u165, u166, u167, u168, u169, u170, u171, u172, u173, u174, u175, u176, u177, u178, u179, u180, u181, u182, u183, u184, u185, u186, u187, u188, u189, u190, u191, u192, u193, u194, u195, u196, u197, u198, u199, u200, u201, u202, u203, u204, u205, u206, u207, u208, u209, u210, u211, u212, u213, u214, u215, u216, u217, u218, u219, u220, u221, u222, u223, u224, u225, u226, u227, u228, u229, u230, u231, u232, u233, u234, u235, u236, u237], []⟩ W7 := by
  conv => arg 2; whnf
  go_wp2_with fail
  refine (Duo.left HD.out (fun R hT h => take_any _ hT h)).mono ?_
  rintro e w7 ⟨rfl, hd⟩
  have HD1 := Lib.hid hd
  clear hd HD
  go_wp2_with fail
  refine (Duo.right HD1.out (fun bu bt bg_ cu xu h => reftake_any _ h)).mono ?_
  rintro e w8 ⟨rfl, hd⟩
  have HD2 := Lib.hid hd
  clear hd HD1
  go_wp2_with fail
  go_meet
  exact ⟨rfl, _, (len_take S).trans HSN.out, HD2.out.two⟩
set_option maxHeartbeats 4000000 in
set_option maxRecDepth 100000 in
theorem sp_arm1 {w W7 : World} {n f l p q X zb zo a2l a2c mm c x0 x1 : Nat} {S : Sp} {a0x0 a0x1 a1x0 a1x1 d0 d1 M : Int} {u6 u7 u8 u18 u19 u20 u21 u22 u23 u24 u25 u26 u27 u28 u29 u30 u31 u32 u33 u34 u35 u36 u37 u38 u39 u40 u41 u42 u43 u44 u45 u46 u47 u48 u49 u50 u51 u52 u53 u54 u55 u56 u57 u58 u59 u60 u61 u62 u63 u64 u65 u66 u67 u68 u69 u70 u71 u72 u73 u74 u75 u76 u77 u113 u114 u115 u116 u117 u118 u119 u120 u121 u122 u123 u124 u125 u126 u127 u128 u129 u130 u131 u132 u133 u134 u135 u136 u137 u138 u139 u140 u141 u142 u143 u144 u145 u146 u147 u148 u149 u150 u151 u152 u153 u154 u155 u156 u157 u158 u159 u160 u161 u162 u163 u164 u165 u166 u167 u168 u169 u170 u171 u172 u173 u174 u175 u176 u177 u178 u179 u180 u181 u182 u183 u184 u185 u186 u187 u188 u189 u190 u191 u192 u193 u194 u195 u196 u197 u198 u199 u200 u201 u202 u203 u204 u205 u206 u207 u208 u209 u210 u211 u212 u213 u214 u215 u216 u217 u218 u219 u220 u221 u222 u223 u224 u225 u226 u227 u228 u229 u230 u231 u232 u233 u234 u235 u236 u237 : Value} {J K' : Act → World → Prop} {Q0 : Exit → Act → World → Prop}
    (HD : Hid (Duo w p q X 35 [.int .i64 d0, .int .i64 d1] S S W7)) (HSN : Hid (S.used.length = n))
    (hMetJ : ∀ (a' : Act) (w' : World), (∃ u17 u18 u19 u20 u21 u22 u23 u24 u25 u106 u107 u108 u109 u110 u111 u113 u114 u115 u116 u117 u118 u119 u120 u121 u122 u123 u124 u125 u126 u127 u128 u129 u130 u131 u132 u133 u134 u135 u136 u137 u138 u139 u140 u141 u142 u143 u144 u145 u146 u147 u148 u149 u150 u151 u152 u153 u154 u155 u156 u157 u158 u159 u160 u161 u162 u163 u164 u165 u166 u167 u168 u169 u170 u171 u172 u173 u174 u175 u176 u177 u178 u179 u180 u181 u182 u183 u184 u185 u186 u187 u188 u189 u190 u194 u195 u196 u197 u198 u199 u200 u201 u202 u203 u204 u205 u206 u207 u208 u209 u210 u211 u212 u213 u214 u215 u216 u217 u218 u219 u220 u221 u222 u223 u224 u225 u226 u227 u228 u229 u230 u231 u232 u233 u234 u235 u236 u237, (u17 = .bool true ∧ ∃ S', S'.used.length = n ∧ Two w p q S' S' w') ∧ a' = ⟨#[Value.agg #[Value.int IntKind.i64 a0x0, Value.int IntKind.i64 a0x1], Value.agg #[Value.int IntKind.u64 a1x0, Value.int IntKind.u64 a1x1], Value.slice (some ⟨zb, zo, none⟩) a2l a2c, Value.pointer (some ⟨x0, 0, none⟩), Value.pointer (some ⟨x1, 0, none⟩), undef, u6, u7, u8, Value.int IntKind.i64 ((n : Nat) : Int), Value.int IntKind.i64 ((f : Nat) : Int), Value.int IntKind.u64 ((l : Nat) : Int), Value.pointer (some ⟨p, 0, none⟩), Value.int IntKind.i64 0, Value.pointer (some ⟨q, 0, none⟩), undef, Value.pointer (some ⟨X, 0, none⟩), u17, u18, u19, u20, u21, u22, u23, u24, u25, u26, u27, u28, u29, u30, u31, u32, u33, u34, u35, u36, u37, u38, u39, u40, u41, u42, u43, u44, u45, u46, u47, u48, u49, u50, u51, u52, u53, u54, u55, u56, u57, u58, u59, u60, u61, u62, u63, u64, u65, u66, u67, u68, u69, u70, u71, u72, u73, u74, u75, u76, u77, Value.tuple #[Value.pointer (some ⟨p, 0, none⟩), Value.int IntKind.i64 0], Value.int IntKind.i64 ((n : Nat) : Int), Value.int IntKind.i64 ((f : Nat) : Int), Value.int IntKind.u64 ((l : Nat) : Int), Value.tuple #[Value.pointer (some ⟨p, 0, none⟩), Value.int IntKind.i64 0], Value.pointer (some ⟨p, 0, none⟩), Value.int IntKind.i64 0, Value.int IntKind.i64 ((n : Nat) : Int), Value.int IntKind.i64 ((f : Nat) : Int), Value.int IntKind.u64 ((l : Nat) : Int), Value.pointer (some ⟨q, 0, none⟩), Value.bool true, Value.bool false, Value.bool false, Value.int IntKind.i64 0, Value.bool false, Value.bool false, Value.bool false, Value.pointer (some ⟨p, 0, none⟩), Value.bool false, Value.bool false, Value.slice (some ⟨zb, zo, none⟩) a2l a2c, Value.slice (some ⟨zb, zo, none⟩) a2l a2c, Value.int IntKind.i64 ((a2l : Nat) : Int), Value.int IntKind.i64 ((mm : Nat) : Int), Value.slice (some ⟨zb, zo, none⟩) mm a2c, Value.int IntKind.i64 ((mm : Nat) : Int), Value.int IntKind.i64 ((c : Nat) : Int), u106, u107, u108, u109, u110, u111, Value.int IntKind.i64 1, u113, u114, u115, u116, u117, u118, u119, u120, u121, u122, u123, u124, u125, u126, u127, u128, u129, u130, u131, u132, u133, u134, u135, u136, u137, u138, u139, u140, u141, u142, u143, u144, u145, u146, u147, u148, u149, u150, u151, u152, u153, u154, u155, u156, u157, u158, u159, u160, u161, u162, u163, u164, u165, u166, u167, u168, u169, u170, u171, u172, u173, u174, u175, u176, u177, u178, u179, u180, u181, u182, u183, u184, u185, u186, u187, u188, u189, u190, u191, u192, u193, u194, u195, u196, u197, u198, u199, u200, u201, u202, u203, u204, u205, u206, u207, u208, u209, u210, u211, u212, u213, u214, u215, u216, u217, u218, u219, u220, u221, u222, u223, u224, u225, u226, u227, u228, u229, u230, u231, u232, u233, u234, u235, u236, u237], []⟩) → J a' w')
    (hMetK : ∀ (a' : Act) (w' : World), Met J a' w' → K' a' w') :
    Code.wp Tryd.prog spSwitch (Exit.then K' Q0) ⟨#[Value.agg #[Value.int IntKind.i64 a0x0, Value.int IntKind.i64 a0x1], Value.agg #[Value.int IntKind.u64 a1x0, Value.int IntKind.u64 a1x1], Value.slice (some ⟨zb, zo, none⟩) a2l a2c, Value.pointer (some ⟨x0, 0, none⟩), Value.pointer (some ⟨x1, 0, none⟩), undef, u6, u7, u8, Value.int IntKind.i64 ((n : Nat) : Int), Value.int IntKind.i64 ((f : Nat) : Int), Value.int IntKind.u64 ((l : Nat) : Int), Value.pointer (some ⟨p, 0, none⟩), Value.int IntKind.i64 0, Value.pointer (some ⟨q, 0, none⟩), undef, Value.pointer (some ⟨X, 0, none⟩), Value.bool true, u18, u19, u20, u21, u22, u23, u24, u25, u26, u27, u28, u29, u30, u31, u32, u33, u34, u35, u36, u37, u38, u39, u40, u41, u42, u43, u44, u45, u46, u47, u48, u49, u50, u51, u52, u53, u54, u55, u56, u57, u58, u59, u60, u61, u62, u63, u64, u65, u66, u67, u68, u69, u70, u71, u72, u73, u74, u75, u76, u77, Value.tuple #[Value.pointer (some ⟨p, 0, none⟩), Value.int IntKind.i64 0], Value.int IntKind.i64 ((n : Nat) : Int), Value.int IntKind.i64 ((f : Nat) : Int), Value.int IntKind.u64 ((l : Nat) : Int), Value.tuple #[Value.pointer (some ⟨p, 0, none⟩), Value.int IntKind.i64 0], Value.pointer (some ⟨p, 0, none⟩), Value.int IntKind.i64 0, Value.int IntKind.i64 ((n : Nat) : Int), Value.int IntKind.i64 ((f : Nat) : Int), Value.int IntKind.u64 ((l : Nat) : Int), Value.pointer (some ⟨q, 0, none⟩), Value.bool true, Value.bool false, Value.bool false, Value.int IntKind.i64 0, Value.bool false, Value.bool false, Value.bool false, Value.pointer (some ⟨p, 0, none⟩), Value.bool false, Value.bool false, Value.slice (some ⟨zb, zo, none⟩) a2l a2c, Value.slice (some ⟨zb, zo, none⟩) a2l a2c, Value.int IntKind.i64 ((a2l : Nat) : Int), Value.int IntKind.i64 ((mm : Nat) : Int), Value.slice (some ⟨zb, zo, none⟩) mm a2c, Value.int IntKind.i64 ((mm : Nat) : Int), Value.int IntKind.i64 ((c : Nat) : Int), Value.bool true, Value.pointer (some ⟨zb, zo + c * 2, none⟩), Value.agg #[Value.int IntKind.i64 d0, Value.int IntKind.i64 d1], Value.pointer (some ⟨X, 0, none⟩), Value.int IntKind.i64 d0, Value.int IntKind.i64 M, Value.int IntKind.i64 1, u113, u114, u115, u116, u117, u118, u119, u120, u121, u122, u123, u124, u125, u126, u127, u128, u129, u130, u131, u132, u133, u134, u135, u136, u137, u138, u139, u140, u141, u142, u143, u144, u145, u146, u147, u148, u149, u150, u151, u152, u153, u154, u155, u156, u157, u158, u159, u160, u161, u162, u163, u164, u165, u166, u167, u168, u169, u170, u171, u172, u173, u174, u175, u176, u177, u178, u179, u180, u181, u182, u183, u184, u185, u186, u187, u188, u189, u190, u191, u192, u193, u194, u195, u196, u197, u198, u199, u200, u201, u202, u203, u204, u205, u206, u207, u208, u209, u210, u211, u212, u213, u214, u215, u216, u217, u218, u219, u220, u221, u222, u223, u224, u225, u226, u227, u228, u229, u230, u231, u232, u233, u234, u235, u236, u237], []⟩ W7 := by
  conv => arg 2; whnf
  go_wp2_with fail
  refine (Duo.left HD.out (fun R hT h => take_any _ hT h)).mono ?_
  rintro e w7 ⟨rfl, hd⟩
  have HD1 := Lib.hid hd
  clear hd HD
  go_wp2_with fail
  refine (Duo.right HD1.out (fun bu bt bg_ cu xu h => reftake_any _ h)).mono ?_
  rintro e w8 ⟨rfl, hd⟩
  have HD2 := Lib.hid hd
  clear hd HD1
  go_wp2_with fail
  go_meet
  exact ⟨rfl, _, (len_take S).trans HSN.out, HD2.out.two⟩
set_option maxHeartbeats 4000000 in
set_option maxRecDepth 100000 in
theorem sp_arm2 {w W7 : World} {n f l p q X zb zo a2l a2c mm c x0 x1 : Nat} {S : Sp} {a0x0 a0x1 a1x0 a1x1 d0 d1 M : Int} {u6 u7 u8 u18 u19 u20 u21 u22 u23 u24 u25 u26 u27 u28 u29 u30 u31 u32 u33 u34 u35 u36 u37 u38 u39 u40 u41 u42 u43 u44 u45 u46 u47 u48 u49 u50 u51 u52 u53 u54 u55 u56 u57 u58 u59 u60 u61 u62 u63 u64 u65 u66 u67 u68 u69 u70 u71 u72 u73 u74 u75 u76 u77 u113 u114 u115 u116 u117 u118 u119 u120 u121 u122 u123 u124 u125 u126 u127 u128 u129 u130 u131 u132 u133 u134 u135 u136 u137 u138 u139 u140 u141 u142 u143 u144 u145 u146 u147 u148 u149 u150 u151 u152 u153 u154 u155 u156 u157 u158 u159 u160 u161 u162 u163 u164 u165 u166 u167 u168 u169 u170 u171 u172 u173 u174 u175 u176 u177 u178 u179 u180 u181 u182 u183 u184 u185 u186 u187 u188 u189 u190 u191 u192 u193 u194 u195 u196 u197 u198 u199 u200 u201 u202 u203 u204 u205 u206 u207 u208 u209 u210 u211 u212 u213 u214 u215 u216 u217 u218 u219 u220 u221 u222 u223 u224 u225 u226 u227 u228 u229 u230 u231 u232 u233 u234 u235 u236 u237 : Value} {J K' : Act → World → Prop} {Q0 : Exit → Act → World → Prop}
    (HD : Hid (Duo w p q X 35 [.int .i64 d0, .int .i64 d1] S S W7)) (HSN : Hid (S.used.length = n))
    (hMetJ : ∀ (a' : Act) (w' : World), (∃ u17 u18 u19 u20 u21 u22 u23 u24 u25 u106 u107 u108 u109 u110 u111 u113 u114 u115 u116 u117 u118 u119 u120 u121 u122 u123 u124 u125 u126 u127 u128 u129 u130 u131 u132 u133 u134 u135 u136 u137 u138 u139 u140 u141 u142 u143 u144 u145 u146 u147 u148 u149 u150 u151 u152 u153 u154 u155 u156 u157 u158 u159 u160 u161 u162 u163 u164 u165 u166 u167 u168 u169 u170 u171 u172 u173 u174 u175 u176 u177 u178 u179 u180 u181 u182 u183 u184 u185 u186 u187 u188 u189 u190 u194 u195 u196 u197 u198 u199 u200 u201 u202 u203 u204 u205 u206 u207 u208 u209 u210 u211 u212 u213 u214 u215 u216 u217 u218 u219 u220 u221 u222 u223 u224 u225 u226 u227 u228 u229 u230 u231 u232 u233 u234 u235 u236 u237, (u17 = .bool true ∧ ∃ S', S'.used.length = n ∧ Two w p q S' S' w') ∧ a' = ⟨#[Value.agg #[Value.int IntKind.i64 a0x0, Value.int IntKind.i64 a0x1], Value.agg #[Value.int IntKind.u64 a1x0, Value.int IntKind.u64 a1x1], Value.slice (some ⟨zb, zo, none⟩) a2l a2c, Value.pointer (some ⟨x0, 0, none⟩), Value.pointer (some ⟨x1, 0, none⟩), undef, u6, u7, u8, Value.int IntKind.i64 ((n : Nat) : Int), Value.int IntKind.i64 ((f : Nat) : Int), Value.int IntKind.u64 ((l : Nat) : Int), Value.pointer (some ⟨p, 0, none⟩), Value.int IntKind.i64 0, Value.pointer (some ⟨q, 0, none⟩), undef, Value.pointer (some ⟨X, 0, none⟩), u17, u18, u19, u20, u21, u22, u23, u24, u25, u26, u27, u28, u29, u30, u31, u32, u33, u34, u35, u36, u37, u38, u39, u40, u41, u42, u43, u44, u45, u46, u47, u48, u49, u50, u51, u52, u53, u54, u55, u56, u57, u58, u59, u60, u61, u62, u63, u64, u65, u66, u67, u68, u69, u70, u71, u72, u73, u74, u75, u76, u77, Value.tuple #[Value.pointer (some ⟨p, 0, none⟩), Value.int IntKind.i64 0], Value.int IntKind.i64 ((n : Nat) : Int), Value.int IntKind.i64 ((f : Nat) : Int), Value.int IntKind.u64 ((l : Nat) : Int), Value.tuple #[Value.pointer (some ⟨p, 0, none⟩), Value.int IntKind.i64 0], Value.pointer (some ⟨p, 0, none⟩), Value.int IntKind.i64 0, Value.int IntKind.i64 ((n : Nat) : Int), Value.int IntKind.i64 ((f : Nat) : Int), Value.int IntKind.u64 ((l : Nat) : Int), Value.pointer (some ⟨q, 0, none⟩), Value.bool true, Value.bool false, Value.bool false, Value.int IntKind.i64 0, Value.bool false, Value.bool false, Value.bool false, Value.pointer (some ⟨p, 0, none⟩), Value.bool false, Value.bool false, Value.slice (some ⟨zb, zo, none⟩) a2l a2c, Value.slice (some ⟨zb, zo, none⟩) a2l a2c, Value.int IntKind.i64 ((a2l : Nat) : Int), Value.int IntKind.i64 ((mm : Nat) : Int), Value.slice (some ⟨zb, zo, none⟩) mm a2c, Value.int IntKind.i64 ((mm : Nat) : Int), Value.int IntKind.i64 ((c : Nat) : Int), u106, u107, u108, u109, u110, u111, Value.int IntKind.i64 2, u113, u114, u115, u116, u117, u118, u119, u120, u121, u122, u123, u124, u125, u126, u127, u128, u129, u130, u131, u132, u133, u134, u135, u136, u137, u138, u139, u140, u141, u142, u143, u144, u145, u146, u147, u148, u149, u150, u151, u152, u153, u154, u155, u156, u157, u158, u159, u160, u161, u162, u163, u164, u165, u166, u167, u168, u169, u170, u171, u172, u173, u174, u175, u176, u177, u178, u179, u180, u181, u182, u183, u184, u185, u186, u187, u188, u189, u190, u191, u192, u193, u194, u195, u196, u197, u198, u199, u200, u201, u202, u203, u204, u205, u206, u207, u208, u209, u210, u211, u212, u213, u214, u215, u216, u217, u218, u219, u220, u221, u222, u223, u224, u225, u226, u227, u228, u229, u230, u231, u232, u233, u234, u235, u236, u237], []⟩) → J a' w')
    (hMetK : ∀ (a' : Act) (w' : World), Met J a' w' → K' a' w') :
    Code.wp Tryd.prog spSwitch (Exit.then K' Q0) ⟨#[Value.agg #[Value.int IntKind.i64 a0x0, Value.int IntKind.i64 a0x1], Value.agg #[Value.int IntKind.u64 a1x0, Value.int IntKind.u64 a1x1], Value.slice (some ⟨zb, zo, none⟩) a2l a2c, Value.pointer (some ⟨x0, 0, none⟩), Value.pointer (some ⟨x1, 0, none⟩), undef, u6, u7, u8, Value.int IntKind.i64 ((n : Nat) : Int), Value.int IntKind.i64 ((f : Nat) : Int), Value.int IntKind.u64 ((l : Nat) : Int), Value.pointer (some ⟨p, 0, none⟩), Value.int IntKind.i64 0, Value.pointer (some ⟨q, 0, none⟩), undef, Value.pointer (some ⟨X, 0, none⟩), Value.bool true, u18, u19, u20, u21, u22, u23, u24, u25, u26, u27, u28, u29, u30, u31, u32, u33, u34, u35, u36, u37, u38, u39, u40, u41, u42, u43, u44, u45, u46, u47, u48, u49, u50, u51, u52, u53, u54, u55, u56, u57, u58, u59, u60, u61, u62, u63, u64, u65, u66, u67, u68, u69, u70, u71, u72, u73, u74, u75, u76, u77, Value.tuple #[Value.pointer (some ⟨p, 0, none⟩), Value.int IntKind.i64 0], Value.int IntKind.i64 ((n : Nat) : Int), Value.int IntKind.i64 ((f : Nat) : Int), Value.int IntKind.u64 ((l : Nat) : Int), Value.tuple #[Value.pointer (some ⟨p, 0, none⟩), Value.int IntKind.i64 0], Value.pointer (some ⟨p, 0, none⟩), Value.int IntKind.i64 0, Value.int IntKind.i64 ((n : Nat) : Int), Value.int IntKind.i64 ((f : Nat) : Int), Value.int IntKind.u64 ((l : Nat) : Int), Value.pointer (some ⟨q, 0, none⟩), Value.bool true, Value.bool false, Value.bool false, Value.int IntKind.i64 0, Value.bool false, Value.bool false, Value.bool false, Value.pointer (some ⟨p, 0, none⟩), Value.bool false, Value.bool false, Value.slice (some ⟨zb, zo, none⟩) a2l a2c, Value.slice (some ⟨zb, zo, none⟩) a2l a2c, Value.int IntKind.i64 ((a2l : Nat) : Int), Value.int IntKind.i64 ((mm : Nat) : Int), Value.slice (some ⟨zb, zo, none⟩) mm a2c, Value.int IntKind.i64 ((mm : Nat) : Int), Value.int IntKind.i64 ((c : Nat) : Int), Value.bool true, Value.pointer (some ⟨zb, zo + c * 2, none⟩), Value.agg #[Value.int IntKind.i64 d0, Value.int IntKind.i64 d1], Value.pointer (some ⟨X, 0, none⟩), Value.int IntKind.i64 d0, Value.int IntKind.i64 M, Value.int IntKind.i64 2, u113, u114, u115, u116, u117, u118, u119, u120, u121, u122, u123, u124, u125, u126, u127, u128, u129, u130, u131, u132, u133, u134, u135, u136, u137, u138, u139, u140, u141, u142, u143, u144, u145, u146, u147, u148, u149, u150, u151, u152, u153, u154, u155, u156, u157, u158, u159, u160, u161, u162, u163, u164, u165, u166, u167, u168, u169, u170, u171, u172, u173, u174, u175, u176, u177, u178, u179, u180, u181, u182, u183, u184, u185, u186, u187, u188, u189, u190, u191, u192, u193, u194, u195, u196, u197, u198, u199, u200, u201, u202, u203, u204, u205, u206, u207, u208, u209, u210, u211, u212, u213, u214, u215, u216, u217, u218, u219, u220, u221, u222, u223, u224, u225, u226, u227, u228, u229, u230, u231, u232, u233, u234, u235, u236, u237], []⟩ W7 := by
  conv => arg 2; whnf
  have HD0 := Lib.hid (show DuoB w p q X 35 [.int .i64 d0, .int .i64 d1] S (S.give d1) false false W7.drew from Duo.on HD.out ⟨rfl, rfl, rfl, Nat.le_refl _, fun _ _ => rfl⟩)
  go_upto_region 21 with fail
  refine Reg.region_vals (by kernel_rfl) [(136, .pointer (some ⟨p, 0, none⟩)), (137, .pointer (some ⟨X, 1, none⟩)), (138, .int .i64 d1), (139, .int .i64 (giveE S d1)), (140, .pointer (some ⟨q, 0, none⟩)), (141, .pointer (some ⟨X, 1, none⟩)), (142, .int .i64 d1), (143, .int .i64 (giveE S d1)), (144, .bool true), (17, .bool true)] (fun l wx => DuoB w p q X 35 [.int .i64 d0, .int .i64 d1] S (S.give d1) (l 3) (l 7) wx) (by kernel_rfl) (by kernel_rfl) (by kernel_rfl) (HD0.out) ⟨?_, ?_, ?_, ?_, ?_, ?_, ?_, ?_, ?_, ?_, trivial⟩ ?hend
  · -- 0: 136 := Op.move t12
    intro aq wq lq hI hl hdone hlater hold hd ho
    have h12 : aq.tmps.getD 12 undef = .pointer (some ⟨p, 0, none⟩) := ho 12 (by kernel_rfl)
    clear hd ho hdone hlater hold
    exact Reg.step2_move (.tmp 12) rfl h12 hI trivial
  · -- 1: 137 := Op.fieldAddr 35 t16 1
    intro aq wq lq hI hl hdone hlater hold hd ho
    have h16 : aq.tmps.getD 16 undef = .pointer (some ⟨X, 0, none⟩) := ho 16 (by kernel_rfl)
    clear hd ho hdone hlater hold
    rw [Array.getD_eq_getD_getElem?] at h16
    refine Reg.step2_val (.pointer (some ⟨X, 1, none⟩)) ?_ rfl hI trivial
    go_simp
  · -- 2: 138 := Op.load 3 t137
    intro aq wq lq hI hl hdone hlater hold hd ho
    have h137 : aq.tmps.getD 137 undef = .pointer (some ⟨X, 1, none⟩) := hd 137 (by kernel_rfl)
    clear hd ho hdone hlater hold
    rw [Array.getD_eq_getD_getElem?] at h137
    have e0 := Duo.cell hI 1
    simp only [List.getElem?_cons_zero, List.getElem?_cons_succ] at e0
    refine Reg.step2_val (.int .i64 d1) ?_ rfl hI trivial
    go_simp
  · -- 3: 139 := Op.call ( value (Operand.func 13), args := #(t136, t138), ar
    intro aq wq lq hI hl hdone hlater hold hd ho
    have h136 : aq.tmps.getD 136 undef = .pointer (some ⟨p, 0, none⟩) := hd 136 (by kernel_rfl)
    have h138 : aq.tmps.getD 138 undef = .int .i64 d1 := hd 138 (by kernel_rfl)
    clear hd ho hdone hlater hold
    rw [Array.getD_eq_getD_getElem?] at h136 h138
    have hJ := hI
    clear hI
    rw [show lq 3 = false from hl] at hJ
    refine Reg.step2_call 13 #[.pointer (some ⟨p, 0, none⟩), .int .i64 d1] ?_ ((Duo.left hJ (fun R _ h => give_any d1 wq h)).mono ?_)
    · clear hJ
      simp [execOp]
      go_simp
    · rintro e w' ⟨rfl, hb⟩
      exact ⟨_, rfl, rfl, hb, trivial⟩
  · -- 4: 140 := Op.move t14
    intro aq wq lq hI hl hdone hlater hold hd ho
    have h14 : aq.tmps.getD 14 undef = .pointer (some ⟨q, 0, none⟩) := ho 14 (by kernel_rfl)
    clear hd ho hdone hlater hold
    exact Reg.step2_move (.tmp 14) rfl h14 hI trivial
  · -- 5: 141 := Op.fieldAddr 35 t16 1
    intro aq wq lq hI hl hdone hlater hold hd ho
    have h16 : aq.tmps.getD 16 undef = .pointer (some ⟨X, 0, none⟩) := ho 16 (by kernel_rfl)
    clear hd ho hdone hlater hold
    rw [Array.getD_eq_getD_getElem?] at h16
    refine Reg.step2_val (.pointer (some ⟨X, 1, none⟩)) ?_ rfl hI trivial
    go_simp
  · -- 6: 142 := Op.load 3 t141
    intro aq wq lq hI hl hdone hlater hold hd ho
    have h141 : aq.tmps.getD 141 undef = .pointer (some ⟨X, 1, none⟩) := hd 141 (by kernel_rfl)
    clear hd ho hdone hlater hold
    rw [Array.getD_eq_getD_getElem?] at h141
    have e0 := Duo.cell hI 1
    simp only [List.getElem?_cons_zero, List.getElem?_cons_succ] at e0
    refine Reg.step2_val (.int .i64 d1) ?_ rfl hI trivial
    go_simp
  · -- 7: 143 := Op.call ( value (Operand.func 14), args := #(t140, t142), ar
    intro aq wq lq hI hl hdone hlater hold hd ho
    have h140 : aq.tmps.getD 140 undef = .pointer (some ⟨q, 0, none⟩) := hd 140 (by kernel_rfl)
    have h142 : aq.tmps.getD 142 undef = .int .i64 d1 := hd 142 (by kernel_rfl)
    clear hd ho hdone hlater hold
    rw [Array.getD_eq_getD_getElem?] at h140 h142
    have hJ := hI
    clear hI
    rw [show lq 7 = false from hl] at hJ
    refine Reg.step2_call 14 #[.pointer (some ⟨q, 0, none⟩), .int .i64 d1] ?_ ((Duo.right hJ (fun bu bt bg_ cu xu h => refgive_any d1 wq h)).mono ?_)
    · clear hJ
      simp [execOp]
      go_simp
    · rintro e w' ⟨rfl, hb⟩
      exact ⟨_, rfl, rfl, hb, trivial⟩
  · -- 8: 144 := Op.binOp BinOp.eql 3 t139 t143 3
    intro aq wq lq hI hl hdone hlater hold hd ho
    have h139 : aq.tmps.getD 139 undef = .int .i64 (giveE S d1) := hd 139 (by kernel_rfl)
    have h143 : aq.tmps.getD 143 undef = .int .i64 (giveE S d1) := hd 143 (by kernel_rfl)
    clear hd ho hdone hlater hold
    rw [Array.getD_eq_getD_getElem?] at h139 h143
    refine Reg.step2_val (.bool true) ?_ rfl hI trivial
    simp [execOp, Act.eval, h139, h143]
    try go_simp
  · -- 9: 17 := Op.assign t144
    intro aq wq lq hI hl hdone hlater hold hd ho
    have h144 : aq.tmps.getD 144 undef = .bool true := hd 144 (by kernel_rfl)
    clear hd ho hdone hlater hold
    exact Reg.step2_assign (.tmp 144) rfl h144 hI trivial
  case hend =>
  intro wx hI
  simp only [Reg.fill, List.foldl_cons, List.foldl_nil, List.setIfInBounds_toArray, List.set_cons_zero, List.set_cons_succ]
  have HI := Lib.hid (show Duo w p q X 35 [.int .i64 d0, .int .i64 d1] (S.give d1) (S.give d1) wx from hI)
  clear hI
  go_wp2_with fail
  go_meet
  exact ⟨rfl, _, (len_give S d1).trans HSN.out, HI.out.two⟩
set_option maxHeartbeats 4000000 in
set_option maxRecDepth 100000 in
theorem sp_arm3 {w W7 : World} {n f l p q X zb zo a2l a2c mm c x0 x1 : Nat} {S : Sp} {a0x0 a0x1 a1x0 a1x1 d0 d1 M : Int} {u6 u7 u8 u18 u19 u20 u21 u22 u23 u24 u25 u26 u27 u28 u29 u30 u31 u32 u33 u34 u35 u36 u37 u38 u39 u40 u41 u42 u43 u44 u45 u46 u47 u48 u49 u50 u51 u52 u53 u54 u55 u56 u57 u58 u59 u60 u61 u62 u63 u64 u65 u66 u67 u68 u69 u70 u71 u72 u73 u74 u75 u76 u77 u113 u114 u115 u116 u117 u118 u119 u120 u121 u122 u123 u124 u125 u126 u127 u128 u129 u130 u131 u132 u133 u134 u135 u136 u137 u138 u139 u140 u141 u142 u143 u144 u145 u146 u147 u148 u149 u150 u151 u152 u153 u154 u155 u156 u157 u158 u159 u160 u161 u162 u163 u164 u165 u166 u167 u168 u169 u170 u171 u172 u173 u174 u175 u176 u177 u178 u179 u180 u181 u182 u183 u184 u185 u186 u187 u188 u189 u190 u191 u192 u193 u194 u195 u196 u197 u198 u199 u200 u201 u202 u203 u204 u205 u206 u207 u208 u209 u210 u211 u212 u213 u214 u215 u216 u217 u218 u219 u220 u221 u222 u223 u224 u225 u226 u227 u228 u229 u230 u231 u232 u233 u234 u235 u236 u237 : Value} {J K' : Act → World → Prop} {Q0 : Exit → Act → World → Prop}
    (HD : Hid (Duo w p q X 35 [.int .i64 d0, .int .i64 d1] S S W7)) (HSN : Hid (S.used.length = n))
    (hMetJ : ∀ (a' : Act) (w' : World), (∃ u17 u18 u19 u20 u21 u22 u23 u24 u25 u106 u107 u108 u109 u110 u111 u113 u114 u115 u116 u117 u118 u119 u120 u121 u122 u123 u124 u125 u126 u127 u128 u129 u130 u131 u132 u133 u134 u135 u136 u137 u138 u139 u140 u141 u142 u143 u144 u145 u146 u147 u148 u149 u150 u151 u152 u153 u154 u155 u156 u157 u158 u159 u160 u161 u162 u163 u164 u165 u166 u167 u168 u169 u170 u171 u172 u173 u174 u175 u176 u177 u178 u179 u180 u181 u182 u183 u184 u185 u186 u187 u188 u189 u190 u194 u195 u196 u197 u198 u199 u200 u201 u202 u203 u204 u205 u206 u207 u208 u209 u210 u211 u212 u213 u214 u215 u216 u217 u218 u219 u220 u221 u222 u223 u224 u225 u226 u227 u228 u229 u230 u231 u232 u233 u234 u235 u236 u237, (u17 = .bool true ∧ ∃ S', S'.used.length = n ∧ Two w p q S' S' w') ∧ a' = ⟨#[Value.agg #[Value.int IntKind.i64 a0x0, Value.int IntKind.i64 a0x1], Value.agg #[Value.int IntKind.u64 a1x0, Value.int IntKind.u64 a1x1], Value.slice (some ⟨zb, zo, none⟩) a2l a2c, Value.pointer (some ⟨x0, 0, none⟩), Value.pointer (some ⟨x1, 0, none⟩), undef, u6, u7, u8, Value.int IntKind.i64 ((n : Nat) : Int), Value.int IntKind.i64 ((f : Nat) : Int), Value.int IntKind.u64 ((l : Nat) : Int), Value.pointer (some ⟨p, 0, none⟩), Value.int IntKind.i64 0, Value.pointer (some ⟨q, 0, none⟩), undef, Value.pointer (some ⟨X, 0, none⟩), u17, u18, u19, u20, u21, u22, u23, u24, u25, u26, u27, u28, u29, u30, u31, u32, u33, u34, u35, u36, u37, u38, u39, u40, u41, u42, u43, u44, u45, u46, u47, u48, u49, u50, u51, u52, u53, u54, u55, u56, u57, u58, u59, u60, u61, u62, u63, u64, u65, u66, u67, u68, u69, u70, u71, u72, u73, u74, u75, u76, u77, Value.tuple #[Value.pointer (some ⟨p, 0, none⟩), Value.int IntKind.i64 0], Value.int IntKind.i64 ((n : Nat) : Int), Value.int IntKind.i64 ((f : Nat) : Int), Value.int IntKind.u64 ((l : Nat) : Int), Value.tuple #[Value.pointer (some ⟨p, 0, none⟩), Value.int IntKind.i64 0], Value.pointer (some ⟨p, 0, none⟩), Value.int IntKind.i64 0, Value.int IntKind.i64 ((n : Nat) : Int), Value.int IntKind.i64 ((f : Nat) : Int), Value.int IntKind.u64 ((l : Nat) : Int), Value.pointer (some ⟨q, 0, none⟩), Value.bool true, Value.bool false, Value.bool false, Value.int IntKind.i64 0, Value.bool false, Value.bool false, Value.bool false, Value.pointer (some ⟨p, 0, none⟩), Value.bool false, Value.bool false, Value.slice (some ⟨zb, zo, none⟩) a2l a2c, Value.slice (some ⟨zb, zo, none⟩) a2l a2c, Value.int IntKind.i64 ((a2l : Nat) : Int), Value.int IntKind.i64 ((mm : Nat) : Int), Value.slice (some ⟨zb, zo, none⟩) mm a2c, Value.int IntKind.i64 ((mm : Nat) : Int), Value.int IntKind.i64 ((c : Nat) : Int), u106, u107, u108, u109, u110, u111, Value.int IntKind.i64 3, u113, u114, u115, u116, u117, u118, u119, u120, u121, u122, u123, u124, u125, u126, u127, u128, u129, u130, u131, u132, u133, u134, u135, u136, u137, u138, u139, u140, u141, u142, u143, u144, u145, u146, u147, u148, u149, u150, u151, u152, u153, u154, u155, u156, u157, u158, u159, u160, u161, u162, u163, u164, u165, u166, u167, u168, u169, u170, u171, u172, u173, u174, u175, u176, u177, u178, u179, u180, u181, u182, u183, u184, u185, u186, u187, u188, u189, u190, u191, u192, u193, u194, u195, u196, u197, u198, u199, u200, u201, u202, u203, u204, u205, u206, u207, u208, u209, u210, u211, u212, u213, u214, u215, u216, u217, u218, u219, u220, u221, u222, u223, u224, u225, u226, u227, u228, u229, u230, u231, u232, u233, u234, u235, u236, u237], []⟩) → J a' w')
    (hMetK : ∀ (a' : Act) (w' : World), Met J a' w' → K' a' w') :
    Code.wp Tryd.prog spSwitch (Exit.then K' Q0) ⟨#[Value.agg #[Value.int IntKind.i64 a0x0, Value.int IntKind.i64 a0x1], Value.agg #[Value.int IntKind.u64 a1x0, Value.int IntKind.u64 a1x1], Value.slice (some ⟨zb, zo, none⟩) a2l a2c, Value.pointer (some ⟨x0, 0, none⟩), Value.pointer (some ⟨x1, 0, none⟩), undef, u6, u7, u8, Value.int IntKind.i64 ((n : Nat) : Int), Value.int IntKind.i64 ((f : Nat) : Int), Value.int IntKind.u64 ((l : Nat) : Int), Value.pointer (some ⟨p, 0, none⟩), Value.int IntKind.i64 0, Value.pointer (some ⟨q, 0, none⟩), undef, Value.pointer (some ⟨X, 0, none⟩), Value.bool true, u18, u19, u20, u21, u22, u23, u24, u25, u26, u27, u28, u29, u30, u31, u32, u33, u34, u35, u36, u37, u38, u39, u40, u41, u42, u43, u44, u45, u46, u47, u48, u49, u50, u51, u52, u53, u54, u55, u56, u57, u58, u59, u60, u61, u62, u63, u64, u65, u66, u67, u68, u69, u70, u71, u72, u73, u74, u75, u76, u77, Value.tuple #[Value.pointer (some ⟨p, 0, none⟩), Value.int IntKind.i64 0], Value.int IntKind.i64 ((n : Nat) : Int), Value.int IntKind.i64 ((f : Nat) : Int), Value.int IntKind.u64 ((l : Nat) : Int), Value.tuple #[Value.pointer (some ⟨p, 0, none⟩), Value.int IntKind.i64 0], Value.pointer (some ⟨p, 0, none⟩), Value.int IntKind.i64 0, Value.int IntKind.i64 ((n : Nat) : Int), Value.int IntKind.i64 ((f : Nat) : Int), Value.int IntKind.u64 ((l : Nat) : Int), Value.pointer (some ⟨q, 0, none⟩), Value.bool true, Value.bool false, Value.bool false, Value.int IntKind.i64 0, Value.bool false, Value.bool false, Value.bool false, Value.pointer (some ⟨p, 0, none⟩), Value.bool false, Value.bool false, Value.slice (some ⟨zb, zo, none⟩) a2l a2c, Value.slice (some ⟨zb, zo, none⟩) a2l a2c, Value.int IntKind.i64 ((a2l : Nat) : Int), Value.int IntKind.i64 ((mm : Nat) : Int), Value.slice (some ⟨zb, zo, none⟩) mm a2c, Value.int IntKind.i64 ((mm : Nat) : Int), Value.int IntKind.i64 ((c : Nat) : Int), Value.bool true, Value.pointer (some ⟨zb, zo + c * 2, none⟩), Value.agg #[Value.int IntKind.i64 d0, Value.int IntKind.i64 d1], Value.pointer (some ⟨X, 0, none⟩), Value.int IntKind.i64 d0, Value.int IntKind.i64 M, Value.int IntKind.i64 3, u113, u114, u115, u116, u117, u118, u119, u120, u121, u122, u123, u124, u125, u126, u127, u128, u129, u130, u131, u132, u133, u134, u135, u136, u137, u138, u139, u140, u141, u142, u143, u144, u145, u146, u147, u148, u149, u150, u151, u152, u153, u154, u155, u156, u157, u158, u159, u160, u161, u162, u163, u164, u165, u166, u167, u168, u169, u170, u171, u172, u173, u174, u175, u176, u177, u178, u179, u180, u181, u182, u183, u184, u185, u186, u187, u188, u189, u190, u191, u192, u193, u194, u195, u196, u197, u198, u199, u200, u201, u202, u203, u204, u205, u206, u207, u208, u209, u210, u211, u212, u213, u214, u215, u216, u217, u218, u219, u220, u221, u222, u223, u224, u225, u226, u227, u228, u229, u230, u231, u232, u233, u234, u235, u236, u237], []⟩ W7 := by
  conv => arg 2; whnf
  have HD0 := Lib.hid (show DuoB w p q X 35 [.int .i64 d0, .int .i64 d1] S (S.use d1) false false W7.drew from Duo.on HD.out ⟨rfl, rfl, rfl, Nat.le_refl _, fun _ _ => rfl⟩)
  go_upto_region 23 with fail
  refine Reg.region_vals (by kernel_rfl) [(147, .pointer (some ⟨p, 0, none⟩)), (148, .pointer (some ⟨X, 1, none⟩)), (149, .int .i64 d1), (150, .int .i64 (useE S d1)), (151, .pointer (some ⟨q, 0, none⟩)), (152, .pointer (some ⟨X, 1, none⟩)), (153, .int .i64 d1), (154, .int .i64 (useE S d1)), (155, .bool true), (17, .bool true)] (fun l wx => DuoB w p q X 35 [.int .i64 d0, .int .i64 d1] S (S.use d1) (l 3) (l 7) wx) (by kernel_rfl) (by kernel_rfl) (by kernel_rfl) (HD0.out) ⟨?_, ?_, ?_, ?_, ?_, ?_, ?_, ?_, ?_, ?_, trivial⟩ ?hend
  · -- 0: 147 := Op.move t12
    intro aq wq lq hI hl hdone hlater hold hd ho
    have h12 : aq.tmps.getD 12 undef = .pointer (some ⟨p, 0, none⟩) := ho 12 (by kernel_rfl)
    clear hd ho hdone hlater hold
    exact Reg.step2_move (.tmp 12) rfl h12 hI trivial
  · -- 1: 148 := Op.fieldAddr 35 t16 1
    intro aq wq lq hI hl hdone hlater hold hd ho
    have h16 : aq.tmps.getD 16 undef = .pointer (some ⟨X, 0, none⟩) := ho 16 (by kernel_rfl)
    clear hd ho hdone hlater hold
    rw [Array.getD_eq_getD_getElem?] at h16
    refine Reg.step2_val (.pointer (some ⟨X, 1, none⟩)) ?_ rfl hI trivial
    go_simp
  · -- 2: 149 := Op.load 3 t148
    intro aq wq lq hI hl hdone hlater hold hd ho
    have h148 : aq.tmps.getD 148 undef = .pointer (some ⟨X, 1, none⟩) := hd 148 (by kernel_rfl)
    clear hd ho hdone hlater hold
    rw [Array.getD_eq_getD_getElem?] at h148
    have e0 := Duo.cell hI 1
    simp only [List.getElem?_cons_zero, List.getElem?_cons_succ] at e0
    refine Reg.step2_val (.int .i64 d1) ?_ rfl hI trivial
    go_simp
  · -- 3: 150 := Op.call ( value (Operand.func 15), args := #(t147, t149), ar
    intro aq wq lq hI hl hdone hlater hold hd ho
    have h147 : aq.tmps.getD 147 undef = .pointer (some ⟨p, 0, none⟩) := hd 147 (by kernel_rfl)
    have h149 : aq.tmps.getD 149 undef = .int .i64 d1 := hd 149 (by kernel_rfl)
    clear hd ho hdone hlater hold
    rw [Array.getD_eq_getD_getElem?] at h147 h149
    have hJ := hI
    clear hI
    rw [show lq 3 = false from hl] at hJ
    refine Reg.step2_call 15 #[.pointer (some ⟨p, 0, none⟩), .int .i64 d1] ?_ ((Duo.left hJ (fun R _ h => use_any d1 wq h)).mono ?_)
    · clear hJ
      simp [execOp]
      go_simp
    · rintro e w' ⟨rfl, hb⟩
      exact ⟨_, rfl, rfl, hb, trivial⟩
  · -- 4: 151 := Op.move t14
    intro aq wq lq hI hl hdone hlater hold hd ho
    have h14 : aq.tmps.getD 14 undef = .pointer (some ⟨q, 0, none⟩) := ho 14 (by kernel_rfl)
    clear hd ho hdone hlater hold
    exact Reg.step2_move (.tmp 14) rfl h14 hI trivial
  · -- 5: 152 := Op.fieldAddr 35 t16 1
    intro aq wq lq hI hl hdone hlater hold hd ho
    have h16 : aq.tmps.getD 16 undef = .pointer (some ⟨X, 0, none⟩) := ho 16 (by kernel_rfl)
    clear hd ho hdone hlater hold
    rw [Array.getD_eq_getD_getElem?] at h16
    refine Reg.step2_val (.pointer (some ⟨X, 1, none⟩)) ?_ rfl hI trivial
    go_simp
  · -- 6: 153 := Op.load 3 t152
    intro aq wq lq hI hl hdone hlater hold hd ho
    have h152 : aq.tmps.getD 152 undef = .pointer (some ⟨X, 1, none⟩) := hd 152 (by kernel_rfl)
    clear hd ho hdone hlater hold
    rw [Array.getD_eq_getD_getElem?] at h152
    have e0 := Duo.cell hI 1
    simp only [List.getElem?_cons_zero, List.getElem?_cons_succ] at e0
    refine Reg.step2_val (.int .i64 d1) ?_ rfl hI trivial
    go_simp
  · -- 7: 154 := Op.call ( value (Operand.func 16), args := #(t151, t153), ar
    intro aq wq lq hI hl hdone hlater hold hd ho
    have h151 : aq.tmps.getD 151 undef = .pointer (some ⟨q, 0, none⟩) := hd 151 (by kernel_rfl)
    have h153 : aq.tmps.getD 153 undef = .int .i64 d1 := hd 153 (by kernel_rfl)
    clear hd ho hdone hlater hold
    rw [Array.getD_eq_getD_getElem?] at h151 h153
    have hJ := hI
    clear hI
    rw [show lq 7 = false from hl] at hJ
    refine Reg.step2_call 16 #[.pointer (some ⟨q, 0, none⟩), .int .i64 d1] ?_ ((Duo.right hJ (fun bu bt bg_ cu xu h => refuse_any d1 wq h)).mono ?_)
    · clear hJ
      simp [execOp]
      go_simp
    · rintro e w' ⟨rfl, hb⟩
      exact ⟨_, rfl, rfl, hb, trivial⟩
  · -- 8: 155 := Op.binOp BinOp.eql 3 t150 t154 3
    intro aq wq lq hI hl hdone hlater hold hd ho
    have h150 : aq.tmps.getD 150 undef = .int .i64 (useE S d1) := hd 150 (by kernel_rfl)
    have h154 : aq.tmps.getD 154 undef = .int .i64 (useE S d1) := hd 154 (by kernel_rfl)
    clear hd ho hdone hlater hold
    rw [Array.getD_eq_getD_getElem?] at h150 h154
    refine Reg.step2_val (.bool true) ?_ rfl hI trivial
    simp [execOp, Act.eval, h150, h154]
    try go_simp
  · -- 9: 17 := Op.assign t155
    intro aq wq lq hI hl hdone hlater hold hd ho
    have h155 : aq.tmps.getD 155 undef = .bool true := hd 155 (by kernel_rfl)
    clear hd ho hdone hlater hold
    exact Reg.step2_assign (.tmp 155) rfl h155 hI trivial
  case hend =>
  intro wx hI
  simp only [Reg.fill, List.foldl_cons, List.foldl_nil, List.setIfInBounds_toArray, List.set_cons_zero, List.set_cons_succ]
  have HI := Lib.hid (show Duo w p q X 35 [.int .i64 d0, .int .i64 d1] (S.use d1) (S.use d1) wx from hI)
  clear hI
  go_wp2_with fail
  go_meet
  exact ⟨rfl, _, (len_use S d1).trans HSN.out, HI.out.two⟩
set_option maxHeartbeats 4000000 in
set_option maxRecDepth 100000 in
theorem sp_arm4 {w W7 : World} {n f l p q X zb zo a2l a2c mm c x0 x1 : Nat} {S : Sp} {a0x0 a0x1 a1x0 a1x1 d0 d1 M : Int} {u6 u7 u8 u18 u19 u20 u21 u22 u23 u24 u25 u26 u27 u28 u29 u30 u31 u32 u33 u34 u35 u36 u37 u38 u39 u40 u41 u42 u43 u44 u45 u46 u47 u48 u49 u50 u51 u52 u53 u54 u55 u56 u57 u58 u59 u60 u61 u62 u63 u64 u65 u66 u67 u68 u69 u70 u71 u72 u73 u74 u75 u76 u77 u113 u114 u115 u116 u117 u118 u119 u120 u121 u122 u123 u124 u125 u126 u127 u128 u129 u130 u131 u132 u133 u134 u135 u136 u137 u138 u139 u140 u141 u142 u143 u144 u145 u146 u147 u148 u149 u150 u151 u152 u153 u154 u155 u156 u157 u158 u159 u160 u161 u162 u163 u164 u165 u166 u167 u168 u169 u170 u171 u172 u173 u174 u175 u176 u177 u178 u179 u180 u181 u182 u183 u184 u185 u186 u187 u188 u189 u190 u191 u192 u193 u194 u195 u196 u197 u198 u199 u200 u201 u202 u203 u204 u205 u206 u207 u208 u209 u210 u211 u212 u213 u214 u215 u216 u217 u218 u219 u220 u221 u222 u223 u224 u225 u226 u227 u228 u229 u230 u231 u232 u233 u234 u235 u236 u237 : Value} {J K' : Act → World → Prop} {Q0 : Exit → Act → World → Prop}
    (HD : Hid (Duo w p q X 35 [.int .i64 d0, .int .i64 d1] S S W7)) (HSN : Hid (S.used.length = n))
    (hMetJ : ∀ (a' : Act) (w' : World), (∃ u17 u18 u19 u20 u21 u22 u23 u24 u25 u106 u107 u108 u109 u110 u111 u113 u114 u115 u116 u117 u118 u119 u120 u121 u122 u123 u124 u125 u126 u127 u128 u129 u130 u131 u132 u133 u134 u135 u136 u137 u138 u139 u140 u141 u142 u143 u144 u145 u146 u147 u148 u149 u150 u151 u152 u153 u154 u155 u156 u157 u158 u159 u160 u161 u162 u163 u164 u165 u166 u167 u168 u169 u170 u171 u172 u173 u174 u175 u176 u177 u178 u179 u180 u181 u182 u183 u184 u185 u186 u187 u188 u189 u190 u194 u195 u196 u197 u198 u199 u200 u201 u202 u203 u204 u205 u206 u207 u208 u209 u210 u211 u212 u213 u214 u215 u216 u217 u218 u219 u220 u221 u222 u223 u224 u225 u226 u227 u228 u229 u230 u231 u232 u233 u234 u235 u236 u237, (u17 = .bool true ∧ ∃ S', S'.used.length = n ∧ Two w p q S' S' w') ∧ a' = ⟨#[Value.agg #[Value.int IntKind.i64 a0x0, Value.int IntKind.i64 a0x1], Value.agg #[Value.int IntKind.u64 a1x0, Value.int IntKind.u64 a1x1], Value.slice (some ⟨zb, zo, none⟩) a2l a2c, Value.pointer (some ⟨x0, 0, none⟩), Value.pointer (some ⟨x1, 0, none⟩), undef, u6, u7, u8, Value.int IntKind.i64 ((n : Nat) : Int), Value.int IntKind.i64 ((f : Nat) : Int), Value.int IntKind.u64 ((l : Nat) : Int), Value.pointer (some ⟨p, 0, none⟩), Value.int IntKind.i64 0, Value.pointer (some ⟨q, 0, none⟩), undef, Value.pointer (some ⟨X, 0, none⟩), u17, u18, u19, u20, u21, u22, u23, u24, u25, u26, u27, u28, u29, u30, u31, u32, u33, u34, u35, u36, u37, u38, u39, u40, u41, u42, u43, u44, u45, u46, u47, u48, u49, u50, u51, u52, u53, u54, u55, u56, u57, u58, u59, u60, u61, u62, u63, u64, u65, u66, u67, u68, u69, u70, u71, u72, u73, u74, u75, u76, u77, Value.tuple #[Value.pointer (some ⟨p, 0, none⟩), Value.int IntKind.i64 0], Value.int IntKind.i64 ((n : Nat) : Int), Value.int IntKind.i64 ((f : Nat) : Int), Value.int IntKind.u64 ((l : Nat) : Int), Value.tuple #[Value.pointer (some ⟨p, 0, none⟩), Value.int IntKind.i64 0], Value.pointer (some ⟨p, 0, none⟩), Value.int IntKind.i64 0, Value.int IntKind.i64 ((n : Nat) : Int), Value.int IntKind.i64 ((f : Nat) : Int), Value.int IntKind.u64 ((l : Nat) : Int), Value.pointer (some ⟨q, 0, none⟩), Value.bool true, Value.bool false, Value.bool false, Value.int IntKind.i64 0, Value.bool false, Value.bool false, Value.bool false, Value.pointer (some ⟨p, 0, none⟩), Value.bool false, Value.bool false, Value.slice (some ⟨zb, zo, none⟩) a2l a2c, Value.slice (some ⟨zb, zo, none⟩) a2l a2c, Value.int IntKind.i64 ((a2l : Nat) : Int), Value.int IntKind.i64 ((mm : Nat) : Int), Value.slice (some ⟨zb, zo, none⟩) mm a2c, Value.int IntKind.i64 ((mm : Nat) : Int), Value.int IntKind.i64 ((c : Nat) : Int), u106, u107, u108, u109, u110, u111, Value.int IntKind.i64 4, u113, u114, u115, u116, u117, u118, u119, u120, u121, u122, u123, u124, u125, u126, u127, u128, u129, u130, u131, u132, u133, u134, u135, u136, u137, u138, u139, u140, u141, u142, u143, u144, u145, u146, u147, u148, u149, u150, u151, u152, u153, u154, u155, u156, u157, u158, u159, u160, u161, u162, u163, u164, u165, u166, u167, u168, u169, u170, u171, u172, u173, u174, u175, u176, u177, u178, u179, u180, u181, u182, u183, u184, u185, u186, u187, u188, u189, u190, u191, u192, u193, u194, u195, u196, u197, u198, u199, u200, u201, u202, u203, u204, u205, u206, u207, u208, u209, u210, u211, u212, u213, u214, u215, u216, u217, u218, u219, u220, u221, u222, u223, u224, u225, u226, u227, u228, u229, u230, u231, u232, u233, u234, u235, u236, u237], []⟩) → J a' w')
    (hMetK : ∀ (a' : Act) (w' : World), Met J a' w' → K' a' w') :
    Code.wp Tryd.prog spSwitch (Exit.then K' Q0) ⟨#[Value.agg #[Value.int IntKind.i64 a0x0, Value.int IntKind.i64 a0x1], Value.agg #[Value.int IntKind.u64 a1x0, Value.int IntKind.u64 a1x1], Value.slice (some ⟨zb, zo, none⟩) a2l a2c, Value.pointer (some ⟨x0, 0, none⟩), Value.pointer (some ⟨x1, 0, none⟩), undef, u6, u7, u8, Value.int IntKind.i64 ((n : Nat) : Int), Value.int IntKind.i64 ((f : Nat) : Int), Value.int IntKind.u64 ((l : Nat) : Int), Value.pointer (some ⟨p, 0, none⟩), Value.int IntKind.i64 0, Value.pointer (some ⟨q, 0, none⟩), undef, Value.pointer (some ⟨X, 0, none⟩), Value.bool true, u18, u19, u20, u21, u22, u23, u24, u25, u26, u27, u28, u29, u30, u31, u32, u33, u34, u35, u36, u37, u38, u39, u40, u41, u42, u43, u44, u45, u46, u47, u48, u49, u50, u51, u52, u53, u54, u55, u56, u57, u58, u59, u60, u61, u62, u63, u64, u65, u66, u67, u68, u69, u70, u71, u72, u73, u74, u75, u76, u77, Value.tuple #[Value.pointer (some ⟨p, 0, none⟩), Value.int IntKind.i64 0], Value.int IntKind.i64 ((n : Nat) : Int), Value.int IntKind.i64 ((f : Nat) : Int), Value.int IntKind.u64 ((l : Nat) : Int), Value.tuple #[Value.pointer (some ⟨p, 0, none⟩), Value.int IntKind.i64 0], Value.pointer (some ⟨p, 0, none⟩), Value.int IntKind.i64 0, Value.int IntKind.i64 ((n : Nat) : Int), Value.int IntKind.i64 ((f : Nat) : Int), Value.int IntKind.u64 ((l : Nat) : Int), Value.pointer (some ⟨q, 0, none⟩), Value.bool true, Value.bool false, Value.bool false, Value.int IntKind.i64 0, Value.bool false, Value.bool false, Value.bool false, Value.pointer (some ⟨p, 0, none⟩), Value.bool false, Value.bool false, Value.slice (some ⟨zb, zo, none⟩) a2l a2c, Value.slice (some ⟨zb, zo, none⟩) a2l a2c, Value.int IntKind.i64 ((a2l : Nat) : Int), Value.int IntKind.i64 ((mm : Nat) : Int), Value.slice (some ⟨zb, zo, none⟩) mm a2c, Value.int IntKind.i64 ((mm : Nat) : Int), Value.int IntKind.i64 ((c : Nat) : Int), Value.bool true, Value.pointer (some ⟨zb, zo + c * 2, none⟩), Value.agg #[Value.int IntKind.i64 d0, Value.int IntKind.i64 d1], Value.pointer (some ⟨X, 0, none⟩), Value.int IntKind.i64 d0, Value.int IntKind.i64 M, Value.int IntKind.i64 4, u113, u114, u115, u116, u117, u118, u119, u120, u121, u122, u123, u124, u125, u126, u127, u128, u129, u130, u131, u132, u133, u134, u135, u136, u137, u138, u139, u140, u141, u142, u143, u144, u145, u146, u147, u148, u149, u150, u151, u152, u153, u154, u155, u156, u157, u158, u159, u160, u161, u162, u163, u164, u165, u166, u167, u168, u169, u170, u171, u172, u173, u174, u175, u176, u177, u178, u179, u180, u181, u182, u183, u184, u185, u186, u187, u188, u189, u190, u191, u192, u193, u194, u195, u196, u197, u198, u199, u200, u201, u202, u203, u204, u205, u206, u207, u208, u209, u210, u211, u212, u213, u214, u215, u216, u217, u218, u219, u220, u221, u222, u223, u224, u225, u226, u227, u228, u229, u230, u231, u232, u233, u234, u235, u236, u237], []⟩ W7 := by
  conv => arg 2; whnf
  go_wp2_with fail
  refine (Duo.left HD.out (fun R hT h => settle_any _ hT h)).mono ?_
  rintro e w7 ⟨rfl, hd⟩
  have HD1 := Lib.hid hd
  clear hd HD
  go_wp2_with fail
  refine (Duo.right HD1.out (fun bu bt bg_ cu xu h => refsettle_any _ h)).mono ?_
  rintro e w8 ⟨rfl, hd⟩
  have HD2 := Lib.hid hd
  clear hd HD1
  go_wp2_with fail
  go_meet
  exact ⟨rfl, _, (len_settle S).trans HSN.out, HD2.out.two⟩
set_option maxHeartbeats 4000000 in
set_option maxRecDepth 100000 in
theorem sp_arm5 {w W7 : World} {n f l p q X zb zo a2l a2c mm c x0 x1 : Nat} {S : Sp} {a0x0 a0x1 a1x0 a1x1 d0 d1 M : Int} {u6 u7 u8 u18 u19 u20 u21 u22 u23 u24 u25 u26 u27 u28 u29 u30 u31 u32 u33 u34 u35 u36 u37 u38 u39 u40 u41 u42 u43 u44 u45 u46 u47 u48 u49 u50 u51 u52 u53 u54 u55 u56 u57 u58 u59 u60 u61 u62 u63 u64 u65 u66 u67 u68 u69 u70 u71 u72 u73 u74 u75 u76 u77 u113 u114 u115 u116 u117 u118 u119 u120 u121 u122 u123 u124 u125 u126 u127 u128 u129 u130 u131 u132 u133 u134 u135 u136 u137 u138 u139 u140 u141 u142 u143 u144 u145 u146 u147 u148 u149 u150 u151 u152 u153 u154 u155 u156 u157 u158 u159 u160 u161 u162 u163 u164 u165 u166 u167 u168 u169 u170 u171 u172 u173 u174 u175 u176 u177 u178 u179 u180 u181 u182 u183 u184 u185 u186 u187 u188 u189 u190 u191 u192 u193 u194 u195 u196 u197 u198 u199 u200 u201 u202 u203 u204 u205 u206 u207 u208 u209 u210 u211 u212 u213 u214 u215 u216 u217 u218 u219 u220 u221 u222 u223 u224 u225 u226 u227 u228 u229 u230 u231 u232 u233 u234 u235 u236 u237 : Value} {J K' : Act → World → Prop} {Q0 : Exit → Act → World → Prop}
    (HD : Hid (Duo w p q X 35 [.int .i64 d0, .int .i64 d1] S S W7)) (HSN : Hid (S.used.length = n))
    (hMetJ : ∀ (a' : Act) (w' : World), (∃ u17 u18 u19 u20 u21 u22 u23 u24 u25 u106 u107 u108 u109 u110 u111 u113 u114 u115 u116 u117 u118 u119 u120 u121 u122 u123 u124 u125 u126 u127 u128 u129 u130 u131 u132 u133 u134 u135 u136 u137 u138 u139 u140 u141 u142 u143 u144 u145 u146 u147 u148 u149 u150 u151 u152 u153 u154 u155 u156 u157 u158 u159 u160 u161 u162 u163 u164 u165 u166 u167 u168 u169 u170 u171 u172 u173 u174 u175 u176 u177 u178 u179 u180 u181 u182 u183 u184 u185 u186 u187 u188 u189 u190 u194 u195 u196 u197 u198 u199 u200 u201 u202 u203 u204 u205 u206 u207 u208 u209 u210 u211 u212 u213 u214 u215 u216 u217 u218 u219 u220 u221 u222 u223 u224 u225 u226 u227 u228 u229 u230 u231 u232 u233 u234 u235 u236 u237, (u17 = .bool true ∧ ∃ S', S'.used.length = n ∧ Two w p q S' S' w') ∧ a' = ⟨#[Value.agg #[Value.int IntKind.i64 a0x0, Value.int IntKind.i64 a0x1], Value.agg #[Value.int IntKind.u64 a1x0, Value.int IntKind.u64 a1x1], Value.slice (some ⟨zb, zo, none⟩) a2l a2c, Value.pointer (some ⟨x0, 0, none⟩), Value.pointer (some ⟨x1, 0, none⟩), undef, u6, u7, u8, Value.int IntKind.i64 ((n : Nat) : Int), Value.int IntKind.i64 ((f : Nat) : Int), Value.int IntKind.u64 ((l : Nat) : Int), Value.pointer (some ⟨p, 0, none⟩), Value.int IntKind.i64 0, Value.pointer (some ⟨q, 0, none⟩), undef, Value.pointer (some ⟨X, 0, none⟩), u17, u18, u19, u20, u21, u22, u23, u24, u25, u26, u27, u28, u29, u30, u31, u32, u33, u34, u35, u36, u37, u38, u39, u40, u41, u42, u43, u44, u45, u46, u47, u48, u49, u50, u51, u52, u53, u54, u55, u56, u57, u58, u59, u60, u61, u62, u63, u64, u65, u66, u67, u68, u69, u70, u71, u72, u73, u74, u75, u76, u77, Value.tuple #[Value.pointer (some ⟨p, 0, none⟩), Value.int IntKind.i64 0], Value.int IntKind.i64 ((n : Nat) : Int), Value.int IntKind.i64 ((f : Nat) : Int), Value.int IntKind.u64 ((l : Nat) : Int), Value.tuple #[Value.pointer (some ⟨p, 0, none⟩), Value.int IntKind.i64 0], Value.pointer (some ⟨p, 0, none⟩), Value.int IntKind.i64 0, Value.int IntKind.i64 ((n : Nat) : Int), Value.int IntKind.i64 ((f : Nat) : Int), Value.int IntKind.u64 ((l : Nat) : Int), Value.pointer (some ⟨q, 0, none⟩), Value.bool true, Value.bool false, Value.bool false, Value.int IntKind.i64 0, Value.bool false, Value.bool false, Value.bool false, Value.pointer (some ⟨p, 0, none⟩), Value.bool false, Value.bool false, Value.slice (some ⟨zb, zo, none⟩) a2l a2c, Value.slice (some ⟨zb, zo, none⟩) a2l a2c, Value.int IntKind.i64 ((a2l : Nat) : Int), Value.int IntKind.i64 ((mm : Nat) : Int), Value.slice (some ⟨zb, zo, none⟩) mm a2c, Value.int IntKind.i64 ((mm : Nat) : Int), Value.int IntKind.i64 ((c : Nat) : Int), u106, u107, u108, u109, u110, u111, Value.int IntKind.i64 5, u113, u114, u115, u116, u117, u118, u119, u120, u121, u122, u123, u124, u125, u126, u127, u128, u129, u130, u131, u132, u133, u134, u135, u136, u137, u138, u139, u140, u141, u142, u143, u144, u145, u146, u147, u148, u149, u150, u151, u152, u153, u154, u155, u156, u157, u158, u159, u160, u161, u162, u163, u164, u165, u166, u167, u168, u169, u170, u171, u172, u173, u174, u175, u176, u177, u178, u179, u180, u181, u182, u183, u184, u185, u186, u187, u188, u189, u190, u191, u192, u193, u194, u195, u196, u197, u198, u199, u200, u201, u202, u203, u204, u205, u206, u207, u208, u209, u210, u211, u212, u213, u214, u215, u216, u217, u218, u219, u220, u221, u222, u223, u224, u225, u226, u227, u228, u229, u230, u231, u232, u233, u234, u235, u236, u237], []⟩) → J a' w')
    (hMetK : ∀ (a' : Act) (w' : World), Met J a' w' → K' a' w') :
    Code.wp Tryd.prog spSwitch (Exit.then K' Q0) ⟨#[Value.agg #[Value.int IntKind.i64 a0x0, Value.int IntKind.i64 a0x1], Value.agg #[Value.int IntKind.u64 a1x0, Value.int IntKind.u64 a1x1], Value.slice (some ⟨zb, zo, none⟩) a2l a2c, Value.pointer (some ⟨x0, 0, none⟩), Value.pointer (some ⟨x1, 0, none⟩), undef, u6, u7, u8, Value.int IntKind.i64 ((n : Nat) : Int), Value.int IntKind.i64 ((f : Nat) : Int), Value.int IntKind.u64 ((l : Nat) : Int), Value.pointer (some ⟨p, 0, none⟩), Value.int IntKind.i64 0, Value.pointer (some ⟨q, 0, none⟩), undef, Value.pointer (some ⟨X, 0, none⟩), Value.bool true, u18, u19, u20, u21, u22, u23, u24, u25, u26, u27, u28, u29, u30, u31, u32, u33, u34, u35, u36, u37, u38, u39, u40, u41, u42, u43, u44, u45, u46, u47, u48, u49, u50, u51, u52, u53, u54, u55, u56, u57, u58, u59, u60, u61, u62, u63, u64, u65, u66, u67, u68, u69, u70, u71, u72, u73, u74, u75, u76, u77, Value.tuple #[Value.pointer (some ⟨p, 0, none⟩), Value.int IntKind.i64 0], Value.int IntKind.i64 ((n : Nat) : Int), Value.int IntKind.i64 ((f : Nat) : Int), Value.int IntKind.u64 ((l : Nat) : Int), Value.tuple #[Value.pointer (some ⟨p, 0, none⟩), Value.int IntKind.i64 0], Value.pointer (some ⟨p, 0, none⟩), Value.int IntKind.i64 0, Value.int IntKind.i64 ((n : Nat) : Int), Value.int IntKind.i64 ((f : Nat) : Int), Value.int IntKind.u64 ((l : Nat) : Int), Value.pointer (some ⟨q, 0, none⟩), Value.bool true, Value.bool false, Value.bool false, Value.int IntKind.i64 0, Value.bool false, Value.bool false, Value.bool false, Value.pointer (some ⟨p, 0, none⟩), Value.bool false, Value.bool false, Value.slice (some ⟨zb, zo, none⟩) a2l a2c, Value.slice (some ⟨zb, zo, none⟩) a2l a2c, Value.int IntKind.i64 ((a2l : Nat) : Int), Value.int IntKind.i64 ((mm : Nat) : Int), Value.slice (some ⟨zb, zo, none⟩) mm a2c, Value.int IntKind.i64 ((mm : Nat) : Int), Value.int IntKind.i64 ((c : Nat) : Int), Value.bool true, Value.pointer (some ⟨zb, zo + c * 2, none⟩), Value.agg #[Value.int IntKind.i64 d0, Value.int IntKind.i64 d1], Value.pointer (some ⟨X, 0, none⟩), Value.int IntKind.i64 d0, Value.int IntKind.i64 M, Value.int IntKind.i64 5, u113, u114, u115, u116, u117, u118, u119, u120, u121, u122, u123, u124, u125, u126, u127, u128, u129, u130, u131, u132, u133, u134, u135, u136, u137, u138, u139, u140, u141, u142, u143, u144, u145, u146, u147, u148, u149, u150, u151, u152, u153, u154, u155, u156, u157, u158, u159, u160, u161, u162, u163, u164, u165, u166, u167, u168, u169, u170, u171, u172, u173, u174, u175, u176, u177, u178, u179, u180, u181, u182, u183, u184, u185, u186, u187, u188, u189, u190, u191, u192, u193, u194, u195, u196, u197, u198, u199, u200, u201, u202, u203, u204, u205, u206, u207, u208, u209, u210, u211, u212, u213, u214, u215, u216, u217, u218, u219, u220, u221, u222, u223, u224, u225, u226, u227, u228, u229, u230, u231, u232, u233, u234, u235, u236, u237], []⟩ W7 := by
  conv => arg 2; whnf
  go_wp2_with fail
  refine (Duo.left HD.out (fun R hT h => undo_any _ hT h)).mono ?_
  rintro e w7 ⟨rfl, hd⟩
  have HD1 := Lib.hid hd
  clear hd HD
  go_wp2_with fail
  refine (Duo.right HD1.out (fun bu bt bg_ cu xu h => refundo_any _ h)).mono ?_
  rintro e w8 ⟨rfl, hd⟩
  have HD2 := Lib.hid hd
  clear hd HD1
  go_wp2_with fail
  go_meet
  exact ⟨rfl, _, (len_undo S).trans HSN.out, HD2.out.two⟩
set_option maxHeartbeats 4000000 in
set_option maxRecDepth 100000 in
theorem sp_arm6 {w W7 : World} {n f l p q X zb zo a2l a2c mm c x0 x1 : Nat} {S : Sp} {a0x0 a0x1 a1x0 a1x1 d0 d1 M : Int} {u6 u7 u8 u18 u19 u20 u21 u22 u23 u24 u25 u26 u27 u28 u29 u30 u31 u32 u33 u34 u35 u36 u37 u38 u39 u40 u41 u42 u43 u44 u45 u46 u47 u48 u49 u50 u51 u52 u53 u54 u55 u56 u57 u58 u59 u60 u61 u62 u63 u64 u65 u66 u67 u68 u69 u70 u71 u72 u73 u74 u75 u76 u77 u113 u114 u115 u116 u117 u118 u119 u120 u121 u122 u123 u124 u125 u126 u127 u128 u129 u130 u131 u132 u133 u134 u135 u136 u137 u138 u139 u140 u141 u142 u143 u144 u145 u146 u147 u148 u149 u150 u151 u152 u153 u154 u155 u156 u157 u158 u159 u160 u161 u162 u163 u164 u165 u166 u167 u168 u169 u170 u171 u172 u173 u174 u175 u176 u177 u178 u179 u180 u181 u182 u183 u184 u185 u186 u187 u188 u189 u190 u191 u192 u193 u194 u195 u196 u197 u198 u199 u200 u201 u202 u203 u204 u205 u206 u207 u208 u209 u210 u211 u212 u213 u214 u215 u216 u217 u218 u219 u220 u221 u222 u223 u224 u225 u226 u227 u228 u229 u230 u231 u232 u233 u234 u235 u236 u237 : Value} {J K' : Act → World → Prop} {Q0 : Exit → Act → World → Prop}
    (HD : Hid (Duo w p q X 35 [.int .i64 d0, .int .i64 d1] S S W7)) (HSN : Hid (S.used.length = n))
    (hMetJ : ∀ (a' : Act) (w' : World), (∃ u17 u18 u19 u20 u21 u22 u23 u24 u25 u106 u107 u108 u109 u110 u111 u113 u114 u115 u116 u117 u118 u119 u120 u121 u122 u123 u124 u125 u126 u127 u128 u129 u130 u131 u132 u133 u134 u135 u136 u137 u138 u139 u140 u141 u142 u143 u144 u145 u146 u147 u148 u149 u150 u151 u152 u153 u154 u155 u156 u157 u158 u159 u160 u161 u162 u163 u164 u165 u166 u167 u168 u169 u170 u171 u172 u173 u174 u175 u176 u177 u178 u179 u180 u181 u182 u183 u184 u185 u186 u187 u188 u189 u190 u194 u195 u196 u197 u198 u199 u200 u201 u202 u203 u204 u205 u206 u207 u208 u209 u210 u211 u212 u213 u214 u215 u216 u217 u218 u219 u220 u221 u222 u223 u224 u225 u226 u227 u228 u229 u230 u231 u232 u233 u234 u235 u236 u237, (u17 = .bool true ∧ ∃ S', S'.used.length = n ∧ Two w p q S' S' w') ∧ a' = ⟨#[Value.agg #[Value.int IntKind.i64 a0x0, Value.int IntKind.i64 a0x1], Value.agg #[Value.int IntKind.u64 a1x0, Value.int IntKind.u64 a1x1], Value.slice (some ⟨zb, zo, none⟩) a2l a2c, Value.pointer (some ⟨x0, 0, none⟩), Value.pointer (some ⟨x1, 0, none⟩), undef, u6, u7, u8, Value.int IntKind.i64 ((n : Nat) : Int), Value.int IntKind.i64 ((f : Nat) : Int), Value.int IntKind.u64 ((l : Nat) : Int), Value.pointer (some ⟨p, 0, none⟩), Value.int IntKind.i64 0, Value.pointer (some ⟨q, 0, none⟩), undef, Value.pointer (some ⟨X, 0, none⟩), u17, u18, u19, u20, u21, u22, u23, u24, u25, u26, u27, u28, u29, u30, u31, u32, u33, u34, u35, u36, u37, u38, u39, u40, u41, u42, u43, u44, u45, u46, u47, u48, u49, u50, u51, u52, u53, u54, u55, u56, u57, u58, u59, u60, u61, u62, u63, u64, u65, u66, u67, u68, u69, u70, u71, u72, u73, u74, u75, u76, u77, Value.tuple #[Value.pointer (some ⟨p, 0, none⟩), Value.int IntKind.i64 0], Value.int IntKind.i64 ((n : Nat) : Int), Value.int IntKind.i64 ((f : Nat) : Int), Value.int IntKind.u64 ((l : Nat) : Int), Value.tuple #[Value.pointer (some ⟨p, 0, none⟩), Value.int IntKind.i64 0], Value.pointer (some ⟨p, 0, none⟩), Value.int IntKind.i64 0, Value.int IntKind.i64 ((n : Nat) : Int), Value.int IntKind.i64 ((f : Nat) : Int), Value.int IntKind.u64 ((l : Nat) : Int), Value.pointer (some ⟨q, 0, none⟩), Value.bool true, Value.bool false, Value.bool false, Value.int IntKind.i64 0, Value.bool false, Value.bool false, Value.bool false, Value.pointer (some ⟨p, 0, none⟩), Value.bool false, Value.bool false, Value.slice (some ⟨zb, zo, none⟩) a2l a2c, Value.slice (some ⟨zb, zo, none⟩) a2l a2c, Value.int IntKind.i64 ((a2l : Nat) : Int), Value.int IntKind.i64 ((mm : Nat) : Int), Value.slice (some ⟨zb, zo, none⟩) mm a2c, Value.int IntKind.i64 ((mm : Nat) : Int), Value.int IntKind.i64 ((c : Nat) : Int), u106, u107, u108, u109, u110, u111, Value.int IntKind.i64 6, u113, u114, u115, u116, u117, u118, u119, u120, u121, u122, u123, u124, u125, u126, u127, u128, u129, u130, u131, u132, u133, u134, u135, u136, u137, u138, u139, u140, u141, u142, u143, u144, u145, u146, u147, u148, u149, u150, u151, u152, u153, u154, u155, u156, u157, u158, u159, u160, u161, u162, u163, u164, u165, u166, u167, u168, u169, u170, u171, u172, u173, u174, u175, u176, u177, u178, u179, u180, u181, u182, u183, u184, u185, u186, u187, u188, u189, u190, u191, u192, u193, u194, u195, u196, u197, u198, u199, u200, u201, u202, u203, u204, u205, u206, u207, u208, u209, u210, u211, u212, u213, u214, u215, u216, u217, u218, u219, u220, u221, u222, u223, u224, u225, u226, u227, u228, u229, u230, u231, u232, u233, u234, u235, u236, u237], []⟩) → J a' w')
    (hMetK : ∀ (a' : Act) (w' : World), Met J a' w' → K' a' w') :
    Code.wp Tryd.prog spSwitch (Exit.then K' Q0) ⟨#[Value.agg #[Value.int IntKind.i64 a0x0, Value.int IntKind.i64 a0x1], Value.agg #[Value.int IntKind.u64 a1x0, Value.int IntKind.u64 a1x1], Value.slice (some ⟨zb, zo, none⟩) a2l a2c, Value.pointer (some ⟨x0, 0, none⟩), Value.pointer (some ⟨x1, 0, none⟩), undef, u6, u7, u8, Value.int IntKind.i64 ((n : Nat) : Int), Value.int IntKind.i64 ((f : Nat) : Int), Value.int IntKind.u64 ((l : Nat) : Int), Value.pointer (some ⟨p, 0, none⟩), Value.int IntKind.i64 0, Value.pointer (some ⟨q, 0, none⟩), undef, Value.pointer (some ⟨X, 0, none⟩), Value.bool true, u18, u19, u20, u21, u22, u23, u24, u25, u26, u27, u28, u29, u30, u31, u32, u33, u34, u35, u36, u37, u38, u39, u40, u41, u42, u43, u44, u45, u46, u47, u48, u49, u50, u51, u52, u53, u54, u55, u56, u57, u58, u59, u60, u61, u62, u63, u64, u65, u66, u67, u68, u69, u70, u71, u72, u73, u74, u75, u76, u77, Value.tuple #[Value.pointer (some ⟨p, 0, none⟩), Value.int IntKind.i64 0], Value.int IntKind.i64 ((n : Nat) : Int), Value.int IntKind.i64 ((f : Nat) : Int), Value.int IntKind.u64 ((l : Nat) : Int), Value.tuple #[Value.pointer (some ⟨p, 0, none⟩), Value.int IntKind.i64 0], Value.pointer (some ⟨p, 0, none⟩), Value.int IntKind.i64 0, Value.int IntKind.i64 ((n : Nat) : Int), Value.int IntKind.i64 ((f : Nat) : Int), Value.int IntKind.u64 ((l : Nat) : Int), Value.pointer (some ⟨q, 0, none⟩), Value.bool true, Value.bool false, Value.bool false, Value.int IntKind.i64 0, Value.bool false, Value.bool false, Value.bool false, Value.pointer (some ⟨p, 0, none⟩), Value.bool false, Value.bool false, Value.slice (some ⟨zb, zo, none⟩) a2l a2c, Value.slice (some ⟨zb, zo, none⟩) a2l a2c, Value.int IntKind.i64 ((a2l : Nat) : Int), Value.int IntKind.i64 ((mm : Nat) : Int), Value.slice (some ⟨zb, zo, none⟩) mm a2c, Value.int IntKind.i64 ((mm : Nat) : Int), Value.int IntKind.i64 ((c : Nat) : Int), Value.bool true, Value.pointer (some ⟨zb, zo + c * 2, none⟩), Value.agg #[Value.int IntKind.i64 d0, Value.int IntKind.i64 d1], Value.pointer (some ⟨X, 0, none⟩), Value.int IntKind.i64 d0, Value.int IntKind.i64 M, Value.int IntKind.i64 6, u113, u114, u115, u116, u117, u118, u119, u120, u121, u122, u123, u124, u125, u126, u127, u128, u129, u130, u131, u132, u133, u134, u135, u136, u137, u138, u139, u140, u141, u142, u143, u144, u145, u146, u147, u148, u149, u150, u151, u152, u153, u154, u155, u156, u157, u158, u159, u160, u161, u162, u163, u164, u165, u166, u167, u168, u169, u170, u171, u172, u173, u174, u175, u176, u177, u178, u179, u180, u181, u182, u183, u184, u185, u186, u187, u188, u189, u190, u191, u192, u193, u194, u195, u196, u197, u198, u199, u200, u201, u202, u203, u204, u205, u206, u207, u208, u209, u210, u211, u212, u213, u214, u215, u216, u217, u218, u219, u220, u221, u222, u223, u224, u225, u226, u227, u228, u229, u230, u231, u232, u233, u234, u235, u236, u237], []⟩ W7 := by
  conv => arg 2; whnf
  go_wp2_with fail
  refine (Duo.left HD.out (fun R _ h => step_any _ h)).mono ?_
  rintro e w7 ⟨rfl, hd⟩
  have HD1 := Lib.hid hd
  clear hd HD
  go_wp2_with fail
  refine (Duo.right HD1.out (fun bu bt bg_ cu xu h => refstep_any _ h)).mono ?_
  rintro e w8 ⟨rfl, hd⟩
  have HD2 := Lib.hid hd
  clear hd HD1
  go_wp2_with fail
  go_meet
  exact ⟨rfl, _, (len_step S).trans HSN.out, HD2.out.two⟩
end Go.Proofs.YtkflccecdjfkiaaDoor.Spc
