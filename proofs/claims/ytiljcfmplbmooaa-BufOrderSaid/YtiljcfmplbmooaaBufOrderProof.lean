/-
  The law BufOrder holds: messages of unlike keys make the same buffer in whatever order they come; cut in two places, the parts are by rising keys, and together all. Conditions: none but the row's own.
-/
import Derived.Test.YtiljcfmplbmooaaRows
import Derived.Test.YtiljcfmplbmooaaBufO
import Derived.Test.YtiljcfmplbmooaaStructsZ
import Derived.WalkKit
import Derived.ProofKit
import Derived.OpenShut
import Derived.ShutString
import Derived.ChangeOld
import Derived.Below
import Derived.Carry
namespace Go.Proofs.Ytiljcfmplbmooaa.bufOrder
open Go.ChangeShapes Go.WideShapes Go.ChangeAt Go.RowKit
open Go.Proofs.Ytiljcfmplbmooaa
open Go.ChangeMaps (open_string shut_string)
set_option linter.unusedVariables false

theorem own : ownKnob Try.prog.godebug = none := by kernel_rfl
theorem laidOut : laidOutB Try.prog = true := by kernel_rfl

theorem len2 {α : Type} : ∀ l : List α, l.length = 2 → ∃ z0 z1, l = [z0, z1]
  | [z0, z1], _ => ⟨z0, z1, rfl⟩
/-- the elements of argument 0 -/
def AR0 (w : World) (a : Option Addr) (len : Nat) : Prop := 0 < len → ∃ b off, a = some ⟨b, off, none⟩ ∧ ∀ i, i < len → ∃ (x0 : Int) (x1 : ByteArray) (x2 : ByteArray) (x3 : Int), w.cell? ⟨b, off + (i * 4 + 0), none⟩ = some (.int .u8 x0) ∧ (Lit.int .u8 x0).wf = true ∧ w.cell? ⟨b, off + (i * 4 + 1), none⟩ = some (.string x1) ∧ x1.size ≤ 140737488355327 ∧ w.cell? ⟨b, off + (i * 4 + 2), none⟩ = some (.string x2) ∧ x2.size ≤ 140737488355327 ∧ w.cell? ⟨b, off + (i * 4 + 3), none⟩ = some (.int .u64 x3) ∧ (Lit.int .u64 x3).wf = true
theorem open_AR0 {H : Type} {enc : TypeId × Value → H} {w : World} {held : Bool} {c : Value} {d : DataW H} {pl : List MemPlace} (h : ∃ m, DataW.trod enc Try.prog w 0 (fun _ => true) held m 22 [c] = some (d, pl)) (hz : ∀ n ∈ d.weights Try.prog 22, n ≤ reachBytes) :
    ∃ a len cap, c = .slice a len cap ∧ AR0 w a len ∧ len ≤ cap ∧ cap ≤ maxLen := by
  obtain ⟨a, len, cap, hc, hl, hm, hx⟩ := open_structs_z Try.underlying22 Try.underlying30 (by kernel_rfl) (by kernel_rfl) (by decide) h hz
  refine ⟨a, len, cap, hc, fun hpos => ?_, hl, hm⟩
  obtain ⟨b, off, ha, hf⟩ := hx hpos
  refine ⟨b, off, ha, fun i hi => ?_⟩
  obtain ⟨v0, hc0, ht0, hz0⟩ := hf i hi 0 _ rfl
  obtain ⟨x0, rfl, hw0⟩ := open_int_cell Try.underlying5 ht0
  obtain ⟨v1, hc1, ht1, hz1⟩ := hf i hi 1 _ rfl
  obtain ⟨x1, rfl, hw1'⟩ := open_str_cell Try.underlying9 ht1
  have hw1 := hz1 Try.underlying9 _ rfl
  obtain ⟨v2, hc2, ht2, hz2⟩ := hf i hi 2 _ rfl
  obtain ⟨x2, rfl, hw2'⟩ := open_str_cell Try.underlying9 ht2
  have hw2 := hz2 Try.underlying9 _ rfl
  obtain ⟨v3, hc3, ht3, hz3⟩ := hf i hi 3 _ rfl
  obtain ⟨x3, rfl, hw3⟩ := open_int_cell Try.underlying28 ht3
  exact ⟨x0, x1, x2, x3, hc0, hw0, hc1, hw1, hc2, hw2, hc3, hw3⟩

set_option linter.unusedSimpArgs false
open Go.Proofs.Ytiljcfmplbmooaa.Buf Go.Proofs.Ytiljcfmplbmooaa.Msg Go.Proofs.Ytiljcfmplbmooaa.Rec Go.Proofs.Ytiljcfmplbmooaa.Lend
theorem ups0 {w : World} {a : Option Addr} {len cap : Nat} (h : AR0 w a len) : ∃ l, len = l.length ∧ UR w (.slice a len cap) l ∧ ∀ u ∈ l, Qu u := by
  refine ur_of Qu fun h0 => ?_
  obtain ⟨b, off, ha, hx⟩ := h h0
  refine ⟨b, off, ha, fun i hi => ?_⟩
  obtain ⟨x0, x1, x2, x3, c0, h0, c1, h1, c2, h2, c3, h3⟩ := hx i hi
  exact ⟨_, ⟨⟨(u8_bd h0).1, (u8_bd h0).2, (u64_bd h3).1, (u64_bd h3).2⟩, by simpa using h1, by simpa using h2⟩, up_cells c0 c1 c2 c3⟩
/-- both buffers in their blocks -/
structure Dk (w0 : World) (G : Nat) (va vb : Value) (La Lb : List Up) (w : World) : Prop where
  a : Has w G 25 [va]
  b : Has w (G + 1) 25 [vb]
  ra : RA w (G + 2) va La
  rb : RA w (G + 2) vb Lb
  bel : Below w0.heap.size w0 w
section
variable {w0 w w' : World} {G : Nat} {va vb cv : Value} {La Lb L' : List Up}
theorem Dk.on (h : Dk w0 G va vb La Lb w) (hb : Below w.heap.size w w') : Dk w0 G va vb La Lb w' := ⟨h.a.below hb h.a.lt, h.b.below hb h.b.lt, own_bel h.ra hb, own_bel h.rb hb, below_on h.bel hb⟩
theorem Dk.setA (h : Dk w0 G va vb La Lb w) (hG : w0.heap.size = G) (hc : RA w (G + 2) cv L') : Dk w0 G cv vb L' Lb (w.setCell ⟨G, 0, none⟩ cv) :=
  ⟨h.a.set 0 cv, h.b.setOther (Nat.ne_of_lt (Nat.lt_succ_self _)) cv, ro_far hc (Nat.lt_succ_of_lt (Nat.lt_succ_self _)) _, ro_far h.rb (Nat.lt_succ_of_lt (Nat.lt_succ_self _)) _, h.bel.setCell (Nat.le_of_eq hG) _⟩
theorem Dk.setB (h : Dk w0 G va vb La Lb w) (hG : w0.heap.size = G) (hc : RA w (G + 2) cv L') : Dk w0 G va cv La L' (w.setCell ⟨G + 1, 0, none⟩ cv) :=
  ⟨h.a.setOther (Nat.ne_of_gt (Nat.lt_succ_self _)) cv, h.b.set 0 cv, ro_far h.ra (Nat.lt_succ_self _) _, ro_far hc (Nat.lt_succ_self _) _, h.bel.setCell (by show w0.heap.size ≤ G + 1; omega) _⟩
theorem Dk.new (w : World) : Dk w w.heap.size (.slice none 0 0) (.slice none 0 0) [] [] ((w.alloc (.cells #[.slice none 0 0] 25)).alloc (.cells #[.slice none 0 0] 25)) := by
  have h2 := Has.new (w.alloc (.cells #[.slice none 0 0] 25)) [.slice none 0 0] 25
  simp only [World.size_alloc] at h2
  exact ⟨(Has.new w [.slice none 0 0] _).alloc _, h2, World.ownsRow_nil _ _ _ _, World.ownsRow_nil _ _ _ _, below_nw (below_new w _) _⟩
end
theorem srt_at {L : List Up} (h : Srt L) {t : Nat} (ht : t + 1 < L.length) : kLt (L[t]'(by omega)).key L[t + 1].key = true :=
  List.pairwise_iff_getElem.1 h t (t + 1) (by omega) ht (Nat.lt_succ_self _)
theorem fw_take {A : List Up} {j : Nat} (h : j < A.length) : withU (foldW (A.take j)) A[j] = foldW (A.take (j + 1)) := by
  rw [← foldW_snoc, List.take_append_getElem h]
theorem klt_data (a b : List UInt8) : kLt a b = decide ((Lend.strOf a).data.toList < (Lend.strOf b).data.toList) := by
  rw [← bl_str, Proofs.bytesLess_eq, Lib.toList_data, Lib.toList_data]
theorem min_max (a b : List UInt8) : ∃ lo hi, Lib.minS (Lend.strOf a) (Lend.strOf b) = Lend.strOf lo ∧ Lib.maxS (Lend.strOf a) (Lend.strOf b) = Lend.strOf hi ∧ kLt hi lo = false := by
  unfold Lib.minS Lib.maxS
  by_cases h : (Lend.strOf a).data.toList < (Lend.strOf b).data.toList
  · rw [if_pos (.inl h), if_pos h]
    exact ⟨a, b, rfl, rfl, kLt_asym (by rw [klt_data]; exact decide_eq_true h)⟩
  · rw [if_neg h]
    have hk : kLt a b = false := by rw [klt_data]; exact decide_eq_false h
    by_cases e : (Lend.strOf a).data.toList = (Lend.strOf b).data.toList
    · rw [if_pos (.inr e)]; exact ⟨a, a, rfl, rfl, kLt_irr a⟩
    · rw [if_neg (by rintro (h' | h'); exact h h'; exact e h')]; exact ⟨b, a, rfl, rfl, hk⟩
/-- the three parts in their blocks, and the whole -/
structure Tr (b1 b2 b3 : Nat) (v1 v2 v3 : Value) (P1 P2 P3 : List Up) (x : Value) (L : List Up) (w : World) : Prop where
  h1 : Has w b1 25 [v1]
  h2 : Has w b2 25 [v2]
  h3 : Has w b3 25 [v3]
  u1 : UR w v1 P1
  u2 : UR w v2 P2
  u3 : UR w v3 P3
  x : UR w x L
theorem Tr.on {b1 b2 b3 : Nat} {v1 v2 v3 x : Value} {P1 P2 P3 L : List Up} {w w' : World} (h : Tr b1 b2 b3 v1 v2 v3 P1 P2 P3 x L w) (hb : Below w.heap.size w w') : Tr b1 b2 b3 v1 v2 v3 P1 P2 P3 x L w' :=
  ⟨h.h1.below hb h.h1.lt, h.h2.below hb h.h2.lt, h.h3.below hb h.h3.lt, h.u1.below hb, h.u2.below hb, h.u3.below hb, h.x.below hb⟩
/-- how far the sum has come -/
structure Su (W0 : World) (P1 P2 P3 : List Up) (l : Nat → Bool) (a : Act) (w : World) : Prop where
  bel : Below W0.heap.size W0 w
  r1 : l 1 = true → l 4 = false → RA w W0.heap.size (a.tmps.getD 164 undef) P1
  r2 : l 3 = true → l 4 = false → UR w (a.tmps.getD 166 undef) P2
  r4 : l 4 = true → l 7 = false → RA w W0.heap.size (a.tmps.getD 167 undef) (P1 ++ P2)
  r6 : l 6 = true → l 7 = false → UR w (a.tmps.getD 169 undef) P3
  r7 : l 7 = true → RA w W0.heap.size (a.tmps.getD 170 undef) (P1 ++ P2 ++ P3)
  e8 : l 8 = true → a.tmps.getD 25 undef = a.tmps.getD 170 undef
section
variable {W0 w w' : World} {P1 P2 P3 : List Up} {l : Nat → Bool} {a : Act} {v : Value}
theorem Su.on (h : Su W0 P1 P2 P3 l a w) (hb : Below w.heap.size w w') : Su W0 P1 P2 P3 l a w' :=
  ⟨below_on h.bel hb, fun p q => own_bel (h.r1 p q) hb, fun p q => (h.r2 p q).below hb, fun p q => own_bel (h.r4 p q) hb, fun p q => (h.r6 p q).below hb, fun p => own_bel (h.r7 p) hb, h.e8⟩
theorem Su.start (a : Act) (w : World) : Su w P1 P2 P3 (fun _ => false) a w.drew :=
  ⟨(Below.refl _ _).drew, (fun e => by cases e), (fun e => by cases e), (fun e => by cases e), (fun e => by cases e), (fun e => by cases e), (fun e => by cases e)⟩
theorem Su.k0 (h : Su W0 P1 P2 P3 l a w) (v : Value) (hs : 163 < a.tmps.size) : Su W0 P1 P2 P3 (Reg.lset l 0) (a.put (some 163) v) w := by
  obtain ⟨f0, f1, f2, f4, f6, f7, f8⟩ := h
  refine ⟨f0, ?_, ?_, ?_, ?_, ?_, ?_⟩ <;> simp [-Array.getD_eq_getD_getElem?, -List.append_assoc, Reg.lset, Reg.getD_put _ _ _ _ hs] <;> assumption
theorem Su.k2 (h : Su W0 P1 P2 P3 l a w) (v : Value) (hs : 165 < a.tmps.size) : Su W0 P1 P2 P3 (Reg.lset l 2) (a.put (some 165) v) w := by
  obtain ⟨f0, f1, f2, f4, f6, f7, f8⟩ := h
  refine ⟨f0, ?_, ?_, ?_, ?_, ?_, ?_⟩ <;> simp [-Array.getD_eq_getD_getElem?, -List.append_assoc, Reg.lset, Reg.getD_put _ _ _ _ hs] <;> assumption
theorem Su.k5 (h : Su W0 P1 P2 P3 l a w) (v : Value) (hs : 168 < a.tmps.size) : Su W0 P1 P2 P3 (Reg.lset l 5) (a.put (some 168) v) w := by
  obtain ⟨f0, f1, f2, f4, f6, f7, f8⟩ := h
  refine ⟨f0, ?_, ?_, ?_, ?_, ?_, ?_⟩ <;> simp [-Array.getD_eq_getD_getElem?, -List.append_assoc, Reg.lset, Reg.getD_put _ _ _ _ hs] <;> assumption
theorem Su.c1 (h : Su W0 P1 P2 P3 l a w) (hb : Below w.heap.size w w') (hr : RA w' w.heap.size v P1) (hs : 164 < a.tmps.size) : Su W0 P1 P2 P3 (Reg.lset l 1) (a.put (some 164) v) w' := by
  have hn := own_base hr h.bel.size
  obtain ⟨f0, f1, f2, f4, f6, f7, f8⟩ := h.on hb
  refine ⟨f0, ?_, ?_, ?_, ?_, ?_, ?_⟩ <;> simp [-Array.getD_eq_getD_getElem?, -List.append_assoc, Reg.lset, Reg.getD_put _ _ _ _ hs] <;> first | assumption | exact fun _ => hn
theorem Su.c3 (h : Su W0 P1 P2 P3 l a w) (hb : Below w.heap.size w w') (hr : RA w' w.heap.size v P2) (hs : 166 < a.tmps.size) : Su W0 P1 P2 P3 (Reg.lset l 3) (a.put (some 166) v) w' := by
  have hn := UR.of_own hr
  obtain ⟨f0, f1, f2, f4, f6, f7, f8⟩ := h.on hb
  refine ⟨f0, ?_, ?_, ?_, ?_, ?_, ?_⟩ <;> simp [-Array.getD_eq_getD_getElem?, -List.append_assoc, Reg.lset, Reg.getD_put _ _ _ _ hs] <;> first | assumption | exact fun _ => hn
theorem Su.c6 (h : Su W0 P1 P2 P3 l a w) (hb : Below w.heap.size w w') (hr : RA w' w.heap.size v P3) (hs : 169 < a.tmps.size) : Su W0 P1 P2 P3 (Reg.lset l 6) (a.put (some 169) v) w' := by
  have hn := UR.of_own hr
  obtain ⟨f0, f1, f2, f4, f6, f7, f8⟩ := h.on hb
  refine ⟨f0, ?_, ?_, ?_, ?_, ?_, ?_⟩ <;> simp [-Array.getD_eq_getD_getElem?, -List.append_assoc, Reg.lset, Reg.getD_put _ _ _ _ hs] <;> first | assumption | exact fun _ => hn
theorem Su.a4 (ty : TypeId) (h : Su W0 P1 P2 P3 l a w) (h1 : l 1 = true) (h3 : l 3 = true) (h4 : l 4 = false) (h6 : l 6 = false) (h7 : l 7 = false) (hs : 167 < a.tmps.size) (hn : P1.length + P2.length ≤ 1000000000) :
    ∃ v' w', (Builtin.append_ #[23, 23] ty #[a.tmps.getD 164 undef, a.tmps.getD 166 undef]).run Try.prog w = .ok v' w' ∧ Su W0 P1 P2 P3 (Reg.lset l 4) (a.put (some 167) v') w' := by
  have hr := h.r1 h1 h4
  obtain ⟨v', w', hrun, ho, hg, _⟩ := app_own und_up isU_up ty hr (h.r2 h3 h4) h.bel.size hn
  have hb := h.bel.grown hg h.bel.size (fun k hk => (hr.lt k hk).1)
  refine ⟨v', w', hrun, hb, ?_, ?_, ?_, ?_, ?_, ?_⟩ <;> simp [-Array.getD_eq_getD_getElem?, -List.append_assoc, Reg.lset, Reg.getD_put _ _ _ _ hs, h6, h7]
  · exact ho
  · exact h.e8
theorem Su.a7 (ty : TypeId) (h : Su W0 P1 P2 P3 l a w) (h4 : l 4 = true) (h6 : l 6 = true) (h7 : l 7 = false) (h8 : l 8 = false) (hs : 170 < a.tmps.size) (hn : (P1 ++ P2).length + P3.length ≤ 1000000000) :
    ∃ v' w', (Builtin.append_ #[23, 23] ty #[a.tmps.getD 167 undef, a.tmps.getD 169 undef]).run Try.prog w = .ok v' w' ∧ Su W0 P1 P2 P3 (Reg.lset l 7) (a.put (some 170) v') w' := by
  have hr := h.r4 h4 h7
  obtain ⟨v', w', hrun, ho, hg, _⟩ := app_own und_up isU_up ty hr (h.r6 h6 h7) h.bel.size hn
  have hb := h.bel.grown hg h.bel.size (fun k hk => (hr.lt k hk).1)
  refine ⟨v', w', hrun, hb, ?_, ?_, ?_, ?_, ?_, ?_⟩ <;> simp [-Array.getD_eq_getD_getElem?, -List.append_assoc, Reg.lset, Reg.getD_put _ _ _ _ hs, h4, h8]
  exact ho
theorem Su.s8 (h : Su W0 P1 P2 P3 l a w) (hs : 25 < a.tmps.size) : Su W0 P1 P2 P3 (Reg.lset l 8) (a.put (some 25) (a.tmps.getD 170 undef)) w := by
  obtain ⟨f0, f1, f2, f4, f6, f7, f8⟩ := h
  refine ⟨f0, ?_, ?_, ?_, ?_, ?_, ?_⟩ <;> simp [-Array.getD_eq_getD_getElem?, -List.append_assoc, Reg.lset, Reg.getD_put _ _ _ _ hs] <;> assumption
theorem Su.done {n : Nat} (h : Su W0 P1 P2 P3 (fun j => decide (j < n)) a w) (hn : 8 < n) : RA w W0.heap.size (a.tmps.getD 25 undef) (P1 ++ P2 ++ P3) := by
  rw [h.e8 (by simpa using hn)]
  exact h.r7 (by simp; omega)
end

/-! ### STEP 1: THE WALK -/
set_option maxHeartbeats 8000000 in
set_option maxRecDepth 100000 in
theorem walk (a0 : Option Addr) (a0l a0c : Nat) (a1 : Int) (a2x0 a2x1 : ByteArray) (w : World) (w0 : AR0 w a0 a0l) (w0l : a0l ≤ a0c) (w0m : a0c ≤ maxLen) (w1 : (Lit.int .u8 a1).wf = true) (w2x0 : a2x0.size ≤ maxLen) (w2x1 : a2x1.size ≤ maxLen) :
    Calls Try.prog 6 #[.slice a0 a0l a0c, .int .u8 a1, .agg #[.string a2x0, .string a2x1]] w fun e w' => e = .returned (.bool true) ∧ Below w.heap.size w w' := by
  obtain ⟨l, hl, hu, hq⟩ := ups0 (cap := a0c) w0
  have HU := Lib.hid hu
  have HN := Lib.hid hl
  have HQ := Lib.hid hq
  have HNC := Lib.hid (show a0l ≤ a0c ∧ a0c ≤ 9223372036854775807 from ⟨w0l, by unfold maxLen at w0m; exact w0m⟩)
  have HTU := Lib.hid (u8_bd w1)
  clear hl hu hq w0 w0l w0m w1 w2x0 w2x1
  obtain ⟨key0, rfl⟩ : ∃ v, a2x0 = Lend.strOf v := ⟨a2x0.data.toList, Lend.strOf_ext rfl⟩
  obtain ⟨key1, rfl⟩ : ∃ v, a2x1 = Lend.strOf v := ⟨a2x1.data.toList, Lend.strOf_ext rfl⟩
  obtain ⟨w0, hw0⟩ : ∃ x, x = w.alloc (.cells #[.string (Lend.strOf key0), .string (Lend.strOf key1)] 72) := ⟨_, rfl⟩
  have HB0 := Lib.hid (show Below w.heap.size w w0 by rw [hw0]; exact below_new _ _)
  have HKY := Lib.hid (show Has w0 w.heap.size 72 [.string (Lend.strOf key0), .string (Lend.strOf key1)] by rw [hw0]; exact Has.new _ _ _)
  have HU0 := Lib.hid (HU.out.below HB0.out)
  have HS0 := Lib.hid (show w0.heap.size = w.heap.size + 1 by rw [hw0]; simp)
  obtain ⟨w1, hw1⟩ : ∃ x, x = w0.alloc (.map #[] 0) := ⟨_, rfl⟩
  have HB1 := Lib.hid (show Below (w.heap.size + 1) w0 w1 by rw [hw1, ← HS0.out]; exact below_new _ _)
  have HM1 := Lib.hid (show Mp.MM w1 (w.heap.size + 1) (mkE []) by rw [hw1, ← HS0.out]; exact Mp.MM.made w0)
  have HS1 := Lib.hid (show w1.heap.size = w.heap.size + 1 + 1 by rw [hw1, ← HS0.out]; simp)
  have hmm := @run_makeMap Try.prog
  obtain ⟨M, hm⟩ : ∃ m, m = min a0l 20 := ⟨_, rfl⟩
  have HMM := Lib.hid hm
  go_enter Try.func6, Try.ntmps6
  go_upto_region 3 with fail
  rw [← hw0, ← hw1]
  clear hw0 hw1 hmm
  go_cut [32, 33, 34] (fun s t i wx => ∃ a' cap', s = .slice a' M cap' ∧ t = .int .i64 M ∧ i = .int .i64 ((0 : Nat) : Int) ∧ (0 < M → a' = a0) ∧ wx = w1)
  case first =>
    have hnc := HNC.out
    go_wp2_with fail
    all_goals
      go_meet
      first
      | (have e : M = 20 := by have := HMM.out; omega
         exact ⟨_, _, by rw [e], by rw [e]; rfl, rfl, fun _ => rfl, rfl⟩)
      | (have e1 : (min (a0l : Int) 20).toNat = M := by have := HMM.out; omega
         have e2 : max (min (a0l : Int) 20) 0 = (M : Int) := by have := HMM.out; omega
         exact ⟨_, _, by rw [e1], by rw [e2], rfl, fun _ => rfl, rfl⟩)
      | (have e : M = a0l := by have := HMM.out; omega
         exact ⟨_, _, by rw [e], by rw [e], rfl, fun _ => rfl, rfl⟩)
  case rest =>
    obtain ⟨s, c, rfl, rfl, rfl, haa, hww⟩ := hcut
    have hww := hww.symm
    subst hww
    have hml : M ≤ l.length ∧ M ≤ 20 := by have := HMM.out; have := HN.out; omega
    obtain ⟨hml, hmk⟩ := hml
    have HAA := Lib.hid haa
    clear hm haa
    go_wp2_with fail
    go_loopw [7, 34] (fun av i wr => ∃ (k : Nat) (av' : Value) (A : List Up), k ≤ M ∧ av' = av ∧ i = .int .i64 k ∧ RA wr w1.heap.size av' A ∧ Mp.MM wr (w.heap.size + 1) (mkE A) ∧ Below (w.heap.size + 1) w0 wr ∧ Hid (Aok A k)) (fun _ i _ => M - (intOf i).toNat)
    case atStart => exact ⟨0, _, [], Nat.zero_le _, rfl, rfl, World.ownsRow_nil _ _ _ _, HM1.out, HB1.out, Lib.hid aok_nil⟩
    case round =>
      obtain ⟨k, av, A, hk, rfl, rfl, hra, hmm, hb, HAK⟩ := hrel
      rename World => wr
      have HRA := Lib.hid hra
      have HMP := Lib.hid hmm
      have HB := Lib.hid hb
      by_cases hlt : k < M
      · have hki : (k : Int) < (M : Int) := by omega
        have hke : k < l.length := by omega
        have hur := HU0.out.below (show Below w0.heap.size w0 wr by rw [HS0.out]; exact hb)
        obtain ⟨g, off, hg⟩ := ur_some HU0.out (by omega)
        obtain rfl : s = some ⟨g, off, none⟩ := by rw [HAA.out (by omega), hg]
        rw [hg] at hur
        obtain ⟨c0, c1, c2, c3⟩ := ur_cells hur k hke
        have hqu := HQ.out _ (List.getElem_mem hke)
        obtain ⟨u, hue⟩ : ∃ u, u = l[k] := ⟨_, rfl⟩
        rw [← hue] at c0 c1 c2 c3 hqu
        have HTA := Lib.hid (fun W => tame_any u W hqu.1 hqu.2.1 hqu.2.2)
        unfold TaE agU at HTA
        obtain ⟨x, hx⟩ : ∃ x, x = tmU u := ⟨_, rfl⟩
        have HTX := Lib.hid (show Tm x by rw [hx]; exact tmU_tm hqu.1)
        have HXN := Lib.hid (show x.key ≠ [] by rw [hx]; exact tmU_key u)
        have HX3 := Lib.hid (show x.key.length ≤ 3 by rw [hx]; exact tmU_key3 u)
        rw [← hx] at HTA
        clear hg hur hue hx hke hqu hra hmm
        obtain ⟨w3, hw3⟩ : ∃ z, z = wr.alloc (.cells #[.int .u8 u.kind, .string (Lend.strOf u.key), .string (Lend.strOf u.val), .int .u64 u.delta] 30) := ⟨_, rfl⟩
        have HB3 := Lib.hid (show Below wr.heap.size wr w3 by rw [hw3]; exact below_new _ _)
        go_wp2_with fail
        rw [← hw3]
        clear hw3 c0 c1 c2 c3 hb
        refine (HTA.out w3).mono ?_
        rintro e w4 ⟨rfl, hb4⟩
        have HB4 := Lib.hid (below_on HB3.out hb4)
        clear hb4
        obtain ⟨w5, hw5⟩ : ∃ z, z = (w4.alloc (.cells #[.int .u8 x.kind, .string (Lend.strOf x.key), .string (Lend.strOf x.val), .int .u64 x.delta] 33)).alloc (.cells #[.int .u8 x.kind, .string (Lend.strOf x.key), .string (Lend.strOf x.val), .int .u64 x.delta] 34) := ⟨_, rfl⟩
        have HB5 := Lib.hid (below_on HB4.out (show Below w4.heap.size w4 w5 by rw [hw5]; exact below_nw (below_new _ _) _))
        have h1 := Has.new w4 (encU x) 33
        have HXA := Lib.hid (show Has w5 w4.heap.size 33 (encU x) by rw [hw5]; exact h1.alloc _)
        have HRA5 := Lib.hid (own_bel HRA.out HB5.out)
        have HMP5 := Lib.hid (HMP.out.on HB5.out)
        have HBW5 := Lib.hid (show Below (w.heap.size + 1) w0 w5 by rw [← HS0.out]; exact below_on (by rw [HS0.out]; exact HB.out) HB5.out)
        clear h1
        obtain ⟨XK, hXK⟩ : ∃ z, z = Lend.strOf x.key := ⟨_, rfl⟩
        have hxs : XK.size ≤ 1000000 := by rw [hXK, ssize]; have := HX3.out; omega
        have HXD := Lib.hid (show XK.data.toList = x.key by rw [hXK]; rfl)
        have HXE := Lib.hid (show encU x = [.int .u8 x.kind, .string XK, .string (Lend.strOf x.val), .int .u64 x.delta] by rw [hXK]; rfl)
        have hlk := HMP5.out.look und_sb (zero_bool w5) hxs
        rw [HXD.out] at hlk
        have z1 : w4.heap.size < w5.heap.size := HXA.out.lt
        have y1 : w5.cell? ⟨w4.heap.size, 1, none⟩ = some (.string XK) := by rw [HXA.out.cell 1, HXE.out]; rfl
        by_cases hsn : ∃ v ∈ A, v.key = x.key
        · obtain ⟨v, hv, hvk⟩ := hsn
          have hlk2 := hlk.1 (v.key, .bool true) (mkE_mem.2 ⟨v, hv, rfl⟩) hvk
          rw [← hXK] at hw5 ⊢
          clear hlk hv hvk hXK hxs
          rw [hw5] at hlk2 y1 z1
          go_wp2_with fail
          rw [← hw5]
          clear hw5
          go_roundw
          case rel => exact ⟨k + 1, _, A, by omega, rfl, by go_num, HRA5.out, HMP5.out, HBW5.out, Lib.hid ⟨HAK.out.unl, HAK.out.tm, by have := HAK.out.len; omega⟩⟩
          case measure => simp [intOf]; omega
        · have hno : ∀ v ∈ A, v.key ≠ x.key := fun v hv hk => hsn ⟨v, hv, hk⟩
          have HNO := Lib.hid hno
          have hlk2 := hlk.2 (fun e he => by obtain ⟨v, hv, rfl⟩ := mkE_mem.1 he; exact hno v hv)
          obtain ⟨w6, hup, hm6, hg6⟩ := HMP5.out.put und_sb (by rw [mkE_len]; have := HAK.out.len; omega) hxs (.bool true)
          rw [HXD.out, mkE_upd hno] at hm6
          have HM6 := Lib.hid hm6
          have hne := HMP5.out.ne HXA.out
          have HXA6 := Lib.hid (HXA.out.same (hg6.block _ HXA.out.lt (by simpa using hne)))
          have HRA6 := Lib.hid (HRA5.out.kept hg6 (by
            have := HMP5.out.ne_row HRA5.out
            cases hv : av.ownBlock with
            | none => exact .inl rfl
            | some q => exact .inr (by simpa using this q hv)))
          have HBW6 := Lib.hid (HBW5.out.grown hg6 (by have := HBW5.out.size; have := HS0.out; omega) (fun q hq => by simp at hq; omega))
          have HS6 := Lib.hid hg6.size
          have HBS := Lib.hid (show w1.heap.size ≤ w6.heap.size by have := HMP5.out.lt; have := HS1.out; have := hg6.size; omega)
          have y0 : w6.cell? ⟨w4.heap.size, 0, none⟩ = some (.int .u8 x.kind) := by rw [HXA6.out.cell 0, HXE.out]; rfl
          have y1' : w6.cell? ⟨w4.heap.size, 1, none⟩ = some (.string XK) := by rw [HXA6.out.cell 1, HXE.out]; rfl
          have y2 : w6.cell? ⟨w4.heap.size, 2, none⟩ = some (.string (Lend.strOf x.val)) := by rw [HXA6.out.cell 2, HXE.out]; rfl
          have y3 : w6.cell? ⟨w4.heap.size, 3, none⟩ = some (.int .u64 x.delta) := by rw [HXA6.out.cell 3, HXE.out]; rfl
          obtain ⟨v7, w7, hap, hr7, hb7, hk7⟩ := app_one und_up isU_up 23 x HRA6.out HBS.out (by have := HAK.out.len; omega)
          rw [← hXK] at hap
          have HAP := Lib.hid hap
          have HR7 := Lib.hid hr7
          have HB7 := Lib.hid (hb7 (show w.heap.size + 1 ≤ w1.heap.size by have := HS1.out; omega) HBW6.out)
          have HM7 := Lib.hid (show Mp.MM w7 (w.heap.size + 1) (mkE (A ++ [x])) from HM6.out.same ((hb7 (B0 := w.heap.size + 1 + 1) (w0 := w6) (by rw [HS1.out]; exact Nat.le_refl _) (Below.refl _ _)).block _ (Nat.lt_succ_self _)))
          rw [← hXK] at hw5 ⊢
          clear hlk hno hsn hXK hxs hm6 hg6 hne hap hr7 hb7 hk7
          rw [hw5] at hlk2 y1 z1 hup
          go_wp2_with (at_builtin; refine wpList_append_run rfl _ _ _ _ rfl _ _ _ rfl rfl HAP.out ?_)
          go_roundw
          case rel => exact ⟨k + 1, _, A ++ [x], by omega, rfl, by go_num, HR7.out, HM7.out, HB7.out, Lib.hid (HAK.out.snoc HTX.out HXN.out HNO.out)⟩
          case measure => simp [intOf]; omega
      · obtain rfl : k = M := by omega
        have hki : ¬ ((k : Int) < (k : Int)) := by omega
        have HAT := Lib.hid HAK.out.tm
        have HAU := Lib.hid HAK.out.unl
        have hA20 : A.length ≤ 20 := by have := HAK.out.len; omega
        obtain ⟨aa, ac, rfl, hac⟩ := own_shape hra
        have HAR := Lib.hid (UR.of_own hra)
        obtain ⟨n, hn⟩ : ∃ z, z = A.length := ⟨_, rfl⟩
        rw [← hn] at HAR hA20 ⊢
        have HNA := Lib.hid hn
        obtain ⟨tn, rfl⟩ : ∃ tn : Nat, a1 = (tn : Int) := ⟨a1.toNat, by have := HTU.out.1; omega⟩
        have htn : tn ≤ 255 := by have := HTU.out.2; omega
        have HBW := Lib.hid (show Below w.heap.size w wr from HB0.out.trans (show Below w.heap.size w0 wr from hb.mono (Nat.le_succ _)))
        have HKY2 := Lib.hid (show Has wr w.heap.size 72 [.string (Lend.strOf key0), .string (Lend.strOf key1)] from HKY.out.same (hb.block _ (Nat.lt_succ_self _)))
        obtain ⟨w2, hw2⟩ : ∃ z, z = (wr.alloc (.cells #[.slice none 0 0] 25)).alloc (.cells #[.slice none 0 0] 25) := ⟨_, rfl⟩
        have HD := Lib.hid (show Dk wr wr.heap.size (.slice none 0 0) (.slice none 0 0) [] [] w2 by rw [hw2]; exact Dk.new wr)
        clear hn hac hra hmm hb HRA HMP HB HAK
        go_wp2_with fail
        rw [← hw2]
        clear hw2
        go_loopw [58] (fun i ws => ∃ (j : Nat) (va vb : Value), j ≤ n ∧ i = .int .i64 j ∧ Dk wr wr.heap.size va vb (foldW (A.take j)) (foldW ((rotL A tn).take j)) ws) (fun i _ => n - (intOf i).toNat)
        case atStart => exact ⟨0, _, _, Nat.zero_le _, rfl, HD.out⟩
        case round =>
          obtain ⟨j, va, vb, hj, rfl, hD⟩ := hrel
          rename World => ws
          have HD := Lib.hid hD
          have HGA := Lib.hid (foldW_gd (l := A.take j) (fun u hu => HAT.out u (List.mem_of_mem_take hu)))
          have HGB := Lib.hid (foldW_gd (l := (rotL A tn).take j) (fun u hu => HAT.out u ((rot_mem A tn u).1 (List.mem_of_mem_take hu))))
          obtain ⟨ba, bc, rfl, hbc⟩ := own_shape hD.ra
          obtain ⟨da, dc, rfl, hdc⟩ := own_shape hD.rb
          have HCA := Lib.hid (cp_own hD.ra)
          have HCB := Lib.hid (cp_own hD.rb)
          by_cases hlt : j < n
          · have hki : (j : Int) < (n : Int) := by omega
            have hjA : j < A.length := by have := HNA.out; omega
            obtain ⟨i2, hi2⟩ : ∃ z, z = (j + tn) % n := ⟨_, rfl⟩
            have hi2n : i2 < n := by rw [hi2]; exact Nat.mod_lt _ (by omega)
            have hiA : i2 < A.length := by have := HNA.out; omega
            have hrm : Int.tmod ((j : Int) + (tn : Int)) (n : Int) = (i2 : Int) := by rw [Int.tmod_eq_emod_of_nonneg (by omega), hi2]; first | (push_cast; rfl) | rfl | simp
            have hn0 : ¬ n = 0 := by omega
            have hw1 : IntKind.i64.wrap (tn : Int) = (tn : Int) := IntWalk.i64_in _ (by omega)
            have hw2 : IntKind.i64.wrap ((j : Int) + (tn : Int)) = (j : Int) + (tn : Int) := IntWalk.i64_in _ (by omega)
            have HMA := Lib.hid (fw_take hjA)
            have HMB := Lib.hid (show withU (foldW ((rotL A tn).take j)) A[i2] = foldW ((rotL A tn).take (j + 1)) by
              rw [← fw_take (show j < (rotL A tn).length by rw [rot_len]; exact hjA)]
              congr 1
              rw [rot_at hjA]
              congr 1
              rw [hi2, HNA.out])
            have HTP := Lib.hid (HAT.out _ (List.getElem_mem hjA))
            have HTQ := Lib.hid (HAT.out _ (List.getElem_mem hiA))
            obtain ⟨g, off, hg⟩ := ur_some HAR.out (by omega)
            subst hg
            obtain ⟨La, hLa⟩ : ∃ z, z = foldW (A.take j) := ⟨_, rfl⟩
            obtain ⟨Lb, hLb⟩ : ∃ z, z = foldW ((rotL A tn).take j) := ⟨_, rfl⟩
            rw [← hLa] at HD HMA HGA HCA hbc
            rw [← hLb] at HD HMB HGB HCB hdc
            obtain ⟨na, hna⟩ : ∃ z, z = La.length := ⟨_, rfl⟩
            obtain ⟨nb, hnb⟩ : ∃ z, z = Lb.length := ⟨_, rfl⟩
            have HNA2 := Lib.hid hna
            have HNB2 := Lib.hid hnb
            have hna20 : na ≤ 20 := by have := HGA.out.len; rw [List.length_take] at this; omega
            have hnb20 : nb ≤ 20 := by have := HGB.out.len; rw [List.length_take, rot_len] at this; omega
            have HD1 := Lib.hid (HD.out.on ((Below.refl _ _).drew : Below ws.heap.size ws ws.drew))
            obtain ⟨c0, c1, c2, c3⟩ := ur_cells (HAR.out.below HD1.out.bel) j hjA
            rw [← hna] at HD HD1 HCA hbc
            rw [← hnb] at HD HD1 HCB hdc
            obtain ⟨p, hp⟩ : ∃ z, z = A[j] := ⟨_, rfl⟩
            obtain ⟨q, hq⟩ : ∃ z, z = A[i2] := ⟨_, rfl⟩
            have HQE := Lib.hid hq
            rw [← hp] at c0 c1 c2 c3 HMA HTP
            rw [← hq] at HMB HTQ
            have z0 : ws.drew.cell? ⟨wr.heap.size, 0, none⟩ = some (.slice ba na bc) := HD1.out.a.cell 0
            clear hi2 hLa hLb hna hnb hp hq hD
            go_upto_region 15 with fail
            refine Reg.still_tail 5 (by kernel_rfl) (by kernel_rfl) ?_
            simp only [List.take_succ_cons, List.take_zero, List.drop_succ_cons, List.drop_zero]
            repeat still_step
            try refine wpStill_nil ?_
            go_wp2_with fail
            have hrw := with_any (UR.of_own HD1.out.ra) HCA.out HGA.out.srt (by have := HNA2.out; omega) (fun y hy => (HGA.out.tm y hy).1) HTP.out.1
            unfold agU at hrw
            refine hrw.mono ?_
            clear hrw c0 c1 c2 c3 z0
            rintro e w3 ⟨cv, rfl, hcv, hb3⟩
            rw [HMA.out] at hcv
            have HD3 := Lib.hid (HD1.out.on hb3)
            have HC3 := Lib.hid (own_base hcv (show wr.heap.size + 2 ≤ ws.drew.heap.size from HD1.out.b.lt))
            obtain ⟨ca, cc, rfl, _⟩ := own_shape hcv
            have HX4 := Lib.hid (HD3.out.setA rfl HC3.out)
            obtain ⟨m, hm⟩ : ∃ z, z = (foldW (A.take (j + 1))).length := ⟨_, rfl⟩
            rw [← hm] at HX4
            have z4 := HD3.out.a.frozen 0
            have z5 := HD3.out.a.cell 0
            obtain ⟨w4, hw4⟩ : ∃ z, z = w3.setCell ⟨wr.heap.size, 0, none⟩ (.slice ca m cc) := ⟨_, rfl⟩
            rw [← hw4] at HX4
            have HD5 := Lib.hid (HX4.out.on ((Below.refl _ _).drew : Below w4.heap.size w4 w4.drew))
            have hu5 := HAR.out.below HD5.out.bel
            obtain ⟨d0, d1, d2, d3⟩ := ur_cells hu5 i2 hiA
            rw [← HQE.out] at d0 d1 d2 d3
            have z6 : w4.drew.cell? ⟨wr.heap.size + 1, 0, none⟩ = some (.slice da nb dc) := HD5.out.b.cell 0
            clear hcv hb3 hu5
            rw [← hm]
            clear hm
            go_upto_region 16 with fail
            rw [← hw4]
            clear hw4 z4 z5
            refine Reg.still_tail 11 (by kernel_rfl) (by kernel_rfl) ?_
            simp only [List.take_succ_cons, List.take_zero, List.drop_succ_cons, List.drop_zero]
            repeat still_step
            try refine wpStill_nil ?_
            go_wp2_with fail
            have hrw := with_any (UR.of_own HD5.out.rb) HCB.out HGB.out.srt (by have := HNB2.out; omega) (fun y hy => (HGB.out.tm y hy).1) HTQ.out.1
            unfold agU at hrw
            refine hrw.mono ?_
            clear hrw d0 d1 d2 d3 z6
            rintro e w6 ⟨ev, rfl, hev, hb6⟩
            rw [HMB.out] at hev
            have HD6 := Lib.hid (HD5.out.on hb6)
            have HE6 := Lib.hid (own_base hev (show wr.heap.size + 2 ≤ w4.drew.heap.size from HD5.out.b.lt))
            obtain ⟨ea, ec, rfl, _⟩ := own_shape hev
            have HX7 := Lib.hid (HD6.out.setB rfl HE6.out)
            have z4 := HD6.out.b.frozen 0
            have z5 := HD6.out.b.cell 0
            clear hev hb6
            go_wp2_with fail
            go_roundw
            case rel => exact ⟨j + 1, _, _, by omega, by go_num, HX7.out⟩
            case measure => simp [intOf]; omega
          · obtain rfl : j = n := by omega
            have hki : ¬ ((j : Int) < (j : Int)) := by omega
            have e1 : A.take j = A := List.take_of_length_le (by have := HNA.out; omega)
            have e2 : (rotL A tn).take j = rotL A tn := List.take_of_length_le (by rw [rot_len]; have := HNA.out; omega)
            have HLN := Lib.hid (show (foldW A).length = j by rw [(foldW_mem HAT.out HAU.out).2]; exact HNA.out.symm)
            rw [e1] at HD HGA HCA
            rw [e2, foldW_rot HAT.out HAU.out] at HD HCB
            rw [HLN.out] at HD HCA HCB
            obtain ⟨L, hL⟩ : ∃ z, z = foldW A := ⟨_, rfl⟩
            rw [← hL] at HD HGA HLN
            clear e1 e2 hL hbc hdc hD HGB HAT HAU HNA HAR
            have HLI := Lib.hid (fun (W : World) (v : Value) (h : UR W v L) => list_any h (by have := HLN.out; omega))
            have HLA : Hid (∀ W, Below ws.heap.size ws W → Calls Try.prog 24 #[.agg #[.slice ba j bc]] W fun e w' => ∃ ao cp, e = .returned (.slice ao j cp) ∧ RA w' W.heap.size (.slice ao j cp) L ∧ Below W.heap.size W w') := Lib.hid (fun W hb => by
              refine (HLI.out W _ (UR.of_own (HD.out.on hb).ra)).mono ?_
              rintro e w' ⟨v', rfl, hr, hb⟩
              obtain ⟨ao, cp, rfl, _⟩ := own_shape hr
              rw [HLN.out] at hr ⊢
              exact ⟨ao, cp, rfl, hr, hb⟩)
            have HLB : Hid (∀ W, Below ws.heap.size ws W → Calls Try.prog 24 #[.agg #[.slice da j dc]] W fun e w' => ∃ ao cp, e = .returned (.slice ao j cp) ∧ RA w' W.heap.size (.slice ao j cp) L ∧ Below W.heap.size W w') := Lib.hid (fun W hb => by
              refine (HLI.out W _ (UR.of_own (HD.out.on hb).rb)).mono ?_
              rintro e w' ⟨v', rfl, hr, hb⟩
              obtain ⟨ao, cp, rfl, _⟩ := own_shape hr
              rw [HLN.out] at hr ⊢
              exact ⟨ao, cp, rfl, hr, hb⟩)
            have HBD := Lib.hid ((Below.refl _ _).drew : Below ws.heap.size ws ws.drew)
            have z0 : ws.drew.cell? ⟨wr.heap.size, 0, none⟩ = some (.slice ba j bc) := (HD.out.on HBD.out).a.cell 0
            have z1 : ws.drew.cell? ⟨wr.heap.size + 1, 0, none⟩ = some (.slice da j dc) := (HD.out.on HBD.out).b.cell 0
            go_upto_region 18 with fail
            go_cut [16, 17] (fun x y wx => ∃ (xo yo : Option Addr) (xc yc : Nat), x = .slice xo j xc ∧ y = .slice yo j yc ∧ UR wx (.slice xo j xc) L ∧ UR wx (.slice yo j yc) L ∧ Below ws.heap.size ws wx)
            case first =>
              go_region_with (first
                | (go_at_call 24; (first | refine (HLA.out w3 HB3.out).mono ?_ | refine (HLB.out w3 HB3.out).mono ?_); rintro e w4 ⟨ao4, cp4, rfl, hr4, hb4⟩; have HR34 := Lib.hid (HR3.out.below hb4); have HR4 := Lib.hid (UR.of_own hr4); have HB4 := Lib.hid (below_on HB3.out hb4); clear hr4 hb4 z0 z1)
                | (go_at_call 24; (first | refine (HLA.out ws.drew HBD.out).mono ?_ | refine (HLB.out ws.drew HBD.out).mono ?_); rintro e w3 ⟨ao3, cp3, rfl, hr3, hb3⟩; have HR3 := Lib.hid (UR.of_own hr3); have HB3 := Lib.hid (below_on HBD.out hb3); clear hr3 hb3 z0 z1; have z0 : w3.cell? ⟨wr.heap.size, 0, none⟩ = some (.slice ba j bc) := (HD.out.on HB3.out).a.cell 0; have z1 : w3.cell? ⟨wr.heap.size + 1, 0, none⟩ = some (.slice da j dc) := (HD.out.on HB3.out).b.cell 0))
              all_goals
                go_wp2_with fail
                go_meet
                first
                | exact ⟨_, _, _, _, rfl, rfl, HR34.out, HR4.out, HB4.out⟩
                | exact ⟨_, _, _, _, rfl, rfl, HR4.out, HR34.out, HB4.out⟩
            case rest =>
              obtain ⟨xo, yo, xc, yc, rfl, rfl, hux, huy, hbx⟩ := hcut
              rename World => wx
              have HDX := Lib.hid (HD.out.on hbx)
              have HUX := Lib.hid hux
              have HUY := Lib.hid huy
              have HKX := Lib.hid (HKY2.out.below HDX.out.bel HKY2.out.lt)
              have HBWX := Lib.hid (below_on HBW.out HDX.out.bel)
              clear hux huy hbx HLI HLA HLB HD HKY2 z0 z1 HBD
              go_wp2_with fail
              refine (wakes_any _).mono ?_
              rintro e w5 ⟨rfl, hb5⟩
              have HD5 := Lib.hid (HDX.out.on hb5)
              have HUX5 := Lib.hid (HUX.out.below hb5)
              have HUY5 := Lib.hid (HUY.out.below hb5)
              have HK5 := Lib.hid (HKX.out.below hb5 HKX.out.lt)
              have HB5 := Lib.hid (below_on HBWX.out hb5)
              clear hb5 HDX HUX HUY HKX HBWX
              go_wp2_with fail
              go_loopw [102] (fun i wy => ∃ t : Nat, t ≤ j ∧ i = .int .i64 t ∧ ∃ q, wy = w5.drewN q) (fun i _ => j - (intOf i).toNat)
              case atStart => exact ⟨0, Nat.zero_le _, rfl, 0, rfl⟩
              case round =>
                obtain ⟨t, ht, rfl, q, rfl⟩ := hrel
                by_cases hlt : t < j
                · have hti : (t : Int) < (j : Int) := by omega
                  have ht0 : 0 ≤ (t : Int) := by omega
                  have htl : t < L.length := by rw [HLN.out]; exact hlt
                  obtain ⟨g1, o1, hx1⟩ := ur_some HUX5.out (by omega)
                  obtain ⟨g2, o2, hx2⟩ := ur_some HUY5.out (by omega)
                  subst hx1 hx2
                  obtain ⟨w6, hw6⟩ : ∃ z, z = w5.drewN q := ⟨_, rfl⟩
                  have hc := ur_cells HUX5.out t htl
                  have hd := ur_cells HUY5.out t htl
                  obtain ⟨c0, c1, c2, c3⟩ : w6.cell? ⟨g1, o1 + t * 4, none⟩ = some (.int .u8 L[t].kind) ∧ w6.cell? ⟨g1, o1 + t * 4 + 1, none⟩ = some (.string (Lend.strOf L[t].key)) ∧ w6.cell? ⟨g1, o1 + t * 4 + 2, none⟩ = some (.string (Lend.strOf L[t].val)) ∧ w6.cell? ⟨g1, o1 + t * 4 + 3, none⟩ = some (.int .u64 L[t].delta) := by rw [hw6]; exact hc
                  obtain ⟨d0, d1, d2, d3⟩ : w6.cell? ⟨g2, o2 + t * 4, none⟩ = some (.int .u8 L[t].kind) ∧ w6.cell? ⟨g2, o2 + t * 4 + 1, none⟩ = some (.string (Lend.strOf L[t].key)) ∧ w6.cell? ⟨g2, o2 + t * 4 + 2, none⟩ = some (.string (Lend.strOf L[t].val)) ∧ w6.cell? ⟨g2, o2 + t * 4 + 3, none⟩ = some (.int .u64 L[t].delta) := by rw [hw6]; exact hd
                  clear hc hd
                  have HW6 := Lib.hid hw6
                  rw [← hw6]
                  clear hw6
                  obtain ⟨x, hx⟩ : ∃ x, x = L[t] := ⟨_, rfl⟩
                  rw [← hx] at c0 c1 c2 c3 d0 d1 d2 d3
                  by_cases ht1 : t = 0
                  · subst ht1
                    clear hx
                    simp only [Nat.zero_mul, Nat.add_zero] at c0 c1 c2 c3 d0 d1 d2 d3
                    go_wp2_with fail
                    go_quiet (fail)
                    go_wp2_with fail
                    go_roundw
                    case rel => exact ⟨1, by omega, by go_num, q + nq, by rw [HW6.out, World.drewN_drewN]⟩
                    case measure => simp [intOf]; omega
                  · obtain ⟨r, rfl⟩ : ∃ r, t = r + 1 := ⟨t - 1, by omega⟩
                    have hrl : r < L.length := by omega
                    have b1 : w6.cell? ⟨g1, o1 + r * 4 + 1, none⟩ = some (.string (Lend.strOf L[r].key)) := by rw [HW6.out]; exact ur_key HUX5.out r hrl
                    have hb := bl_str L[r].key x.key
                    rw [hx, srt_at HGA.out.srt htl, ← hx] at hb
                    have hwr : IntKind.i64.wrap (((r + 1 : Nat) : Int) - 1) = (r : Int) := by rw [show ((r + 1 : Nat) : Int) - 1 = r by omega]; exact IntWalk.i64_in _ (by omega)
                    have hr0 : 0 ≤ (r : Int) := by omega
                    have hr1 : (r : Int) < (j : Int) := by omega
                    have hrz : (0 : Int) < ((r + 1 : Nat) : Int) := by omega
                    generalize Lend.strOf L[r].key = K0 at *
                    generalize Lend.strOf x.key = K1 at *
                    clear hx
                    go_wp2_with fail
                    go_quiet (fail)
                    go_wp2_with fail
                    go_roundw
                    case rel => exact ⟨r + 2, by omega, by go_num, q + nq, by rw [HW6.out, World.drewN_drewN]⟩
                    case measure => simp [intOf]; omega
                · obtain rfl : t = j := by omega
                  have hti : ¬ ((t : Int) < (t : Int)) := by omega
                  obtain ⟨w7, hw7⟩ : ∃ z, z = w5.drewN q := ⟨_, rfl⟩
                  have HB57 := Lib.hid (show Below w5.heap.size w5 w7 by rw [hw7]; exact bel_q (Below.refl _ _))
                  have HD7 := Lib.hid (HD5.out.on HB57.out)
                  have HUX7 := Lib.hid (HUX5.out.below HB57.out)
                  have HK7 := Lib.hid (HK5.out.below HB57.out HK5.out.lt)
                  have HB7 := Lib.hid (below_on HB5.out HB57.out)
                  obtain ⟨low, high, hmin, hmax, hlh⟩ := min_max key0 key1
                  have HLH := Lib.hid hlh
                  have HMN := Lib.hid (fun (W : World) (ts : Array TypeId) (t : TypeId) => (Lib.run_min_strs (P := Try.prog) W ts t (Lend.strOf key0) (Lend.strOf key1)).trans (by rw [hmin]))
                  have HMX := Lib.hid (fun (W : World) (ts : Array TypeId) (t : TypeId) => (Lib.run_max_strs (P := Try.prog) W ts t (Lend.strOf key0) (Lend.strOf key1)).trans (by rw [hmax]))
                  clear hmin hmax hlh HUY5 HUX5 HK5 HB5 HD5
                  rw [← hw7]
                  clear hw7
                  go_upto_region 27 with fail
                  refine Reg.region_vals (by kernel_rfl) [(133, .pointer (some ⟨w.heap.size, 0, none⟩)), (134, .string (Lend.strOf key0)), (135, .pointer (some ⟨w.heap.size, 1, none⟩)), (136, .string (Lend.strOf key1)), (137, .string (Lend.strOf low)), (138, .pointer (some ⟨w.heap.size, 0, none⟩)), (139, .string (Lend.strOf key0)), (140, .pointer (some ⟨w.heap.size, 1, none⟩)), (141, .string (Lend.strOf key1)), (142, .string (Lend.strOf high)), (19, .string (Lend.strOf low)), (20, .string (Lend.strOf high))] (fun l wy => Below w7.heap.size w7 wy) (by kernel_rfl) (by kernel_rfl) (by kernel_rfl) ((Below.refl _ _).drew) ⟨?_, ?_, ?_, ?_, ?_, ?_, ?_, ?_, ?_, ?_, ?_, ?_, trivial⟩ ?hend
                  · -- 0: 133 := Op.indexAddr 72 t5 (const (0:i64))
                    intro aq wq lq hI hl hdone hlater hold hd ho
                    have h5 : aq.tmps.getD 5 undef = .pointer (some ⟨w.heap.size, 0, none⟩) := ho 5 (by kernel_rfl)
                    clear hd ho hdone hlater hold
                    rw [Array.getD_eq_getD_getElem?] at h5
                    refine Reg.step2_val (.pointer (some ⟨w.heap.size, 0, none⟩)) ?_ rfl hI trivial
                    go_simp
                  · -- 1: 134 := Op.load 9 t133
                    intro aq wq lq hI hl hdone hlater hold hd ho
                    have h133 : aq.tmps.getD 133 undef = .pointer (some ⟨w.heap.size, 0, none⟩) := hd 133 (by kernel_rfl)
                    clear hd ho hdone hlater hold
                    rw [Array.getD_eq_getD_getElem?] at h133
                    have e0 : wq.cell? ⟨w.heap.size, 0, none⟩ = some (.string (Lend.strOf key0)) := keep1 (HK7.out.cell 0) hI
                    refine Reg.step2_val (.string (Lend.strOf key0)) ?_ rfl hI trivial
                    go_simp
                  · -- 2: 135 := Op.indexAddr 72 t5 (const (1:i64))
                    intro aq wq lq hI hl hdone hlater hold hd ho
                    have h5 : aq.tmps.getD 5 undef = .pointer (some ⟨w.heap.size, 0, none⟩) := ho 5 (by kernel_rfl)
                    clear hd ho hdone hlater hold
                    rw [Array.getD_eq_getD_getElem?] at h5
                    refine Reg.step2_val (.pointer (some ⟨w.heap.size, 1, none⟩)) ?_ rfl hI trivial
                    go_simp
                  · -- 3: 136 := Op.load 9 t135
                    intro aq wq lq hI hl hdone hlater hold hd ho
                    have h135 : aq.tmps.getD 135 undef = .pointer (some ⟨w.heap.size, 1, none⟩) := hd 135 (by kernel_rfl)
                    clear hd ho hdone hlater hold
                    rw [Array.getD_eq_getD_getElem?] at h135
                    have e0 : wq.cell? ⟨w.heap.size, 1, none⟩ = some (.string (Lend.strOf key1)) := keep1 (HK7.out.cell 1) hI
                    refine Reg.step2_val (.string (Lend.strOf key1)) ?_ rfl hI trivial
                    go_simp
                  · -- 4: 137 := Op.call ( builtin min, args := #(t134, t136), argTypes := #(
                    intro aq wq lq hI hl hdone hlater hold hd ho
                    have h134 : aq.tmps.getD 134 undef = .string (Lend.strOf key0) := hd 134 (by kernel_rfl)
                    have h136 : aq.tmps.getD 136 undef = .string (Lend.strOf key1) := hd 136 (by kernel_rfl)
                    clear hd ho hdone hlater hold
                    rw [Array.getD_eq_getD_getElem?] at h134 h136
                    refine Reg.step2_val (.string (Lend.strOf low)) ?_ rfl hI trivial
                    simp [execOp, Act.eval, h134, h136]
                    try go_simp
                    rw [HMN.out]; rfl
                  · -- 5: 138 := Op.indexAddr 72 t5 (const (0:i64))
                    intro aq wq lq hI hl hdone hlater hold hd ho
                    have h5 : aq.tmps.getD 5 undef = .pointer (some ⟨w.heap.size, 0, none⟩) := ho 5 (by kernel_rfl)
                    clear hd ho hdone hlater hold
                    rw [Array.getD_eq_getD_getElem?] at h5
                    refine Reg.step2_val (.pointer (some ⟨w.heap.size, 0, none⟩)) ?_ rfl hI trivial
                    go_simp
                  · -- 6: 139 := Op.load 9 t138
                    intro aq wq lq hI hl hdone hlater hold hd ho
                    have h138 : aq.tmps.getD 138 undef = .pointer (some ⟨w.heap.size, 0, none⟩) := hd 138 (by kernel_rfl)
                    clear hd ho hdone hlater hold
                    rw [Array.getD_eq_getD_getElem?] at h138
                    have e0 : wq.cell? ⟨w.heap.size, 0, none⟩ = some (.string (Lend.strOf key0)) := keep1 (HK7.out.cell 0) hI
                    refine Reg.step2_val (.string (Lend.strOf key0)) ?_ rfl hI trivial
                    go_simp
                  · -- 7: 140 := Op.indexAddr 72 t5 (const (1:i64))
                    intro aq wq lq hI hl hdone hlater hold hd ho
                    have h5 : aq.tmps.getD 5 undef = .pointer (some ⟨w.heap.size, 0, none⟩) := ho 5 (by kernel_rfl)
                    clear hd ho hdone hlater hold
                    rw [Array.getD_eq_getD_getElem?] at h5
                    refine Reg.step2_val (.pointer (some ⟨w.heap.size, 1, none⟩)) ?_ rfl hI trivial
                    go_simp
                  · -- 8: 141 := Op.load 9 t140
                    intro aq wq lq hI hl hdone hlater hold hd ho
                    have h140 : aq.tmps.getD 140 undef = .pointer (some ⟨w.heap.size, 1, none⟩) := hd 140 (by kernel_rfl)
                    clear hd ho hdone hlater hold
                    rw [Array.getD_eq_getD_getElem?] at h140
                    have e0 : wq.cell? ⟨w.heap.size, 1, none⟩ = some (.string (Lend.strOf key1)) := keep1 (HK7.out.cell 1) hI
                    refine Reg.step2_val (.string (Lend.strOf key1)) ?_ rfl hI trivial
                    go_simp
                  · -- 9: 142 := Op.call ( builtin max, args := #(t139, t141), argTypes := #(
                    intro aq wq lq hI hl hdone hlater hold hd ho
                    have h139 : aq.tmps.getD 139 undef = .string (Lend.strOf key0) := hd 139 (by kernel_rfl)
                    have h141 : aq.tmps.getD 141 undef = .string (Lend.strOf key1) := hd 141 (by kernel_rfl)
                    clear hd ho hdone hlater hold
                    rw [Array.getD_eq_getD_getElem?] at h139 h141
                    refine Reg.step2_val (.string (Lend.strOf high)) ?_ rfl hI trivial
                    simp [execOp, Act.eval, h139, h141]
                    try go_simp
                    rw [HMX.out]; rfl
                  · -- 10: 19 := Op.assign t137
                    intro aq wq lq hI hl hdone hlater hold hd ho
                    have h137 : aq.tmps.getD 137 undef = .string (Lend.strOf low) := hd 137 (by kernel_rfl)
                    clear hd ho hdone hlater hold
                    exact Reg.step2_assign (.tmp 137) rfl h137 hI trivial
                  · -- 11: 20 := Op.assign t142
                    intro aq wq lq hI hl hdone hlater hold hd ho
                    have h142 : aq.tmps.getD 142 undef = .string (Lend.strOf high) := hd 142 (by kernel_rfl)
                    clear hd ho hdone hlater hold
                    exact Reg.step2_assign (.tmp 142) rfl h142 hI trivial
                  case hend =>
                    intro w8 hI
                    have HB78 := Lib.hid (show Below w7.heap.size w7 w8 from hI)
                    have HD8 := Lib.hid (HD7.out.on HB78.out)
                    have HUX8 := Lib.hid (HUX7.out.below HB78.out)
                    have HB8 := Lib.hid (below_on HB7.out HB78.out)
                    clear hI HD7 HUX7 HB7 HB78 HK7 HMN HMX HB57
                    simp only [Reg.fill, List.map_cons, List.map_nil, List.foldl_cons, List.foldl_nil, List.setIfInBounds_toArray, List.set_cons_zero, List.set_cons_succ]
                    by_cases h0 : low = []
                    · subst h0
                      have hk1 : (Lend.strOf []).toList = [] := by rw [ByteArray.toList_eq]; rfl
                      have hk2 : (Lend.strOf []).toList.isEmpty = true := by rw [hk1]; rfl
                      go_wp2_with fail
                      go_ret
                      exact ⟨rfl, HB8.out⟩
                    · have hk1 : ¬ (Lend.strOf low).toList = [] := str_ne h0
                      have hk2 : (Lend.strOf low).toList.isEmpty = false := by rw [List.isEmpty_eq_false_iff]; exact hk1
                      have z0 : w8.cell? ⟨wr.heap.size, 0, none⟩ = some (.slice ba t bc) := HD8.out.a.cell 0
                      have hcut := cut_any [] low (UR.of_own HD8.out.ra) HCA.out HGA.out.srt (by have := HLN.out; omega)
                      have H3 := Lib.hid (cut_three HGA.out.srt h0 HLH.out)
                      have HP1 := Lib.hid (show (cutI [] low L).length ≤ 20 by have := cutI_len [] low L; have := HLN.out; omega)
                      have HRL := Lib.hid (show (cutO [] low L).length ≤ 20 by have := cutO_len [] low L; have := HLN.out; omega)
                      have HRS := Lib.hid (cutO_srt HGA.out.srt [] low)
                      rw [show Lend.strOf [] = ⟨#[]⟩ from rfl] at hcut
                      unfold CuP at hcut
                      obtain ⟨P1, hP1⟩ : ∃ z, z = cutI [] low L := ⟨_, rfl⟩
                      obtain ⟨R, hR⟩ : ∃ z, z = cutO [] low L := ⟨_, rfl⟩
                      rw [← hP1] at hcut H3 HP1
                      rw [← hR] at hcut H3 HRL HRS
                      clear hP1 hR
                      go_wp2_with fail
                      refine hcut.mono ?_
                      clear hcut z0
                      rintro e w9 ⟨v1, v2, rfl, hr1, hr2, hb9⟩
                      obtain ⟨i1, c1, rfl, _⟩ := own_shape hr1
                      obtain ⟨i2, c2, rfl, _⟩ := own_shape hr2
                      have HCP2 := Lib.hid (cp_own hr2)
                      have HU9 := Lib.hid (UR.of_own hr1)
                      have HR9 := Lib.hid (UR.of_own hr2)
                      have HUX9 := Lib.hid (HUX8.out.below hb9)
                      have HB9 := Lib.hid (below_on HB8.out hb9)
                      obtain ⟨n1, hn1⟩ : ∃ z, z = P1.length := ⟨_, rfl⟩
                      obtain ⟨n2, hn2⟩ : ∃ z, z = R.length := ⟨_, rfl⟩
                      rw [← hn1] at HU9 ⊢
                      rw [← hn2] at HR9 HCP2 ⊢
                      obtain ⟨w10, hw10⟩ : ∃ z, z = (w9.alloc (.cells #[.slice i1 n1 c1] 25)).alloc (.cells #[.slice i2 n2 c2] 25) := ⟨_, rfl⟩
                      have h1 := Has.new w9 [.slice i1 n1 c1] 25
                      have h2 := Has.new (w9.alloc (.cells #[.slice i1 n1 c1] 25)) [.slice i2 n2 c2] 25
                      simp only [World.size_alloc] at h2
                      have HX1 := Lib.hid (show Has w10 w9.heap.size 25 [.slice i1 n1 c1] by rw [hw10]; exact h1.alloc _)
                      have HX2 := Lib.hid (show Has w10 (w9.heap.size + 1) 25 [.slice i2 n2 c2] by rw [hw10]; exact h2)
                      have HB910 := Lib.hid (show Below w9.heap.size w9 w10 by rw [hw10]; exact below_nw (below_new _ _) _)
                      have HU10 := Lib.hid (HU9.out.below HB910.out)
                      have HR10 := Lib.hid (HR9.out.below HB910.out)
                      have HUX10 := Lib.hid (HUX9.out.below HB910.out)
                      have HB10 := Lib.hid (below_on HB9.out HB910.out)
                      clear h1 h2 hr1 hr2 hb9 hn1 hn2 HU9 HR9 HUX9 HB9 HB910 HD8 HUX8 HB8
                      have hcut := cut_any low high HR10.out HCP2.out HRS.out (by have := HRL.out; omega)
                      have HL2 := Lib.hid (show (cutI low high R).length ≤ 20 by have := cutI_len low high R; have := HRL.out; omega)
                      have HL3 := Lib.hid (show (cutO low high R).length ≤ 20 by have := cutO_len low high R; have := HRL.out; omega)
                      have HSM := Lib.hid (fun e : low = high => (show cutI low high R = [] ∧ cutO low high R = R by rw [← e]; exact cut_same h0 R))
                      unfold CuP at hcut
                      obtain ⟨P2, hP2⟩ : ∃ z, z = cutI low high R := ⟨_, rfl⟩
                      obtain ⟨P3, hP3⟩ : ∃ z, z = cutO low high R := ⟨_, rfl⟩
                      rw [← hP2] at hcut H3 HL2 HSM
                      rw [← hP3] at hcut H3 HL3 HSM
                      clear hP2 hP3 hk1 hk2 h0
                      go_upto_region 31 with fail
                      rw [← hw10]
                      clear hw10
                      have z0 : w10.cell? ⟨w9.heap.size + 1, 0, none⟩ = some (.slice i2 n2 c2) := HX2.out.cell 0
                      go_wp2_with fail
                      refine hcut.mono ?_
                      clear hcut z0
                      rintro e w11 ⟨v3, v4, rfl, hr3, hr4, hb11⟩
                      obtain ⟨i3, c3, rfl, _⟩ := own_shape hr3
                      obtain ⟨i4, c4, rfl, _⟩ := own_shape hr4
                      have HU11 := Lib.hid (HU10.out.below hb11)
                      have HR11 := Lib.hid (HR10.out.below hb11)
                      have HUX11 := Lib.hid (HUX10.out.below hb11)
                      have HV11 := Lib.hid (UR.of_own hr3)
                      have HW11 := Lib.hid (UR.of_own hr4)
                      have HB11 := Lib.hid (below_on HB10.out hb11)
                      have HX11 := Lib.hid (HX1.out.below hb11 HX1.out.lt)
                      have HX12 := Lib.hid (HX2.out.below hb11 HX2.out.lt)
                      obtain ⟨n3, hn3⟩ : ∃ z, z = P2.length := ⟨_, rfl⟩
                      obtain ⟨n4, hn4⟩ : ∃ z, z = P3.length := ⟨_, rfl⟩
                      rw [← hn3] at HV11 ⊢
                      rw [← hn4] at HW11 ⊢
                      obtain ⟨w12, hw12⟩ : ∃ z, z = (w11.alloc (.cells #[.slice i3 n3 c3] 25)).alloc (.cells #[.slice i4 n4 c4] 25) := ⟨_, rfl⟩
                      have h1 := Has.new w11 [.slice i3 n3 c3] 25
                      have h2 := Has.new (w11.alloc (.cells #[.slice i3 n3 c3] 25)) [.slice i4 n4 c4] 25
                      simp only [World.size_alloc] at h2
                      have HY3 := Lib.hid (show Has w12 w11.heap.size 25 [.slice i3 n3 c3] by rw [hw12]; exact h1.alloc _)
                      have HY4 := Lib.hid (show Has w12 (w11.heap.size + 1) 25 [.slice i4 n4 c4] by rw [hw12]; exact h2)
                      have HB12 := Lib.hid (show Below w11.heap.size w11 w12 by rw [hw12]; exact below_nw (below_new _ _) _)
                      clear h1 h2 hr3 hr4 hb11 hn3 hn4 HU10 HR10 HUX10 HB10 HX1 HX2
                      have HY1 := Lib.hid (HX11.out.below HB12.out HX11.out.lt)
                      have HY2 := Lib.hid (HX12.out.below HB12.out HX12.out.lt)
                      go_upto_region 32 with fail
                      rw [← hw12]
                      clear hw12
                      go_cut [158, 159, 160] (fun s1 s2 s3 wx => s3 = .bool (low == high) ∧ wx = w12)
                      case first =>
                        have hq := eq_str low high
                        go_wp2_with fail
                        go_meet
                        exact ⟨by simp [hq], rfl⟩
                      obtain ⟨rfl, hwe⟩ := hcut
                      have hwe := hwe.symm
                      subst hwe
                      rename ∀ (a : Act) (w : World), Code.wp _ _ _ a w → _ => hKK
                      refine hKK _ _ ?_
                      clear hKK
                      go_cut [161, 162] (fun s4 s5 wx => ∃ x2 x3, Tr w9.heap.size w11.heap.size (w11.heap.size + 1) (.slice i1 n1 c1) x2 x3 P1 P2 P3 (.slice xo t xc) L wx ∧ Below w11.heap.size w11 wx)
                      case first =>
                        by_cases hlh : low = high
                        · subst hlh
                          obtain ⟨e1, e2⟩ := HSM.out rfl
                          have hq : (low == low) = true := beq_self_eq_true low
                          have y2 : w12.cell? ⟨w9.heap.size + 1, 0, none⟩ = some (.slice i2 n2 c2) := HY2.out.cell 0
                          have f4 := HY4.out.frozen 0
                          obtain ⟨w13, hw13⟩ : ∃ z, z = w12.setCell ⟨w11.heap.size + 1, 0, none⟩ (.slice i2 n2 c2) := ⟨_, rfl⟩
                          have HZ1 := Lib.hid (show Has w13 w9.heap.size 25 [.slice i1 n1 c1] by rw [hw13]; exact HY1.out.setOther (by have := HX11.out.lt; show w11.heap.size + 1 ≠ w9.heap.size; omega) _)
                          have HZ3 := Lib.hid (show Has w13 w11.heap.size 25 [.slice i3 n3 c3] by rw [hw13]; exact HY3.out.setOther (by show w11.heap.size + 1 ≠ w11.heap.size; omega) _)
                          have HZ4 := Lib.hid (show Has w13 (w11.heap.size + 1) 25 [.slice i2 n2 c2] by rw [hw13]; exact HY4.out.set 0 _)
                          have HB13 := Lib.hid (show Below w11.heap.size w11 w13 by rw [hw13]; exact HB12.out.setCell (Nat.le_succ _) _)
                          have f3 := HZ3.out.frozen 0
                          have f5 : (w12.setCell ⟨w11.heap.size + 1, 0, none⟩ (.slice i2 n2 c2)).frozen? ⟨w11.heap.size, 0, none⟩ = false := by rw [← hw13]; exact f3
                          have x5 : (w12.setCell ⟨w11.heap.size + 1, 0, none⟩ (.slice i2 n2 c2)).cell? ⟨w11.heap.size, 0, none⟩ = some (.slice i3 n3 c3) := by rw [← hw13]; exact HZ3.out.cell 0
                          have x4 : w12.cell? ⟨w11.heap.size + 1, 0, none⟩ = some (.slice i4 n4 c4) := HY4.out.cell 0
                          have HW13 := Lib.hid hw13
                          clear hw13
                          have hzb : ∀ W, (zeroValue 25).run Try.prog W = .ok (.agg #[.slice none 0 0]) W := fun W => by kernel_rfl
                          rw [hq]
                          go_wp2_with fail
                          go_meet
                          rw [← HW13.out]
                          have hb14 : Below w11.heap.size w11 (w13.setCell ⟨w11.heap.size, 0, none⟩ (.slice none 0 0)) := HB13.out.setCell (Nat.le_refl _) _
                          refine ⟨.slice none 0 0, .slice i2 n2 c2, ⟨HZ1.out.setOther (by have := HX11.out.lt; show w11.heap.size ≠ w9.heap.size; omega) _, HZ3.out.set 0 _, HZ4.out.setOther (by show w11.heap.size ≠ w11.heap.size + 1; omega) _, HU11.out.below hb14, ?_, ?_, HUX11.out.below hb14⟩, hb14⟩
                          · rw [e1]; exact UR.nil _
                          · rw [e2]; exact HR11.out.below hb14
                        · have hq : (low == high) = false := by rw [beq_eq_false_iff_ne]; exact hlh
                          rw [hq]
                          go_wp2_with fail
                          go_meet
                          exact ⟨_, _, ⟨HY1.out, HY3.out, HY4.out, HU11.out.below HB12.out, HV11.out.below HB12.out, HW11.out.below HB12.out, HUX11.out.below HB12.out⟩, HB12.out⟩
                      case rest =>
                        obtain ⟨x2, x3, htr, hbx⟩ := hcut
                        rename World => w13
                        obtain ⟨i5, c5, hx2⟩ := htr.u2.slice
                        obtain ⟨i6, c6, hx3⟩ := htr.u3.slice
                        subst hx2 hx3
                        have HT := Lib.hid htr
                        have HB13 := Lib.hid (show Below w.heap.size w w13 from HB11.out.trans (hbx.mono HB11.out.size))
                        have HPX := Lib.hid (show P1.length ≤ 20 ∧ P2.length ≤ 20 ∧ P3.length ≤ 20 from ⟨HP1.out, HL2.out, HL3.out⟩)
                        clear htr hbx HU11 HR11 HUX11 HV11 HW11 HB11 HX11 HX12 HY1 HY2 HY3 HY4 HB12 HSM HRL HRS HCP2 HP1 HL2 HL3
                        obtain ⟨n5, hn5⟩ : ∃ z, z = P2.length := ⟨_, rfl⟩
                        obtain ⟨n6, hn6⟩ : ∃ z, z = P3.length := ⟨_, rfl⟩
                        rw [← hn5, ← hn6] at HT
                        clear hn5 hn6
                        go_upto_region 34 with fail
                        refine Reg.region_vals3 (by kernel_rfl) [(163, .agg #[.slice i1 n1 c1]), (165, .agg #[.slice i5 n5 c5]), (168, .agg #[.slice i6 n6 c6])] [164, 166, 167, 169, 170, 25] (Su w13 P1 P2 P3) ?a1 ?a2 ?a3 ?a4 ?a5 ?a6 ?a7 ?hend
                        case a1 => kernel_rfl
                        case a2 => kernel_rfl
                        case a3 => kernel_rfl
                        case a4 => kernel_rfl
                        case a5 => kernel_rfl
                        case a6 => exact Su.start _ _
                        case a7 =>
                          refine ⟨?_, ?_, ?_, ?_, ?_, ?_, ?_, ?_, ?_, trivial⟩
                          · intro aq wq lq hz hI hl hdone hlater hold hd ho
                            have h3 : aq.tmps.getD 21 undef = .pointer (some ⟨w9.heap.size, 0, none⟩) := ho 21 (by kernel_rfl)
                            clear hd ho hdone hlater hold
                            have e0 : wq.cell? ⟨w9.heap.size, 0, none⟩ = some (.slice i1 n1 c1) := keep1 (HT.out.h1.cell 0) hI.bel
                            rw [Array.getD_eq_getD_getElem?] at h3
                            have hc : 163 < aq.tmps.size := (by have hz' : aq.tmps.size = 191 := hz; omega)
                            refine Reg.step3_val (.agg #[.slice i1 n1 c1]) ?_ rfl (hI.k0 _ hc) trivial
                            clear hI hz hc
                            go_simp
                          · intro aq wq lq hz hI hl hdone hlater hold hd ho
                            have h3 : aq.tmps.getD 163 undef = .agg #[.slice i1 n1 c1] := hd 163 (by kernel_rfl)
                            clear hd ho hdone hlater hold
                            rw [Array.getD_eq_getD_getElem?] at h3
                            have hc : 164 < aq.tmps.size := (by have hz' : aq.tmps.size = 191 := hz; omega)
                            refine Reg.step3_call 24 #[.agg #[.slice i1 n1 c1]] ?_ ((list_any (HT.out.u1.below hI.bel) (by have := HPX.out; omega)).mono ?_)
                            · clear hI hz hc
                              simp [execOp]
                              go_simp
                            · rintro e w' ⟨v', rfl, hr, hb⟩
                              exact ⟨_, rfl, trivial, Su.c1 hI hb hr hc, trivial⟩
                          · intro aq wq lq hz hI hl hdone hlater hold hd ho
                            have h3 : aq.tmps.getD 23 undef = .pointer (some ⟨w11.heap.size, 0, none⟩) := ho 23 (by kernel_rfl)
                            clear hd ho hdone hlater hold
                            have e0 : wq.cell? ⟨w11.heap.size, 0, none⟩ = some (.slice i5 n5 c5) := keep1 (HT.out.h2.cell 0) hI.bel
                            rw [Array.getD_eq_getD_getElem?] at h3
                            have hc : 165 < aq.tmps.size := (by have hz' : aq.tmps.size = 191 := hz; omega)
                            refine Reg.step3_val (.agg #[.slice i5 n5 c5]) ?_ rfl (hI.k2 _ hc) trivial
                            clear hI hz hc
                            go_simp
                          · intro aq wq lq hz hI hl hdone hlater hold hd ho
                            have h3 : aq.tmps.getD 165 undef = .agg #[.slice i5 n5 c5] := hd 165 (by kernel_rfl)
                            clear hd ho hdone hlater hold
                            rw [Array.getD_eq_getD_getElem?] at h3
                            have hc : 166 < aq.tmps.size := (by have hz' : aq.tmps.size = 191 := hz; omega)
                            refine Reg.step3_call 24 #[.agg #[.slice i5 n5 c5]] ?_ ((list_any (HT.out.u2.below hI.bel) (by have := HPX.out; omega)).mono ?_)
                            · clear hI hz hc
                              simp [execOp]
                              go_simp
                            · rintro e w' ⟨v', rfl, hr, hb⟩
                              exact ⟨_, rfl, trivial, Su.c3 hI hb hr hc, trivial⟩
                          · intro aq wq lq hz hI hl hdone hlater hold hd ho
                            have g1 : lq 1 = true := hdone 1 (by kernel_rfl)
                            have g3 : lq 3 = true := hdone 3 (by kernel_rfl)
                            have g6 : lq 6 = false := hlater 6 (by kernel_rfl)
                            have g7 : lq 7 = false := hlater 7 (by kernel_rfl)
                            clear hd ho hdone hlater hold
                            have hc : 167 < aq.tmps.size := (by have hz' : aq.tmps.size = 191 := hz; omega)
                            obtain ⟨v', w', hrun, hA⟩ := Su.a4 23 hI g1 g3 hl g6 g7 hc (by have := HPX.out; (try simp only [List.length_append]); omega)
                            refine Reg.step3_do v' w' ?_ trivial hA trivial
                            have e1 : Act.eval aq (.tmp 164) = aq.tmps.getD 164 undef := rfl
                            have e2 : Act.eval aq (.tmp 166) = aq.tmps.getD 166 undef := rfl
                            unfold execOp
                            simp only [resolve, invoke, builtin, Sem.run_bind, Sem.run_pure, Result.andThen_ok, List.map_toArray, List.map_cons, List.map_nil, e1, e2, hrun]
                          · intro aq wq lq hz hI hl hdone hlater hold hd ho
                            have h3 : aq.tmps.getD 24 undef = .pointer (some ⟨w11.heap.size + 1, 0, none⟩) := ho 24 (by kernel_rfl)
                            clear hd ho hdone hlater hold
                            have e0 : wq.cell? ⟨w11.heap.size + 1, 0, none⟩ = some (.slice i6 n6 c6) := keep1 (HT.out.h3.cell 0) hI.bel
                            rw [Array.getD_eq_getD_getElem?] at h3
                            have hc : 168 < aq.tmps.size := (by have hz' : aq.tmps.size = 191 := hz; omega)
                            refine Reg.step3_val (.agg #[.slice i6 n6 c6]) ?_ rfl (hI.k5 _ hc) trivial
                            clear hI hz hc
                            go_simp
                          · intro aq wq lq hz hI hl hdone hlater hold hd ho
                            have h3 : aq.tmps.getD 168 undef = .agg #[.slice i6 n6 c6] := hd 168 (by kernel_rfl)
                            clear hd ho hdone hlater hold
                            rw [Array.getD_eq_getD_getElem?] at h3
                            have hc : 169 < aq.tmps.size := (by have hz' : aq.tmps.size = 191 := hz; omega)
                            refine Reg.step3_call 24 #[.agg #[.slice i6 n6 c6]] ?_ ((list_any (HT.out.u3.below hI.bel) (by have := HPX.out; omega)).mono ?_)
                            · clear hI hz hc
                              simp [execOp]
                              go_simp
                            · rintro e w' ⟨v', rfl, hr, hb⟩
                              exact ⟨_, rfl, trivial, Su.c6 hI hb hr hc, trivial⟩
                          · intro aq wq lq hz hI hl hdone hlater hold hd ho
                            have g4 : lq 4 = true := hdone 4 (by kernel_rfl)
                            have g6 : lq 6 = true := hdone 6 (by kernel_rfl)
                            have g8 : lq 8 = false := hlater 8 (by kernel_rfl)
                            clear hd ho hdone hlater hold
                            have hc : 170 < aq.tmps.size := (by have hz' : aq.tmps.size = 191 := hz; omega)
                            obtain ⟨v', w', hrun, hA⟩ := Su.a7 23 hI g4 g6 hl g8 hc (by have := HPX.out; (try simp only [List.length_append]); omega)
                            refine Reg.step3_do v' w' ?_ trivial hA trivial
                            have e1 : Act.eval aq (.tmp 167) = aq.tmps.getD 167 undef := rfl
                            have e2 : Act.eval aq (.tmp 169) = aq.tmps.getD 169 undef := rfl
                            unfold execOp
                            simp only [resolve, invoke, builtin, Sem.run_bind, Sem.run_pure, Result.andThen_ok, List.map_toArray, List.map_cons, List.map_nil, e1, e2, hrun]
                          · intro aq wq lq hz hI hl hdone hlater hold hd ho
                            clear hd ho hdone hlater hold
                            have hc : 25 < aq.tmps.size := (by have hz' : aq.tmps.size = 191 := hz; omega)
                            exact Reg.step3_assign (.tmp 170) rfl trivial (Su.s8 hI hc) trivial
                        case hend =>
                          intro w14 v aq hv hI
                          have hs := Su.done hI (by decide)
                          have HB14 := Lib.hid hI.bel
                          rw [hv 25 (by decide), H3.out] at hs
                          clear hv hI
                          simp only [Reg.fill, List.map_cons, List.map_nil, List.foldl_cons, List.foldl_nil, List.setIfInBounds_toArray, List.set_cons_zero, List.set_cons_succ]
                          generalize v 25 = v25 at *
                          generalize v 164 = v164 at *
                          generalize v 166 = v166 at *
                          generalize v 167 = v167 at *
                          generalize v 169 = v169 at *
                          generalize v 170 = v170 at *
                          have HS := Lib.hid (UR.of_own hs)
                          obtain ⟨so, sc, rfl, _⟩ := own_shape hs
                          rw [HLN.out] at HS ⊢
                          have HX14 := Lib.hid (HT.out.x.below HB14.out)
                          have HBW14 := Lib.hid (below_on HB13.out HB14.out)
                          clear hs HT HPX H3 HB14 HB13
                          go_wp2_with fail
                          go_loopw [178] (fun i wy => ∃ r : Nat, r ≤ t ∧ i = .int .i64 r ∧ ∃ q, wy = w14.drewN q) (fun i _ => t - (intOf i).toNat)
                          case atStart => exact ⟨0, Nat.zero_le _, rfl, 0, rfl⟩
                          case round =>
                            obtain ⟨r, hr, rfl, q, rfl⟩ := hrel
                            by_cases hlt : r < t
                            · have hri : (r : Int) < (t : Int) := by omega
                              have hr0 : 0 ≤ (r : Int) := by omega
                              have hrl : r < L.length := by rw [HLN.out]; exact hlt
                              obtain ⟨g1, o1, hx1⟩ := ur_some HS.out (by omega)
                              obtain ⟨g2, o2, hx2⟩ := ur_some HX14.out (by omega)
                              subst hx1 hx2
                              obtain ⟨w15, hw15⟩ : ∃ z, z = w14.drewN q := ⟨_, rfl⟩
                              have hc := ur_cells HS.out r hrl
                              have hd := ur_cells HX14.out r hrl
                              obtain ⟨c0, c1, c2, c3⟩ : w15.cell? ⟨g1, o1 + r * 4, none⟩ = some (.int .u8 L[r].kind) ∧ w15.cell? ⟨g1, o1 + r * 4 + 1, none⟩ = some (.string (Lend.strOf L[r].key)) ∧ w15.cell? ⟨g1, o1 + r * 4 + 2, none⟩ = some (.string (Lend.strOf L[r].val)) ∧ w15.cell? ⟨g1, o1 + r * 4 + 3, none⟩ = some (.int .u64 L[r].delta) := by rw [hw15]; exact hc
                              obtain ⟨d0, d1, d2, d3⟩ : w15.cell? ⟨g2, o2 + r * 4, none⟩ = some (.int .u8 L[r].kind) ∧ w15.cell? ⟨g2, o2 + r * 4 + 1, none⟩ = some (.string (Lend.strOf L[r].key)) ∧ w15.cell? ⟨g2, o2 + r * 4 + 2, none⟩ = some (.string (Lend.strOf L[r].val)) ∧ w15.cell? ⟨g2, o2 + r * 4 + 3, none⟩ = some (.int .u64 L[r].delta) := by rw [hw15]; exact hd
                              clear hc hd
                              have HW15 := Lib.hid hw15
                              rw [← hw15]
                              clear hw15
                              generalize L[r] = x at *
                              go_wp2_with fail
                              go_quiet (fail)
                              go_wp2_with fail
                              go_roundw
                              case rel => exact ⟨r + 1, by omega, by go_num, q + nq, by rw [HW15.out, World.drewN_drewN]⟩
                              case measure => simp [intOf]; omega
                            · obtain rfl : r = t := by omega
                              have hri : ¬ ((r : Int) < (r : Int)) := by omega
                              go_wp2_with fail
                              go_ret
                              exact ⟨rfl, bel_q HBW14.out⟩

/-! ### THE ROW's STEP -/
set_option maxRecDepth 100000 in
theorem lifted (os : Os) (started : os.Started) (H : Type) (enc : TypeId × Value → H) :
    ReturnsInHanded {} Try.checked os 6 .any (Rows.bufOrderSpec.pre6 enc Try.prog Try.f6 Rows.bufOrderRow.domain false) (Rows.bufOrderSpec.post enc Try.prog Try.f6 false true false false) := by
  refine returnsInHanded_of_change_sized (C := Try.checked) own started (by kernel_rfl) Try.func6
    (ChangeSpec.witness6 (enc := enc) (C := Try.checked) false ⟨#[], #[.slice none 0 0, .int .u8 0, .agg #[.string ByteArray.empty, .string ByteArray.empty]], []⟩ 8 (by kernel_rfl) (by kernel_rfl) (by kernel_rfl) (by kernel_rfl)) ?_
  intro W base args ds gs before hval0 hW hcnd hsz _
  have hval : ∀ (j : Nat) t v, Try.f6.params[j]? = some t → args[j]? = some v → Value.okWide Try.prog W .any base t v := hval0
  have hW' := hW
  obtain ⟨p, q, hA0, hV, rfl, hfz, hnd⟩ := hW
  have hA : DataW.TrodAll enc Try.prog W 0 (fun _ => true) true Try.f6.params.toList args.toList ds p := hA0
  rw [Try.params6] at hA hval
  obtain ⟨v0, vs0, d0, ds0, p0, q0, hargs, rfl, rfl, h0, r0⟩ := trodAll_cons hA
  obtain ⟨v1, vs1, d1, ds1, p1, q1, rfl, rfl, rfl, h1, r1⟩ := trodAll_cons r0
  obtain ⟨v2, vs2, d2, ds2, p2, q2, rfl, rfl, rfl, h2, r2⟩ := trodAll_cons r1
  obtain ⟨rfl, rfl, rfl⟩ := trodAll_nil r2
  obtain rfl : args = #[v0, v1, v2] := by cases args; simp_all
  obtain ⟨rfl, rfl⟩ := trodVars_none hV
  have k0 := h0
  have lt0 : ∀ x ∈ p0, x.block < W.heap.size := by obtain ⟨m, hm⟩ := k0; exact DataW.trod_lt m _ _ _ hm
  obtain ⟨a0', l0', c0', rfl⟩ := okWide_slice Try.underlying22 (hval 0 22 v0 rfl rfl)
  obtain ⟨a0, a0l, a0c, he0, w0, w0l, w0m⟩ := open_AR0 (c := .slice a0' l0' c0') (by obtain ⟨m, hm⟩ := h0; exact ⟨m, hm⟩) (fun n hn => by have := List.all_eq_true.1 hsz n (DataW.weights_mem_each (j := 0) rfl rfl n hn); simpa using this)
  simp only [Value.slice.injEq] at he0
  obtain ⟨rfl, rfl, rfl⟩ := he0
  obtain ⟨a1, rfl, rfl, rfl, w1⟩ := open_int Try.underlying5 (hval 1 5 v1 rfl rfl) h1
  have k2 := h2
  have lt2 : ∀ x ∈ p2, x.block < W.heap.size := by obtain ⟨m, hm⟩ := k2; exact DataW.trod_lt m _ _ _ hm
  obtain ⟨cs2, rfl, hl2, hc2⟩ := open_arr Try.underlying72 (by kernel_rfl) (by kernel_rfl) (hval 2 72 v2 rfl rfl) h2
  obtain ⟨y2_0, y2_1, rfl⟩ := len2 cs2 hl2
  obtain ⟨a2x0, rfl, w2x0⟩ := open_str_cell Try.underlying9 (hc2 0 _ rfl)
  obtain ⟨a2x1, rfl, w2x1⟩ := open_str_cell Try.underlying9 (hc2 1 _ rfl)
  clear hA0 hval0
  refine (walk a0' l0' c0' a1 a2x0 a2x1 W w0 w0l w0m w1 w2x0 w2x1).mono fun e W' ⟨he, bel⟩ => ?_
  subst he
  exact ⟨_, rfl, _, _, _, [], _, [], hW', trodAll_mk1 (shut_bool Try.underlying4 _), (trodAll_cons_mk (Below.trod laidOut (by kernel_rfl) (of_decide_eq_true (by kernel_rfl)) k0 bel lt0) (trodAll_cons_mk (shut_int Try.underlying5 w1) (trodAll_cons_mk (Below.trod laidOut (by kernel_rfl) (of_decide_eq_true (by kernel_rfl)) k2 bel lt2) trodAll_mk0))), rfl, bel.frame _, fun h => by cases h⟩

theorem over : Rows.bufOrderRow.holds Try.pinned (OpenSpec.ofChange Rows.bufOrderSpec) :=
  OpenClaim.holds_of_wide 6 Try.f6 rfl rfl rfl rfl rfl rfl rfl ⟨rfl, rfl, rfl, rfl, rfl⟩ rfl rfl rfl rfl rfl (by kernel_rfl) Try.func6 (by kernel_rfl)
    (of_decide_eq_true (by kernel_rfl)) (by unfold Func.isWrapper; first | (rw [if_pos (by decide +kernel)]; kernel_rfl) | (rw [if_neg (by decide +kernel)]; exact ⟨rfl, rfl⟩))
    (fun os started H enc _ => lifted os started H enc)

/-- THE STATEMENT -/
theorem proved : Rows.BufOrderSaid := over
#print axioms proved
end Go.Proofs.Ytiljcfmplbmooaa.bufOrder
