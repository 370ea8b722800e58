/- Layer 15 (buf): Len, List, Get, within, Text. -/
import Derived.Test.YtfclecbhfamomaaBufA
import Derived.Test.YtfclecbhfamomaaMsgE
import Derived.Test.YtfclecbhfamomaaRefRecP
namespace Go.Proofs.Ytfclecbhfamomaa.Buf
open Go Go.RowKit Go.Proofs.Ytfclecbhfamomaa Go.Proofs.Ytfclecbhfamomaa.Lend Go.Proofs.Ytfclecbhfamomaa.Rec Go.Proofs.Ytfclecbhfamomaa.Msg
set_option linter.unusedVariables false

theorem ret_len {a b : Int} (h : a = b) : Ending.returned (.int .i64 a) = .returned (.int .i64 b) := by rw [h]
theorem len_any {w : World} {v : Value} {l : List Up} (h : UR w v l) : Calls Try.prog 21 #[.agg #[v]] w fun e w' => e = .returned (.int .i64 (l.length : Nat)) ∧ Below w.heap.size w w' := by
  obtain ⟨a, cap, rfl⟩ := h.slice
  clear h
  generalize l.length = n
  go_enter Try.func21, Try.ntmps21
  go_wp2_with fail
  go_ret
  exact ⟨rfl, below_new _ _⟩
theorem list_any {w : World} {v : Value} {l : List Up} (h : UR w v l) (hl : l.length ≤ 1000000) : Calls Try.prog 23 #[.agg #[v]] w fun e w' => ∃ v', e = .returned v' ∧ RA w' w.heap.size v' l ∧ Below w.heap.size w w' := by
  have HB0 := Lib.hid (below_new w (.cells #[v] 29))
  have HC := Lib.hid (clone_any (h.below HB0.out) hl)
  clear h hl
  go_enter Try.func23, Try.ntmps23
  go_wp2_with fail
  refine HC.out.mono ?_
  rintro e w1 ⟨v1, rfl, hr, hb⟩
  have HB1 := Lib.hid (below_on HB0.out hb)
  have HR := Lib.hid (own_base hr HB0.out.size)
  clear hr hb
  go_wp2_with fail
  go_ret
  exact ⟨_, rfl, HR.out, HB1.out⟩
/-- what Get answers -/
def gtE : Option Up → Ending
  | some u => .returned (.tuple #[agU u, .bool true])
  | none => .returned (.tuple #[agU ⟨0, [], [], 0⟩, .bool false])
theorem ur_cells {w : World} {g off m c : Nat} {l : List Up} (h : UR w (.slice (some ⟨g, off, none⟩) m c) l) (i : Nat) (hi : i < l.length) :
    w.cell? ⟨g, off + i * 4, none⟩ = some (.int .u8 l[i].kind) ∧ w.cell? ⟨g, off + i * 4 + 1, none⟩ = some (.string (Lend.strOf l[i].key)) ∧ w.cell? ⟨g, off + i * 4 + 2, none⟩ = some (.string (Lend.strOf l[i].val)) ∧ w.cell? ⟨g, off + i * 4 + 3, none⟩ = some (.int .u64 l[i].delta) := by
  obtain ⟨g', off', he, hc⟩ := UR.at_ h (by omega)
  simp only [Option.some.injEq, Addr.mk.injEq, and_true] at he
  obtain ⟨rfl, rfl⟩ := he
  exact ⟨hc i hi 0 (by omega), hc i hi 1 (by omega), hc i hi 2 (by omega), hc i hi 3 (by omega)⟩
theorem bel_1 {w w' : World} {i : Nat} {v : Value} (h : Below w.heap.size w w') : Below w.heap.size w (w'.setCell ⟨w.heap.size + 1, i, none⟩ v) := h.setCell (show w.heap.size ≤ w.heap.size + 1 by omega) v
theorem ret_wi (p a b : Int) (h : a = b) : Ending.returned (.tuple #[.int .i64 p, .int .i64 a]) = .returned (.tuple #[.int .i64 p, .int .i64 b]) := by rw [h]
set_option maxRecDepth 100000 in
set_option maxHeartbeats 4000000 in
theorem within_any {w : World} {v : Value} {l : List Up} (low high : List UInt8) (h : UR w v l) (hs : Srt l) (hl : l.length ≤ 1000000) :
    Calls Try.prog 38 #[.agg #[v], .string (Lend.strOf low), .string (Lend.strOf high)] w fun e w' => e = .returned (.tuple #[.int .i64 (plK l low : Nat), .int .i64 (toK l low high : Nat)]) ∧ Below w.heap.size w w' := by
  obtain ⟨w1, hw1⟩ : ∃ x, x = w.alloc (.cells #[v] 29) := ⟨_, rfl⟩
  have HV := Lib.hid (show Has w1 w.heap.size 29 [v] by rw [hw1]; exact Has.new w [v] _)
  have HB := Lib.hid (show Below w.heap.size w w1 by rw [hw1]; exact below_new w _)
  have HU := Lib.hid (h.below HB.out)
  have HPL := Lib.hid (place_any low HU.out hs hl)
  have HPH := Lib.hid (fun (w2 : World) (hb : Below w1.heap.size w1 w2) => place_any high (HU.out.below hb) hs hl)
  have hp1 := plK_le l low
  have hp2 := plK_le l high
  have cb := HV.out.cell 0
  simp only [List.getElem?_cons_zero] at cb
  generalize thK l low = t1 at *
  generalize thK l high = t2 at *
  by_cases hh : high = []
  · have hk1 : (Lend.strOf high).toList = [] := by rw [hh, ByteArray.toList_eq]; rfl
    have hk2 : (Lend.strOf high).toList.isEmpty = true := by rw [hk1]; rfl
    have HT := Lib.hid (show l.length = toK l low high by unfold toK; rw [if_pos hh])
    rw [← HT.out]
    obtain ⟨a, cap, rfl⟩ := h.slice
    generalize l.length = n at *
    generalize plK l low = p at *
    generalize plK l high = q at *
    generalize Lend.strOf low = K0 at *
    generalize Lend.strOf high = K1 at *
    clear h hs hh HPH
    go_enter Try.func38, Try.ntmps38
    go_wp2_with fail
    rw [← hw1]
    clear hw1
    go_wp2_with fail
    refine HPL.out.mono ?_
    rintro e w2 ⟨rfl, hb2⟩
    have HB2 := Lib.hid (below_on HB.out hb2)
    have cb2 := keep1 cb hb2
    clear hb2 cb
    go_wp2_with fail
    go_quiet (fail)
    go_wp2_with fail
    go_ret2
    exact ⟨rfl, bel_q HB2.out⟩
  · have hk1 : ¬ (Lend.strOf high).toList = [] := str_ne hh
    have hk2 : (Lend.strOf high).toList.isEmpty = false := by rw [List.isEmpty_eq_false_iff]; exact hk1
    have HT := Lib.hid (show max (plK l low) (plK l high) = toK l low high by unfold toK; rw [if_neg hh])
    rw [← HT.out]
    obtain ⟨a, cap, rfl⟩ := h.slice
    generalize l.length = n at *
    generalize plK l low = p at *
    generalize plK l high = q at *
    generalize Lend.strOf low = K0 at *
    generalize Lend.strOf high = K1 at *
    clear h hs hh
    go_enter Try.func38, Try.ntmps38
    go_wp2_with fail
    rw [← hw1]
    clear hw1
    go_wp2_with fail
    refine HPL.out.mono ?_
    rintro e w2 ⟨rfl, hb2⟩
    have HB2 := Lib.hid (below_on HB.out hb2)
    have cb2 := keep1 cb hb2
    have HPH2 := Lib.hid (HPH.out w2 hb2)
    clear hb2 cb
    go_wp2_with fail
    refine HPH2.out.mono ?_
    rintro e w3 ⟨rfl, hb3⟩
    have HB3 := Lib.hid (below_on HB2.out hb3)
    clear hb3
    go_wp2_with fail
    all_goals
      go_ret2
      first
      | exact ⟨ret_wi (p : Int) (q : Int) _ (by omega), HB3.out⟩
      | exact ⟨ret_wi (p : Int) (p : Int) _ (by omega), HB3.out⟩
set_option maxRecDepth 100000 in
set_option maxHeartbeats 4000000 in
theorem btext_any {w : World} {v : Value} {l : List Up} (h : UR w v l) (hl : l.length ≤ 1000) (hwf : ∀ u ∈ l, WfU u) :
    Calls Try.prog 27 #[.agg #[v]] w fun e w' => e = .returned (.tuple #[.string (Lend.strOf (txT l)), .int .i64 (errL l)]) ∧ Below w.heap.size w w' := by
  have HB0 := Lib.hid (below_new w (.cells #[v] 29))
  have HC := Lib.hid (Text_any (h.below HB0.out) hl hwf)
  clear h hl hwf
  generalize Lend.strOf (txT l) = T at *
  generalize errL l = E at *
  go_enter Try.func27, Try.ntmps27
  go_wp2_with fail
  refine HC.out.mono ?_
  rintro e w1 ⟨rfl, hb⟩
  have HB1 := Lib.hid (below_on HB0.out hb)
  clear hb
  go_wp2_with fail
  go_ret2
  exact ⟨rfl, HB1.out⟩
end Go.Proofs.Ytfclecbhfamomaa.Buf
/- Layer 15 (buf): Of, Parse; the document's Parse. -/
namespace Go.Proofs.Ytfclecbhfamomaa.Buf
open Go Go.RowKit Go.Proofs.Ytfclecbhfamomaa Go.Proofs.Ytfclecbhfamomaa.Lend Go.Proofs.Ytfclecbhfamomaa.Rec Go.Proofs.Ytfclecbhfamomaa.Msg
set_option linter.unusedVariables false

/-- what Of answers -/
def ofN (l : List Up) : Int := if risB l = true then 0 else 2
def ofU (l : List Up) : List Up := if risB l = true then l else []
/-- what Parse answers -/
def paN (s : List UInt8) : Int := match parL s with | some l => if risB l = true then 0 else 4 | none => 4
def paU (s : List UInt8) : List Up := match parL s with | some l => if risB l = true then l else [] | none => []
theorem ofU_srt (l : List Up) : Srt (ofU l) := by
  unfold ofU
  split
  · rename_i h; exact (ris_iff l).1 h
  · exact srt_nil
theorem paU_srt (s : List UInt8) : Srt (paU s) := by
  unfold paU
  split
  · split
    · rename_i h; exact (ris_iff _).1 h
    · exact srt_nil
  · exact srt_nil
theorem paU_len (s : List UInt8) : (paU s).length ≤ s.length := by
  unfold paU
  split
  · rename_i h
    split
    · exact parL_le h
    · simp
  · simp
def OfP (w : World) (l : List Up) (e : Ending) (w' : World) : Prop := ∃ v', e = .returned (.tuple #[.agg #[v'], .int .i64 (ofN l)]) ∧ RA w' w.heap.size v' (ofU l) ∧ Below w.heap.size w w'
def PrP (w : World) (s : List UInt8) (e : Ending) (w' : World) : Prop := ∃ v', e = .returned (.tuple #[.agg #[v'], .int .i64 (paN s)]) ∧ RA w' w.heap.size v' (paU s) ∧ Below w.heap.size w w'
def RpP (w : World) (s : List UInt8) (e : Ending) (w' : World) : Prop := ∃ v', e = .returned (.tuple #[v', .int .i64 (paN s)]) ∧ RU w' w.heap.size v' (paU s) ∧ Below w.heap.size w w'
theorem ro_far {T : TypeId} {w : World} {base B : Nat} {v : Value} {l : List Up} (h : RO T w base v l) (hB : B < base) (x : Value) : RO T (w.setCell ⟨B, 0, none⟩ x) base v l :=
  owns_same h fun k e => Below.heap_setCell _ _ _ _ (fun e' => by have := (h.lt k e).1; simp at e'; omega)
set_option maxRecDepth 100000 in
set_option maxHeartbeats 4000000 in
theorem bparse_any {s : List UInt8} (w : World) (hl : s.length ≤ 100000) : Calls Try.prog 34 #[.string (Lend.strOf s)] w (PrP w s) := by
  obtain ⟨w1, hw1⟩ : ∃ x, x = w.alloc (.cells #[.slice none 0 0] 29) := ⟨_, rfl⟩
  have HZ := Lib.hid (show Has w1 w.heap.size 29 [.slice none 0 0] by rw [hw1]; exact Has.new w [.slice none 0 0] _)
  have HB := Lib.hid (show Below w.heap.size w w1 by rw [hw1]; exact below_new w _)
  have HS := Lib.hid (show w1.heap.size = w.heap.size + 1 by rw [hw1]; simp)
  have HPA := Lib.hid (Parse_any s w1 hl)
  have HL := Lib.hid hl
  clear hl
  obtain ⟨T, hT⟩ : ∃ x, x = Lend.strOf s := ⟨_, rfl⟩
  rw [← hT] at HPA ⊢
  clear hT
  go_enter Try.func34, Try.ntmps34
  go_wp2_with fail
  rw [← hw1]
  clear hw1
  refine HPA.out.mono ?_
  intro e w2 hq
  rcases hq with ⟨l, v2, hp, rfl, hro, hb2⟩ | ⟨hp, rfl, hb2⟩
  · have HB2 := Lib.hid (below_on HB.out hb2)
    have HZ2 := Lib.hid (HZ.out.below hb2 HZ.out.lt)
    have hl2 := parL_le hp
    have HRI := Lib.hid (rising_any (UR.of_own hro) (by have := HL.out; omega))
    have HR := Lib.hid hro
    cases hr : risB l with
    | true =>
      rw [hr] at HRI
      have HE := Lib.hid (show paN s = 0 ∧ paU s = l by unfold paN paU; rw [hp]; simp [hr])
      clear hp hr hl2 hb2 hro
      go_wp2_with fail
      refine HRI.out.mono ?_
      rintro e w3 ⟨rfl, q, hw3⟩
      have HB3 := Lib.hid (show Below w.heap.size w w3 by rw [hw3]; exact bel_q HB2.out)
      have hz3 : Has w3 w.heap.size 29 [.slice none 0 0] := by rw [hw3]; exact HZ2.out.drewN q
      have e0 := hz3.cell 0
      have f0 := hz3.frozen 0
      simp only [List.getElem?_cons_zero] at e0
      have HR3 := Lib.hid (own_base (ro_far (show RA w3 w1.heap.size v2 l by rw [hw3]; exact HR.out) (show w.heap.size < w1.heap.size by rw [HS.out]; omega) v2) (show w.heap.size ≤ w1.heap.size by rw [HS.out]; omega))
      obtain ⟨ao, cp, rfl, _⟩ := own_shape HR.out
      clear hw3 hz3
      go_wp2_with fail
      exact bodyPost_ret (v := .tuple #[.agg #[.slice ao l.length cp], .int .i64 0]) (by simp [results, Try.results34, go_sem, e0]) rfl ⟨_, by rw [HE.out.1], by rw [HE.out.2]; exact HR3.out, bel_st HB3.out⟩
    | false =>
      rw [hr] at HRI
      have HE := Lib.hid (show paN s = 4 ∧ paU s = [] by unfold paN paU; rw [hp]; simp [hr])
      clear hp hr hl2 hb2 hro
      go_wp2_with fail
      refine HRI.out.mono ?_
      rintro e w3 ⟨rfl, q, hw3⟩
      have HB3 := Lib.hid (show Below w.heap.size w w3 by rw [hw3]; exact bel_q HB2.out)
      have hz3 : Has w3 w.heap.size 29 [.slice none 0 0] := by rw [hw3]; exact HZ2.out.drewN q
      have e0 := hz3.cell 0
      have f0 := hz3.frozen 0
      simp only [List.getElem?_cons_zero] at e0
      clear hw3 hz3
      go_wp2_with fail
      exact bodyPost_ret (v := .tuple #[.agg #[.slice none 0 0], .int .i64 4]) (by simp [results, Try.results34, go_sem, e0]) rfl ⟨_, by rw [HE.out.1], by rw [HE.out.2]; exact World.ownsRow_nil _ _ _ _, bel_st HB3.out⟩
  · have HB2 := Lib.hid (below_on HB.out hb2)
    have hz3 := HZ.out.below hb2 HZ.out.lt
    have e0 := hz3.cell 0
    have f0 := hz3.frozen 0
    simp only [List.getElem?_cons_zero] at e0
    have HE := Lib.hid (show paN s = 4 ∧ paU s = [] by unfold paN paU; rw [hp]; exact ⟨rfl, rfl⟩)
    clear hp hb2 hz3
    go_wp2_with fail
    exact bodyPost_ret (v := .tuple #[.agg #[.slice none 0 0], .int .i64 4]) (by simp [results, Try.results34, go_sem, e0]) rfl ⟨_, by rw [HE.out.1], by rw [HE.out.2]; exact World.ownsRow_nil _ _ _ _, bel_st HB2.out⟩
set_option maxRecDepth 100000 in
set_option maxHeartbeats 4000000 in
theorem rparse_any {s : List UInt8} (w : World) (hl : s.length ≤ 100000) : Calls Try.prog 37 #[.string (Lend.strOf s)] w (RpP w s) := by
  have HPA := Lib.hid (refparse_any s w hl)
  have HL := Lib.hid hl
  clear hl
  obtain ⟨T, hT⟩ : ∃ x, x = Lend.strOf s := ⟨_, rfl⟩
  rw [← hT] at HPA ⊢
  clear hT
  go_enter Try.func37, Try.ntmps37
  go_wp2_with fail
  refine HPA.out.mono ?_
  intro e w2 hq
  rcases hq with ⟨l, v2, hp, rfl, hro, hb2⟩ | ⟨hp, rfl, hb2⟩
  · have HB2 := Lib.hid hb2
    have hl2 := parL_le hp
    have HRI := Lib.hid (refrising_any (UR.of_own hro) (by have := HL.out; omega))
    have HR := Lib.hid hro
    cases hr : risB l with
    | true =>
      rw [hr] at HRI
      have HE := Lib.hid (show paN s = 0 ∧ paU s = l by unfold paN paU; rw [hp]; simp [hr])
      clear hp hr hl2 hb2 hro
      go_wp2_with fail
      refine HRI.out.mono ?_
      rintro e w3 ⟨rfl, q, hw3⟩
      have HB3 := Lib.hid (show Below w.heap.size w w3 by rw [hw3]; exact bel_q HB2.out)
      have HR3 := Lib.hid (show RU w3 w.heap.size v2 l by rw [hw3]; exact HR.out)
      clear hw3
      go_wp2_with fail
      go_ret2
      exact ⟨_, by rw [HE.out.1]; rfl, by rw [HE.out.2]; exact HR3.out, HB3.out⟩
    | false =>
      rw [hr] at HRI
      have HE := Lib.hid (show paN s = 4 ∧ paU s = [] by unfold paN paU; rw [hp]; simp [hr])
      clear hp hr hl2 hb2 hro
      go_wp2_with fail
      refine HRI.out.mono ?_
      rintro e w3 ⟨rfl, q, hw3⟩
      have HB3 := Lib.hid (show Below w.heap.size w w3 by rw [hw3]; exact bel_q HB2.out)
      clear hw3
      go_wp2_with fail
      go_ret2
      exact ⟨_, by rw [HE.out.1]; rfl, by rw [HE.out.2]; exact World.ownsRow_nil _ _ _ _, HB3.out⟩
  · have HB2 := Lib.hid hb2
    have HE := Lib.hid (show paN s = 4 ∧ paU s = [] by unfold paN paU; rw [hp]; exact ⟨rfl, rfl⟩)
    clear hp hb2
    go_wp2_with fail
    go_ret2
    exact ⟨_, by rw [HE.out.1]; rfl, by rw [HE.out.2]; exact World.ownsRow_nil _ _ _ _, HB2.out⟩
end Go.Proofs.Ytfclecbhfamomaa.Buf
/- Layer 15 (buf): With. -/
namespace Go.Proofs.Ytfclecbhfamomaa.Buf
open Go Go.RowKit Go.Proofs.Ytfclecbhfamomaa Go.Proofs.Ytfclecbhfamomaa.Lend Go.Proofs.Ytfclecbhfamomaa.Rec Go.Proofs.Ytfclecbhfamomaa.Msg
set_option linter.unusedVariables false

/-- a slice is no longer than there is room for it -/
def CpOk : Value → Prop
  | .slice _ n c => n ≤ c
  | _ => False
theorem cp_own {T : TypeId} {w : World} {B : Nat} {v : Value} {l : List Up} (h : RO T w B v l) : CpOk v := by
  obtain ⟨ao, cp, rfl, hc⟩ := own_shape h
  exact hc
theorem cp_nil : CpOk (.slice none 0 0) := Nat.le_refl _
/-- a part of a slice -/
theorem ur_part {w : World} {a : Option Addr} {n cap : Nat} {l : List Up} (h : UR w (.slice a n cap) l) (hc : n ≤ cap) (f t c' : Nat) (hft : f ≤ t) (ht : t ≤ n) :
    UR w (.slice (if cap = f then a else Option.map (fun x => x.add (f * 4)) a) (t - f) c') ((l.take t).drop f) := by
  have hn := ur_len h
  have hl : ((l.take t).drop f).length = t - f := by rw [List.length_drop, List.length_take]; omega
  refine ⟨_, c', by rw [hl], fun h0 => ?_⟩
  rw [hl] at h0
  obtain ⟨g, off, rfl, hcc⟩ := UR.at_ h (by omega)
  rw [if_neg (by omega)]
  refine ⟨g, off + f * 4, by simp only [Option.map_some, Addr.add_lit], fun i hi j hj => ?_⟩
  rw [hl] at hi
  have := hcc (f + i) (by omega) j hj
  have e : ((l.take t).drop f)[i]'(by rw [hl]; exact hi) = l[f + i]'(by omega) := by rw [List.getElem_drop, List.getElem_take]
  rw [e, ← this]
  congr 2
  omega
theorem run_upto (a : Option Addr) (n cap p : Nat) (hp : p ≤ n) (hc : n ≤ cap) : ∃ a', (∀ w, (Instr.slice 27 (.slice a n cap) none (some (.int .i64 (p : Int))) none).run Try.prog w = .ok (.slice a' p cap) w) ∧ a' = if cap = 0 then a else Option.map (fun x => x.add (0 * 4)) a := by
  have h0 : (0 : Int) ≤ (p : Int) := by omega
  have h1 : (p : Int) ≤ (cap : Int) := by omega
  refine ⟨_, fun w => ?_, rfl⟩
  go_simp
theorem run_from (a : Option Addr) (n cap k : Nat) (hk : k ≤ n) (hc : n ≤ cap) : ∃ a' m c', (∀ w, (Instr.slice 27 (.slice a n cap) (some (.int .i64 (k : Int))) none none).run Try.prog w = .ok (.slice a' m c') w) ∧ m = n - k ∧ c' = cap - k ∧ a' = if cap = k then a else Option.map (fun x => x.add (k * 4)) a := by
  have h0 : (0 : Int) ≤ (k : Int) := by omega
  have h1 : (k : Int) ≤ (n : Int) := by omega
  refine ⟨_, _, _, fun w => ?_, rfl, rfl, rfl⟩
  go_simp
theorem run_mid (a : Option Addr) (n cap f t : Nat) (hf : f ≤ t) (ht : t ≤ n) (hc : n ≤ cap) : ∃ a' m c', (∀ w, (Instr.slice 27 (.slice a n cap) (some (.int .i64 (f : Int))) (some (.int .i64 (t : Int))) none).run Try.prog w = .ok (.slice a' m c') w) ∧ m = t - f ∧ c' = cap - f ∧ a' = if cap = f then a else Option.map (fun x => x.add (f * 4)) a := by
  have h0 : (0 : Int) ≤ (f : Int) := by omega
  have h1 : (f : Int) ≤ (t : Int) := by omega
  have h2 : (0 : Int) ≤ (t : Int) := by omega
  have h3 : (t : Int) ≤ (cap : Int) := by omega
  refine ⟨_, _, _, fun w => ?_, rfl, rfl, rfl⟩
  go_simp
end Go.Proofs.Ytfclecbhfamomaa.Buf
