/- Layer 15 (buf): Len, List, Get, within, Text. -/
import Derived.Test.YtfmbjepjmjcgeaaBufA
import Derived.Test.YtfmbjepjmjcgeaaMsgE
import Derived.Test.YtfmbjepjmjcgeaaRefRecP
namespace Go.Proofs.Ytfmbjepjmjcgeaa.Buf
open Go Go.RowKit Go.Proofs.Ytfmbjepjmjcgeaa Go.Proofs.Ytfmbjepjmjcgeaa.Lend Go.Proofs.Ytfmbjepjmjcgeaa.Rec Go.Proofs.Ytfmbjepjmjcgeaa.Msg
set_option linter.unusedVariables false

theorem ret_len {a b : Int} (h : a = b) : Ending.returned (.int .i64 a) = .returned (.int .i64 b) := by rw [h]
theorem len_any {w : World} {v : Value} {l : List Up} (h : UR w v l) : Calls Try.prog 28 #[.agg #[v]] w fun e w' => e = .returned (.int .i64 (l.length : Nat)) ∧ Below w.heap.size w w' := by
  obtain ⟨a, cap, rfl⟩ := h.slice
  clear h
  generalize l.length = n
  go_enter Try.func28, Try.ntmps28
  go_wp2_with fail
  go_ret
  exact ⟨rfl, below_new _ _⟩
/-- what Get answers -/
def gtE : Option Up → Ending
  | some u => .returned (.tuple #[agU u, .bool true])
  | none => .returned (.tuple #[agU ⟨0, [], [], 0⟩, .bool false])
theorem ur_cells {w : World} {g off m c : Nat} {l : List Up} (h : UR w (.slice (some ⟨g, off, none⟩) m c) l) (i : Nat) (hi : i < l.length) :
    w.cell? ⟨g, off + i * 4, none⟩ = some (.int .u8 l[i].kind) ∧ w.cell? ⟨g, off + i * 4 + 1, none⟩ = some (.string (Lend.strOf l[i].key)) ∧ w.cell? ⟨g, off + i * 4 + 2, none⟩ = some (.string (Lend.strOf l[i].val)) ∧ w.cell? ⟨g, off + i * 4 + 3, none⟩ = some (.int .u64 l[i].delta) := by
  obtain ⟨g', off', he, hc⟩ := UR.at_ h (by omega)
  simp only [Option.some.injEq, Addr.mk.injEq, and_true] at he
  obtain ⟨rfl, rfl⟩ := he
  exact ⟨hc i hi 0 (by omega), hc i hi 1 (by omega), hc i hi 2 (by omega), hc i hi 3 (by omega)⟩
theorem bel_1 {w w' : World} {i : Nat} {v : Value} (h : Below w.heap.size w w') : Below w.heap.size w (w'.setCell ⟨w.heap.size + 1, i, none⟩ v) := h.setCell (show w.heap.size ≤ w.heap.size + 1 by omega) v
set_option maxRecDepth 100000 in
set_option maxHeartbeats 4000000 in
theorem get_any {w : World} {v : Value} {l : List Up} (key : List UInt8) (h : UR w v l) (hs : Srt l) (hl : l.length ≤ 1000000) :
    Calls Try.prog 29 #[.agg #[v], .string (Lend.strOf key)] w fun e w' => e = gtE (getO l key) ∧ Below w.heap.size w w' := by
  obtain ⟨w1, hw1⟩ : ∃ x, x = (w.alloc (.cells #[v] 75)).alloc (.cells #[.int .u8 0, .string ⟨#[]⟩, .string ⟨#[]⟩, .int .u64 0] 34) := ⟨_, rfl⟩
  have h1 := Has.new w [v] 75
  have h2 := Has.new (w.alloc (.cells #[v] 75)) [.int .u8 0, .string ⟨#[]⟩, .string ⟨#[]⟩, .int .u64 0] 34
  simp only [World.size_alloc] at h2
  have HV := Lib.hid (show Has w1 w.heap.size 75 [v] by rw [hw1]; exact h1.alloc _)
  have HZ := Lib.hid (show Has w1 (w.heap.size + 1) 34 [.int .u8 0, .string ⟨#[]⟩, .string ⟨#[]⟩, .int .u64 0] by rw [hw1]; exact h2)
  have HB := Lib.hid (show Below w.heap.size w w1 by rw [hw1]; exact below_nw (below_new w _) _)
  have HU := Lib.hid (h.below HB.out)
  have HPL := Lib.hid (place_any key HU.out hs hl)
  have HP1 : w1.heap.size = w.heap.size + 1 + 1 := by rw [hw1]; simp
  have HP1 := Lib.hid HP1
  have cb := HV.out.cell 0
  simp only [List.getElem?_cons_zero] at cb
  cases ht : thK l key with
  | true =>
    have hp := (thK_yes ht).1
    rw [getO_yes ht]
    rw [ht] at HPL
    obtain ⟨u, hu⟩ : ∃ u, u = l[plK l key]'hp := ⟨_, rfl⟩
    obtain ⟨a, cap, rfl⟩ := h.slice
    obtain ⟨g, off, rfl⟩ := ur_some h (by omega)
    have HCC := Lib.hid (ur_cells HU.out (plK l key) hp)
    rw [← hu] at HCC ⊢
    obtain ⟨p, hpe⟩ : ∃ p, p = plK l key := ⟨_, rfl⟩
    obtain ⟨n, hn⟩ : ∃ n, n = l.length := ⟨_, rfl⟩
    rw [← hpe] at HCC HPL hp
    rw [← hn] at hp hl cb HPL hw1 ⊢
    have hpi : (p : Int) < (n : Int) := by omega
    show Calls _ _ _ _ fun e w' => e = .returned (.tuple #[agU u, .bool true]) ∧ _
    unfold agU
    obtain ⟨kd, ky, vl, dl⟩ := u
    simp only at HCC ⊢
    generalize Lend.strOf key = K at *
    generalize Lend.strOf ky = K0 at *
    generalize Lend.strOf vl = V0 at *
    clear h hs h1 h2 hn hu hpe ht
    go_enter Try.func29, Try.ntmps29
    go_wp2_with fail
    rw [← hw1]
    clear hw1
    go_wp2_with fail
    refine HPL.out.mono ?_
    rintro e w2 ⟨rfl, hb2⟩
    have HB2 := Lib.hid (below_on HB.out hb2)
    have cb2 := keep1 cb hb2
    have hz2 := HZ.out.below hb2 HZ.out.lt
    obtain ⟨c0, c1, c2, c3⟩ := HCC.out
    have c0 := keep1 c0 hb2
    have c1 := keep1 c1 hb2
    have c2 := keep1 c2 hb2
    have c3 := keep1 c3 hb2
    have e0 := hz2.cell 0
    have e1 := hz2.cell 1
    have e2 := hz2.cell 2
    have e3 := hz2.cell 3
    have f0 := hz2.frozen 0
    have f1 := hz2.frozen 1
    have f2 := hz2.frozen 2
    have f3 := hz2.frozen 3
    simp only [List.getElem?_cons_zero, List.getElem?_cons_succ] at e0 e1 e2 e3
    clear hb2 cb hz2
    go_wp2_with fail
    exact bodyPost_ret (v := .tuple #[.agg #[.int .u8 kd, .string K0, .string V0, .int .u64 dl], .bool true]) (by simp [results, Try.results29, go_sem, e0, e1, e2, e3]) rfl ⟨rfl, bel_1 (bel_1 (bel_1 (bel_1 HB2.out)))⟩
  | false =>
    rw [getO_no ht]
    rw [ht] at HPL
    obtain ⟨a, cap, rfl⟩ := h.slice
    obtain ⟨p, hpe⟩ : ∃ p, p = plK l key := ⟨_, rfl⟩
    obtain ⟨n, hn⟩ : ∃ n, n = l.length := ⟨_, rfl⟩
    have hpl := plK_le l key
    rw [← hpe] at HPL hpl
    rw [← hn] at hl hpl cb HPL hw1 ⊢
    show Calls _ _ _ _ fun e w' => e = .returned (.tuple #[.agg #[.int .u8 0, .string ⟨#[]⟩, .string ⟨#[]⟩, .int .u64 0], .bool false]) ∧ _
    generalize Lend.strOf key = K at *
    clear h hs h1 h2 hn hpe ht
    go_enter Try.func29, Try.ntmps29
    go_wp2_with fail
    rw [← hw1]
    clear hw1
    go_wp2_with fail
    refine HPL.out.mono ?_
    rintro e w2 ⟨rfl, hb2⟩
    have HB2 := Lib.hid (below_on HB.out hb2)
    have hz2 := HZ.out.below hb2 HZ.out.lt
    have e0 := hz2.cell 0
    have e1 := hz2.cell 1
    have e2 := hz2.cell 2
    have e3 := hz2.cell 3
    have f0 := hz2.frozen 0
    have f1 := hz2.frozen 1
    have f2 := hz2.frozen 2
    have f3 := hz2.frozen 3
    simp only [List.getElem?_cons_zero, List.getElem?_cons_succ] at e0 e1 e2 e3
    clear hb2 cb hz2
    go_wp2_with fail
    exact bodyPost_ret (v := .tuple #[.agg #[.int .u8 0, .string ⟨#[]⟩, .string ⟨#[]⟩, .int .u64 0], .bool false]) (by simp [results, Try.results29, go_sem, e0, e1, e2, e3]) rfl ⟨rfl, bel_1 (bel_1 (bel_1 (bel_1 HB2.out)))⟩
theorem ret_wi (p a b : Int) (h : a = b) : Ending.returned (.tuple #[.int .i64 p, .int .i64 a]) = .returned (.tuple #[.int .i64 p, .int .i64 b]) := by rw [h]
set_option maxRecDepth 100000 in
set_option maxHeartbeats 4000000 in
theorem within_any {w : World} {v : Value} {l : List Up} (low high : List UInt8) (h : UR w v l) (hs : Srt l) (hl : l.length ≤ 1000000) :
    Calls Try.prog 46 #[.agg #[v], .string (Lend.strOf low), .string (Lend.strOf high)] w fun e w' => e = .returned (.tuple #[.int .i64 (plK l low : Nat), .int .i64 (toK l low high : Nat)]) ∧ Below w.heap.size w w' := by
  obtain ⟨w1, hw1⟩ : ∃ x, x = w.alloc (.cells #[v] 75) := ⟨_, rfl⟩
  have HV := Lib.hid (show Has w1 w.heap.size 75 [v] by rw [hw1]; exact Has.new w [v] _)
  have HB := Lib.hid (show Below w.heap.size w w1 by rw [hw1]; exact below_new w _)
  have HU := Lib.hid (h.below HB.out)
  have HPL := Lib.hid (place_any low HU.out hs hl)
  have HPH := Lib.hid (fun (w2 : World) (hb : Below w1.heap.size w1 w2) => place_any high (HU.out.below hb) hs hl)
  have hp1 := plK_le l low
  have hp2 := plK_le l high
  have cb := HV.out.cell 0
  simp only [List.getElem?_cons_zero] at cb
  generalize thK l low = t1 at *
  generalize thK l high = t2 at *
  by_cases hh : high = []
  · have hk1 : (Lend.strOf high).toList = [] := by rw [hh, ByteArray.toList_eq]; rfl
    have hk2 : (Lend.strOf high).toList.isEmpty = true := by rw [hk1]; rfl
    have HT := Lib.hid (show l.length = toK l low high by unfold toK; rw [if_pos hh])
    rw [← HT.out]
    obtain ⟨a, cap, rfl⟩ := h.slice
    generalize l.length = n at *
    generalize plK l low = p at *
    generalize plK l high = q at *
    generalize Lend.strOf low = K0 at *
    generalize Lend.strOf high = K1 at *
    clear h hs hh HPH
    go_enter Try.func46, Try.ntmps46
    go_wp2_with fail
    rw [← hw1]
    clear hw1
    go_wp2_with fail
    refine HPL.out.mono ?_
    rintro e w2 ⟨rfl, hb2⟩
    have HB2 := Lib.hid (below_on HB.out hb2)
    have cb2 := keep1 cb hb2
    clear hb2 cb
    go_wp2_with fail
    go_quiet (fail)
    go_wp2_with fail
    go_ret2
    exact ⟨rfl, bel_q HB2.out⟩
  · have hk1 : ¬ (Lend.strOf high).toList = [] := str_ne hh
    have hk2 : (Lend.strOf high).toList.isEmpty = false := by rw [List.isEmpty_eq_false_iff]; exact hk1
    have HT := Lib.hid (show max (plK l low) (plK l high) = toK l low high by unfold toK; rw [if_neg hh])
    rw [← HT.out]
    obtain ⟨a, cap, rfl⟩ := h.slice
    generalize l.length = n at *
    generalize plK l low = p at *
    generalize plK l high = q at *
    generalize Lend.strOf low = K0 at *
    generalize Lend.strOf high = K1 at *
    clear h hs hh
    go_enter Try.func46, Try.ntmps46
    go_wp2_with fail
    rw [← hw1]
    clear hw1
    go_wp2_with fail
    refine HPL.out.mono ?_
    rintro e w2 ⟨rfl, hb2⟩
    have HB2 := Lib.hid (below_on HB.out hb2)
    have cb2 := keep1 cb hb2
    have HPH2 := Lib.hid (HPH.out w2 hb2)
    clear hb2 cb
    go_wp2_with fail
    refine HPH2.out.mono ?_
    rintro e w3 ⟨rfl, hb3⟩
    have HB3 := Lib.hid (below_on HB2.out hb3)
    clear hb3
    go_wp2_with fail
    all_goals
      go_ret2
      first
      | exact ⟨ret_wi (p : Int) (q : Int) _ (by omega), HB3.out⟩
      | exact ⟨ret_wi (p : Int) (p : Int) _ (by omega), HB3.out⟩
end Go.Proofs.Ytfmbjepjmjcgeaa.Buf
/- Layer 15 (buf): Of, Parse; the document's Parse. -/
namespace Go.Proofs.Ytfmbjepjmjcgeaa.Buf
open Go Go.RowKit Go.Proofs.Ytfmbjepjmjcgeaa Go.Proofs.Ytfmbjepjmjcgeaa.Lend Go.Proofs.Ytfmbjepjmjcgeaa.Rec Go.Proofs.Ytfmbjepjmjcgeaa.Msg
set_option linter.unusedVariables false

/-- what Of answers -/
def ofN (l : List Up) : Int := if risB l = true then 0 else 2
def ofU (l : List Up) : List Up := if risB l = true then l else []
/-- what Parse answers -/
def paN (s : List UInt8) : Int := match parL s with | some l => if risB l = true then 0 else 4 | none => 4
def paU (s : List UInt8) : List Up := match parL s with | some l => if risB l = true then l else [] | none => []
theorem ofU_srt (l : List Up) : Srt (ofU l) := by
  unfold ofU
  split
  · rename_i h; exact (ris_iff l).1 h
  · exact srt_nil
theorem paU_srt (s : List UInt8) : Srt (paU s) := by
  unfold paU
  split
  · split
    · rename_i h; exact (ris_iff _).1 h
    · exact srt_nil
  · exact srt_nil
theorem paU_len (s : List UInt8) : (paU s).length ≤ s.length := by
  unfold paU
  split
  · rename_i h
    split
    · exact parL_le h
    · simp
  · simp
def OfP (w : World) (l : List Up) (e : Ending) (w' : World) : Prop := ∃ v', e = .returned (.tuple #[.agg #[v'], .int .i64 (ofN l)]) ∧ RA w' w.heap.size v' (ofU l) ∧ Below w.heap.size w w'
def PrP (w : World) (s : List UInt8) (e : Ending) (w' : World) : Prop := ∃ v', e = .returned (.tuple #[.agg #[v'], .int .i64 (paN s)]) ∧ RA w' w.heap.size v' (paU s) ∧ Below w.heap.size w w'
def RpP (w : World) (s : List UInt8) (e : Ending) (w' : World) : Prop := ∃ v', e = .returned (.tuple #[v', .int .i64 (paN s)]) ∧ RU w' w.heap.size v' (paU s) ∧ Below w.heap.size w w'
theorem ro_far {T : TypeId} {w : World} {base B : Nat} {v : Value} {l : List Up} (h : RO T w base v l) (hB : B < base) (x : Value) : RO T (w.setCell ⟨B, 0, none⟩ x) base v l :=
  owns_same h fun k e => Below.heap_setCell _ _ _ _ (fun e' => by have := (h.lt k e).1; simp at e'; omega)
end Go.Proofs.Ytfmbjepjmjcgeaa.Buf
/- Layer 15 (buf): With. -/
namespace Go.Proofs.Ytfmbjepjmjcgeaa.Buf
open Go Go.RowKit Go.Proofs.Ytfmbjepjmjcgeaa Go.Proofs.Ytfmbjepjmjcgeaa.Lend Go.Proofs.Ytfmbjepjmjcgeaa.Rec Go.Proofs.Ytfmbjepjmjcgeaa.Msg
set_option linter.unusedVariables false

/-- a slice is no longer than there is room for it -/
def CpOk : Value → Prop
  | .slice _ n c => n ≤ c
  | _ => False
theorem cp_own {T : TypeId} {w : World} {B : Nat} {v : Value} {l : List Up} (h : RO T w B v l) : CpOk v := by
  obtain ⟨ao, cp, rfl, hc⟩ := own_shape h
  exact hc
theorem cp_nil : CpOk (.slice none 0 0) := Nat.le_refl _
/-- a part of a slice -/
theorem ur_part {w : World} {a : Option Addr} {n cap : Nat} {l : List Up} (h : UR w (.slice a n cap) l) (hc : n ≤ cap) (f t c' : Nat) (hft : f ≤ t) (ht : t ≤ n) :
    UR w (.slice (if cap = f then a else Option.map (fun x => x.add (f * 4)) a) (t - f) c') ((l.take t).drop f) := by
  have hn := ur_len h
  have hl : ((l.take t).drop f).length = t - f := by rw [List.length_drop, List.length_take]; omega
  refine ⟨_, c', by rw [hl], fun h0 => ?_⟩
  rw [hl] at h0
  obtain ⟨g, off, rfl, hcc⟩ := UR.at_ h (by omega)
  rw [if_neg (by omega)]
  refine ⟨g, off + f * 4, by simp only [Option.map_some, Addr.add_lit], fun i hi j hj => ?_⟩
  rw [hl] at hi
  have := hcc (f + i) (by omega) j hj
  have e : ((l.take t).drop f)[i]'(by rw [hl]; exact hi) = l[f + i]'(by omega) := by rw [List.getElem_drop, List.getElem_take]
  rw [e, ← this]
  congr 2
  omega
theorem run_upto (a : Option Addr) (n cap p : Nat) (hp : p ≤ n) (hc : n ≤ cap) : ∃ a', (∀ w, (Instr.slice 28 (.slice a n cap) none (some (.int .i64 (p : Int))) none).run Try.prog w = .ok (.slice a' p cap) w) ∧ a' = if cap = 0 then a else Option.map (fun x => x.add (0 * 4)) a := by
  have h0 : (0 : Int) ≤ (p : Int) := by omega
  have h1 : (p : Int) ≤ (cap : Int) := by omega
  refine ⟨_, fun w => ?_, rfl⟩
  go_simp
theorem run_from (a : Option Addr) (n cap k : Nat) (hk : k ≤ n) (hc : n ≤ cap) : ∃ a' m c', (∀ w, (Instr.slice 28 (.slice a n cap) (some (.int .i64 (k : Int))) none none).run Try.prog w = .ok (.slice a' m c') w) ∧ m = n - k ∧ c' = cap - k ∧ a' = if cap = k then a else Option.map (fun x => x.add (k * 4)) a := by
  have h0 : (0 : Int) ≤ (k : Int) := by omega
  have h1 : (k : Int) ≤ (n : Int) := by omega
  refine ⟨_, _, _, fun w => ?_, rfl, rfl, rfl⟩
  go_simp
theorem run_mid (a : Option Addr) (n cap f t : Nat) (hf : f ≤ t) (ht : t ≤ n) (hc : n ≤ cap) : ∃ a' m c', (∀ w, (Instr.slice 28 (.slice a n cap) (some (.int .i64 (f : Int))) (some (.int .i64 (t : Int))) none).run Try.prog w = .ok (.slice a' m c') w) ∧ m = t - f ∧ c' = cap - f ∧ a' = if cap = f then a else Option.map (fun x => x.add (f * 4)) a := by
  have h0 : (0 : Int) ≤ (f : Int) := by omega
  have h1 : (f : Int) ≤ (t : Int) := by omega
  have h2 : (0 : Int) ≤ (t : Int) := by omega
  have h3 : (t : Int) ≤ (cap : Int) := by omega
  refine ⟨_, _, _, fun w => ?_, rfl, rfl, rfl⟩
  go_simp
end Go.Proofs.Ytfmbjepjmjcgeaa.Buf
