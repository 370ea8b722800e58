/- Contracts of layer 10 (space): what a space is in memory; has, lends, Use, Take, Give, Used, Free, Gen, Step, and of nil ones. -/
import Derived.Test.YtkflccecdjfkiaaDoorSpMath
import Derived.Test.YtkflccecdjfkiaaDoorBitR
import Derived.Test.YtkflccecdjfkiaaDoorChecked
import Derived.WalkLawsBesides
import Derived.WalkSpells
import Derived.Lib.Hide
import Derived.Outline
import Derived.Deep.DeepCutAuto
import Derived.Deep.RegionWith
import Derived.OpenShut
import Derived.Deep.QuietTactic
import Derived.BigQuiet
namespace Go.Proofs.YtkflccecdjfkiaaDoor.Spc
open Go.RowKit Go.Proofs.YtkflccecdjfkiaaDoor Go.Proofs.YtkflccecdjfkiaaDoor.Bit
set_option linter.unusedVariables false

theorem SetAt.r {w : World} {p : Nat} {R : List Nat} {l : List Bool} (h : SetAt w p R l) : R = [p] := by obtain ⟨_, h, _⟩ := h; exact h
theorem SetAt.one {w : World} {p : Nat} {R : List Nat} {l : List Bool} (h : SetAt w p R l) : SetAt w p [p] l := by obtain rfl := SetAt.r h; exact h
theorem putL_same {l : List Bool} {k : Nat} (hk : k < l.length) {b : Bool} (h : bg l k = b) : putL l k b = l := ext_bg (putL_length _ _ _) fun i hi => by
  rw [putL_length] at hi
  rw [putL_get _ _ _ _ hi]
  split
  · rename_i e; obtain rfl : i = k := by omega
    exact h.symm
  · rfl
def ptr (b : Nat) : Value := .pointer (some ⟨b, 0, none⟩)
/-- the space at p stands for S; its sets at pf, pt, pg -/
structure SpB (w : World) (p pf pt pg : Nat) (S : Sp) : Prop where
  main : Has w p 63 [.int .i64 S.first, .pointer (some ⟨pf, 0, none⟩), .pointer (some ⟨pt, 0, none⟩), .pointer (some ⟨pg, 0, none⟩), .int .u64 S.gen, .int .u64 S.last]
  free : SetAt w pf [pf] (notL S.used)
  taken : SetAt w pt [pt] S.taken
  given : SetAt w pg [pg] S.given
  ok : S.Ok
  d : p ≠ pf ∧ p ≠ pt ∧ p ≠ pg ∧ pf ≠ pt ∧ pf ≠ pg ∧ pt ≠ pg
def SpAt (w : World) (p : Nat) (R : List Nat) (S : Sp) : Prop := ∃ pf pt pg, R = [p, pf, pt, pg] ∧ SpB w p pf pt pg S
section
variable {w w' : World} {p pf pt pg : Nat} {R : List Nat} {S : Sp}
theorem SpB.m0 (h : SpB w p pf pt pg S) : w.cell? ⟨p, 0, none⟩ = some (.int .i64 S.first) := h.main.cell 0
theorem SpB.m1 (h : SpB w p pf pt pg S) : w.cell? ⟨p, 1, none⟩ = some (.pointer (some ⟨pf, 0, none⟩)) := h.main.cell 1
theorem SpB.m2 (h : SpB w p pf pt pg S) : w.cell? ⟨p, 2, none⟩ = some (.pointer (some ⟨pt, 0, none⟩)) := h.main.cell 2
theorem SpB.m3 (h : SpB w p pf pt pg S) : w.cell? ⟨p, 3, none⟩ = some (.pointer (some ⟨pg, 0, none⟩)) := h.main.cell 3
theorem SpB.m4 (h : SpB w p pf pt pg S) : w.cell? ⟨p, 4, none⟩ = some (.int .u64 S.gen) := h.main.cell 4
theorem SpB.m5 (h : SpB w p pf pt pg S) : w.cell? ⟨p, 5, none⟩ = some (.int .u64 S.last) := h.main.cell 5
theorem SpB.same (h : SpB w p pf pt pg S) (hk : ∀ k ∈ [p, pf, pt, pg], w'.heap[k]? = w.heap[k]?) : SpB w' p pf pt pg S :=
  ⟨h.main.same (hk _ (by simp)), h.free.same fun k hk2 => hk k (by simp at hk2; simp [hk2]), h.taken.same fun k hk2 => hk k (by simp at hk2; simp [hk2]), h.given.same fun k hk2 => hk k (by simp at hk2; simp [hk2]), h.ok, h.d⟩
theorem SpB.lt (h : SpB w p pf pt pg S) : ∀ k ∈ [p, pf, pt, pg], k < w.heap.size := by
  intro k hk
  simp only [List.mem_cons, List.mem_nil_iff, or_false] at hk
  rcases hk with rfl | rfl | rfl | rfl
  · exact h.main.lt
  · exact h.free.lt _ (by simp)
  · exact h.taken.lt _ (by simp)
  · exact h.given.lt _ (by simp)
theorem SpB.on (h : SpB w p pf pt pg S) (hb : Below w.heap.size w w') : SpB w' p pf pt pg S := h.same fun k hk => hb.block k (h.lt k hk)
theorem SpAt.lt (h : SpAt w p R S) : ∀ k ∈ R, k < w.heap.size := by obtain ⟨pf, pt, pg, rfl, h⟩ := h; exact h.lt
theorem SpAt.ok (h : SpAt w p R S) : S.Ok := by obtain ⟨pf, pt, pg, rfl, h⟩ := h; exact h.ok
theorem SpAt.same (h : SpAt w p R S) (hk : ∀ k ∈ R, w'.heap[k]? = w.heap[k]?) : SpAt w' p R S := by obtain ⟨pf, pt, pg, rfl, h⟩ := h; exact ⟨pf, pt, pg, rfl, h.same hk⟩
theorem Sp.Ok.putU (h : S.Ok) (k : Int) (b : Bool) : ({ S with used := putL S.used k b } : Sp).Ok :=
  ⟨by show 1 ≤ List.length (putL _ _ _); rw [putL_length]; exact h.n1, by show List.length (putL _ _ _) ≤ _; rw [putL_length]; exact h.n2, by show _ = List.length (putL _ _ _); rw [putL_length]; exact h.tl, by show _ = List.length (putL _ _ _); rw [putL_length]; exact h.gl, by show _ < List.length (putL _ _ _); rw [putL_length]; exact h.fl, h.g0, h.le, h.lb⟩
theorem Sp.Ok.putT (h : S.Ok) (k : Int) (b : Bool) : ({ S with taken := putL S.taken k b } : Sp).Ok := ⟨h.n1, h.n2, by show List.length (putL _ _ _) = _; rw [putL_length]; exact h.tl, h.gl, h.fl, h.g0, h.le, h.lb⟩
theorem Sp.Ok.putG (h : S.Ok) (k : Int) (b : Bool) : ({ S with given := putL S.given k b } : Sp).Ok := ⟨h.n1, h.n2, h.tl, by show List.length (putL _ _ _) = _; rw [putL_length]; exact h.gl, h.fl, h.g0, h.le, h.lb⟩
theorem SpB.putF (h : SpB w p pf pt pg S) (k : Int) (b : Bool) (hs : SetAt w' pf R (putL (notL S.used) k (!b))) (hc : Chg (fun j => j ∈ [pf]) w w') : SpB w' p pf pt pg { S with used := putL S.used k b } := by
  obtain ⟨d1, d2, d3, d4, d5, d6⟩ := h.d
  exact ⟨hc.has h.main (by simp; omega), by rw [← notL_put] at hs; exact SetAt.one hs, h.taken.same fun j hj => hc.block j (h.taken.lt j hj) (by simp at hj ⊢; omega), h.given.same fun j hj => hc.block j (h.given.lt j hj) (by simp at hj ⊢; omega), h.ok.putU k b, h.d⟩
theorem SpB.putT (h : SpB w p pf pt pg S) (k : Int) (b : Bool) (hs : SetAt w' pt R (putL S.taken k b)) (hc : Chg (fun j => j ∈ [pt]) w w') : SpB w' p pf pt pg { S with taken := putL S.taken k b } := by
  obtain ⟨d1, d2, d3, d4, d5, d6⟩ := h.d
  exact ⟨hc.has h.main (by simp; omega), h.free.same fun j hj => hc.block j (h.free.lt j hj) (by simp at hj ⊢; omega), SetAt.one hs, h.given.same fun j hj => hc.block j (h.given.lt j hj) (by simp at hj ⊢; omega), h.ok.putT k b, h.d⟩
theorem SpB.putG (h : SpB w p pf pt pg S) (k : Int) (b : Bool) (hs : SetAt w' pg R (putL S.given k b)) (hc : Chg (fun j => j ∈ [pg]) w w') : SpB w' p pf pt pg { S with given := putL S.given k b } := by
  obtain ⟨d1, d2, d3, d4, d5, d6⟩ := h.d
  exact ⟨hc.has h.main (by simp; omega), h.free.same fun j hj => hc.block j (h.free.lt j hj) (by simp at hj ⊢; omega), h.taken.same fun j hj => hc.block j (h.taken.lt j hj) (by simp at hj ⊢; omega), SetAt.one hs, h.ok.putG k b, h.d⟩
/-- how a call leaves the space and the world -/
def Kept (w : World) (p : Nat) (R : List Nat) (S' : Sp) (w' : World) : Prop := ∃ R', SpAt w' p R' S' ∧ (∀ k ∈ R', k ∈ R ∨ w.heap.size ≤ k) ∧ Chg (fun k => k ∈ R) w w'
theorem SpB.kept (h : SpB w' p pf pt pg S) (hc : Chg (fun j => j ∈ [p, pf, pt, pg]) w w') : Kept w p [p, pf, pt, pg] S w' := ⟨_, ⟨pf, pt, pg, rfl, h⟩, fun k hk => .inl hk, hc⟩
theorem chgF (p pf pt pg : Nat) (h : Chg (fun j => j ∈ [pf]) w w') : Chg (fun j => j ∈ [p, pf, pt, pg]) w w' := h.mono fun i _ hi => by simp at hi ⊢; simp [hi]
theorem chgT (p pf pt pg : Nat) (h : Chg (fun j => j ∈ [pt]) w w') : Chg (fun j => j ∈ [p, pf, pt, pg]) w w' := h.mono fun i _ hi => by simp at hi ⊢; simp [hi]
theorem chgG (p pf pt pg : Nat) (h : Chg (fun j => j ∈ [pg]) w w') : Chg (fun j => j ∈ [p, pf, pt, pg]) w w' := h.mono fun i _ hi => by simp at hi ⊢; simp [hi]
theorem chgB (p pf pt pg : Nat) (h : Below w.heap.size w w') : Chg (fun j => j ∈ [p, pf, pt, pg]) w w' := Chg.of_below h (Nat.le_refl _)
end
section
variable {p pf pt pg : Nat} {S : Sp}
theorem sizeF (w : World) (h : SpB w p pf pt pg S) : Calls Tryd.prog 44 #[.pointer (some ⟨pf, 0, none⟩)] w fun e w' => e = .returned (.int .i64 S.used.length) ∧ w = w' := by
  obtain ⟨ws, _, h1, h2, h3, h4⟩ := h.free
  rw [notL_length] at h1
  exact size_t w h1
set_option maxRecDepth 100000 in
theorem has_b (k : Int) (w : World) (h : SpB w p pf pt pg S) : Calls Tryd.prog 35 #[.pointer (some ⟨p, 0, none⟩), .int .i64 k] w fun e w' => e = .returned (.bool (inB S.used k)) ∧ w = w' := by
  have hsz := sizeF w h
  have m1 := h.m1
  obtain ⟨n, hn⟩ : ∃ n : Int, n = (S.used.length : Nat) := ⟨_, rfl⟩
  have HB : inB S.used k = decide (0 ≤ k ∧ k < n) := by rw [hn]; rfl
  rw [HB]
  rw [← hn] at hsz
  clear HB hn h
  by_cases h0 : 0 ≤ k
  · by_cases h1 : k < n
    · rw [decide_eq_true (⟨h0, h1⟩ : 0 ≤ k ∧ k < n)]
      go_enter Tryd.func35, Tryd.ntmps35
      go_wp2_with fail
      refine hsz.mono ?_
      rintro e w1 ⟨rfl, rfl⟩
      go_wp2_with fail
      go_ret
      exact ⟨rfl, rfl⟩
    · rw [decide_eq_false (fun e : 0 ≤ k ∧ k < n => h1 e.2)]
      have h1' : n ≤ k := by omega
      clear h1
      go_enter Tryd.func35, Tryd.ntmps35
      go_wp2_with fail
      refine hsz.mono ?_
      rintro e w1 ⟨rfl, rfl⟩
      go_wp2_with fail
      go_ret
      exact ⟨Bit.ret_bool (by simp; omega), rfl⟩
  · rw [decide_eq_false (fun e : 0 ≤ k ∧ k < n => h0 e.1)]
    have h0' : k < 0 := by omega
    clear h0
    go_enter Tryd.func35, Tryd.ntmps35
    go_wp2_with fail
    go_ret
    exact ⟨rfl, rfl⟩
theorem has_nilb (k : Int) (w : World) : Calls Tryd.prog 35 #[.pointer none, .int .i64 k] w fun e w' => e = .returned (.bool false) ∧ w = w' := by
  go_enter Tryd.func35, Tryd.ntmps35
  go_wp2_with fail
  go_ret
  exact ⟨rfl, rfl⟩
theorem out_in {S : Sp} {k : Int} (hf : (S.first : Int) ≤ k) (h : inB S.used k = true) : outB S k = false := by
  have : 0 ≤ k ∧ k < S.used.length := by simpa [inB] using h
  simp [outB]; omega
theorem out_nin {S : Sp} {k : Int} (h : inB S.used k = false) : outB S k = true := by
  have : ¬ (0 ≤ k ∧ k < S.used.length) := by intro e; rw [inB_yes e.1 e.2] at h; cases h
  simp [outB]; omega
theorem out_lt {S : Sp} {k : Int} (hf : k < (S.first : Int)) : outB S k = true := by simp [outB]; omega
set_option maxRecDepth 100000 in
theorem lends_b (k : Int) (w : World) (h : SpB w p pf pt pg S) : Calls Tryd.prog 31 #[.pointer (some ⟨p, 0, none⟩), .int .i64 k] w fun e w' => e = .returned (.bool (!outB S k)) ∧ w = w' := by
  have hh := has_b k w h
  have m0 := h.m0
  obtain ⟨f, hf⟩ : ∃ f : Int, f = (S.first : Nat) := ⟨_, rfl⟩
  obtain ⟨B, hB⟩ : ∃ B, B = inB S.used k := ⟨_, rfl⟩
  obtain ⟨C, hC⟩ : ∃ C, C = outB S k := ⟨_, rfl⟩
  rw [← hf] at m0
  rw [← hB] at hh
  rw [← hC]
  cases B with
  | true =>
    by_cases h0 : f ≤ k
    · rw [out_in (by omega) hB.symm] at hC
      clear hB hf h
      subst hC
      go_enter Tryd.func31, Tryd.ntmps31
      go_wp2_with fail
      refine hh.mono ?_
      rintro e w1 ⟨rfl, rfl⟩
      go_wp2_with fail
      go_ret
      exact ⟨rfl, rfl⟩
    · have h0' : k < f := by omega
      rw [out_lt (by omega)] at hC
      clear hB hf h h0
      subst hC
      go_enter Tryd.func31, Tryd.ntmps31
      go_wp2_with fail
      refine hh.mono ?_
      rintro e w1 ⟨rfl, rfl⟩
      go_wp2_with fail
      go_ret
      exact ⟨Bit.ret_bool (by simp; omega), rfl⟩
  | false =>
    rw [out_nin hB.symm] at hC
    clear hB hf h
    subst hC
    go_enter Tryd.func31, Tryd.ntmps31
    go_wp2_with fail
    refine hh.mono ?_
    rintro e w1 ⟨rfl, rfl⟩
    go_wp2_with fail
    go_ret
    exact ⟨rfl, rfl⟩
theorem out_is {S : Sp} {k : Int} (h : outB S k = false) : ∃ K : Nat, k = K ∧ K < S.used.length := by
  simp only [outB, Bool.or_eq_false_iff, decide_eq_false_iff_not] at h
  exact ⟨k.toNat, by omega, by omega⟩
theorem eta_used (S : Sp) : ({ S with used := S.used } : Sp) = S := rfl
set_option maxRecDepth 100000 in
theorem use_b (k : Int) (w : World) (h : SpB w p pf pt pg S) : Calls Tryd.prog 15 #[.pointer (some ⟨p, 0, none⟩), .int .i64 k] w fun e w' => e = .returned (.int .i64 (useE S k)) ∧ Kept w p [p, pf, pt, pg] (S.use k) w' := by
  have hl := lends_b k w h
  have m1 := h.m1
  cases ho : outB S k with
  | true =>
    have hE : useE S k = 3 := by rw [useE, if_pos ho]
    have hU : S.use k = S := by rw [Sp.use, if_neg (by rw [hE]; decide)]
    have HK := Lib.hid (h.kept (chgB (w := w) p pf pt pg (Below.refl _ _)))
    rw [hE, hU]
    rw [ho] at hl
    clear ho hE hU m1 h
    go_enter Tryd.func15, Tryd.ntmps15
    go_wp2_with fail
    refine hl.mono ?_
    rintro e w1 ⟨rfl, rfl⟩
    go_wp2_with fail
    go_ret
    exact ⟨rfl, HK.out⟩
  | false =>
    obtain ⟨K, rfl, hK⟩ := out_is ho
    rw [ho] at hl
    have hput := put_any (K : Nat) false w h.free
    rw [has_not _ _ hK] at hput
    have H := Lib.hid h
    cases hh : hasL S.used (K : Nat) with
    | true =>
      have hE : useE S (K : Nat) = 19 := by rw [useE, if_neg (by rw [ho]; decide), if_pos hh]
      have hU : S.use (K : Nat) = S := by rw [Sp.use, if_neg (by rw [hE]; decide)]
      rw [hE, hU]
      rw [hh] at hput
      have HS := Lib.hid (show putL (notL S.used) (K : Nat) false = putL (notL S.used) (K : Nat) (!true) from rfl)
      have HP := Lib.hid (show ({ S with used := putL S.used (K : Nat) true } : Sp) = S by
        rw [putL_same hK (by rw [← hasL_in hK]; exact hh)])
      clear ho hE hU hh hK h
      go_enter Tryd.func15, Tryd.ntmps15
      go_wp2_with fail
      refine hl.mono ?_
      rintro e w1 ⟨rfl, rfl⟩
      go_wp2_with fail
      refine hput.mono ?_
      rintro e w1 ⟨R', rfl, hs, _, hc⟩
      have HK := Lib.hid ((H.out.putF (K : Nat) true hs hc).kept (chgF p pf pt pg hc))
      clear hs hc
      go_wp2_with fail
      go_ret
      exact ⟨rfl, HP.out ▸ HK.out⟩
    | false =>
      have hE : useE S (K : Nat) = 0 := by rw [useE, if_neg (by rw [ho]; decide), if_neg (by rw [hh]; decide)]
      have hU : S.use (K : Nat) = { S with used := putL S.used (K : Nat) true } := by rw [Sp.use, if_pos hE]
      rw [hE, hU]
      rw [hh] at hput
      clear ho hE hU hh hK h
      go_enter Tryd.func15, Tryd.ntmps15
      go_wp2_with fail
      refine hl.mono ?_
      rintro e w1 ⟨rfl, rfl⟩
      go_wp2_with fail
      refine hput.mono ?_
      rintro e w1 ⟨R', rfl, hs, _, hc⟩
      have HK := Lib.hid ((H.out.putF (K : Nat) true hs hc).kept (chgF p pf pt pg hc))
      clear hs hc
      go_wp2_with fail
      go_ret
      exact ⟨rfl, HK.out⟩
theorem take_eq (S : Sp) : nextN (notL S.used) 0 true = takeN S ∧ nextB (notL S.used) 0 true = (takeO S).isSome := by
  have e := next_not S.used 0 false
  rw [show (!false) = true from rfl] at e
  rw [nextN, nextB, e]; exact ⟨rfl, rfl⟩
set_option maxRecDepth 100000 in
theorem take_b (w : World) (hT : Tz w) (h : SpB w p pf pt pg S) : Calls Tryd.prog 11 #[.pointer (some ⟨p, 0, none⟩)] w fun e w' => e = .returned (.tuple #[.int .i64 (takeN S), .int .i64 (takeE S)]) ∧ Kept w p [p, pf, pt, pg] S.take w' := by
  have hnx := next_any 0 true w hT h.free
  rw [(take_eq S).1, (take_eq S).2] at hnx
  have m1 := h.m1
  have H := Lib.hid h
  cases ht : takeO S with
  | none =>
    have hN : takeN S = 0 := by rw [takeN, ht]; rfl
    have hE : takeE S = 11 := by rw [takeE, ht]; rfl
    have hU : S.take = S := by rw [Sp.take, ht]
    rw [hN, hE, hU]
    rw [hN, ht] at hnx
    clear hN hE hU ht h hT
    go_enter Tryd.func11, Tryd.ntmps11
    go_wp2_with fail
    refine hnx.mono ?_
    rintro e w1 ⟨rfl, hb⟩
    have HK := Lib.hid ((H.out.on hb).kept (chgB p pf pt pg hb))
    clear hb
    go_wp2_with fail
    go_ret2
    exact ⟨rfl, HK.out⟩
  | some K =>
    obtain ⟨hK, _, _, _⟩ := next_is ht
    have hN : takeN S = K := by rw [takeN, ht]; rfl
    have hE : takeE S = 0 := by rw [takeE, ht]; rfl
    have hU : S.take = { S with used := putL S.used (K : Nat) true, taken := putL S.taken (K : Nat) true } := by rw [Sp.take, ht]
    rw [hN, hE, hU]
    rw [hN, ht] at hnx
    clear hN hE hU ht h hT
    go_enter Tryd.func11, Tryd.ntmps11
    go_wp2_with fail
    refine hnx.mono ?_
    rintro e w1 ⟨rfl, hb⟩
    have H1 := Lib.hid (H.out.on hb)
    have HC1 := Lib.hid (chgB p pf pt pg hb)
    have m1 := H1.out.m1
    clear hb
    go_wp2_with fail
    refine (put_any (K : Nat) false _ H1.out.free).mono ?_
    rintro e w2 ⟨R', rfl, hs, _, hc⟩
    have H2 := Lib.hid (H1.out.putF (K : Nat) true hs hc)
    have HC2 := Lib.hid (HC1.out.trans (chgF p pf pt pg hc) fun i _ hi => hi)
    have m2 := H2.out.m2
    clear hs hc m1
    go_wp2_with fail
    refine (put_any (K : Nat) true _ H2.out.taken).mono ?_
    rintro e w3 ⟨R', rfl, hs, _, hc⟩
    have H3 := Lib.hid (H2.out.putT (K : Nat) true hs hc)
    have HC3 := Lib.hid (HC2.out.trans (chgT p pf pt pg hc) fun i _ hi => hi)
    clear hs hc m2
    go_wp2_with fail
    go_ret2
    exact ⟨rfl, H3.out.kept HC3.out⟩
set_option maxRecDepth 100000 in
theorem give_b (k : Int) (w : World) (h : SpB w p pf pt pg S) : Calls Tryd.prog 13 #[.pointer (some ⟨p, 0, none⟩), .int .i64 k] w fun e w' => e = .returned (.int .i64 (giveE S k)) ∧ Kept w p [p, pf, pt, pg] (S.give k) w' := by
  have hl := lends_b k w h
  have m1 := h.m1
  cases ho : outB S k with
  | true =>
    have hE : giveE S k = 3 := by rw [giveE, if_pos ho]
    have hU : S.give k = S := by rw [Sp.give, if_neg (by rw [hE]; decide)]
    have HK := Lib.hid (h.kept (chgB (w := w) p pf pt pg (Below.refl _ _)))
    rw [hE, hU]
    rw [ho] at hl
    clear ho hE hU m1 h
    go_enter Tryd.func13, Tryd.ntmps13
    go_wp2_with fail
    refine hl.mono ?_
    rintro e w1 ⟨rfl, rfl⟩
    go_wp2_with fail
    go_ret
    exact ⟨rfl, HK.out⟩
  | false =>
    obtain ⟨K, rfl, hK⟩ := out_is ho
    rw [ho] at hl
    have hhas := has_any (K : Nat) w h.free
    rw [has_not _ _ hK] at hhas
    have H := Lib.hid h
    cases hh : hasL S.used (K : Nat) with
    | false =>
      have hE : giveE S (K : Nat) = 15 := by rw [giveE, if_neg (by rw [ho]; decide), if_pos hh]
      have hU : S.give (K : Nat) = S := by rw [Sp.give, if_neg (by rw [hE]; decide)]
      rw [hE, hU]
      rw [hh] at hhas
      clear ho hE hU hh hK h
      go_enter Tryd.func13, Tryd.ntmps13
      go_wp2_with fail
      refine hl.mono ?_
      rintro e w1 ⟨rfl, rfl⟩
      go_wp2_with fail
      refine hhas.mono ?_
      rintro e w1 ⟨rfl, hb⟩
      have HK := Lib.hid ((H.out.on hb).kept (chgB p pf pt pg hb))
      clear hb
      go_wp2_with fail
      go_ret
      exact ⟨rfl, HK.out⟩
    | true =>
      rw [hh] at hhas
      have hKg : K < S.given.length := by rw [h.ok.gl]; exact hK
      obtain ⟨G, hG⟩ : ∃ G, G = hasL S.given (K : Nat) := ⟨_, rfl⟩
      have HPU := Lib.hid (fun w1 (h1 : SpB w1 p pf pt pg S) => by
        have := put_any (K : Nat) true w1 h1.given
        rw [← hG] at this; exact this)
      cases G with
      | true =>
        have hE : giveE S (K : Nat) = 19 := by rw [giveE, if_neg (by rw [ho]; decide), if_neg (by rw [hh]; decide), if_pos hG.symm]
        have hU : S.give (K : Nat) = S := by rw [Sp.give, if_neg (by rw [hE]; decide)]
        rw [hE, hU]
        have HP := Lib.hid (show ({ S with given := putL S.given (K : Nat) true } : Sp) = S by
          rw [putL_same hKg (by rw [← hasL_in hKg]; exact hG.symm)])
        clear ho hE hU hh hK h hG hKg
        go_enter Tryd.func13, Tryd.ntmps13
        go_wp2_with fail
        refine hl.mono ?_
        rintro e w1 ⟨rfl, rfl⟩
        go_wp2_with fail
        refine hhas.mono ?_
        rintro e w1 ⟨rfl, hb⟩
        have H1 := Lib.hid (H.out.on hb)
        have HC1 := Lib.hid (chgB p pf pt pg hb)
        have m3 := H1.out.m3
        clear hb hhas
        go_wp2_with fail
        refine (HPU.out _ H1.out).mono ?_
        rintro e w2 ⟨R', rfl, hs, _, hc⟩
        have HK := Lib.hid ((H1.out.putG (K : Nat) true hs hc).kept (HC1.out.trans (chgG p pf pt pg hc) fun i _ hi => hi))
        clear hs hc
        go_wp2_with fail
        go_ret
        exact ⟨rfl, HP.out ▸ HK.out⟩
      | false =>
        have hE : giveE S (K : Nat) = 0 := by rw [giveE, if_neg (by rw [ho]; decide), if_neg (by rw [hh]; decide), if_neg (by rw [← hG]; decide)]
        have hU : S.give (K : Nat) = { S with given := putL S.given (K : Nat) true } := by rw [Sp.give, if_pos hE]
        rw [hE, hU]
        clear ho hE hU hh hK h hG hKg
        go_enter Tryd.func13, Tryd.ntmps13
        go_wp2_with fail
        refine hl.mono ?_
        rintro e w1 ⟨rfl, rfl⟩
        go_wp2_with fail
        refine hhas.mono ?_
        rintro e w1 ⟨rfl, hb⟩
        have H1 := Lib.hid (H.out.on hb)
        have HC1 := Lib.hid (chgB p pf pt pg hb)
        have m3 := H1.out.m3
        clear hb hhas
        go_wp2_with fail
        refine (HPU.out _ H1.out).mono ?_
        rintro e w2 ⟨R', rfl, hs, _, hc⟩
        have HK := Lib.hid ((H1.out.putG (K : Nat) true hs hc).kept (HC1.out.trans (chgG p pf pt pg hc) fun i _ hi => hi))
        clear hs hc
        go_wp2_with fail
        go_ret
        exact ⟨rfl, HK.out⟩
set_option maxRecDepth 100000 in
theorem used_b (k : Int) (w : World) (h : SpB w p pf pt pg S) : Calls Tryd.prog 23 #[.pointer (some ⟨p, 0, none⟩), .int .i64 k] w fun e w' => e = .returned (.bool (hasL S.used k)) ∧ Below w.heap.size w w' := by
  have hh := has_b k w h
  have m1 := h.m1
  cases hi : inB S.used k with
  | true =>
    have hr : 0 ≤ k ∧ k < S.used.length := by simpa [inB] using hi
    obtain ⟨K, rfl⟩ : ∃ K : Nat, k = K := ⟨k.toNat, by omega⟩
    have hhas := has_any (K : Nat) w h.free
    rw [has_not _ _ (by omega)] at hhas
    rw [hi] at hh
    obtain ⟨B, hB⟩ : ∃ B, B = hasL S.used (K : Nat) := ⟨_, rfl⟩
    rw [← hB] at hhas ⊢
    clear hB hr hi h
    go_enter Tryd.func23, Tryd.ntmps23
    go_wp2_with fail
    refine hh.mono ?_
    rintro e w1 ⟨rfl, rfl⟩
    go_wp2_with fail
    refine hhas.mono ?_
    rintro e w1 ⟨rfl, hb⟩
    go_wp2_with fail
    go_ret
    exact ⟨Bit.ret_bool (by simp), hb⟩
  | false =>
    rw [hasL, if_neg (by rw [hi]; decide)]
    rw [hi] at hh
    clear hi h
    go_enter Tryd.func23, Tryd.ntmps23
    go_wp2_with fail
    refine hh.mono ?_
    rintro e w1 ⟨rfl, rfl⟩
    go_wp2_with fail
    go_ret
    exact ⟨rfl, Below.refl _ _⟩
set_option maxRecDepth 100000 in
theorem free_b (w : World) (h : SpB w p pf pt pg S) : Calls Tryd.prog 24 #[.pointer (some ⟨p, 0, none⟩)] w fun e w' => e = .returned (.int .i64 (freeN S)) ∧ Below w.heap.size w w' := by
  have hc := count_any w h.free
  rw [← free_not] at hc
  have m1 := h.m1
  clear h
  go_enter Tryd.func24, Tryd.ntmps24
  go_wp2_with fail
  refine hc.mono ?_
  rintro e w1 ⟨rfl, hb⟩
  go_wp2_with fail
  go_ret
  exact ⟨rfl, hb⟩
set_option maxRecDepth 100000 in
theorem gen_b (w : World) (h : SpB w p pf pt pg S) : Calls Tryd.prog 25 #[.pointer (some ⟨p, 0, none⟩)] w fun e w' => e = .returned (.int .u64 S.gen) ∧ Below w.heap.size w w' := by
  have m4 := h.m4
  clear h
  go_enter Tryd.func25, Tryd.ntmps25
  go_wp2
  go_ret
  exact ⟨rfl, Below.refl _ _⟩
theorem SpB.step {w : World} (h : SpB w p pf pt pg S) (hlt : S.gen < S.last) (n : Nat) : SpB ((w.drewN n).setCell ⟨p, 4, none⟩ (.int .u64 (S.gen + 1))) p pf pt pg S.step := by
  obtain ⟨d1, d2, d3, d4, d5, d6⟩ := h.d
  have hok := h.ok.step
  rw [(step_yes hlt).2.2] at hok ⊢
  have ho : ∀ {q : Nat} {l : List Bool}, SetAt w q [q] l → p ≠ q → SetAt ((w.drewN n).setCell ⟨p, 4, none⟩ (.int .u64 (S.gen + 1))) q [q] l := fun h hq => h.same fun k hk => Below.heap_setCell _ _ _ _ (by simp at hk; subst hk; exact hq.symm)
  exact ⟨(h.main.drewN n).set 4 _, ho h.free d1, ho h.taken d2, ho h.given d3, hok, h.d⟩
theorem wrap_step {g : Int} (h0 : 0 ≤ g) (h1 : g + 1 < 18446744073709551616) : IntKind.u64.wrap (g + 1) = g + 1 := by rw [IntKind.wrap_u64]; exact Int.emod_eq_of_lt (by omega) h1
set_option maxRecDepth 100000 in
theorem step_b (w : World) (h : SpB w p pf pt pg S) : Calls Tryd.prog 21 #[.pointer (some ⟨p, 0, none⟩)] w fun e w' => e = .returned (.tuple #[.int .u64 (stepN S), .int .i64 (stepE S)]) ∧ Kept w p [p, pf, pt, pg] S.step w' := by
  have m4 := h.m4
  have m5 := h.m5
  have f4 := h.main.frozen 4
  have hle := h.ok.le
  by_cases hlt : S.gen < S.last
  · obtain ⟨y1, y2, y3⟩ := step_yes hlt
    have hw := wrap_step h.ok.g0 (by have := h.ok.lb; omega)
    have HK := Lib.hid (fun n => (h.step hlt n).kept (((Chg.refl _ w).drewN n).setCell (fun _ => by simp) _))
    have hne : ¬ S.gen = S.last := by omega
    rw [y1, y2]
    obtain ⟨g, hg⟩ : ∃ g, g = S.gen := ⟨_, rfl⟩
    obtain ⟨l, hl⟩ : ∃ l, l = S.last := ⟨_, rfl⟩
    rw [← hg] at m4 hw HK hne ⊢
    rw [← hl] at m5 hne
    clear hlt hle y1 y2 y3 hg hl h
    go_enter Tryd.func21, Tryd.ntmps21
    go_upto_region 3 with fail
    go_quiet (fail)
    go_wp2_with fail
    go_ret2
    exact ⟨rfl, HK.out _⟩
  · obtain ⟨y1, y2, y3⟩ := step_no hlt
    have he : S.gen = S.last := by omega
    have HK := Lib.hid (fun n => (h.on (below_drewN (Below.refl _ _) n)).kept ((Chg.refl _ w).drewN n))
    rw [y1, y2, y3]
    rw [he] at m4
    obtain ⟨l, hl⟩ : ∃ l, l = S.last := ⟨_, rfl⟩
    rw [← hl] at m4 m5
    clear hlt hle y1 y2 y3 he hl h
    go_enter Tryd.func21, Tryd.ntmps21
    go_upto_region 3 with fail
    go_quiet (fail)
    go_wp2_with fail
    go_ret2
    exact ⟨rfl, HK.out _⟩
end
theorem use_nil (k : Int) (w : World) : Calls Tryd.prog 15 #[.pointer none, .int .i64 k] w fun e w' => e = .returned (.int .i64 1) ∧ Below w.heap.size w w' := by
  go_enter Tryd.func15, Tryd.ntmps15
  go_wp2
  go_ret
  exact ⟨rfl, Below.refl _ _⟩
theorem take_nil (w : World) : Calls Tryd.prog 11 #[.pointer none] w fun e w' => e = .returned (.tuple #[.int .i64 0, .int .i64 1]) ∧ Below w.heap.size w w' := by
  go_enter Tryd.func11, Tryd.ntmps11
  go_wp2
  go_ret2
  exact ⟨rfl, Below.refl _ _⟩
theorem give_nil (k : Int) (w : World) : Calls Tryd.prog 13 #[.pointer none, .int .i64 k] w fun e w' => e = .returned (.int .i64 1) ∧ Below w.heap.size w w' := by
  go_enter Tryd.func13, Tryd.ntmps13
  go_wp2
  go_ret
  exact ⟨rfl, Below.refl _ _⟩
theorem settle_nil (w : World) : Calls Tryd.prog 17 #[.pointer none] w fun e w' => e = .returned (.tuple #[]) ∧ Below w.heap.size w w' := by
  go_enter Tryd.func17, Tryd.ntmps17
  go_wp2
  go_end0
  exact ⟨rfl, Below.refl _ _⟩
theorem undo_nil (w : World) : Calls Tryd.prog 19 #[.pointer none] w fun e w' => e = .returned (.tuple #[]) ∧ Below w.heap.size w w' := by
  go_enter Tryd.func19, Tryd.ntmps19
  go_wp2
  go_end0
  exact ⟨rfl, Below.refl _ _⟩
theorem step_nil (w : World) : Calls Tryd.prog 21 #[.pointer none] w fun e w' => e = .returned (.tuple #[.int .u64 0, .int .i64 1]) ∧ Below w.heap.size w w' := by
  go_enter Tryd.func21, Tryd.ntmps21
  go_wp2
  go_ret2
  exact ⟨rfl, Below.refl _ _⟩
theorem used_nil (k : Int) (w : World) : Calls Tryd.prog 23 #[.pointer none, .int .i64 k] w fun e w' => e = .returned (.bool false) ∧ Below w.heap.size w w' := by
  go_enter Tryd.func23, Tryd.ntmps23
  go_wp2_with fail
  refine (has_nilb k w).mono ?_
  rintro e w1 ⟨rfl, rfl⟩
  go_wp2_with fail
  go_ret
  exact ⟨rfl, Below.refl _ _⟩
theorem free_nil (w : World) : Calls Tryd.prog 24 #[.pointer none] w fun e w' => e = .returned (.int .i64 0) ∧ Below w.heap.size w w' := by
  go_enter Tryd.func24, Tryd.ntmps24
  go_wp2
  go_ret
  exact ⟨rfl, Below.refl _ _⟩
theorem gen_nil (w : World) : Calls Tryd.prog 25 #[.pointer none] w fun e w' => e = .returned (.int .u64 0) ∧ Below w.heap.size w w' := by
  go_enter Tryd.func25, Tryd.ntmps25
  go_wp2
  go_ret
  exact ⟨rfl, Below.refl _ _⟩
end Go.Proofs.YtkflccecdjfkiaaDoor.Spc
