/- Layer 11 (cache): the document's own answers: May, Drop, Put. -/
import Derived.Test.YtbdiadbaapfdgaaCaW
import Derived.Laws.AppendOwnNone
import Derived.OwnWalk
namespace Go.Proofs.Ytbdiadbaapfdgaa.Ca
open Go Go.RowKit Go.Proofs.Ytbdiadbaapfdgaa Go.Maps
set_option linter.unusedVariables false

def encE (e : En) : List Value := [.int .i64 e.addr, .int .u64 e.gen, .int .u32 e.sum, .int .u8 e.kind, .string e.pay]
def flatE (es : List En) : List Value := es.flatMap encE
theorem flatE_append (a b : List En) : flatE (a ++ b) = flatE a ++ flatE b := List.flatMap_append
theorem flatE_one (e : En) : flatE [e] = encE e := by unfold flatE; simp
theorem flatE_get : ∀ (es : List En) (i j : Nat) (h : i < es.length), j < 5 → (flatE es)[i * 5 + j]? = (encE es[i])[j]?
  | [], i, j, h, _ => by cases h
  | e :: es, 0, j, h, hj => by
    show (encE e ++ flatE es)[0 * 5 + j]? = (encE e)[j]?
    rw [Nat.zero_mul, Nat.zero_add, List.getElem?_append_left (by simpa [encE] using hj)]
  | e :: es, i + 1, j, h, hj => by
    show (encE e ++ flatE es)[(i + 1) * 5 + j]? = (encE (es[i]'(by simpa using h)))[j]?
    rw [List.getElem?_append_right (by simp [encE]; omega), show (i + 1) * 5 + j - (encE e).length = i * 5 + j by simp [encE]; omega]
    exact flatE_get es i j (by simpa using h) hj
/-- a row of the document's slots -/
abbrev RE (w : World) (base : Nat) (v : Value) (es : List En) : Prop := w.ownsRow base 40 5 v es.length (flatE es)
theorem info_slot : (Try.prog.info? 40).map (fun i => (i.zero, i.size, i.bytes)) = some (some (.agg #[.int .i64 0, .int .u64 0, .int .u32 0, .int .u8 0, .string ⟨#[]⟩]), 5, 40) := by kernel_rfl
section
variable {w w' : World} {base g cap : Nat} {v : Value} {es : List En}
theorem RE.cell (h : RE w base (.slice (some ⟨g, 0, none⟩) es.length cap) es) {i : Nat} (hi : i < es.length) (j : Nat) (hj : j < 5) : w.cell? ⟨g, i * 5 + j, none⟩ = (encE es[i])[j]? := by
  have hb : i * 5 + j < es.length * 5 := by omega
  rw [h.cellAt _ hb, flatE_get es i j hi hj]
theorem RE.below (h : RE w base v es) (hb : Below w.heap.size w w') : RE w' base v es := owns_same h fun k e => hb.block k (h.lt k e).2
end
theorem may_any (k : Int) (w : World) : Calls Try.prog 8 #[.int .i64 k] w fun e w' => e = .returned (.bool (decide (1 ≤ k ∧ k ≤ 4096))) ∧ w' = w := by
  by_cases h1 : 1 ≤ k
  · by_cases h2 : k ≤ 4096
    · have : decide (1 ≤ k ∧ k ≤ 4096) = true := by simp [h1, h2]
      rw [this]
      go_enter Try.func8, Try.ntmps8
      go_wp2
      go_ret
      exact ⟨rfl, rfl⟩
    · have : decide (1 ≤ k ∧ k ≤ 4096) = false := by simp; omega
      rw [this]
      go_enter Try.func8, Try.ntmps8
      go_wp2
      go_ret
      exact ⟨rfl, rfl⟩
  · have : decide (1 ≤ k ∧ k ≤ 4096) = false := by simp; omega
    rw [this]
    go_enter Try.func8, Try.ntmps8
    go_wp2
    go_ret
    exact ⟨rfl, rfl⟩
theorem rmE_step (es : List En) (a : Int) {k : Nat} (hk : k < es.length) : rmE (es.take (k + 1)) a = rmE (es.take k) a ++ (if es[k].addr = a then [] else [es[k]]) := by
  unfold rmE
  rw [List.take_succ_eq_append_getElem hk, List.filter_append]
  congr 1
  by_cases e : es[k].addr = a
  · rw [if_pos e, List.filter_cons_of_neg (by simpa using e)]; rfl
  · rw [if_neg e, List.filter_cons_of_pos (by simpa using e)]; rfl
/-- what Drop and Put answer: a row of the call's own -/
def RoP (w : World) (es : List En) (e : Ending) (w' : World) : Prop := ∃ v', e = .returned v' ∧ RE w' w.heap.size v' es ∧ Below w.heap.size w w'
theorem RoP.mk {w w' : World} {es : List En} {e : Ending} (v' : Value) (he : e = .returned v') (h : RE w' w.heap.size v' es) (hb : Below w.heap.size w w') : RoP w es e w' := ⟨v', he, h, hb⟩
section
variable {w w' : World} {base : Nat} {v : Value} {es : List En}
set_option maxRecDepth 100000 in
set_option maxHeartbeats 2000000 in
theorem refdrop_any (h : RE w base v es) (hl : es.length ≤ 100000) (a : Int) : Calls Try.prog 15 #[v, .int .i64 a] w (RoP w (rmE es a)) := by
  obtain ⟨ao, cap, rfl⟩ := ownsRow_any h
  have HH := Lib.hid h
  obtain ⟨n, hn⟩ : ∃ n, n = es.length := ⟨_, rfl⟩
  have HN := Lib.hid hn
  rw [← hn] at hl ⊢
  clear hn h
  have HO0 := Lib.hid (show w.ownsRow w.heap.size 40 5 (.slice none 0 0) (rmE (es.take 0) a).length (flatE (rmE (es.take 0) a)) from World.ownsRow_nil _ _ _ _)
  go_enter Try.func15, Try.ntmps15
  go_wp2_with fail
  go_loopw [5, 6] (fun x y wr => ∃ k : Nat, k ≤ n ∧ y = .int .i64 k ∧ wr.ownsRow w.heap.size 40 5 x (rmE (es.take k) a).length (flatE (rmE (es.take k) a)) ∧ Below w.heap.size w wr) (fun _ y _ => n - (intOf y).toNat)
  case atStart => exact ⟨0, Nat.zero_le _, rfl, HO0.out, Below.refl _ _⟩
  case round =>
    obtain ⟨k, hk, rfl, hown, hbel⟩ := hrel
    by_cases hlt : k < n
    · have hke : k < es.length := by rw [← HN.out]; exact hlt
      obtain ⟨g, cap', hv⟩ := ownsRow_form HH.out (by omega)
      injection hv with hv1 hv2 hv3
      subst hv1
      have hrow : RE wr base (.slice (some ⟨g, 0, none⟩) es.length cap) es := by have := HH.out.below hbel; rw [← HN.out]; rw [← HN.out] at this; exact this
      have hki : (k : Int) < (n : Int) := by omega
      have c0 := hrow.cell hke 0 (by omega)
      have c1 := hrow.cell hke 1 (by omega)
      have c2 := hrow.cell hke 2 (by omega)
      have c3 := hrow.cell hke 3 (by omega)
      have c4 := hrow.cell hke 4 (by omega)
      have hst := rmE_step es a hke
      obtain ⟨t, ht⟩ : ∃ t, t = es[k] := ⟨_, rfl⟩
      rw [← ht] at c0 c1 c2 c3 c4 hst
      simp only [encE, List.getElem?_cons_zero, List.getElem?_cons_succ, Nat.add_zero] at c0 c1 c2 c3 c4
      have hlen : (rmE (es.take k) a).length ≤ k := by
        have h1 := List.length_filter_le (fun e => !(e.addr == a)) (es.take k)
        have h2 := List.length_take_le k es
        unfold rmE; omega
      clear ht hrow hke hv2 hv3
      obtain ⟨L, hL⟩ : ∃ L, L = rmE (es.take k) a := ⟨_, rfl⟩
      rw [← hL] at hst hown hlen
      clear hL
      by_cases he : t.addr = a
      · rw [if_pos he, List.append_nil] at hst
        subst he
        have HST := Lib.hid hst
        have HO := Lib.hid hown
        have HB := Lib.hid hbel
        clear hst hown hbel hlen
        go_wp2_with fail
        go_roundw
        case rel => exact ⟨k + 1, by omega, by go_num, by rw [HST.out]; exact HO.out, HB.out⟩
        case measure => simp [intOf]; omega
      · rw [if_neg he] at hst
        have hne : (t.addr == a) = false := by simpa using he
        have HST := Lib.hid hst
        have HB := Lib.hid hbel
        have hsz := hbel.size
        have HLEN := Lib.hid hlen
        obtain ⟨i0, hi, hz0, hz1, hz2⟩ := info_parts info_slot
        clear hst hbel hlen
        go_wp2_with (at_builtin; refine wpList_append_own _ rfl _ _ 28 rfl w.heap.size 40 i0 (.agg #[.int .i64 0, .int .u64 0, .int .u32 0, .int .u8 0, .string ⟨#[]⟩]) 5 40 Try.underlying28 hi hz0 hz1 hz2 rfl (by decide) _ _ _ rfl (hown.alloc _) ⟨wr.heap.size, 0, none⟩ 1 1 (encE t) rfl rfl ?c1 ?c2 ?c3 ?c4 ?c5 ?_)
        case c1 =>
          intro j u hj
          match j, hj with
          | 0, hj => simp [encE] at hj; subst hj; simp [Addr.add]
          | 1, hj => simp [encE] at hj; subst hj; simp [Addr.add]
          | 2, hj => simp [encE] at hj; subst hj; simp [Addr.add]
          | 3, hj => simp [encE] at hj; subst hj; simp [Addr.add]
          | 4, hj => simp [encE] at hj; subst hj; simp [Addr.add]
        case c2 => intro u hu; simp [encE] at hu; rcases hu with rfl | rfl | rfl | rfl | rfl <;> rfl
        case c3 => have := HLEN.out; unfold maxLen; omega
        case c4 => have := HLEN.out; omega
        case c5 => simp; omega
        intro v' wn hown' hgrow _
        have HO' := Lib.hid hown'
        have HB' := Lib.hid (show Below w.heap.size w wn from (HB.out.alloc (by omega) _).grown hgrow (by simp; omega) (fun q hq => (hown.lt q hq).1))
        clear hown' hgrow hown HB c0 c1 c2 c3 c4
        go_wp2_with fail
        go_roundw
        case rel => exact ⟨k + 1, by omega, by go_num, by rw [HST.out, List.length_append, flatE_append, flatE_one]; exact HO'.out, HB'.out⟩
        case measure => simp [intOf]; omega
    · obtain rfl : k = n := by omega
      have htk : es.take k = es := List.take_of_length_le (by rw [← HN.out]; exact Nat.le_refl _)
      rw [htk] at hown
      have hno : ¬ (k : Int) < (k : Int) := by omega
      have HO := Lib.hid hown
      have HB := Lib.hid hbel
      clear hown hbel htk
      go_wp2
      go_ret
      exact RoP.mk _ rfl HO.out HB.out
end
end Go.Proofs.Ytbdiadbaapfdgaa.Ca
