/- Layer 11's laws: a cache of the law's own; wakes. -/
import Derived.Test.YtbdiadbaapfdgaaCaO
namespace Go.Proofs.Ytbdiadbaapfdgaa.Ca
open Go Go.RowKit Go.Proofs.Ytbdiadbaapfdgaa Go.Maps
set_option linter.unusedVariables false

/-- a cache that lies above w0's end; and nothing below it is another one -/
structure Own (w0 : World) (p : Nat) (R : Nat → Prop) (n : Nat) (es : List En) (c f m : Nat) (w : World) : Prop where
  at_ : CaAt w p R n es c f m
  ge : ∀ k, R k → w0.heap.size ≤ k
  bel : Below w0.heap.size w0 w
section
variable {w0 w w' : World} {p : Nat} {R T : Nat → Prop} {n : Nat} {es es' : List En} {c f m c' f' m' : Nat}
theorem b_on (h : Below w0.heap.size w0 w) (hb : Below w.heap.size w w') : Below w0.heap.size w0 w' := h.trans (hb.mono h.size)
theorem Own.on (h : Own w0 p R n es c f m w) (hb : Below w.heap.size w w') : Own w0 p R n es c f m w' := ⟨h.at_.on hb, h.ge, b_on h.bel hb⟩
theorem Own.of (h : CaAt w' p R n es c f m) (hR : ∀ k, R k → w.heap.size ≤ k) (hb0 : Below w0.heap.size w0 w) (hb : Below w.heap.size w w') : Own w0 p R n es c f m w' := ⟨h, fun k hk => Nat.le_trans hb0.size (hR k hk), b_on hb0 hb⟩
theorem Own.kept (h : Own w0 p R n es c f m w) (hk : Kept w p R n es' c' f' m' w') : ∃ R', Own w0 p R' n es' c' f' m' w' ∧ (∀ k, R' k → R k ∨ w.heap.size ≤ k) ∧ Chg R w w' := by
  obtain ⟨R', h1, h2, h3⟩ := hk
  exact ⟨R', ⟨h1, fun k hk => (h2 k hk).elim (h.ge k) (Nat.le_trans h.bel.size), h.bel.trans (h3.below h.bel.size h.ge)⟩, h2, h3⟩
end
theorem ownsRow_form {W : World} {base n : Nat} {e : TypeId} {size : Nat} {v : Value} {xs : List Value} (h : W.ownsRow base e size v n xs) (h0 : 0 < n) : ∃ g cap, v = .slice (some ⟨g, 0, none⟩) n cap := by
  rcases h.2 with ⟨_, e⟩ | ⟨g, cap, _, hv, _⟩
  · omega
  · exact ⟨g, cap, hv⟩
theorem ownsRow_any {W : World} {base n : Nat} {e : TypeId} {size : Nat} {v : Value} {xs : List Value} (h : W.ownsRow base e size v n xs) : ∃ a cap, v = .slice a n cap := by
  rcases h.2 with ⟨hv, e⟩ | ⟨g, cap, _, hv, _⟩
  · exact ⟨none, 0, by rw [hv, e]⟩
  · exact ⟨_, cap, hv⟩
theorem get_hit {w : World} {p : Nat} {R : Nat → Prop} {n : Nat} {es : List En} {c f m : Nat} (h : CaAt w p R n es c f m) (a g s : Int) (ha : in64 a) (hc : c < 4611686018427387904) {t : En} (ht : gtE es a = some t) (h1 : t.gen = g) (h2 : t.sum = s) : Calls Try.prog 12 #[.pointer (some ⟨p, 0, none⟩), .agg #[.int .i64 a, .int .u64 g, .int .u32 s]] w fun e w' => e = .returned (.tuple #[.int .u8 t.kind, .string t.pay, .bool true]) ∧ Kept w p R n (t :: rmE es a) (c + 1) (f + 1) m w' := by
  refine (get_any h a g s ha hc).mono ?_
  rintro e w' (⟨t', e1, _, _, rfl, hk⟩ | ⟨hno, _⟩)
  · rw [ht] at e1
    injection e1 with e1
    subst e1
    exact ⟨rfl, hk⟩
  · exact absurd ⟨h1, h2⟩ (hno t ht)
theorem get_miss {w : World} {p : Nat} {R : Nat → Prop} {n : Nat} {es : List En} {c f m : Nat} (h : CaAt w p R n es c f m) (a g s : Int) (ha : in64 a) (hc : c < 4611686018427387904) (hno : ∀ t, gtE es a = some t → ¬ (t.gen = g ∧ t.sum = s)) : Calls Try.prog 12 #[.pointer (some ⟨p, 0, none⟩), .agg #[.int .i64 a, .int .u64 g, .int .u32 s]] w fun e w' => e = .returned (.tuple #[.int .u8 0, .string ⟨#[]⟩, .bool false]) ∧ Kept w p R n es (c + 1) f (m + 1) w' := by
  refine (get_any h a g s ha hc).mono ?_
  rintro e w' (⟨t', e1, h1, h2, rfl, hk⟩ | ⟨_, rfl, hk⟩)
  · exact absurd ⟨h1, h2⟩ (hno t' e1)
  · exact ⟨rfl, hk⟩
def eW : Nat → List En
  | 0 => []
  | k + 1 => putE 2 (eW k) ⟨(k : Int) + 1, 0, 0, 4, ⟨#[112]⟩⟩
set_option maxHeartbeats 2000000 in
set_option maxRecDepth 100000 in
theorem wakes_any (w : World) : Calls Try.prog 9 #[] w fun e w' => e = .returned (.bool true) ∧ Below w.heap.size w w' := by
  obtain ⟨E2, h2⟩ : ∃ E, E = eW 2 := ⟨_, rfl⟩
  obtain ⟨T, hT⟩ : ∃ T : En, T = ⟨1, 0, 0, 4, ⟨#[112]⟩⟩ := ⟨_, rfl⟩
  obtain ⟨E3, h3⟩ : ∃ E, E = T :: rmE E2 1 := ⟨_, rfl⟩
  obtain ⟨E4, h4⟩ : ∃ E, E = putE 2 E3 ⟨3, 0, 0, 5, ⟨#[113]⟩⟩ := ⟨_, rfl⟩
  have f2 := Lib.hid (show gtE E2 1 = some T by subst h2; subst hT; rfl)
  have f4 := Lib.hid (show gtE E4 2 = none by subst h4; subst h3; subst h2; subst hT; rfl)
  have f5 := Lib.hid (show E4.map (fun s => Value.int .i64 s.addr) = [.int .i64 3, .int .i64 1] ∧ E4.length = 2 by subst h4; subst h3; subst h2; subst hT; exact ⟨rfl, rfl⟩)
  have fT := Lib.hid (show T.gen = 0 ∧ T.sum = 0 ∧ T.pay = ⟨#[112]⟩ by subst hT; exact ⟨rfl, rfl, rfl⟩)
  have L2 := Lib.hid h2
  have L3 := Lib.hid h3
  have L4 := Lib.hid h4
  clear h2 h3 h4 hT
  go_enter Try.func9, Try.ntmps9
  go_wp2_with fail
  refine (new_yes 2 _ (by decide) (by decide)).mono ?_
  rintro e w1 ⟨p, R, rfl, hs, hR, hb⟩
  have O1 := Lib.hid (Own.of hs hR (Below.refl _ w) hb)
  clear hs hR hb
  go_wp2_with fail
  go_loopw [15] (fun x wr => ∃ (k : Nat) (R : Nat → Prop), k ≤ 2 ∧ x = .int .i64 k ∧ Own w p R 2 (eW k) k 0 0 wr) (fun x _ => 2 - (intOf x).toNat)
  case atStart => exact ⟨0, R, by omega, rfl, O1.out⟩
  case round =>
    obtain ⟨k, R1, hk, rfl, ho⟩ := hrel
    have HO := Lib.hid ho
    clear ho O1
    rcases Nat.lt_or_ge k 2 with hlt | hge
    · have hki : (k : Int) < 2 := by omega
      go_wp2_with fail
      refine (put_any HO.out.at_ ((k : Int) + 1) 0 0 4 ⟨#[112]⟩ (by unfold in64; omega) (by omega)).mono ?_
      rintro e w2 ⟨rfl, hk2⟩
      obtain ⟨R2, o2, _, _⟩ := HO.out.kept hk2
      have O2 := Lib.hid (show Own w p R2 2 (eW (k + 1)) (k + 1) 0 0 w2 from o2)
      clear hk2 o2
      go_wp2_with fail
      go_roundw
      case rel => exact ⟨k + 1, R2, by omega, by go_num, O2.out⟩
      case measure => simp [intOf]; omega
    · have hk2 : k = 2 := by omega
      subst hk2
      rw [← L2.out] at HO
      clear hk hge
      go_wp2_with fail
      refine (get_hit HO.out.at_ 1 0 0 (by unfold in64; omega) (by omega) f2.out fT.out.1 fT.out.2.1).mono ?_
      rintro e w2 ⟨rfl, hk⟩
      rw [fT.out.2.2]
      rw [← L3.out] at hk
      obtain ⟨R2, o2, _, _⟩ := HO.out.kept hk
      have O2 := Lib.hid o2
      clear hk o2 HO
      go_wp2_with fail
      refine (put_any O2.out.at_ 3 0 0 5 ⟨#[113]⟩ (by unfold in64; omega) (by omega)).mono ?_
      rintro e w3 ⟨rfl, hk⟩
      rw [← L4.out] at hk
      obtain ⟨R3, o3, _, _⟩ := O2.out.kept hk
      have O3 := Lib.hid o3
      clear hk o3 O2
      go_wp2_with fail
      refine (get_miss O3.out.at_ 2 0 0 (by unfold in64; omega) (by omega) (fun t ht => by rw [f4.out] at ht; cases ht)).mono ?_
      rintro e w4 ⟨rfl, hk⟩
      obtain ⟨R4, o4, _, _⟩ := O3.out.kept hk
      have O4 := Lib.hid o4
      clear hk o4 O3
      go_wp2_with fail
      refine (list_any O4.out.at_).mono ?_
      rintro e w5 ⟨v, rfl, hrow, hb⟩
      rw [f5.out.1, f5.out.2] at hrow
      obtain ⟨g, cap, rfl⟩ := ownsRow_form hrow (by decide)
      have hc0 := hrow.cellAt 0 (by decide)
      have hc1 := hrow.cellAt 1 (by decide)
      simp only [List.getElem?_cons_zero, List.getElem?_cons_succ] at hc0 hc1
      have HB := Lib.hid (b_on O4.out.bel hb)
      clear hrow hb
      go_wp2_with fail
      go_ret
      exact ⟨rfl, HB.out⟩
end Go.Proofs.Ytbdiadbaapfdgaa.Ca
