/- Layer 16 (leaf): the law's own wakes and same. -/
import Derived.Test.YtfmbjepjmjcgeaaLeL
namespace Go.Proofs.Ytfmbjepjmjcgeaa.Leaf
open Go Go.RowKit Go.Proofs.Ytfmbjepjmjcgeaa Go.Proofs.Ytfmbjepjmjcgeaa.Lend Go.Proofs.Ytfmbjepjmjcgeaa.Rec Go.Proofs.Ytfmbjepjmjcgeaa.Msg Go.Proofs.Ytfmbjepjmjcgeaa.Buf
set_option linter.unusedVariables false

theorem ur_has {w : World} {b c : Nat} {T : TypeId} {l : List Up} (h : Has w b T (flatU l)) : UR w (.slice (some ⟨b, 0, none⟩) l.length c) l :=
  ⟨_, c, rfl, fun _ => ⟨b, 0, rfl, fun i hi j hj => by rw [← flatU_get l i hi j hj, ← h.cell, Nat.zero_add]⟩⟩
def ua : Up := ⟨1, [97], [49], 0⟩
def ub : Up := ⟨1, [98], [50], 0⟩
def uc : Up := ⟨1, [99], [51], 0⟩
def ud : Up := ⟨2, [98], [], 0⟩
def W3 : List Up := [enU [97] [49], enU [98] [50], enU [99] [51]]
def W2 : List Up := [enU [97] [49], enU [99] [51]]
theorem wk_on : onL [] [ub, ua, uc] = W3 ∧ onL W3 [ud] = W2 ∧ svK W3 [98] = ([50], true) ∧ partsL W3 2 = [[enU [97] [49], enU [98] [50]], [enU [99] [51]]] := ⟨rfl, rfl, rfl, rfl⟩
theorem w3_srt : Srt W3 := (ris_iff _).1 rfl
theorem w3_ge : Ge W3 3 := ⟨w3_srt, fun x hx => by
  simp only [W3, List.mem_cons, List.mem_nil_iff, or_false] at hx
  rcases hx with rfl | rfl | rfl <;> exact ⟨by simp [enU], by simp [enU], by simp [enU]⟩, Nat.le_refl _⟩
theorem wf_one {u : Up} (h : u.kind = 1 ∨ u.kind = 2) (h0 : u.delta = 0) : WfU u := ⟨by omega, by omega, by omega, by omega⟩
set_option maxRecDepth 100000 in
set_option maxHeartbeats 8000000 in
theorem wakes_any (w : World) : Calls Try.prog 8 #[] w fun e w' => e = .returned (.bool true) ∧ Below w.heap.size w w' := by
  have HO1 : Hid (∀ (W : World) (b : Nat), Has W b 34 (flatU [ub, ua, uc]) → Calls Try.prog 11 #[.agg #[.slice none 0 0], .slice (some ⟨b, 0, none⟩) 3 3] W fun e w' => ∃ a c, e = .returned (.agg #[.slice a 3 c]) ∧ 3 ≤ c ∧ EA w' W.heap.size (.slice a 3 c) W3 ∧ Below W.heap.size W w') := Lib.hid (fun W b hb => by
    have h := leafon_any (w := W) (ER.nil W) ge_nil (by omega) (ur_has (c := 3) hb) (fun u hu => by
      simp only [List.mem_cons, List.mem_nil_iff, or_false] at hu
      rcases hu with rfl | rfl | rfl <;> exact wf_one (.inl rfl) rfl) (by decide)
    rw [wk_on.1] at h
    refine h.mono ?_
    rintro e w' ⟨v', rfl, hv, hb⟩
    obtain ⟨a, c, rfl, hc⟩ := own_shape hv
    exact ⟨a, c, rfl, hc, hv, hb⟩)
  have HO2 : Hid (∀ (W : World) (b B : Nat) (v : Value), EA W B v W3 → Has W b 34 (flatU [ud]) → Calls Try.prog 11 #[.agg #[v], .slice (some ⟨b, 0, none⟩) 1 1] W fun e w' => ∃ v', e = .returned (.agg #[v']) ∧ EA w' W.heap.size v' W2 ∧ Below W.heap.size W w') := Lib.hid (fun W b B v hv hb => by
    have h := leafon_any (w := W) (ER.of_own hv) w3_ge (by omega) (ur_has (c := 1) hb) (fun u hu => by
      rw [List.mem_singleton] at hu
      subst hu
      exact wf_one (.inr rfl) rfl) (by decide)
    rw [wk_on.2.1] at h
    exact h)
  have HGE : Hid (∀ (W : World) (B : Nat) (v : Value), EA W B v W3 → Calls Try.prog 14 #[.agg #[v], .string ⟨#[98]⟩] W fun e w' => e = .returned (.tuple #[.string ⟨#[50]⟩, .bool true]) ∧ Below W.heap.size W w') := Lib.hid (fun W B v hv => by
    have h := eget_any (w := W) [98] (ER.of_own hv) w3_srt (by decide)
    rw [wk_on.2.2.1] at h
    exact h)
  have HPA : Hid (∀ (W : World) (B : Nat) (v : Value), EA W B v W3 → Calls Try.prog 22 #[.agg #[v], .int .i64 2] W fun e w' => ∃ g c x y, e = .returned (.slice (some ⟨g, 0, none⟩) 2 c) ∧ 2 ≤ c ∧ w'.cell? ⟨g, 0, none⟩ = some (.slice x 2 y) ∧ ER w' (.slice x 2 y) [enU [97] [49], enU [98] [50]] ∧ Below W.heap.size W w') := Lib.hid (fun W B v hv => by
    have h := parts_any (w := W) 2 hv (by decide) (by omega) (by omega)
    rw [show (max (1 : Int) 2).toNat = 2 from rfl, wk_on.2.2.2] at h
    refine h.mono ?_
    rintro e w' ⟨v', rfl, hp, hb⟩
    obtain ⟨vs, h1, h2⟩ := hp.ex
    obtain ⟨g, c, rfl, hc, _⟩ := own_some h1 (by decide)
    obtain ⟨x, e0, hx⟩ := h2 0 (by decide)
    have hc0 := h1.cells rfl 0 x e0
    rw [Addr.add_lit, Nat.zero_add] at hc0
    obtain ⟨a, y, rfl, _⟩ := own_shape hx
    exact ⟨g, c, a, y, rfl, hc, hc0, ER.of_own hx, hb⟩)
  obtain ⟨w0, hw0⟩ : ∃ x, x = w.alloc (.cells #[.int .u8 1, .string ⟨#[98]⟩, .string ⟨#[50]⟩, .int .u64 0, .int .u8 1, .string ⟨#[97]⟩, .string ⟨#[49]⟩, .int .u64 0, .int .u8 1, .string ⟨#[99]⟩, .string ⟨#[51]⟩, .int .u64 0] 34) := ⟨_, rfl⟩
  have HB0 := Lib.hid (show Below w.heap.size w w0 by rw [hw0]; exact below_new _ _)
  have hx0 : Has w0 w.heap.size 34 (flatU [ub, ua, uc]) := by rw [hw0]; exact Has.new w (flatU [ub, ua, uc]) _
  go_enter Try.func8, Try.ntmps8
  go_wp2_with fail
  rw [← hw0]
  clear hw0
  refine (HO1.out w0 _ hx0).mono ?_
  rintro e w1 ⟨a1, c1, rfl, hc1, hea1, hb1⟩
  have HB1 := Lib.hid (below_on HB0.out hb1)
  obtain ⟨w2, hw2⟩ : ∃ x, x = (w1.alloc (.cells #[.slice a1 3 c1] 25)).alloc (.cells #[.int .u8 2, .string ⟨#[98]⟩, .string ⟨#[]⟩, .int .u64 0] 34) := ⟨_, rfl⟩
  have hb2 : Below w1.heap.size w1 w2 := by rw [hw2]; exact below_nw (below_new _ _) _
  have h1 := Has.new w1 [.slice a1 3 c1] 25
  have h2 := Has.new (w1.alloc (.cells #[.slice a1 3 c1] 25)) (flatU [ud]) 34
  simp only [World.size_alloc] at h2
  have HF2 := Lib.hid (show Has w2 w1.heap.size 25 [.slice a1 3 c1] by rw [hw2]; exact h1.alloc _)
  have hud : Has w2 (w1.heap.size + 1) 34 (flatU [ud]) := by rw [hw2]; exact h2
  have HE2 := Lib.hid (own_bel hea1 hb2)
  have HB2 := Lib.hid (below_on HB1.out hb2)
  clear h1 h2 hb1 hb2 hea1 hx0
  go_wp2_with fail
  rw [← hw2]
  clear hw2
  refine (HO2.out w2 _ _ _ HE2.out hud).mono ?_
  rintro e w3 ⟨v3, rfl, hv3, hb3⟩
  have HB3 := Lib.hid (below_on HB2.out hb3)
  have HF3 := Lib.hid (HF2.out.below hb3 HF2.out.lt)
  have HE3 := Lib.hid (own_bel HE2.out hb3)
  have hli := elist_any (w := w3) (ER.of_own hv3) (by decide)
  obtain ⟨a3, c3, rfl, _⟩ := own_shape hv3
  clear hb3 hud
  go_wp2_with fail
  refine hli.mono ?_
  clear hli hv3
  rintro e w4 ⟨v4, rfl, hv4, hb4⟩
  have HB4 := Lib.hid (below_on HB3.out hb4)
  have HF4 := Lib.hid (HF3.out.below hb4 HF3.out.lt)
  have HE4 := Lib.hid (own_bel HE3.out hb4)
  obtain ⟨g4, c4, rfl, hc4, _⟩ := own_some hv4 (by decide)
  have k0 : w4.cell? ⟨g4, 0, none⟩ = some (.string ⟨#[97]⟩) := by
    have := hv4.cells rfl 0 _ rfl
    rwa [Addr.add_lit, Nat.zero_add] at this
  have k1 : w4.cell? ⟨g4, 1, none⟩ = some (.string ⟨#[49]⟩) := by
    have := hv4.cells rfl 1 _ rfl
    rwa [Addr.add_lit, Nat.zero_add] at this
  have hl4 : W2.length = 2 := rfl
  rw [hl4] at hc4 ⊢
  have z0 : w4.cell? ⟨w1.heap.size, 0, none⟩ = some (.slice a1 3 c1) := HF4.out.cell 0
  clear hb4 hv4 hl4
  go_wp2_with fail
  refine (HGE.out w4 _ _ HE4.out).mono ?_
  rintro e w5 ⟨rfl, hb5⟩
  have HB5 := Lib.hid (below_on HB4.out hb5)
  have HF5 := Lib.hid (HF4.out.below hb5 HF4.out.lt)
  have HE5 := Lib.hid (own_bel HE4.out hb5)
  have k0 := keep1 k0 hb5
  have k1 := keep1 k1 hb5
  have z0 : w5.cell? ⟨w1.heap.size, 0, none⟩ = some (.slice a1 3 c1) := HF5.out.cell 0
  clear hb5
  go_wp2_with fail
  refine (HPA.out w5 _ _ HE5.out).mono ?_
  rintro e w6 ⟨g6, c6, x6, y6, rfl, hc6, hq6, he6, hb6⟩
  have HB6 := Lib.hid (below_on HB5.out hb6)
  have HF6 := Lib.hid (HF5.out.below hb6 HF5.out.lt)
  have HE6 := Lib.hid (own_bel HE5.out hb6)
  have HP6 := Lib.hid he6
  have k0 := keep1 k0 hb6
  have k1 := keep1 k1 hb6
  have z0 : w6.cell? ⟨w1.heap.size, 0, none⟩ = some (.slice a1 3 c1) := HF6.out.cell 0
  have hln := elen_any (ER.of_own HE6.out)
  have hl3 : (W3.length : Nat) = 3 := rfl
  rw [hl3] at hln
  clear hb6 he6 hl3
  go_wp2_with fail
  refine hln.mono ?_
  clear hln
  rintro e w7 ⟨rfl, hb7⟩
  have HB7 := Lib.hid (below_on HB6.out hb7)
  have k0 := keep1 k0 hb7
  have k1 := keep1 k1 hb7
  have hq7 := keep1 hq6 hb7
  have hln := elen_any (HP6.out.below hb7)
  have hl3 : ([enU [97] [49], enU [98] [50]].length : Nat) = 2 := rfl
  rw [hl3] at hln
  clear hb7 hl3 hq6 z0
  go_wp2_with fail
  refine hln.mono ?_
  clear hln
  rintro e w8 ⟨rfl, hb8⟩
  have HB8 := Lib.hid (below_on HB7.out hb8)
  clear hb8
  go_wp2_with fail
  go_ret
  exact ⟨rfl, HB8.out⟩
theorem svK_self {L : List Up} (hs : Srt L) (i : Nat) (hi : i < L.length) : svK L L[i].key = (L[i].val, true) := by
  obtain ⟨h1, h2⟩ := plK_self hs i hi
  rw [svK_yes h2]
  simp only [h1]
theorem er_cells {w : World} {a : Option Addr} {m c : Nat} {l : List Up} (h : ER w (.slice a m c) l) (i : Nat) (hi : i < l.length) : ∃ g off, a = some ⟨g, off, none⟩ ∧ w.cell? ⟨g, off + i * 2, none⟩ = some (.string (Lend.strOf l[i].key)) ∧ w.cell? ⟨g, off + i * 2 + 1, none⟩ = some (.string (Lend.strOf l[i].val)) := by
  obtain ⟨g, off, rfl⟩ := er_some h (by omega)
  exact ⟨g, off, rfl, er_key h i hi, er_val h i hi⟩
set_option maxRecDepth 100000 in
set_option maxHeartbeats 8000000 in
theorem same_any {w : World} {fv mv : Value} {l : List Up} (hb : ER w fv l) (hm : ER w mv l) (hs : Srt l) (hl : l.length ≤ 100000) :
    Calls Try.prog 12 #[.agg #[fv], mv] w fun e w' => e = .returned (.bool true) ∧ Below w.heap.size w w' := by
  obtain ⟨a, ca, rfl⟩ := hb.slice
  obtain ⟨b, cb, rfl⟩ := hm.slice
  obtain ⟨w1, hw1⟩ : ∃ x, x = w.alloc (.cells #[.slice a l.length ca] 25) := ⟨_, rfl⟩
  have HX := Lib.hid (show Has w1 w.heap.size 25 [.slice a l.length ca] by rw [hw1]; exact Has.new w _ _)
  have HB1 := Lib.hid (show Below w.heap.size w w1 by rw [hw1]; exact below_new w _)
  have HU := Lib.hid (hb.below HB1.out)
  have HM := Lib.hid (hm.below HB1.out)
  have HS := Lib.hid hs
  have HLI := Lib.hid (elist_any HU.out (by omega))
  have HL := Lib.hid hl
  obtain ⟨n, hn⟩ : ∃ n, n = l.length := ⟨_, rfl⟩
  have HN := Lib.hid hn
  rw [← hn] at hl hw1 HX HU HM HLI ⊢
  clear hb hm hs hn
  go_enter Try.func12, Try.ntmps12
  go_wp2_with fail
  rw [← hw1]
  clear hw1
  have cb0 : w1.cell? ⟨w.heap.size, 0, none⟩ = some (.slice a n ca) := HX.out.cell 0
  go_wp2_with fail
  refine HLI.out.mono ?_
  rintro e w2 ⟨v2, rfl, hr2, hb2⟩
  have HB2 := Lib.hid hb2
  have HR2 := Lib.hid (ER.of_own hr2)
  obtain ⟨a2, c2, hv2⟩ := HR2.out.slice
  rw [← HN.out] at hv2
  subst hv2
  have HLN := Lib.hid (elen_any (HU.out.below hb2))
  rw [← HN.out] at HLN
  have cb2 : w2.cell? ⟨w.heap.size, 0, none⟩ = some (.slice a n ca) := keep1 cb0 hb2
  clear hr2 hb2 cb0
  go_wp2_with fail
  refine HLN.out.mono ?_
  rintro e w3 ⟨rfl, hb3⟩
  have HB3 := Lib.hid (below_on HB2.out hb3)
  have HR3 := Lib.hid (HR2.out.below hb3)
  clear hb3 cb2 HR2 HLN
  go_wp2_with fail
  go_loopw [26] (fun i wr => ∃ k : Nat, k ≤ n ∧ i = .int .i64 k ∧ Below w3.heap.size w3 wr) (fun i _ => n - (intOf i).toNat)
  case atStart => exact ⟨0, Nat.zero_le _, rfl, Below.refl _ _⟩
  case round =>
    obtain ⟨k, hk, rfl, hb⟩ := hrel
    rename World => wr
    have HB := Lib.hid hb
    by_cases hlt : k < n
    · have hki : (k : Int) < (n : Int) := by omega
      have hki0 : 0 ≤ (k : Int) := by omega
      have hkl : k < l.length := by rw [← HN.out]; exact hlt
      obtain ⟨g, off, rfl, c0, c1⟩ := er_cells HR3.out k hkl
      obtain ⟨g', off', rfl, d0, d1⟩ := er_cells HM.out k hkl
      have hg := svK_self HS.out k hkl
      obtain ⟨x, hx⟩ : ∃ x, x = l[k] := ⟨_, rfl⟩
      rw [← hx] at c0 c1 d0 d1 hg
      have HBW := Lib.hid (show Below w1.heap.size w1 wr from below_on HB3.out hb)
      replace c0 := keep1 c0 hb
      replace c1 := keep1 c1 hb
      replace d0 := keep1 d0 HBW.out
      replace d1 := keep1 d1 HBW.out
      have hx0 := HX.out.lt
      have xb : wr.cell? ⟨w.heap.size, 0, none⟩ = some (.slice a n ca) := keep1 (HX.out.cell 0) HBW.out
      have hlt1 : w.heap.size < wr.heap.size := Nat.lt_of_lt_of_le hx0 HBW.out.size
      have HGE := Lib.hid (fun (W : World) (hW : Below w1.heap.size w1 W) => eget_any x.key (HU.out.below hW) HS.out (by have := HL.out; omega))
      rw [hg] at HGE
      unfold gvE at HGE
      simp only at HGE
      obtain ⟨KY, hKY⟩ : ∃ z, z = Lend.strOf x.key := ⟨_, rfl⟩
      obtain ⟨VL, hVL⟩ : ∃ z, z = Lend.strOf x.val := ⟨_, rfl⟩
      rw [← hKY] at c0 d0 HGE
      rw [← hVL] at c1 d1 HGE
      clear hx hg hKY hVL hkl hx0
      obtain ⟨w4, hw4⟩ : ∃ z, z = wr.alloc (.cells #[.string KY, .string VL] 53) := ⟨_, rfl⟩
      have HB4 := Lib.hid (show Below w1.heap.size w1 w4 by rw [hw4]; exact below_nw HBW.out _)
      have HX4 := Lib.hid (show Has w4 wr.heap.size 53 [.string KY, .string VL] by rw [hw4]; exact Has.new wr _ _)
      have HB43 := Lib.hid (show Below w3.heap.size w3 w4 by rw [hw4]; exact below_nw hb _)
      have HD := Lib.hid (show wr.cell? ⟨g', off' + k * 2, none⟩ = some (.string KY) ∧ wr.cell? ⟨g', off' + k * 2 + 1, none⟩ = some (.string VL) from ⟨d0, d1⟩)
      have HB4r := Lib.hid (show Below wr.heap.size wr w4 by rw [hw4]; exact below_new wr _)
      clear d0 d1 hb
      go_wp2_with fail
      rw [← hw4]
      refine (HGE.out w4 HB4.out).mono ?_
      rintro e w5 ⟨rfl, hb5⟩
      clear c0 c1 xb hw4
      have hx5 := HX4.out.below hb5 HX4.out.lt
      have u0 := hx5.cell 0
      have u1 := hx5.cell 1
      simp only [List.getElem?_cons_zero, List.getElem?_cons_succ] at u0 u1
      have hb5r := below_on HB4r.out hb5
      obtain ⟨d0, d1⟩ := HD.out
      replace d0 := keep1 d0 hb5r
      replace d1 := keep1 d1 hb5r
      have HB5 := Lib.hid (below_on HB43.out hb5)
      clear hx5 hb5 hb5r
      go_wp2_with fail
      go_quiet (fail)
      go_wp2_with fail
      go_roundw
      case rel => exact ⟨k + 1, by omega, by go_num, bel_q HB5.out⟩
      case measure => simp [intOf]; omega
    · have hki : ¬ ((k : Int) < (n : Int)) := by omega
      have HBF := Lib.hid (HB1.out.trans ((below_on HB3.out hb).mono HB1.out.size))
      clear hb
      go_wp2_with fail
      go_ret
      exact ⟨rfl, HBF.out⟩
end Go.Proofs.Ytfmbjepjmjcgeaa.Leaf
