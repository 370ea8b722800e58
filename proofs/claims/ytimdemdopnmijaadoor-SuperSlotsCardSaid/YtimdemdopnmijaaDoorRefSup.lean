/- The document's answers of layer 5 (super). -/
import Derived.Test.YtimdemdopnmijaaDoorRefEnvO
import Derived.Test.YtimdemdopnmijaaDoorHeap
namespace Go.Proofs.YtimdemdopnmijaaDoor.Sup
open Go.RowKit Go.Proofs.YtimdemdopnmijaaDoor Go.Proofs.YtimdemdopnmijaaDoor.Lend Go.Proofs.YtimdemdopnmijaaDoor.Env
set_option linter.unusedVariables false

theorem supB_full {g a rg h : Int} (h1 : 1 ≤ g) (h2 : 0 ≤ a) (h3 : a ≤ 2147483647) (h4 : rg ≤ g) (h5 : 1 ≤ h) : supB g a rg h = decide (h ≤ 32) := by simp [supB, adB, h1, h2, h3, h4, h5]
theorem supB_no {g a rg h : Int} (e : g < 1 ∨ a < 0 ∨ 2147483647 < a ∨ g < rg ∨ h < 1) : supB g a rg h = false := by
  simp only [supB, adB, Bool.and_eq_false_iff, decide_eq_false_iff_not]; omega
set_option maxRecDepth 100000 in
theorem refright_sup (g a rg c h s ch : Int) (w : World) :
    Calls Tryd.prog 23 #[.agg #[.int .u64 g, .int .i64 a, .int .u64 rg, .int .u32 c, .int .i64 h, .int .u64 s, .int .u32 ch]] w fun e w' => e = .returned (.bool (supB g a rg h)) ∧ Below w.heap.size w w' := by
  by_cases h1 : 1 ≤ g
  · by_cases h2 : 0 ≤ a
    · by_cases h3 : a ≤ 2147483647
      · by_cases h4 : rg ≤ g
        · by_cases h5 : 1 ≤ h
          · have HS := Lib.hid (supB_full h1 h2 h3 h4 h5)
            go_enter Tryd.func23, Tryd.ntmps23
            go_wp2
            go_ret
            exact ⟨Env.ret_bool HS.out.symm, (Below.refl _ _).alloc (Nat.le_refl _) _⟩
          · have HS := Lib.hid (supB_no (g := g) (a := a) (rg := rg) (h := h) (by omega))
            have h5' : h < 1 := by omega
            clear h5
            go_enter Tryd.func23, Tryd.ntmps23
            go_wp2
            go_ret
            exact ⟨Env.ret_bool HS.out.symm, (Below.refl _ _).alloc (Nat.le_refl _) _⟩
        · have HS := Lib.hid (supB_no (g := g) (a := a) (rg := rg) (h := h) (by omega))
          have h4' : g < rg := by omega
          clear h4
          go_enter Tryd.func23, Tryd.ntmps23
          go_wp2
          go_ret
          exact ⟨Env.ret_bool HS.out.symm, (Below.refl _ _).alloc (Nat.le_refl _) _⟩
      · have HS := Lib.hid (supB_no (g := g) (a := a) (rg := rg) (h := h) (by omega))
        have h3' : 2147483647 < a := by omega
        clear h3
        go_enter Tryd.func23, Tryd.ntmps23
        go_wp2
        go_ret
        exact ⟨Env.ret_bool HS.out.symm, (Below.refl _ _).alloc (Nat.le_refl _) _⟩
    · have HS := Lib.hid (supB_no (g := g) (a := a) (rg := rg) (h := h) (by omega))
      have h2' : a < 0 := by omega
      clear h2
      go_enter Tryd.func23, Tryd.ntmps23
      go_wp2
      go_ret
      exact ⟨Env.ret_bool HS.out.symm, (Below.refl _ _).alloc (Nat.le_refl _) _⟩
  · have HS := Lib.hid (supB_no (g := g) (a := a) (rg := rg) (h := h) (by omega))
    have h1' : g < 1 := by omega
    clear h1
    go_enter Tryd.func23, Tryd.ntmps23
    go_wp2
    go_ret
    exact ⟨Env.ret_bool HS.out.symm, (Below.refl _ _).alloc (Nat.le_refl _) _⟩

theorem has7 {W : World} {b : Nat} {t : TypeId} {x0 x1 x2 x3 x4 x5 x6 : Value} (h : Has W b t [x0, x1, x2, x3, x4, x5, x6]) :
    W.cell? ⟨b, 0, none⟩ = some x0 ∧ W.cell? ⟨b, 1, none⟩ = some x1 ∧ W.cell? ⟨b, 2, none⟩ = some x2 ∧ W.cell? ⟨b, 3, none⟩ = some x3 ∧ W.cell? ⟨b, 4, none⟩ = some x4 ∧ W.cell? ⟨b, 5, none⟩ = some x5 ∧ W.cell? ⟨b, 6, none⟩ = some x6 :=
  ⟨h.cell 0, h.cell 1, h.cell 2, h.cell 3, h.cell 4, h.cell 5, h.cell 6⟩
set_option maxHeartbeats 2000000 in
set_option maxRecDepth 100000 in
theorem refimage_any (size g a rg c h s ch : Int) (w : World) (n : Nums rg c s ch) (hg0 : 0 ≤ g) (hg1 : g < 18446744073709551616) :
    Calls Tryd.prog 11 #[.agg #[.int .u64 g, .int .i64 a, .int .u64 rg, .int .u32 c, .int .i64 h, .int .u64 s, .int .u32 ch], .int .i64 size] w fun e w' => e = .returned (imV size g a rg c h s ch) ∧ Below w.heap.size w w' := by
  have hx := Has.new w [.int .u64 g, .int .i64 a, .int .u64 rg, .int .u32 c, .int .i64 h, .int .u64 s, .int .u32 ch] 41
  cases h2 : supB g a rg h with
  | false =>
    have HV := Lib.hid (imV_no (size := size) (c := c) (s := s) (ch := ch) (.inr h2))
    have H2 := Lib.hid h2
    clear h2 n hg1 hx
    go_enter Tryd.func11, Tryd.ntmps11
    go_wp2_with fail
    refine (refright_sup _ _ _ _ _ _ _ _).mono ?_
    rintro e w1 ⟨rfl, hb⟩
    rw [H2.out]
    go_wp2_with fail
    go_ret2
    exact ⟨by rw [HV.out]; rfl, below_on (below_new _ _) hb⟩
  | true =>
    by_cases h1 : 128 ≤ size
    · by_cases h1' : size ≤ 1024
      · have HV := Lib.hid (imV_yes (c := c) (s := s) (ch := ch) (szB_yes h1 h1') h2)
        have H1 := Lib.hid (szB_yes h1 h1')
        have H2 := Lib.hid h2
        obtain ⟨p1, p2, p3, p4, p5, p6⟩ := supB_parts h2
        have HSE := Lib.hid (refV_yes (k := 1) (g := g) (seal_im (g := g) (a := a) (rg := rg) (c := c) (h := h) (s := s) (ch := ch) (szB_yes h1 h1')))
        have HN := Lib.hid (n.list p2 p3 (by omega) p6 (h := h))
        have HW := Lib.hid (n.wr (a := a) (h := h) p3 p6)
        obtain ⟨P, hP⟩ : ∃ P, P = strOf (payL a rg c h s ch) := ⟨_, rfl⟩
        have HPD := Lib.hid (show P.data.toList = payL a rg c h s ch by rw [hP]; rfl)
        have hps : P.size ≤ 1000000 := by rw [hP]; show (payL a rg c h s ch).length ≤ _; rw [payL_length]; decide
        rw [← hP] at HW
        have HG := Lib.hid hg1
        have wa : IntKind.u64.wrap a = a := by rw [wrap_u64]; omega
        have wc : IntKind.u64.wrap c = c := by rw [wrap_u64]; have := n.c0; have := n.c1; omega
        have wh : IntKind.u64.wrap h = h := by rw [wrap_u64]; omega
        have wch : IntKind.u64.wrap ch = ch := by rw [wrap_u64]; have := n.ch0; have := n.ch1; omega
        have wg : IntKind.i64.wrap (g % 2) = g % 2 := IntWalk.i64_in _ (by omega)
        clear h2 n hg1 hx hP
        go_enter Tryd.func11, Tryd.ntmps11
        go_wp2_with fail
        refine (refright_sup _ _ _ _ _ _ _ _).mono ?_
        rintro e w1 ⟨rfl, hb⟩
        rw [H2.out]
        have hx := (Has.new w [.int .u64 g, .int .i64 a, .int .u64 rg, .int .u32 c, .int .i64 h, .int .u64 s, .int .u32 ch] 41).below hb (by simp)
        have HB1 := Lib.hid (below_on (below_new _ _) hb)
        have HX1 := Lib.hid hx
        obtain ⟨e0, e1, e2, e3, e4, e5, e6⟩ := has7 hx
        have hlt := hx.lt
        clear hx hb
        go_wp2_with fail
        refine (refwrite_any _ _ 6 6 6 6 allW [a, rg, c, h, s, ch] _ ?_ ?_ (by decide) (by decide) HN.out).mono ?_
        · exact (Row.six .i64 _ _ _ _ _ _ _ _).new _
        · refine Row.sixAt .u64 _ _ _ _ _ _ _ _ _ ?_; simp
        rintro e w2 ⟨rfl, hb⟩
        rw [HW.out.1, HW.out.2]
        have HB2 := Lib.hid (below_on (below_nw (below_nw HB1.out _) _) hb)
        have hx := ((HX1.out.alloc _).alloc _).below hb (by simp; omega)
        have HX2 := Lib.hid hx
        clear e0 e1 e2 e3 e4 e5 e6 hb hlt
        obtain ⟨e0, e1, e2, e3, e4, e5, e6⟩ := has7 hx
        clear hx
        go_wp2_with fail
        refine (refseal_any _ _ _ _ P _ hg0 HG.out hps).mono ?_
        rintro e w3 ⟨rfl, hb⟩
        rw [HPD.out, HSE.out]
        have HB3 := Lib.hid (below_on HB2.out hb)
        clear e0 e1 e2 e3 e4 e5 e6 hb
        go_wp2_with fail
        go_ret2
        exact ⟨by rw [HV.out]; rfl, HB3.out⟩
      · have HV := Lib.hid (imV_no (size := size) (g := g) (a := a) (rg := rg) (c := c) (h := h) (s := s) (ch := ch) (.inl (szB_no (.inr (by omega)))))
        have H2 := Lib.hid h2
        have h1'' : 1024 < size := by omega
        clear h2 n hg1 hx h1'
        go_enter Tryd.func11, Tryd.ntmps11
        go_wp2_with fail
        refine (refright_sup _ _ _ _ _ _ _ _).mono ?_
        rintro e w1 ⟨rfl, hb⟩
        rw [H2.out]
        go_wp2_with fail
        go_ret2
        exact ⟨by rw [HV.out]; rfl, below_on (below_new _ _) hb⟩
    · have HV := Lib.hid (imV_no (size := size) (g := g) (a := a) (rg := rg) (c := c) (h := h) (s := s) (ch := ch) (.inl (szB_no (.inl (by omega)))))
      have H2 := Lib.hid h2
      have h1'' : size < 128 := by omega
      clear h2 n hg1 hx h1
      go_enter Tryd.func11, Tryd.ntmps11
      go_wp2_with fail
      refine (refright_sup _ _ _ _ _ _ _ _).mono ?_
      rintro e w1 ⟨rfl, hb⟩
      rw [H2.out]
      go_wp2_with fail
      go_ret2
      exact ⟨by rw [HV.out]; rfl, below_on (below_new _ _) hb⟩
end Go.Proofs.YtimdemdopnmijaaDoor.Sup
