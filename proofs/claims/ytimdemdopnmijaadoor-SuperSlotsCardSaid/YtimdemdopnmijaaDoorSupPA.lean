/- Contracts of layer 5 (super): Slot, right, widths, headOf, payload, Image. -/
import Derived.Test.YtimdemdopnmijaaDoorSupL
import Derived.Test.YtimdemdopnmijaaDoorUno
import Derived.Deep.DeepCutAuto
import Derived.Deep.RegionWith
namespace Go.Proofs.YtimdemdopnmijaaDoor.Sup
open Go.RowKit Go.Proofs.YtimdemdopnmijaaDoor Go.Proofs.YtimdemdopnmijaaDoor.Lend Go.Proofs.YtimdemdopnmijaaDoor.Env
set_option linter.unusedVariables false


theorem souV_eq (l : List UInt8) : souV l (souE l) = .tuple #[.agg (souL l).toArray, .int .i64 (souE l)] := by
  unfold souV souL; split <;> rfl
theorem im_sou {size g a rg c h s ch : Int} (h1 : szB size = true) (h2 : supB g a rg h = true) (n : Nums rg c s ch) (hg : g < 18446744073709551616) :
    souV (imL size g a rg c h s ch) (souE (imL size g a rg c h s ch)) = .tuple #[.agg #[.int .u64 g, .int .i64 a, .int .u64 rg, .int .u32 c, .int .i64 h, .int .u64 s, .int .u32 ch], .int .i64 0] := by
  obtain ⟨e1, _, _, _, _, e6⟩ := im_open h1 h2 n hg
  rw [souV_eq, e6, e1]
theorem imL_length (size g a rg c h s ch : Int) (h1 : szB size = true) : ((imL size g a rg c h s ch).length : Int) = size := by
  have hs : 128 ≤ size ∧ size ≤ 1024 := by simpa [szB] using h1
  rw [imL, imgL_length _ _ _ _ _ (by rw [payL_length]; omega)]; omega
/-- the newest of some images -/
def nwS : Option (List UInt8) → List UInt8 → Option (List UInt8)
  | none, l => if souE l = 0 then some l else none
  | some b, l => if souE l = 0 ∧ F b 4 < F l 4 then some l else some b
def nwF (o : Option (List UInt8)) (ls : List (List UInt8)) : Option (List UInt8) := ls.foldl nwS o
def nwV : Option (List UInt8) → Value
  | none => .tuple #[.agg #[.int .u64 0, .int .i64 0, .int .u64 0, .int .u32 0, .int .i64 0, .int .u64 0, .int .u32 0], .bool false]
  | some l => .tuple #[.agg #[.int .u64 (F l 4), .int .i64 (sP l 0), .int .u64 (sP l 1), .int .u32 (sP l 2), .int .i64 (sP l 3), .int .u64 (sP l 4), .int .u32 (sP l 5)], .bool true]

theorem set7_other {W : World} {a b : Nat} {t : TypeId} {cs : List Value} (h : Has W a t cs) (hn : b ≠ a) (x0 x1 x2 x3 x4 x5 x6 : Value) : Has (set7 b x0 x1 x2 x3 x4 x5 x6 W) a t cs :=
  Has.setOther (Has.setOther (Has.setOther (Has.setOther (Has.setOther (Has.setOther (Has.setOther h (by exact hn) x0) (by exact hn) x1) (by exact hn) x2) (by exact hn) x3) (by exact hn) x4) (by exact hn) x5) (by exact hn) x6
theorem slot_any (g : Int) (w : World) (h0 : 0 ≤ g) : Calls Tryd.prog 13 #[.int .u64 g] w fun e w' => e = .returned (.int .i64 (g % 2)) ∧ w = w' := by
  obtain ⟨sl, hsl⟩ : ∃ x, x = g % 2 := ⟨_, rfl⟩
  have hsl2 : Int.tmod g 2 = sl := by rw [hsl]; exact Int.tmod_eq_emod_of_nonneg h0
  have wsl : IntKind.i64.wrap sl = sl := IntWalk.i64_in _ (by omega)
  rw [← hsl]
  clear hsl
  go_enter Tryd.func13, Tryd.ntmps13
  go_wp2
  go_ret
  exact ⟨rfl, rfl⟩
theorem image_nil (size g a rg c h s ch : Int) (w : World) :
    Calls Tryd.prog 10 #[.agg #[.int .u64 g, .int .i64 a, .int .u64 rg, .int .u32 c, .int .i64 h, .int .u64 s, .int .u32 ch], .pointer none, .int .i64 size] w fun e w' => e = .returned (.tuple #[.string ⟨#[]⟩, .int .i64 1]) ∧ Below w.heap.size w w' := by
  go_enter Tryd.func10, Tryd.ntmps10
  go_wp2
  go_ret2
  exact ⟨rfl, below_new _ _⟩
/-- the program's own check, beside the address's -/
def rgB (g rg h : Int) : Bool := decide (1 ≤ g) && (decide (rg ≤ g) && (decide (1 ≤ h) && decide (h ≤ 32)))
theorem supB_rg (g a rg h : Int) : supB g a rg h = (adB a && rgB g rg h) := by
  unfold supB rgB; cases decide (1 ≤ g) <;> cases adB a <;> rfl
theorem rgB_full {g rg h : Int} (h1 : 1 ≤ g) (h4 : rg ≤ g) (h5 : 1 ≤ h) : rgB g rg h = decide (h ≤ 32) := by simp [rgB, h1, h4, h5]
theorem rgB_no {g rg h : Int} (e : g < 1 ∨ g < rg ∨ h < 1) : rgB g rg h = false := by
  simp only [rgB, Bool.and_eq_false_iff, decide_eq_false_iff_not]; omega
set_option maxRecDepth 100000 in
theorem right_any (g a rg c h s ch : Int) (w : World) :
    Calls Tryd.prog 41 #[.agg #[.int .u64 g, .int .i64 a, .int .u64 rg, .int .u32 c, .int .i64 h, .int .u64 s, .int .u32 ch]] w fun e w' => e = .returned (.bool (rgB g rg h)) ∧ Below w.heap.size w w' := by
  by_cases h1 : 1 ≤ g
  · by_cases h4 : rg ≤ g
    · by_cases h5 : 1 ≤ h
      · have HS := Lib.hid (rgB_full h1 h4 h5)
        go_enter Tryd.func41, Tryd.ntmps41
        go_wp2
        go_ret
        exact ⟨Env.ret_bool HS.out.symm, (Below.refl _ _).alloc (Nat.le_refl _) _⟩
      · have HS := Lib.hid (rgB_no (g := g) (rg := rg) (h := h) (by omega))
        have h5' : h < 1 := by omega
        clear h5
        go_enter Tryd.func41, Tryd.ntmps41
        go_wp2
        go_ret
        exact ⟨Env.ret_bool HS.out.symm, (Below.refl _ _).alloc (Nat.le_refl _) _⟩
    · have HS := Lib.hid (rgB_no (g := g) (rg := rg) (h := h) (by omega))
      have h4' : g < rg := by omega
      clear h4
      go_enter Tryd.func41, Tryd.ntmps41
      go_wp2
      go_ret
      exact ⟨Env.ret_bool HS.out.symm, (Below.refl _ _).alloc (Nat.le_refl _) _⟩
  · have HS := Lib.hid (rgB_no (g := g) (rg := rg) (h := h) (by omega))
    have h1' : g < 1 := by omega
    clear h1
    go_enter Tryd.func41, Tryd.ntmps41
    go_wp2
    go_ret
    exact ⟨Env.ret_bool HS.out.symm, (Below.refl _ _).alloc (Nat.le_refl _) _⟩
def tailW : List Int := [1, 8, 4]
theorem tailW_ok : okW tailW = true := rfl
theorem widths_any (w : World) : Calls Tryd.prog 43 #[] w fun e w' => ∃ b, e = .returned (.slice (some ⟨b, 0, none⟩) 3 3) ∧ Row .i64 w' (some ⟨b, 0, none⟩) 3 tailW ∧ Below w.heap.size w w' := by
  go_enter Tryd.func43, Tryd.ntmps43
  go_wp2
  go_ret
  exact ⟨_, rfl, Row.three .i64 w 1 8 4 _, (Below.refl _ _).alloc (Nat.le_refl _) _⟩
theorem keep7 {w1 w2 : World} {p : Nat} {x0 x1 x2 x3 x4 x5 x6 : Value} (h : w1.cell? ⟨p, 0, none⟩ = some x0 ∧ w1.cell? ⟨p, 1, none⟩ = some x1 ∧ w1.cell? ⟨p, 2, none⟩ = some x2 ∧ w1.cell? ⟨p, 3, none⟩ = some x3 ∧ w1.cell? ⟨p, 4, none⟩ = some x4 ∧ w1.cell? ⟨p, 5, none⟩ = some x5 ∧ w1.cell? ⟨p, 6, none⟩ = some x6) (hb : Below w1.heap.size w1 w2) :
    w2.cell? ⟨p, 0, none⟩ = some x0 ∧ w2.cell? ⟨p, 1, none⟩ = some x1 ∧ w2.cell? ⟨p, 2, none⟩ = some x2 ∧ w2.cell? ⟨p, 3, none⟩ = some x3 ∧ w2.cell? ⟨p, 4, none⟩ = some x4 ∧ w2.cell? ⟨p, 5, none⟩ = some x5 ∧ w2.cell? ⟨p, 6, none⟩ = some x6 :=
  ⟨cells_on h.1 hb, cells_on h.2.1 hb, cells_on h.2.2.1 hb, cells_on h.2.2.2.1 hb, cells_on h.2.2.2.2.1 hb, cells_on h.2.2.2.2.2.1 hb, cells_on h.2.2.2.2.2.2 hb⟩
set_option maxRecDepth 100000 in
theorem headOf_any (g : Int) (w : World) (h0 : 0 ≤ g) : Calls Tryd.prog 22 #[.int .u64 g] w fun e w' => e = .returned (.agg #[.int .u8 1, .int .i64 (g % 2), .int .u64 g]) ∧ Below w.heap.size w w' := by
  go_enter Tryd.func22, Tryd.ntmps22
  go_wp2_with fail
  refine (slot_any g _ h0).mono ?_
  rintro e w1 ⟨rfl, rfl⟩
  go_wp2_with fail
  refine bodyPost_ret (v := .agg #[.int .u8 1, .int .i64 (g % 2), .int .u64 g]) (by simp [results, Tryd.results22, go_sem]) rfl ⟨rfl, ?_⟩
  repeat (first | exact Below.refl _ _ | apply below_nw | apply below_dr | refine below_st ?_ (Nat.le_succ _) _ | refine below_st ?_ (Nat.le_refl _) _)
def pyS (g a rg c h s ch : Int) : ByteArray := if supB g a rg h = true then strOf (payL a rg c h s ch) else ⟨#[]⟩
theorem pyS_no {g a rg c h s ch : Int} (e : supB g a rg h = false) : pyS g a rg c h s ch = ⟨#[]⟩ := by rw [pyS, if_neg (by rw [e]; decide)]
theorem ret_sb {a b : ByteArray} {x y : Bool} (h : a = b) (k : x = y) : Ending.returned (.tuple #[.string a, .bool x]) = .returned (.tuple #[.string b, .bool y]) := by rw [h, k]
set_option maxHeartbeats 4000000 in
set_option maxRecDepth 100000 in
theorem payload_any (g a rg c h s ch : Int) (w : World) (n : Nums rg c s ch) :
    Calls Tryd.prog 21 #[.agg #[.int .u64 g, .int .i64 a, .int .u64 rg, .int .u32 c, .int .i64 h, .int .u64 s, .int .u32 ch]] w fun e w' => e = .returned (.tuple #[.string (pyS g a rg c h s ch), .bool (supB g a rg h)]) ∧ Below w.heap.size w w' := by
  have HN := Lib.hid n
  have hx := Has.new w [.int .u64 g, .int .i64 a, .int .u64 rg, .int .u32 c, .int .i64 h, .int .u64 s, .int .u32 ch] 36
  cases ha : adB a with
  | false =>
    have hsup : supB g a rg h = false := by rw [supB_rg, ha]; rfl
    have HS := Lib.hid hsup
    have HV := Lib.hid (pyS_no (c := c) (s := s) (ch := ch) hsup)
    have HA := Lib.hid ha
    clear ha hx n hsup
    go_enter Tryd.func21, Tryd.ntmps21
    go_wp2_with fail
    refine (text_any _ _ _ _ HN.out.rg0 HN.out.rg1 HN.out.c0 HN.out.c1).mono ?_
    rintro e w1 ⟨rfl, hb⟩
    rw [HA.out]
    go_wp2_with fail
    go_ret2
    exact ⟨ret_sb HV.out.symm HS.out.symm, below_on (below_new _ _) hb⟩
  | true =>
    have ha2 : 0 ≤ a ∧ a ≤ 2147483647 := by simpa [adB] using ha
    have HA := Lib.hid ha
    have HP := Lib.hid (show ptS a rg c = strOf (encL ptrW [a, rg, c]) by rw [ptS, if_pos ha])
    cases hr : rgB g rg h with
    | false =>
      have hsup : supB g a rg h = false := by rw [supB_rg, ha, hr]; rfl
      have HS := Lib.hid hsup
      have HV := Lib.hid (pyS_no (c := c) (s := s) (ch := ch) hsup)
      have HR := Lib.hid hr
      clear ha ha2 hr n hsup
      go_enter Tryd.func21, Tryd.ntmps21
      go_wp2_with fail
      refine (text_any _ _ _ _ HN.out.rg0 HN.out.rg1 HN.out.c0 HN.out.c1).mono ?_
      rintro e w1 ⟨rfl, hb⟩
      rw [HA.out]
      have hx1 := hx.below hb (by simp)
      have HB1 := Lib.hid (below_on (below_new _ _) hb)
      obtain ⟨e0, e1, e2, e3, e4, e5, e6⟩ := has7 hx1
      clear hx hb hx1
      go_wp2_with fail
      refine (right_any _ _ _ _ _ _ _ _).mono ?_
      rintro e w2 ⟨rfl, hb⟩
      rw [HR.out]
      go_wp2_with fail
      go_ret2
      exact ⟨ret_sb HV.out.symm HS.out.symm, below_on HB1.out hb⟩
    | true =>
      have hsup : supB g a rg h = true := by rw [supB_rg, ha, hr]; rfl
      obtain ⟨q1, q2, q3, q4, q5, q6⟩ := supB_parts hsup
      have HSUP := Lib.hid hsup
      have HR := Lib.hid hr
      have HW := Lib.hid (wr_ok (ws := tailW) (ns := [h, s, ch]) tailW_ok rfl (by
        have h4 := fitsB_of (n := h) (x := 1) (by simp; omega)
        have h5 := fitsB_of (n := s) (x := 8) (by simpa using n.s1)
        have h6 := fitsB_of (n := ch) (x := 4) (by simpa using n.ch1)
        simp only [tailW, fitsL, h4, h5, h6]; rfl))
      have HNS := Lib.hid (show ∀ x ∈ [h, s, ch], 0 ≤ x ∧ x < 18446744073709551616 by
        have := n.s0; have := n.s1; have := n.ch0; have := n.ch1
        intro x hx
        simp only [List.mem_cons, List.mem_nil_iff, or_false] at hx
        omega)
      obtain ⟨A, hA⟩ : ∃ A, A = ptS a rg c := ⟨_, rfl⟩
      obtain ⟨Z, hZ⟩ : ∃ Z, Z = strOf (encL tailW [h, s, ch]) := ⟨_, rfl⟩
      have hRd : (A ++ Z).data.toList = payL a rg c h s ch := by
        rw [hA, hZ, HP.out, payL_cat]; simp [strOf]; rfl
      have HV := Lib.hid (show A ++ Z = pyS g a rg c h s ch by rw [pyS, if_pos hsup]; exact strOf_ext hRd)
      have has : A.size ≤ 1000 := by rw [hA, HP.out, encL_ptr]; show List.length _ ≤ _; simp [encN_length]
      have hzs : Z.size ≤ 1000 := by rw [hZ]; show List.length (encL tailW [h, s, ch]) ≤ _; simp [tailW, encL, encN_length]
      have hcat : A.size + Z.size ≤ 9223372036854775807 := by omega
      have HCAT := Lib.hid hcat
      have HAA := Lib.hid hA
      have HZZ := Lib.hid hZ
      have wh : IntKind.u64.wrap h = h := by rw [wrap_u64]; omega
      have wch : IntKind.u64.wrap ch = ch := by rw [wrap_u64]; have := n.ch0; have := n.ch1; omega
      clear ha ha2 hr n hsup hA hZ hRd q1 q2 q3 q4 q5 q6 has hzs hcat
      go_enter Tryd.func21, Tryd.ntmps21
      go_wp2_with fail
      refine (text_any _ _ _ _ HN.out.rg0 HN.out.rg1 HN.out.c0 HN.out.c1).mono ?_
      rintro e w1 ⟨rfl, hb⟩
      rw [HA.out, ← HAA.out]
      have hx1 := hx.below hb (by simp)
      have HB1 := Lib.hid (below_on (below_new _ _) hb)
      have HX1 := Lib.hid hx1
      obtain ⟨e0, e1, e2, e3, e4, e5, e6⟩ := has7 hx1
      clear hx hb hx1
      go_wp2_with fail
      refine (right_any _ _ _ _ _ _ _ _).mono ?_
      rintro e w2 ⟨rfl, hb⟩
      rw [HR.out]
      have hx2 := HX1.out.below hb HX1.out.lt
      have HB2 := Lib.hid (below_on HB1.out hb)
      clear e0 e1 e2 e3 e4 e5 e6
      obtain ⟨e0, e1, e2, e3, e4, e5, e6⟩ := has7 hx2
      clear hb hx2
      go_upto_region 4 with fail
      go_cut [6, 5] (fun z o wx => z = .string Z ∧ o = .bool true ∧ Below w2.heap.size w2 wx)
      case first =>
        go_region_held3 (fun W => W.cell? ⟨w.heap.size, 0, none⟩ = some (.int .u64 g) ∧ W.cell? ⟨w.heap.size, 1, none⟩ = some (.int .i64 a) ∧ W.cell? ⟨w.heap.size, 2, none⟩ = some (.int .u64 rg) ∧ W.cell? ⟨w.heap.size, 3, none⟩ = some (.int .u32 c) ∧ W.cell? ⟨w.heap.size, 4, none⟩ = some (.int .i64 h) ∧ W.cell? ⟨w.heap.size, 5, none⟩ = some (.int .u64 s) ∧ W.cell? ⟨w.heap.size, 6, none⟩ = some (.int .u32 ch))
          (first | with_reducible exact keep7 (by assumption) (by assumption) | with_reducible exact keep7 (by assumption) (below_new _ _) | go_keep)
          (first
            | (go_at_call 43; refine (widths_any _).mono ?_; rintro e wm ⟨bm, rfl, hrow, hbel⟩)
            | (go_at_call 42
               refine (write_any _ _ 3 3 3 3 tailW [h, s, ch] _ ?_ ?_ (by decide) (by decide) HNS.out).mono ?_
               · repeat (first | assumption | apply Row.drw | apply Row.new | refine Row.later ?_ (by assumption))
               · repeat (first | (refine Row.threeAt _ _ _ _ _ _ _ ?_; first | rfl | (simp; done)) | apply Row.drw | apply Row.new | refine Row.later ?_ (by assumption))
               rintro e wo ⟨rfl, hbel2⟩
               rw [HW.out.1, HW.out.2, ← HZZ.out]))
        all_goals
          rename_i hend
          clear hend
          go_wp2_with fail
          go_meet
          exact ⟨rfl, rfl, by repeat (first | exact Below.refl _ _ | apply below_nw | apply below_dr | refine below_on ?_ (by assumption))⟩
      case rest =>
        obtain ⟨rfl, rfl, hbx⟩ := hcut
        have HB3 := Lib.hid (below_on HB2.out hbx)
        have hcat := HCAT.out
        clear e0 e1 e2 e3 e4 e5 e6 hbx wh wch
        go_wp2_with fail
        go_ret2
        exact ⟨ret_sb HV.out HSUP.out.symm, HB3.out⟩
set_option maxHeartbeats 4000000 in
set_option maxRecDepth 100000 in
theorem image_any (b : Nat) (size g a rg c h s ch : Int) (w : World) (ht : Sum.IsTab w b) (n : Nums rg c s ch) (hg0 : 0 ≤ g) (hg1 : g < 18446744073709551616) :
    Calls Tryd.prog 10 #[.agg #[.int .u64 g, .int .i64 a, .int .u64 rg, .int .u32 c, .int .i64 h, .int .u64 s, .int .u32 ch], .pointer (some ⟨b, 0, none⟩), .int .i64 size] w fun e w' => e = .returned (imV size g a rg c h s ch) ∧ Below w.heap.size w w' := by
  have HN := Lib.hid n
  have HT := Lib.hid ht
  have HG := Lib.hid hg1
  have HG0 := Lib.hid hg0
  have hx := Has.new w [.int .u64 g, .int .i64 a, .int .u64 rg, .int .u32 c, .int .i64 h, .int .u64 s, .int .u32 ch] 36
  obtain ⟨e0, e1, e2, e3, e4, e5, e6⟩ := has7 hx
  cases hs : supB g a rg h with
  | false =>
    have HV := Lib.hid (imV_no (size := size) (g := g) (a := a) (rg := rg) (c := c) (h := h) (s := s) (ch := ch) (.inr hs))
    have HS := Lib.hid hs
    clear hs hx n ht hg1 hg0
    go_enter Tryd.func10, Tryd.ntmps10
    go_wp2_with fail
    refine (payload_any _ _ _ _ _ _ _ _ HN.out).mono ?_
    rintro e w1 ⟨rfl, hb⟩
    rw [HS.out]
    go_wp2_with fail
    go_ret2
    exact ⟨by rw [HV.out]; rfl, below_on (below_new _ _) hb⟩
  | true =>
    obtain ⟨P, hP⟩ : ∃ P, P = strOf (payL a rg c h s ch) := ⟨_, rfl⟩
    have HPY := Lib.hid (show pyS g a rg c h s ch = P by rw [pyS, if_pos hs, hP])
    have hPd : P.data.toList = payL a rg c h s ch := by rw [hP]; rfl
    have HPS := Lib.hid (show P.size ≤ 1000000 by rw [sz_of hPd, payL_length]; decide)
    have HS := Lib.hid hs
    obtain ⟨sl, hsl⟩ : ∃ x, x = g % 2 := ⟨_, rfl⟩
    have HSL := Lib.hid hsl
    have hV : imV size g a rg c h s ch = .tuple #[.string (sealS size 1 sl g (payL a rg c h s ch)), .int .i64 (sealE size 1 sl (payL a rg c h s ch))] := by
      cases hz : szB size with
      | false =>
        rw [imV_no (.inl hz)]
        have := sealE_arg (k := 1) (a := sl) (pl := payL a rg c h s ch) (.inl hz)
        rw [sealS, this]; rfl
      | true =>
        rw [imV_yes hz hs]
        have := seal_im (size := size) (g := g) (a := a) (rg := rg) (c := c) (h := h) (s := s) (ch := ch) hz
        rw [sealS, hsl, this, if_pos rfl]; rfl
    obtain ⟨X, hX⟩ : ∃ X, X = sealS size 1 sl g (payL a rg c h s ch) := ⟨_, rfl⟩
    obtain ⟨E, hE⟩ : ∃ E, E = sealE size 1 sl (payL a rg c h s ch) := ⟨_, rfl⟩
    obtain ⟨ka, hka⟩ : ∃ x, x = sealA size 1 sl (payL a rg c h s ch) := ⟨_, rfl⟩
    obtain ⟨kg, hkg⟩ : ∃ x, x = sealG size 1 sl g (payL a rg c h s ch) := ⟨_, rfl⟩
    obtain ⟨kc, hkc⟩ : ∃ x, x = sealC size 1 sl g (payL a rg c h s ch) := ⟨_, rfl⟩
    have HSV := Lib.hid (show sealV size 1 sl g P.data.toList = .tuple #[.string X, .agg #[.int .i64 ka, .int .u64 kg, .int .u32 kc], .int .i64 E] by rw [hPd, sealV, ← hX, ← hka, ← hkg, ← hkc, ← hE])
    have HV := Lib.hid (show imV size g a rg c h s ch = .tuple #[.string X, .int .i64 E] by rw [hV, hX, hE])
    have HX := Lib.hid hx
    clear hs hx n ht hg1 hg0 hP hPd hsl hV hX hE hka hkg hkc
    go_enter Tryd.func10, Tryd.ntmps10
    go_wp2_with fail
    refine (payload_any _ _ _ _ _ _ _ _ HN.out).mono ?_
    rintro e w1 ⟨rfl, hb⟩
    rw [HS.out, HPY.out]
    have hx1 := HX.out.below hb (by simp)
    have HB1 := Lib.hid (below_on (below_new _ _) hb)
    have HT1 := Lib.hid (tab_on (tab_nw HT.out _) hb)
    clear e0 e1 e2 e3 e4 e5 e6
    obtain ⟨e0, e1, e2, e3, e4, e5, e6⟩ := has7 hx1
    clear hb hx1
    go_wp2_with fail
    refine (headOf_any _ _ HG0.out).mono ?_
    rintro e w2 ⟨rfl, hb⟩
    rw [← HSL.out]
    have HB2 := Lib.hid (below_on HB1.out hb)
    have HT2 := Lib.hid (tab_on HT1.out hb)
    clear hb
    go_wp2_with fail
    refine (seal_any b size 1 sl g P _ HT2.out HG0.out HG.out HPS.out).mono ?_
    rintro e w3 ⟨rfl, hb⟩
    rw [HSV.out]
    have HB3 := Lib.hid (below_on HB2.out hb)
    clear hb
    go_wp2_with fail
    go_ret2
    exact ⟨by rw [HV.out]; rfl, by repeat (first | exact HB3.out | apply below_nw | apply below_dr | refine below_st ?_ (by have := HB3.out.size; simp; omega) _)⟩
end Go.Proofs.YtimdemdopnmijaaDoor.Sup
