/-
  The law CachePlays holds: whatever is put, got and dropped, the answers, which addresses are kept in which order, and what was counted, are the document's. Conditions: none but the row's own.
-/
import Derived.Test.YtbdiadbaapfdgaaRows
import Derived.Test.YtbdiadbaapfdgaaCaX
import Derived.Deep.CutBlock
import Derived.Test.YtbdiadbaapfdgaaStructs
import Derived.Test.YtbdiadbaapfdgaaStructs
import Derived.WalkKit
import Derived.ProofKit
import Derived.OpenShut
import Derived.ShutString
import Derived.ChangeOld
import Derived.Below
import Derived.Carry
namespace Go.Proofs.Ytbdiadbaapfdgaa.cachePlays
open Go.ChangeShapes Go.WideShapes Go.ChangeAt Go.RowKit
open Go.Proofs.Ytbdiadbaapfdgaa
open Go.ChangeMaps (open_string shut_string)
set_option linter.unusedVariables false

theorem own : ownKnob Try.prog.godebug = none := by kernel_rfl
theorem laidOut : laidOutB Try.prog = true := by kernel_rfl

/-- the elements of argument 1 -/
def AR1 (w : World) (a : Option Addr) (len : Nat) : Prop := 0 < len → ∃ b off, a = some ⟨b, off, none⟩ ∧ ∀ i, i < len → ∃ (x0 : Int) (x1 : Int) (x2 : Int) (x3 : Int) (x4 : ByteArray), w.cell? ⟨b, off + (i * 5 + 0), none⟩ = some (.int .i64 x0) ∧ (Lit.int .i64 x0).wf = true ∧ w.cell? ⟨b, off + (i * 5 + 1), none⟩ = some (.int .i64 x1) ∧ (Lit.int .i64 x1).wf = true ∧ w.cell? ⟨b, off + (i * 5 + 2), none⟩ = some (.int .u64 x2) ∧ (Lit.int .u64 x2).wf = true ∧ w.cell? ⟨b, off + (i * 5 + 3), none⟩ = some (.int .u32 x3) ∧ (Lit.int .u32 x3).wf = true ∧ w.cell? ⟨b, off + (i * 5 + 4), none⟩ = some (.string x4) ∧ x4.size ≤ maxLen
theorem open_AR1 {H : Type} {enc : TypeId × Value → H} {w : World} {held : Bool} {c : Value} (h : ∃ m y, DataW.trod enc Try.prog w 0 (fun _ => true) held m 22 [c] = some y) :
    ∃ a len cap, c = .slice a len cap ∧ AR1 w a len ∧ len ≤ cap ∧ cap ≤ maxLen := by
  obtain ⟨a, len, cap, hc, hl, hm, hx⟩ := open_structs Try.underlying22 Try.underlying33 (by kernel_rfl) (by kernel_rfl) (by decide) h
  refine ⟨a, len, cap, hc, fun hpos => ?_, hl, hm⟩
  obtain ⟨b, off, ha, hf⟩ := hx hpos
  refine ⟨b, off, ha, fun i hi => ?_⟩
  obtain ⟨v0, hc0, ht0⟩ := hf i hi 0 _ rfl
  obtain ⟨x0, rfl, hw0⟩ := open_int_cell Try.underlying3 ht0
  obtain ⟨v1, hc1, ht1⟩ := hf i hi 1 _ rfl
  obtain ⟨x1, rfl, hw1⟩ := open_int_cell Try.underlying3 ht1
  obtain ⟨v2, hc2, ht2⟩ := hf i hi 2 _ rfl
  obtain ⟨x2, rfl, hw2⟩ := open_int_cell Try.underlying30 ht2
  obtain ⟨v3, hc3, ht3⟩ := hf i hi 3 _ rfl
  obtain ⟨x3, rfl, hw3⟩ := open_int_cell Try.underlying31 ht3
  obtain ⟨v4, hc4, ht4⟩ := hf i hi 4 _ rfl
  obtain ⟨x4, rfl, hw4⟩ := open_str_cell Try.underlying9 ht4
  exact ⟨x0, x1, x2, x3, x4, hc0, hw0, hc1, hw1, hc2, hw2, hc3, hw3, hc4, hw4⟩

open Go.Proofs.Ytbdiadbaapfdgaa.Ca

/-! ### STEP 1: THE WALK -/
set_option maxHeartbeats 8000000 in
set_option maxRecDepth 100000 in
theorem walk (a0 : Int) (a1 : Option Addr) (a1l a1c : Nat) (w : World) (w0 : (Lit.int .i64 a0).wf = true) (w1 : AR1 w a1 a1l) (w1l : a1l ≤ a1c) (w1m : a1c ≤ maxLen) :
    Calls Try.prog 3 #[.int .i64 a0, .slice a1 a1l a1c] w fun e w' => e = .returned (.bool true) ∧ Below w.heap.size w w' := by
  have W1 := Lib.hid w1
  have HI0 := Lib.hid (bounds_i64 w0)
  clear w1 w0
  unfold maxLen at w1m
  go_enter Try.func3, Try.ntmps3
  go_upto_region 1 with fail
  go_cut [5, 6] from 210 (fun s e wx => Below w.heap.size w wx ∧ (((1 ≤ a0 ∧ a0 ≤ 4096) ∧ (∃ p, s = .pointer (some ⟨p, 0, none⟩)) ∧ e = .int .i64 0) ∨ (¬ (1 ≤ a0 ∧ a0 ≤ 4096) ∧ s = .pointer none ∧ e = .int .i64 2)))
  case first =>
    by_cases hm : 1 ≤ a0 ∧ a0 ≤ 4096
    · obtain ⟨k, rfl⟩ : ∃ n : Nat, a0 = n := ⟨a0.toNat, by omega⟩
      have HM := Lib.hid hm
      clear hm
      go_wp2_with fail
      refine (new_yes k _ (by have := HM.out; omega) (by have := HM.out; omega)).mono ?_
      rintro e w3 ⟨p, R, rfl, _, _, hb⟩
      go_wp2_with fail
      go_meet
      exact ⟨hb, .inl ⟨HM.out, ⟨p, rfl⟩, rfl⟩⟩
    · have HM := Lib.hid hm
      clear hm
      go_wp2_with fail
      refine (new_no a0 _ (by have := HM.out; omega)).mono ?_
      rintro e w3 ⟨rfl, rfl⟩
      go_wp2_with fail
      go_meet
      exact ⟨Below.refl _ _, .inr ⟨HM.out, rfl, rfl⟩⟩
  case rest =>
    rename_i wx
    obtain ⟨hb1, hcs⟩ := hcut
    have HB1 := Lib.hid hb1
    go_upto_region 2 with fail
    go_cut [5, 6, 47] from 210 (fun _ _ c wy => c = .bool false ∧ Below w.heap.size w wy)
    case first =>
      rcases hcs with ⟨hm, ⟨p, rfl⟩, rfl⟩ | ⟨hm, rfl, rfl⟩
      · have HM := Lib.hid hm
        clear hm hb1
        go_wp2_with fail
        refine (may_any a0 _).mono ?_
        rintro e w4 ⟨rfl, rfl⟩
        rw [decide_eq_true HM.out]
        go_wp2_with fail
        go_meet
        exact ⟨rfl, HB1.out⟩
      · have HM := Lib.hid hm
        clear hm hb1
        go_wp2_with fail
        refine (may_any a0 _).mono ?_
        rintro e w4 ⟨rfl, rfl⟩
        rw [decide_eq_false HM.out]
        go_wp2_with fail
        go_meet
        exact ⟨rfl, HB1.out⟩
    case rest =>
      rename_i wy
      obtain ⟨rfl, hb2⟩ := hcut
      clear hb1 hcs HB1
      have HB2 := Lib.hid hb2
      clear hb2
      go_upto_region 4 with fail
      go_cut [7] from 210 (fun x wz => ∃ n : Nat, x = .int .i64 (n : Int) ∧ 1 ≤ n ∧ n ≤ 6 ∧ Below w.heap.size w wz)
      case first =>
        go_wp2_with fail
        all_goals
          go_meet
          first
          | exact ⟨(1 + max 0 a0 % 6).toNat, by rw [Int.toNat_of_nonneg (by omega)], by omega, by omega, HB2.out⟩
          | exact ⟨(1 + a0 % 6).toNat, by simp; omega, by omega, by omega, HB2.out⟩
          | exact ⟨1, rfl, by omega, by omega, HB2.out⟩
      case rest =>
        rename_i wz
        obtain ⟨n, rfl, hn1, hn6, hb3⟩ := hcut
        clear HB2
        have HB3 := Lib.hid hb3
        clear hb3
        go_wp2_with fail
        refine (new_yes n _ hn1 (by omega)).mono ?_
        rintro e w3 ⟨p, R, rfl, hs, hR, hb⟩
        have T1 := Lib.hid (Tw.start (Own.of hs hR HB3.out hb))
        clear hs hR hb HB3
        go_wp2_with fail
        refine (wakes_any _).mono ?_
        rintro e w5 ⟨rfl, hb⟩
        have T2 := Lib.hid (T1.out.on hb)
        clear hb T1
        obtain ⟨mm, hm⟩ : ∃ mm, mm = min a1l 50 := ⟨_, rfl⟩
        have hmin : ∀ W ts, (Builtin.min_ ts 3 #[.int .i64 (a1l : Nat), .int .i64 50]).run Try.prog W = .ok (.int .i64 (mm : Int)) W := by
          intro W ts; rw [hm]; exact run_minC _ _ _ _ a1l 50
        have hml : mm ≤ a1l := by omega
        have hml' : mm ≤ a1c := by omega
        have hm50 : mm ≤ 50 := by omega
        clear hm
        go_wp2_with fail
        clear hmin
        go_loopw [10, 11, 12, 73] (fun u x y i wr => ∃ (v : Value) (k c f m : Nat) (es : List En), v = u ∧ k ≤ mm ∧ i = .int .i64 k ∧ x = .int .i64 f ∧ y = .int .i64 m ∧ c ≤ k ∧ f ≤ k ∧ m ≤ k ∧ Tw w (fun _ => False) p n es es v c f m wr) (fun _ _ _ i _ => mm - (intOf i).toNat)
        case atStart => exact ⟨_, 0, 0, 0, 0, [], rfl, Nat.zero_le _, rfl, rfl, rfl, Nat.le_refl _, Nat.le_refl _, Nat.le_refl _, T2.out⟩
        case round =>
          obtain ⟨v, k, c, f, m, es, rfl, hk, rfl, rfl, rfl, hc, hf, hmk, ht⟩ := hrel
          clear T2
          by_cases hlt : k < mm
          · obtain ⟨zb, zo, rfl, hel⟩ := W1.out (by omega)
            obtain ⟨d0, d1, d2, d3, d4, hd0, hw0, hd1, hw1, hd2, hw2, hd3, hw3, hd4, hw4⟩ := hel k (by omega)
            have hbr := ht.bel
            have hz0 : wr.cell? ⟨zb, zo + k * 5, none⟩ = some (.int .i64 d0) := (hbr.cell (World.block_lt_of_cell? _ _ hd0)).trans hd0
            have hz1 : wr.cell? ⟨zb, zo + k * 5 + 1, none⟩ = some (.int .i64 d1) := (hbr.cell (World.block_lt_of_cell? _ _ hd1)).trans hd1
            have hz2 : wr.cell? ⟨zb, zo + k * 5 + 2, none⟩ = some (.int .u64 d2) := (hbr.cell (World.block_lt_of_cell? _ _ hd2)).trans hd2
            have hz3 : wr.cell? ⟨zb, zo + k * 5 + 3, none⟩ = some (.int .u32 d3) := (hbr.cell (World.block_lt_of_cell? _ _ hd3)).trans hd3
            have hz4 : wr.cell? ⟨zb, zo + k * 5 + 4, none⟩ = some (.string d4) := (hbr.cell (World.block_lt_of_cell? _ _ hd4)).trans hd4
            have HI1 := Lib.hid (show in64 d1 from by have := bounds_i64 hw1; unfold in64; omega)
            obtain ⟨Q, hQ⟩ : ∃ Q : Int, IntKind.u64.wrap (d2.tmod 5 + 1) % 256 = Q := ⟨_, rfl⟩
            have HQQ := Lib.hid hQ
            clear hQ
            have HU := Lib.hid (bounds_u64 hw2)
            obtain ⟨M, hM⟩ : ∃ M : Int, max 0 d0 = M := ⟨_, rfl⟩
            obtain ⟨r, hr, hr5⟩ : ∃ r : Int, M % 5 = r ∧ 0 ≤ r ∧ r < 5 := ⟨_, rfl, by omega, by omega⟩
            obtain ⟨X, hX⟩ : ∃ b, b = wr.heap.size := ⟨_, rfl⟩
            obtain ⟨Y, hY⟩ : ∃ b, b = wr.heap.size + 1 := ⟨_, rfl⟩
            obtain ⟨W7, hW7⟩ : ∃ W, W = (wr.alloc (.cells #[.int .i64 d0, .int .i64 d1, .int .u64 d2, .int .u32 d3, .string d4] 33)).alloc (.cells #[.int .i64 d1, .int .u64 d2, .int .u32 d3] 35) := ⟨_, rfl⟩
            have HT := Lib.hid (show Tw w (fun k => k = X ∨ k = Y) p n es es v c f m W7 by
              rw [hW7, hX, hY]
              have := (ht.more (.cells #[.int .i64 d0, .int .i64 d1, .int .u64 d2, .int .u32 d3, .string d4] 33)).more (.cells #[.int .i64 d1, .int .u64 d2, .int .u32 d3] 35)
              refine this.less fun k hk => ?_
              rcases hk with e | e
              · exact .inl (.inr e)
              · exact .inr (by rw [World.size_alloc]; exact e))
            have HX := Lib.hid (show Has W7 X 33 [.int .i64 d0, .int .i64 d1, .int .u64 d2, .int .u32 d3, .string d4] by rw [hW7, hX]; exact (Has.new wr _ _).alloc _)
            have HY := Lib.hid (show Has W7 Y 35 [.int .i64 d1, .int .u64 d2, .int .u32 d3] by
              have := Has.new (wr.alloc (.cells #[.int .i64 d0, .int .i64 d1, .int .u64 d2, .int .u32 d3, .string d4] 33)) [.int .i64 d1, .int .u64 d2, .int .u32 d3] 35
              rw [World.size_alloc] at this
              rw [hW7, hY]; exact this)
            clear ht hbr hel hd0 hw0 hd1 hw1 hd2 hw2 hd3 hw3 hd4 hw4
            go_upto_block 2 with fail
            rw [← hW7, ← hY, ← hX]
            try rw [hM]
            try rw [hr]
            have HLE := Lib.hid HT.out.len
            have hle : es.length ≤ 6 := by have := HLE.out; omega
            clear hz0 hz1 hz2 hz3 hz4 hW7 hX hY hM hr
            go_cut [10, 11, 12] from 210 (fun u x y wx => ∃ (v : Value) (c f m : Nat) (es : List En), v = u ∧ x = .int .i64 f ∧ y = .int .i64 m ∧ c ≤ k + 1 ∧ f ≤ k + 1 ∧ m ≤ k + 1 ∧ Tw w (fun _ => False) p n es es v c f m wx)
            case first =>
              have hr' : (r = 0 ∨ r = 1) ∨ (r = 2 ∨ r = 3) ∨ r = 4 := by omega
              clear hr5
              rcases hr' with hr' | hr' | rfl
              · rcases hr' with rfl | rfl
                all_goals
                  obtain ⟨R, o, rr, a⟩ := HT.out
                  have c0 := HX.out.cell 0
                  have c1 := HX.out.cell 1
                  have c2 := HX.out.cell 2
                  have c3 := HX.out.cell 3
                  have c4 := HX.out.cell 4
                  have y0 := HY.out.cell 0
                  have y1 := HY.out.cell 1
                  have y2 := HY.out.cell 2
                  simp only [List.getElem?_cons_zero, List.getElem?_cons_succ] at c0 c1 c2 c3 c4 y0 y1 y2
                  have HPP := Lib.hid (put_any o.at_ d1 d2 d3 Q d4 HI1.out (by omega))
                  have HKP := Lib.hid (fun es' c' f' m' w8 hk => Tw.kept (w' := w8) (es' := es') (c' := c') (f' := f') (m' := m') o rr a hk)
                  clear o rr a HT
                  go_wp2_with fail
                  rw [HQQ.out]
                  refine HPP.out.mono ?_
                  rintro e w8 ⟨rfl, hk8⟩
                  obtain ⟨t8, s8⟩ := HKP.out _ _ _ _ w8 hk8
                  have T8 := Lib.hid t8
                  have HX8 := Lib.hid (HX.out.same (s8 X (.inl rfl)))
                  clear hk8 t8 s8 HPP HKP c0 c1 c2 c3 c4 y0 y1 y2 HX HY
                  have c0 := HX8.out.cell 0
                  have c1 := HX8.out.cell 1
                  have c2 := HX8.out.cell 2
                  have c3 := HX8.out.cell 3
                  have c4 := HX8.out.cell 4
                  simp only [List.getElem?_cons_zero, List.getElem?_cons_succ] at c0 c1 c2 c3 c4
                  have HRP := Lib.hid (show Calls Try.prog 11 #[v, .int .i64 n, .agg #[.int .i64 d1, .int .u64 d2, .int .u32 d3, .int .u8 Q, .string d4]] w8 (RoP w8 (putE n es ⟨d1, d2, d3, Q, d4⟩)) from by
                    obtain ⟨R, o, rr, a⟩ := T8.out
                    exact refput_any rr (by omega) n hn1 (by omega) ⟨d1, d2, d3, Q, d4⟩)
                  go_wp2_with fail
                  rw [HQQ.out]
                  refine HRP.out.mono ?_
                  rintro e w9 ⟨v9, rfl, hr9, hb9⟩
                  have T9 := Lib.hid ((T8.out.row hr9 hb9).less (K' := fun _ => False) fun k h => h.elim)
                  clear hr9 hb9 HRP c0 c1 c2 c3 c4 T8 HX8
                  go_wp2_with fail
                  go_meet
                  exact ⟨_, c + 1, f, m, _, rfl, rfl, rfl, by omega, by omega, by omega, T9.out⟩
              · rcases hr' with rfl | rfl
                all_goals
                  obtain ⟨R, o, rr, a⟩ := HT.out
                  have y0 := HY.out.cell 0
                  have y1 := HY.out.cell 1
                  have y2 := HY.out.cell 2
                  simp only [List.getElem?_cons_zero, List.getElem?_cons_succ] at y0 y1 y2
                  have HPP := Lib.hid (get_any o.at_ d1 d2 d3 HI1.out (by omega))
                  have HKP := Lib.hid (fun es' c' f' m' w8 hk => Tw.kept (w' := w8) (es' := es') (c' := c') (f' := f') (m' := m') o rr a hk)
                  have HND := Lib.hid o.at_.nodup
                  clear o rr a HT
                  go_wp2_with fail
                  refine HPP.out.mono ?_
                  intro e w8 hg8
                  rcases hg8 with ⟨t, g1, g2, g3, rfl, hk8⟩ | ⟨g1, rfl, hk8⟩
                  · obtain ⟨t8, s8⟩ := HKP.out _ _ _ _ w8 hk8
                    have T8 := Lib.hid t8
                    have G1 := Lib.hid g1
                    have G2 := Lib.hid (And.intro g2 g3)
                    have HX8 := Lib.hid (HX.out.same (s8 X (.inl rfl)))
                    clear hk8 t8 s8 HPP HKP y0 y1 y2 HX HY g1 g2 g3
                    have c1 := HX8.out.cell 1
                    have c2 := HX8.out.cell 2
                    have c3 := HX8.out.cell 3
                    simp only [List.getElem?_cons_zero, List.getElem?_cons_succ] at c1 c2 c3
                    have HRP := Lib.hid (show Calls Try.prog 13 #[v, .int .i64 d1, .int .u64 d2, .int .u32 d3] w8 (RgP w8 v es d1 d2 d3) from by
                      obtain ⟨R, o, rr, a⟩ := T8.out
                      exact refget_any rr (by omega) HND.out d1 d2 d3)
                    go_wp2_with fail
                    refine HRP.out.mono ?_
                    intro e w9 hr9
                    rcases hr9 with ⟨t', v9, h1, h2, h3, rfl, hr9, hb9⟩ | ⟨h1, _⟩
                    case inr => exact absurd G2.out (h1 t G1.out)
                    have ht : t' = t := by have := h1.symm.trans G1.out; injection this
                    subst ht
                    have T9 := Lib.hid ((T8.out.row hr9 hb9).less (K' := fun _ => False) fun k h => h.elim)
                    have HW := Lib.hid (Has.new w9 [.int .i64 t'.addr, .int .u64 t'.gen, .int .u32 t'.sum, .int .u8 t'.kind, .string t'.pay] 40)
                    have T10 := Lib.hid ((T9.out.more (.cells #[.int .i64 t'.addr, .int .u64 t'.gen, .int .u32 t'.sum, .int .u8 t'.kind, .string t'.pay] 40)).less (K' := fun _ => False) fun k h => h.elim)
                    clear hr9 hb9 HRP c1 c2 c3 T8 HX8 h1 h2 h3
                    go_wp2_with fail
                    go_meet
                    exact ⟨_, c + 1, f + 1, m, _, rfl, by go_num, rfl, by omega, by omega, by omega, T10.out⟩
                  · obtain ⟨t8, s8⟩ := HKP.out _ _ _ _ w8 hk8
                    have T8 := Lib.hid t8
                    have G1 := Lib.hid g1
                    have HX8 := Lib.hid (HX.out.same (s8 X (.inl rfl)))
                    clear hk8 t8 s8 HPP HKP y0 y1 y2 HX HY g1
                    have c1 := HX8.out.cell 1
                    have c2 := HX8.out.cell 2
                    have c3 := HX8.out.cell 3
                    simp only [List.getElem?_cons_zero, List.getElem?_cons_succ] at c1 c2 c3
                    have HRP := Lib.hid (show Calls Try.prog 13 #[v, .int .i64 d1, .int .u64 d2, .int .u32 d3] w8 (RgP w8 v es d1 d2 d3) from by
                      obtain ⟨R, o, rr, a⟩ := T8.out
                      exact refget_any rr (by omega) HND.out d1 d2 d3)
                    go_wp2_with fail
                    refine HRP.out.mono ?_
                    intro e w9 hr9
                    rcases hr9 with ⟨t', v9, h1, h2, h3, _⟩ | ⟨_, rfl, hb9⟩
                    case inl => exact absurd ⟨h2, h3⟩ (G1.out t' h1)
                    have T9 := Lib.hid ((T8.out.on hb9).less (K' := fun _ => False) fun k h => h.elim)
                    have HW := Lib.hid (Has.new w9 [.int .i64 0, .int .u64 0, .int .u32 0, .int .u8 0, .string ⟨#[]⟩] 40)
                    have T10 := Lib.hid ((T9.out.more (.cells #[.int .i64 0, .int .u64 0, .int .u32 0, .int .u8 0, .string ⟨#[]⟩] 40)).less (K' := fun _ => False) fun k h => h.elim)
                    clear hb9 HRP c1 c2 c3 T8 HX8
                    go_wp2_with fail
                    go_meet
                    exact ⟨_, c + 1, f, m + 1, _, rfl, rfl, by go_num, by omega, by omega, by omega, T10.out⟩
              · skip
                obtain ⟨R, o, rr, a⟩ := HT.out
                have c1 := HX.out.cell 1
                simp only [List.getElem?_cons_zero, List.getElem?_cons_succ] at c1
                have HPP := Lib.hid (drop_any o.at_ d1 HI1.out)
                have HKP := Lib.hid (fun es' c' f' m' w8 hk => Tw.kept (w' := w8) (es' := es') (c' := c') (f' := f') (m' := m') o rr a hk)
                clear o rr a HT
                go_wp2_with fail
                refine HPP.out.mono ?_
                rintro e w8 ⟨rfl, hk8⟩
                obtain ⟨t8, s8⟩ := HKP.out _ _ _ _ w8 hk8
                have T8 := Lib.hid t8
                have HX8 := Lib.hid (HX.out.same (s8 X (.inl rfl)))
                clear hk8 t8 s8 HPP HKP c1 HX HY
                have c1 := HX8.out.cell 1
                simp only [List.getElem?_cons_zero, List.getElem?_cons_succ] at c1
                have HRP := Lib.hid (show Calls Try.prog 15 #[v, .int .i64 d1] w8 (RoP w8 (rmE es d1)) from by
                  obtain ⟨R, o, rr, a⟩ := T8.out
                  exact refdrop_any rr (by omega) d1)
                go_wp2_with fail
                refine HRP.out.mono ?_
                rintro e w9 ⟨v9, rfl, hr9, hb9⟩
                have T9 := Lib.hid ((T8.out.row hr9 hb9).less (K' := fun _ => False) fun k h => h.elim)
                clear hr9 hb9 HRP c1 T8 HX8
                go_wp2_with fail
                go_meet
                exact ⟨_, c, f, m, _, rfl, rfl, rfl, by omega, by omega, by omega, T9.out⟩
            case rest =>
              obtain ⟨v2, c2, f2, m2, es2, rfl, rfl, rfl, hc2, hf2, hm2, ht2⟩ := hcut
              clear HT HX HY HQQ HLE hle
              have HT2 := Lib.hid ht2
              have HLS := Lib.hid (show Calls Try.prog 16 #[.pointer (some ⟨p, 0, none⟩)] wc (LsE wc es2) from by obtain ⟨R, o, _⟩ := HT2.out; exact list_any o.at_)
              clear ht2
              go_wp2_with fail
              refine HLS.out.mono ?_
              rintro e w10 ⟨vl, rfl, hrow, hb⟩
              have HT3 := Lib.hid (HT2.out.on hb)
              have HRW := Lib.hid (ownsRow_base hrow (Nat.zero_le _))
              clear hrow hb HT2 HLS
              have HCO := Lib.hid (show Calls Try.prog 17 #[.pointer (some ⟨p, 0, none⟩)] w10 (fun e w' => e = .returned (.tuple #[.int .i64 f2, .int .i64 m2]) ∧ Below w10.heap.size w10 w') from by obtain ⟨R, o, _⟩ := HT3.out; exact counts_any o.at_)
              go_wp2_with fail
              refine HCO.out.mono ?_
              rintro e w11 ⟨rfl, hb⟩
              have HT4 := Lib.hid (HT3.out.on hb)
              have HRW4 := Lib.hid (owns_same HRW.out fun k e => hb.block k (HRW.out.lt k e).2)
              clear hb HT3 HRW HCO
              obtain ⟨al, cl, rfl⟩ := ownsRow_any HRW4.out
              obtain ⟨av, cv, hv2⟩ : ∃ a c, v2 = .slice a es2.length c := by obtain ⟨R, o, rr, _⟩ := HT4.out; exact ownsRow_any rr
              subst hv2
              obtain ⟨N, hN⟩ : ∃ N, N = es2.length := ⟨_, rfl⟩
              have HN := Lib.hid hN
              have hN6 : N ≤ 6 := by have := HT4.out.len; omega
              rw [← hN]
              clear hN
              go_wp2_with fail
              go_loopw [195] (fun y wq => ∃ j : Nat, j ≤ N ∧ y = .int .i64 j ∧ Tw w (fun _ => False) p n es2 es2 (.slice av es2.length cv) c2 f2 m2 wq ∧ wq.ownsRow 0 3 1 (.slice al es2.length cl) es2.length (es2.map fun s => .int .i64 s.addr)) (fun y _ => N - (intOf y).toNat)
              case atStart => exact ⟨0, Nat.zero_le _, rfl, HT4.out, HRW4.out⟩
              case round =>
                obtain ⟨j, hj, rfl, htj, hrj⟩ := hrel
                clear HT4 HRW4
                have HTJ := Lib.hid htj
                have HRJ := Lib.hid hrj
                by_cases hjl : j < N
                · have hje : j < es2.length := by rw [← HN.out]; exact hjl
                  have hji : (j : Int) < (N : Int) := by omega
                  obtain ⟨g1, cap1, hv1⟩ := ownsRow_form hrj (by omega)
                  injection hv1 with hv1 hv1l hv1c
                  subst hv1
                  clear hv1l hv1c cap1
                  have e1 := hrj.cellAt j (by omega)
                  rw [List.getElem?_map, List.getElem?_eq_getElem hje] at e1
                  have e2 : ∃ g2, av = some ⟨g2, 0, none⟩ ∧ wr.cell? ⟨g2, j * 5 + 0, none⟩ = some (.int .i64 es2[j].addr) := by
                    obtain ⟨R, o, rr, _⟩ := HTJ.out
                    obtain ⟨g2, cap2, hv2⟩ := ownsRow_form rr (by omega)
                    injection hv2 with hv2 _ _
                    subst hv2
                    exact ⟨g2, rfl, (RE.cell rr hje 0 (by omega)).trans rfl⟩
                  obtain ⟨g2, rfl, e2⟩ := e2
                  simp only [Option.map_some, Nat.add_zero] at e1 e2
                  generalize es2[j].addr = aa at *
                  clear htj hrj hje
                  go_wp2_with fail
                  go_quiet (fail)
                  go_wp2_with fail
                  go_roundw
                  case rel => exact ⟨j + 1, by omega, by go_num, HTJ.out.on ((Chg.drewN (Chg.refl (fun _ => False) _) _).below (Nat.le_refl _) (fun _ h => h.elim)), owns_same HRJ.out (fun _ _ => rfl)⟩
                  case measure => simp [intOf]; omega
                · have hji : ¬ (j : Int) < (N : Int) := by omega
                  clear htj hrj HRJ
                  go_wp2_with fail
                  go_roundw
                  case rel => exact ⟨_, k + 1, c2, f2, m2, es2, rfl, by omega, by go_num, rfl, rfl, by omega, by omega, by omega, by rw [HN.out]; exact HTJ.out⟩
                  case measure => simp [intOf]; omega
          · have hki : ¬ (k : Int) < (mm : Int) := by omega
            have HB := Lib.hid ht.bel
            clear ht
            go_wp2
            go_ret
            exact ⟨rfl, HB.out⟩

/-! ### THE ROW's STEP -/
set_option maxRecDepth 100000 in
theorem lifted (os : Os) (started : os.Started) (H : Type) (enc : TypeId × Value → H) :
    ReturnsInHanded {} Try.checked os 3 .any (Rows.cachePlaysSpec.pre6 enc Try.prog Try.f3 Rows.cachePlaysRow.domain false) (Rows.cachePlaysSpec.post enc Try.prog Try.f3 false true false false) := by
  refine returnsInHanded_of_change (C := Try.checked) own started (by kernel_rfl) Try.func3
    (ChangeSpec.witness6 (enc := enc) (C := Try.checked) false ⟨#[], #[.int .i64 0, .slice none 0 0], []⟩ 8 (by kernel_rfl) (by kernel_rfl) (by kernel_rfl) (by kernel_rfl)) ?_
  intro W base args ds gs before hval0 hW hcnd _
  have hval : ∀ (j : Nat) t v, Try.f3.params[j]? = some t → args[j]? = some v → Value.okWide Try.prog W .any base t v := hval0
  have hW' := hW
  obtain ⟨p, q, hA0, hV, rfl, hfz, hnd⟩ := hW
  have hA : DataW.TrodAll enc Try.prog W 0 (fun _ => true) true Try.f3.params.toList args.toList ds p := hA0
  rw [Try.params3] at hA hval
  obtain ⟨v0, vs0, d0, ds0, p0, q0, hargs, rfl, rfl, h0, r0⟩ := trodAll_cons hA
  obtain ⟨v1, vs1, d1, ds1, p1, q1, rfl, rfl, rfl, h1, r1⟩ := trodAll_cons r0
  obtain ⟨rfl, rfl, rfl⟩ := trodAll_nil r1
  obtain rfl : args = #[v0, v1] := by cases args; simp_all
  obtain ⟨rfl, rfl⟩ := trodVars_none hV
  obtain ⟨a0, rfl, rfl, rfl, w0⟩ := open_int Try.underlying3 (hval 0 3 v0 rfl rfl) h0
  have k1 := h1
  have lt1 : ∀ x ∈ p1, x.block < W.heap.size := by obtain ⟨m, hm⟩ := k1; exact DataW.trod_lt m _ _ _ hm
  obtain ⟨a1', l1', c1', rfl⟩ := okWide_slice Try.underlying22 (hval 1 22 v1 rfl rfl)
  obtain ⟨a1, a1l, a1c, he1, w1, w1l, w1m⟩ := open_AR1 (c := .slice a1' l1' c1') (by obtain ⟨m, hm⟩ := h1; exact ⟨m, _, hm⟩)
  simp only [Value.slice.injEq] at he1
  obtain ⟨rfl, rfl, rfl⟩ := he1
  clear hA0 hval0
  refine (walk a0 a1' l1' c1' W w0 w1 w1l w1m).mono fun e W' ⟨he, bel⟩ => ?_
  subst he
  exact ⟨_, rfl, _, _, _, [], _, [], hW', trodAll_mk1 (shut_bool Try.underlying4 _), (trodAll_cons_mk (shut_int Try.underlying3 w0) (trodAll_cons_mk (Below.trod laidOut (by kernel_rfl) (of_decide_eq_true (by kernel_rfl)) k1 bel lt1) trodAll_mk0)), rfl, bel.frame _, fun h => by cases h⟩

theorem over : Rows.cachePlaysRow.holds Try.pinned (OpenSpec.ofChange Rows.cachePlaysSpec) :=
  OpenClaim.holds_of_wide 3 Try.f3 rfl rfl rfl rfl rfl rfl rfl ⟨rfl, rfl, rfl, rfl, rfl⟩ rfl rfl rfl rfl rfl (by kernel_rfl) Try.func3 (by kernel_rfl)
    (of_decide_eq_true (by kernel_rfl)) (by unfold Func.isWrapper; first | (rw [if_pos (by decide +kernel)]; kernel_rfl) | (rw [if_neg (by decide +kernel)]; exact ⟨rfl, rfl⟩))
    (fun os started H enc _ => lifted os started H enc)

/-- THE STATEMENT -/
theorem proved : Rows.CachePlaysSaid := over
#print axioms proved
end Go.Proofs.Ytbdiadbaapfdgaa.cachePlays
