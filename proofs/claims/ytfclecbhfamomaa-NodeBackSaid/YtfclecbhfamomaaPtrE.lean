/- Contracts of layer 4 (env) for layers that have a Ptr alone: rightAddr, ptrWidths, (Ptr).Text, ParsePtr (written by mkptre.py from EnvA and EnvF). -/
import Derived.RegionTactic
import Derived.Deep.RegionHeld3
import Derived.IntWalk
import Derived.Test.YtfclecbhfamomaaRowsM
import Derived.Test.YtfclecbhfamomaaRefLendB
import Derived.Test.YtfclecbhfamomaaLendW
import Derived.Test.YtfclecbhfamomaaEnvMath
import Derived.Test.YtfclecbhfamomaaUps
namespace Go.Proofs.Ytfclecbhfamomaa.PtrE
open Go.RowKit Go.Proofs.Ytfclecbhfamomaa Go.Proofs.Ytfclecbhfamomaa.Lend Go.Proofs.Ytfclecbhfamomaa.Env
open Go.Proofs.Ytfclecbhfamomaa.Rec (keep3 below_new below_on below_nw below_dr)
set_option linter.unusedVariables false
theorem ret_bool {a b : Bool} (h : a = b) : Ending.returned (.bool a) = .returned (.bool b) := by rw [h]
theorem adB_yes {a : Int} (h1 : 0 ≤ a) (h2 : a ≤ 2147483647) : adB a = true := by simp [adB, h1, h2]
theorem adB_no {a : Int} (h : a < 0 ∨ 2147483647 < a) : adB a = false := by simp only [adB, Bool.and_eq_false_iff, decide_eq_false_iff_not]; omega
theorem rightAddr_any (n : Int) (w : World) : Calls Try.prog 63 #[.int .i64 n] w fun e w' => e = .returned (.bool (adB n)) ∧ w = w' := by
  by_cases h1 : 0 ≤ n
  · by_cases h2 : n ≤ 2147483647
    · have HS := Lib.hid (adB_yes h1 h2)
      go_enter Try.func63, Try.ntmps63
      go_wp2
      go_ret
      exact ⟨ret_bool HS.out.symm, rfl⟩
    · have HS := Lib.hid (adB_no (a := n) (.inr (by omega)))
      have h2' : 2147483647 < n := by omega
      clear h2
      go_enter Try.func63, Try.ntmps63
      go_wp2
      go_ret
      exact ⟨ret_bool (by rw [HS.out]; simp; omega), rfl⟩
  · have HS := Lib.hid (adB_no (a := n) (.inl (by omega)))
    have h1' : n < 0 := by omega
    clear h1
    go_enter Try.func63, Try.ntmps63
    go_wp2
    go_ret
    exact ⟨ret_bool HS.out.symm, rfl⟩
theorem ptrW_any (w : World) : Calls Try.prog 64 #[] w fun e w' => ∃ b, e = .returned (.slice (some ⟨b, 0, none⟩) 3 3) ∧ Row .i64 w' (some ⟨b, 0, none⟩) 3 ptrW ∧ Below w.heap.size w w' := by
  go_enter Try.func64, Try.ntmps64
  go_wp2
  go_ret
  exact ⟨_, rfl, Row.three .i64 w 4 8 4 _, (Below.refl _ _).alloc (Nat.le_refl _) _⟩
theorem below_st {w w1 : World} (h : Below w.heap.size w w1) {a : Addr} (ha : w.heap.size ≤ a.block) (v : Value) : Below w.heap.size w (w1.setCell a v) := h.setCell ha v
theorem st3 (w : World) (b : Nat) (p : Addr) (u v x : Value) (h : p.block ≠ b) : (((w.setCell ⟨b, 0, none⟩ u).setCell ⟨b, 1, none⟩ v).setCell ⟨b, 2, none⟩ x).drew.cell? p = w.cell? p := by
  show (((w.setCell ⟨b, 0, none⟩ u).setCell ⟨b, 1, none⟩ v).setCell ⟨b, 2, none⟩ x).cell? p = w.cell? p
  rw [World.cell?_setCell_other _ _ _ _ (fun e => h (by rw [← e])), World.cell?_setCell_other _ _ _ _ (fun e => h (by rw [← e])), World.cell?_setCell_other _ _ _ _ (fun e => h (by rw [← e]))]
theorem sz_of {l : List UInt8} {s : ByteArray} (hl : s.data.toList = l) : s.size = l.length := by rw [← hl]; simp
/-- a Ptr's bytes, or none -/
def ptS (a g c : Int) : ByteArray := if adB a = true then strOf (encL ptrW [a, g, c]) else ⟨#[]⟩
theorem ptr_ns {a g c : Int} (ha0 : 0 ≤ a) (ha1 : a < 4294967296) (hg0 : 0 ≤ g) (hg1 : g < 18446744073709551616) (hc0 : 0 ≤ c) (hc1 : c < 4294967296) : ∀ x ∈ [a, g, c], 0 ≤ x ∧ x < 18446744073709551616 := by
  intro x hx
  simp only [List.mem_cons, List.mem_nil_iff, or_false] at hx
  omega
set_option maxHeartbeats 1000000 in
set_option maxRecDepth 100000 in
theorem text_any (a g c : Int) (w : World) (hg0 : 0 ≤ g) (hg1 : g < 18446744073709551616) (hc0 : 0 ≤ c) (hc1 : c < 4294967296) :
    Calls Try.prog 47 #[.agg #[.int .i64 a, .int .u64 g, .int .u32 c]] w fun e w' => e = .returned (.tuple #[.string (ptS a g c), .bool (adB a)]) ∧ Below w.heap.size w w' := by
  cases h : adB a with
  | false =>
    have HA := Lib.hid h
    have HS := Lib.hid (show ptS a g c = ⟨#[]⟩ by rw [ptS, if_neg (by rw [h]; decide)])
    clear h hg1
    go_enter Try.func47, Try.ntmps47
    go_wp2_with (go_at_call 63; refine (rightAddr_any _ _).mono ?_; rintro e w' ⟨rfl, rfl⟩; rw [HA.out])
    go_ret2
    exact ⟨ret_wr HS.out.symm rfl, below_new _ _⟩
  | true =>
    have h2 : 0 ≤ a ∧ a ≤ 2147483647 := by simpa [adB] using h
    obtain ⟨h0, h1⟩ := h2
    have HA := Lib.hid h
    have HS := Lib.hid (show ptS a g c = strOf (encL ptrW [a, g, c]) by rw [ptS, if_pos h])
    have HN := Lib.hid (ptr_ns h0 (by omega) hg0 hg1 hc0 hc1)
    have HW := Lib.hid (ptr_fits (a := a) (g := g) (c := c) (by omega) hg1 hc1)
    have wa : IntKind.u64.wrap a = a := by rw [wrap_u64]; omega
    have wc : IntKind.u64.wrap c = c := by rw [wrap_u64]; omega
    have hc2 : c ≤ 4294967295 := by omega
    clear h hg1 hc1
    go_enter Try.func47, Try.ntmps47
    go_wp2_with (go_at_call 63; refine (rightAddr_any _ _).mono ?_; rintro e w' ⟨rfl, rfl⟩; rw [HA.out])
    go_region_held3 (fun W => W.cell? ⟨w.heap.size, 0, none⟩ = some (.int .i64 a) ∧ W.cell? ⟨w.heap.size, 1, none⟩ = some (.int .u64 g) ∧ W.cell? ⟨w.heap.size, 2, none⟩ = some (.int .u32 c))
      (first | with_reducible exact keep3 (by assumption) (by assumption) | with_reducible exact keep3 (by assumption) (below_new _ _) | go_keep)
      (first
        | (go_at_call 64; refine (ptrW_any _).mono ?_; rintro e wm ⟨bm, rfl, hrow, hbel⟩)
        | (go_at_call 24
           refine (write_any _ _ 3 3 3 3 ptrW [a, g, c] _ ?_ ?_ (by decide) (by decide) HN.out).mono ?_
           · repeat (first | assumption | apply Row.drw | apply Row.new | refine Row.later ?_ (by assumption))
           · repeat (first | (refine Row.threeAt _ _ _ _ _ _ _ ?_; first | rfl | (simp; done)) | apply Row.drw | apply Row.new | refine Row.later ?_ (by assumption))
           rintro e wo ⟨rfl, hbel2⟩
           rw [HW.out.1, HW.out.2]))
    all_goals
      rename_i hend
      clear hend wa wc
      go_wp2_with fail
      go_ret2
      refine ⟨ret_wr HS.out.symm rfl, ?_⟩
      repeat (first | exact Below.refl _ _ | apply below_nw | apply below_dr | refine below_on ?_ (by assumption))

/-- is there a Ptr in bytes? -/
def pG (l : List UInt8) (i : Nat) : Int := (rdL ptrW l).getD i 0
def ppB (l : List UInt8) : Bool := decide (16 ≤ l.length) && decide (pG l 0 ≤ 2147483647)
def ppA (l : List UInt8) : Int := if ppB l = true then pG l 0 else 0
def ppG (l : List UInt8) : Int := if ppB l = true then pG l 1 else 0
def ppC (l : List UInt8) : Int := if ppB l = true then pG l 2 else 0
def ppR (l : List UInt8) : ByteArray := if ppB l = true then strOf (l.drop 16) else ⟨#[]⟩
def ppV (l : List UInt8) : Value := .tuple #[.agg #[.int .i64 (ppA l), .int .u64 (ppG l), .int .u32 (ppC l)], .string (ppR l), .bool (ppB l)]
theorem rdP_list (l : List UInt8) : rdL ptrW l = [pG l 0, pG l 1, pG l 2] := by simp [pG, ptrW, rdL]
theorem pG_bd (l : List UInt8) : 0 ≤ pG l 0 ∧ 0 ≤ pG l 1 ∧ pG l 1 < 18446744073709551616 ∧ 0 ≤ pG l 2 ∧ pG l 2 < 4294967296 := by
  have e : rdL ptrW l = [(getL (l.take 4) : Int), (getL ((l.drop 4).take 8) : Int), (getL ((l.drop 12).take 4) : Int)] := by simp [ptrW, rdL, List.drop_drop]
  have h4 := getL_lt ((l.drop 4).take 8) 8 18446744073709551616 (by simp; omega) rfl
  have h5 := getL_lt ((l.drop 12).take 4) 4 4294967296 (by simp; omega) rfl
  simp only [pG, e, List.getD_cons_zero, List.getD_cons_succ]
  refine ⟨?_, ?_, ?_, ?_, ?_⟩ <;> omega
theorem rdP_ok {l : List UInt8} (h : 16 ≤ l.length) : rdB ptrW l = true ∧ rdN ptrW l = [pG l 0, pG l 1, pG l 2] ∧ rdS ptrW l = l.drop 16 := by
  obtain ⟨h1, h2, h3⟩ := rd_ok (ws := ptrW) (l := l) ptrW_ok (by show (16 : Int) ≤ _; omega)
  exact ⟨h1, by rw [h2, rdP_list], h3⟩
theorem rdP_no {l : List UInt8} (h : ¬ 16 ≤ l.length) : rdB ptrW l = false ∧ rdN ptrW l = [] ∧ rdS ptrW l = [] :=
  rd_no (.inr (by show ¬ (16 : Int) ≤ _; omega))
theorem ppV_no {l : List UInt8} (h : ppB l = false) : ppV l = .tuple #[.agg #[.int .i64 0, .int .u64 0, .int .u32 0], .string ⟨#[]⟩, .bool false] := by
  simp only [ppV, ppA, ppG, ppC, ppR, h, Bool.false_eq_true, if_false]
theorem ppV_yes {l : List UInt8} (h : ppB l = true) : ppV l = .tuple #[.agg #[.int .i64 (pG l 0), .int .u64 (pG l 1), .int .u32 (pG l 2)], .string (strOf (l.drop 16)), .bool true] := by
  simp only [ppV, ppA, ppG, ppC, ppR, h, if_true]
theorem ppB_short {l : List UInt8} (h : ¬ 16 ≤ l.length) : ppB l = false := by simp [ppB, h]
theorem ppB_big {l : List UInt8} (h : ¬ pG l 0 ≤ 2147483647) : ppB l = false := by simp [ppB, h]
theorem ppB_ok {l : List UInt8} (h1 : 16 ≤ l.length) (h : pG l 0 ≤ 2147483647) : ppB l = true := by simp [ppB, h, h1]
theorem st3_any {W : World} {b : Nat} {p q r : Addr} {x y z : Value} (u v t : Value) (h : W.cell? p = some x ∧ W.cell? q = some y ∧ W.cell? r = some z) (hp : p.block ≠ b) (hq : q.block ≠ b) (hr : r.block ≠ b) :
    (((W.setCell ⟨b, 0, none⟩ u).setCell ⟨b, 1, none⟩ v).setCell ⟨b, 2, none⟩ t).drew.cell? p = some x ∧ (((W.setCell ⟨b, 0, none⟩ u).setCell ⟨b, 1, none⟩ v).setCell ⟨b, 2, none⟩ t).drew.cell? q = some y ∧ (((W.setCell ⟨b, 0, none⟩ u).setCell ⟨b, 1, none⟩ v).setCell ⟨b, 2, none⟩ t).drew.cell? r = some z :=
  ⟨(st3 W b p u v t hp).trans h.1, (st3 W b q u v t hq).trans h.2.1, (st3 W b r u v t hr).trans h.2.2⟩
set_option maxHeartbeats 4000000 in
set_option maxRecDepth 100000 in
theorem parsePtr_any (s : ByteArray) (w : World) (hs : s.size ≤ 1000000) :
    Calls Try.prog 69 #[.string s] w fun e w' => e = .returned (ppV s.data.toList) ∧ Below w.heap.size w w' := by
  obtain ⟨l, hl⟩ : ∃ l, s.data.toList = l := ⟨_, rfl⟩
  have hsz := sz_of hl
  rw [hl]
  have HL := Lib.hid hl
  by_cases h16 : 16 ≤ l.length
  · have HRD := Lib.hid (rdP_ok h16)
    have hbd := pG_bd l
    obtain ⟨x0, hx0⟩ : ∃ x, x = pG l 0 := ⟨_, rfl⟩
    obtain ⟨x1, hx1⟩ : ∃ x, x = pG l 1 := ⟨_, rfl⟩
    obtain ⟨x2, hx2⟩ : ∃ x, x = pG l 2 := ⟨_, rfl⟩
    rw [← hx0, ← hx1, ← hx2] at hbd
    have HRN := Lib.hid (show rdN ptrW l = [x0, x1, x2] by rw [hx0, hx1, hx2]; exact (rdP_ok h16).2.1)
    obtain ⟨b0, b1, b2, b3, b4⟩ := hbd
    have b5 : x2 ≤ 4294967295 := by omega
    have HX0 := Lib.hid hx0
    have HY := Lib.hid (show ppB l = true → ppV l = .tuple #[.agg #[.int .i64 x0, .int .u64 x1, .int .u32 x2], .string (strOf (l.drop 16)), .bool true] from fun h => by rw [ppV_yes h, hx0, hx1, hx2])
    have H16 := Lib.hid h16
    clear hl hsz h16 hx0 hx1 hx2 b2 b4
    go_enter Try.func69, Try.ntmps69
    go_wp2_with fail
    refine (ptrW_any _).mono ?_
    rintro e wm ⟨bm, rfl, hrow, hb1⟩
    have HROW := Lib.hid hrow
    clear hrow
    go_wp2_with fail
    refine (read_any _ 3 3 ptrW s _ HROW.out (by decide) hs).mono ?_
    rintro e wo ⟨bo, n, cap, rfl, hown, hb2⟩
    rw [HL.out] at hown ⊢
    rw [HRD.out.1, HRD.out.2.2]
    have hr := Row.own hown
    rw [HRN.out] at hr
    have hmm : w.heap.size < wm.heap.size := by have := hb1.size; simp at this; omega
    obtain rfl : 3 = n := hr.len_eq
    obtain ⟨rb, ro, rfl, hc⟩ := hr.at_ (by decide)
    have hne : rb ≠ w.heap.size := by
      obtain ⟨g, cp, hv, _, hg⟩ := own_some hown (by decide)
      simp only [Value.slice.injEq, Option.some.injEq, Addr.mk.injEq] at hv
      omega
    have c0 : wo.cell? ⟨rb, ro, none⟩ = some (.int .u64 x0) := hc 0 (by decide)
    have c1 : wo.cell? ⟨rb, ro + 1, none⟩ = some (.int .u64 x1) := hc 1 (by decide)
    have c2 : wo.cell? ⟨rb, ro + 2, none⟩ = some (.int .u64 x2) := hc 2 (by decide)
    have hK := below_on hb1 hb2
    have hlw : w.heap.size < wo.heap.size := Nat.lt_of_lt_of_le hmm hb2.size
    have d0 : wo.cell? ⟨w.heap.size, 0, none⟩ = some (.int .i64 0) := by rw [hK.cell (by simp)]; simp
    have d1 : wo.cell? ⟨w.heap.size, 1, none⟩ = some (.int .u64 0) := by rw [hK.cell (by simp)]; simp
    have d2 : wo.cell? ⟨w.heap.size, 2, none⟩ = some (.int .u32 0) := by rw [hK.cell (by simp)]; simp
    have f0 : wo.frozen? ⟨w.heap.size, 0, none⟩ = false := by rw [hK.frozen (by simp)]; simp
    have f1 : wo.frozen? ⟨w.heap.size, 1, none⟩ = false := by rw [hK.frozen (by simp)]; simp
    have f2 : wo.frozen? ⟨w.heap.size, 2, none⟩ = false := by rw [hK.frozen (by simp)]; simp
    have HB := Lib.hid (below_on (below_on (below_new w _) hb1) hb2)
    clear hc hr hown hb1 hb2 hK hmm
    by_cases hle : x0 ≤ 2147483647
    · have HV := Lib.hid (HY.out (ppB_ok H16.out (by rw [← HX0.out]; exact hle)))
      have w0 : IntKind.i64.wrap x0 = x0 := IntWalk.i64_in _ (by omega)
      have w2 : IntKind.u32.wrap x2 = x2 := by rw [IntKind.wrap_u32]; omega
      go_wp2_with fail
      have HK := st3_any (b := w.heap.size) (.int .i64 x0) (.int .u64 x1) (.int .u32 x2) ⟨c0, c1, c2⟩ hne hne hne
      go_region_held3 (fun W => W.cell? ⟨rb, ro, none⟩ = some (.int .u64 x0) ∧ W.cell? ⟨rb, ro + 1, none⟩ = some (.int .u64 x1) ∧ W.cell? ⟨rb, ro + 2, none⟩ = some (.int .u64 x2))
        (first | go_keep | exact HK) (fail)
      rename_i hend
      clear hend HK c0 c1 c2 w0 w2
      go_wp2_with fail
      refine bodyPost_ret (v := .tuple #[.agg #[.int .i64 x0, .int .u64 x1, .int .u32 x2], .string (strOf (l.drop 16)), .bool true]) (by simp [results, Try.results69, go_sem, d0, d1, d2]) rfl ⟨by rw [HV.out], ?_⟩
      exact below_dr (below_st (below_st (below_st HB.out (Nat.le_refl _) _) (Nat.le_refl _) _) (Nat.le_refl _) _)
    · have HV := Lib.hid (ppV_no (ppB_big (l := l) (by rw [← HX0.out]; exact hle)))
      have hgt : 2147483647 < x0 := by omega
      clear hle
      go_wp2_with fail
      refine bodyPost_ret (v := .tuple #[.agg #[.int .i64 0, .int .u64 0, .int .u32 0], .string ⟨#[]⟩, .bool false]) (by simp [results, Try.results69, go_sem, d0, d1, d2]) rfl ⟨by rw [HV.out], ?_⟩
      exact (below_st (below_st (below_st HB.out (Nat.le_refl _) _) (Nat.le_refl _) _) (Nat.le_refl _) _)
  · have HRD := Lib.hid (rdP_no h16)
    have HV := Lib.hid (ppV_no (ppB_short h16))
    clear hl hsz h16
    go_enter Try.func69, Try.ntmps69
    go_wp2_with fail
    refine (ptrW_any _).mono ?_
    rintro e wm ⟨bm, rfl, hrow, hb1⟩
    have HROW := Lib.hid hrow
    clear hrow
    go_wp2_with fail
    refine (read_any _ 3 3 ptrW s _ HROW.out (by decide) hs).mono ?_
    rintro e wo ⟨bo, n, cap, rfl, hown, hb2⟩
    rw [HL.out, HRD.out.1, HRD.out.2.2]
    have hmm : w.heap.size < wm.heap.size := by have := hb1.size; simp at this; omega
    have hK := below_on hb1 hb2
    have hlw : w.heap.size < wo.heap.size := Nat.lt_of_lt_of_le hmm hb2.size
    have d0 : wo.cell? ⟨w.heap.size, 0, none⟩ = some (.int .i64 0) := by rw [hK.cell (by simp)]; simp
    have d1 : wo.cell? ⟨w.heap.size, 1, none⟩ = some (.int .u64 0) := by rw [hK.cell (by simp)]; simp
    have d2 : wo.cell? ⟨w.heap.size, 2, none⟩ = some (.int .u32 0) := by rw [hK.cell (by simp)]; simp
    have f0 : wo.frozen? ⟨w.heap.size, 0, none⟩ = false := by rw [hK.frozen (by simp)]; simp
    have f1 : wo.frozen? ⟨w.heap.size, 1, none⟩ = false := by rw [hK.frozen (by simp)]; simp
    have f2 : wo.frozen? ⟨w.heap.size, 2, none⟩ = false := by rw [hK.frozen (by simp)]; simp
    have HB := Lib.hid (below_on (below_on (below_new w _) hb1) hb2)
    clear hown hb1 hb2 hK hmm
    go_wp2_with fail
    refine bodyPost_ret (v := .tuple #[.agg #[.int .i64 0, .int .u64 0, .int .u32 0], .string ⟨#[]⟩, .bool false]) (by simp [results, Try.results69, go_sem, d0, d1, d2]) rfl ⟨by rw [HV.out], ?_⟩
    exact (below_st (below_st (below_st HB.out (Nat.le_refl _) _) (Nat.le_refl _) _) (Nat.le_refl _) _)
end Go.Proofs.Ytfclecbhfamomaa.PtrE
