/- Layer 12 (rec): the document's own answers: Payload, Link, Open. -/
import Derived.Test.YtomhalcoomdadaaRefRecP
namespace Go.Proofs.Ytomhalcoomdadaa.Rec
open Go Go.RowKit Go.Proofs.Ytomhalcoomdadaa Go.Proofs.Ytomhalcoomdadaa.Lend
set_option linter.unusedVariables false

set_option maxHeartbeats 4000000 in
set_option maxRecDepth 100000 in
theorem refPayload_any {v : Value} {l : List Up} {w : World} (s c : Int) (h : UR w v l) (hf : Wf3 s c l.length) (hwf : ∀ u ∈ l, WfU u) :
    Calls Try.prog 15 #[.agg #[.int .u64 s, .int .u32 c, v]] w fun e w' => e = .returned (.tuple #[.string (Lend.strOf (pyT s c l)), .int .i64 (errL l)]) ∧ Below w.heap.size w w' := by
  obtain ⟨a, cap, rfl⟩ := h.slice
  obtain ⟨n, hn⟩ : ∃ n, n = l.length := ⟨_, rfl⟩
  have HN := Lib.hid hf.ns
  have HW := Lib.hid hf.wr
  have HLE := Lib.hid (txT_le l)
  have hs0 := hf.s0; have hs1 : s ≤ 18446744073709551615 := by have := hf.s1; omega
  have hc0 := hf.c0; have hc1 : c ≤ 4294967295 := by have := hf.c1; omega
  have hn1 := hf.n1
  have HTX := Lib.hid (fun W (hb : Below w.heap.size w W) => reftext_any (h.below hb) hf.n1 hwf)
  have HPY : Hid (pyT s c l = if errL l = 0 then hd3 s c n ++ txL l else []) := Lib.hid (by rw [hn]; rfl)
  have HTT : Hid (txT l = if errL l = 0 then txL l else []) := Lib.hid rfl
  rw [← hn] at HN HW HTX HLE hn1 ⊢
  clear hf h hwf hn
  have wc : IntKind.u64.wrap c = c := by rw [wrap_u64]; omega
  have wn : IntKind.u64.wrap (n : Int) = (n : Int) := by rw [wrap_u64]; omega
  obtain ⟨T, hT⟩ : ∃ x, x = Lend.strOf (txT l) := ⟨_, rfl⟩
  have hts : T.size ≤ 51000 := by rw [hT, ssize]; have := HLE.out; omega
  rw [← hT] at HTX
  obtain ⟨er, her⟩ : ∃ x, x = errL l := ⟨_, rfl⟩
  rw [← her] at HTX HPY HTT ⊢
  obtain ⟨P, hP⟩ : ∃ x, x = pyT s c l := ⟨_, rfl⟩
  rw [← hP] at HPY ⊢
  have HT := Lib.hid hT
  obtain ⟨H, hH⟩ : ∃ x, x = Lend.strOf (hd3 s c n) := ⟨_, rfl⟩
  rw [← hH] at HW
  have hhs : H.size ≤ 14 := by rw [hH, ssize, hd3_length]; exact Nat.le_refl _
  have HH := Lib.hid hH
  clear hT her hP hH
  obtain ⟨w0, hw0⟩ : ∃ x, x = w.alloc (.cells #[.int .u64 s, .int .u32 c, .slice a n cap] 48) := ⟨_, rfl⟩
  have HB0 := Lib.hid (show Below w.heap.size w w0 by rw [hw0]; exact below_new _ _)
  have HX := Lib.hid (show Has w0 w.heap.size 48 [.int .u64 s, .int .u32 c, .slice a n cap] by rw [hw0]; exact Has.new _ _ _)
  have HT0 := Lib.hid (HTX.out w0 HB0.out)
  clear HTX
  go_enter Try.func15, Try.ntmps15
  go_wp2_with fail
  rw [← hw0]
  refine HT0.out.mono ?_
  rintro e w1 ⟨rfl, hb1⟩
  have HB1 := Lib.hid (below_on HB0.out hb1)
  have hx1 := HX.out.below hb1 HX.out.lt
  have hxl := hx1.lt
  have y0 := hx1.cell 0
  have y1 := hx1.cell 1
  have y2 := hx1.cell 2
  simp only [List.getElem?_cons_zero, List.getElem?_cons_succ] at y0 y1 y2
  clear hx1 hb1 hw0
  by_cases hz : er = 0
  · subst hz
    have HPY := Lib.hid (show P = hd3 s c n ++ txL l by rw [HPY.out]; rfl)
    have HTT := Lib.hid (show txT l = txL l by rw [HTT.out]; rfl)
    go_wp2_with fail
    have r1 := Row.new (Row.threeAt .i64 w1 8 4 2 3 _ rfl) (.cells #[.int .u64 s, .int .u64 c, .int .u64 (n : Int)] 31)
    have r2 := Row.threeAt .u64 (w1.alloc (.cells #[.int .i64 8, .int .i64 4, .int .i64 2] 3)) s c (n : Int) 31 _ rfl
    rw [World.size_alloc] at r2
    have R1 := Lib.hid r1
    have R2 := Lib.hid r2
    have HB2 := Lib.hid (below_nw (below_nw HB1.out (.cells #[.int .i64 8, .int .i64 4, .int .i64 2] 3)) (.cells #[.int .u64 s, .int .u64 c, .int .u64 (n : Int)] 31))
    clear r1 r2 wc wn y0 y1 y2
    refine (refwrite_any _ _ 3 3 3 3 [8, 4, 2] [s, c, (n : Int)] _ R1.out R2.out (by decide) (by decide) HN.out).mono ?_
    rintro e w2 ⟨rfl, hb2⟩
    rw [HW.out.1, HW.out.2]
    have HB3 := Lib.hid (below_on HB2.out hb2)
    clear hb2
    go_wp2_with fail
    go_ret2
    exact ⟨ret_te (by rw [HPY.out, HH.out, HT.out, HTT.out, sapp]; simp) rfl, HB3.out⟩
  · have hne : (er == 0) = false := by simpa using hz
    have HPY := Lib.hid (show P = [] by rw [HPY.out, if_neg hz])
    clear wc wn
    go_wp2_with fail
    go_ret2
    exact ⟨ret_te (by rw [HPY.out]; rfl) rfl, HB1.out⟩
set_option maxHeartbeats 4000000 in
set_option maxRecDepth 100000 in
theorem refLink_any {v : Value} {l : List Up} {w : World} (s c : Int) (h : UR w v l) (hf : Wf3 s c l.length) (hwf : ∀ u ∈ l, WfU u) :
    Calls Try.prog 24 #[.agg #[.int .u64 s, .int .u32 c, v]] w fun e w' => e = .returned (.tuple #[.int .u32 (lkN s c l : Nat), .int .i64 (errL l)]) ∧ Below w.heap.size w w' := by
  obtain ⟨a, cap, hv⟩ := h.slice
  have HPY := Lib.hid (fun W (hb : Below w.heap.size w W) => refPayload_any s c (h.below hb) hf hwf)
  have HLK : Hid (lkN s c l = if errL l = 0 then Sum.chk 0 (pyT s c l) else 0) := Lib.hid rfl
  have HSZ := Lib.hid (pyT_le (s := s) (c := c) hf.n1)
  obtain ⟨w0, hw0⟩ : ∃ x, x = w.alloc (.cells #[.int .u64 s, .int .u32 c, v] 48) := ⟨_, rfl⟩
  have HB0 := Lib.hid (show Below w.heap.size w w0 by rw [hw0]; exact below_new _ _)
  have HX := Lib.hid (show Has w0 w.heap.size 48 [.int .u64 s, .int .u32 c, v] by rw [hw0]; exact Has.new _ _ _)
  have HP0 := Lib.hid (HPY.out w0 HB0.out)
  obtain ⟨P, hP⟩ : ∃ x, x = Lend.strOf (pyT s c l) := ⟨_, rfl⟩
  rw [← hP] at HP0
  have HPS := Lib.hid (show P.size ≤ 1000000 by rw [hP, ssize]; have := HSZ.out; omega)
  have HPD := Lib.hid (show P.data.toList = pyT s c l by rw [hP]; rfl)
  obtain ⟨er, her⟩ : ∃ x, x = errL l := ⟨_, rfl⟩
  rw [← her] at HP0 HLK ⊢
  obtain ⟨k, hk⟩ : ∃ x, x = lkN s c l := ⟨_, rfl⟩
  rw [← hk] at HLK ⊢
  subst hv
  clear hf h hwf HPY hP her hk HSZ
  have y0 := HX.out.cell 0
  have y1 := HX.out.cell 1
  have y2 := HX.out.cell 2
  simp only [List.getElem?_cons_zero, List.getElem?_cons_succ] at y0 y1 y2
  go_enter Try.func24, Try.ntmps24
  go_wp2_with fail
  rw [← hw0]
  refine HP0.out.mono ?_
  rintro e w1 ⟨rfl, hb1⟩
  have HB1 := Lib.hid (below_on HB0.out hb1)
  clear hb1 hw0 y0 y1 y2
  by_cases hz : er = 0
  · subst hz
    have HK := Lib.hid (show k = Sum.chk 0 (pyT s c l) by rw [HLK.out]; rfl)
    go_wp2_with fail
    refine (Sum.refOf_any P _ HPS.out).mono ?_
    rintro e w2 ⟨rfl, rfl⟩
    have hlt : Sum.chk 0 P.data.toList < 4294967296 := Sum.chk_lt _ _
    obtain ⟨q, hq⟩ : ∃ q, q = Sum.chk 0 P.data.toList := ⟨_, rfl⟩
    have HQ := Lib.hid hq
    rw [← hq] at hlt ⊢
    have wq : IntKind.u32.wrap (q : Int) = (q : Int) := by rw [wrap_u32]; omega
    have hq1 : (q : Int) ≤ 4294967295 := by omega
    clear hq hlt
    have HB2 := HB1
    go_wp2_with fail
    go_ret2
    exact ⟨ret_ue (by rw [HK.out, HQ.out, HPD.out]) rfl, HB2.out⟩
  · have hne : (er == 0) = false := by simpa using hz
    have HK := Lib.hid (show k = 0 by rw [HLK.out, if_neg hz])
    go_wp2_with fail
    go_ret2
    exact ⟨ret_ue (by rw [HK.out]; rfl) rfl, HB1.out⟩
/-- what the document's Open answers -/
def OpR (w : World) (s : List UInt8) (e : Ending) (w' : World) : Prop :=
  (∃ a c l v', opR s = some (a, c, l) ∧ e = .returned (.tuple #[.agg #[.int .u64 a, .int .u32 c, v'], .int .i64 0]) ∧ RU w' w.heap.size v' l ∧ Below w.heap.size w w') ∨
  (opR s = none ∧ e = .returned (.tuple #[.agg #[.int .u64 0, .int .u32 0, .slice none 0 0], .int .i64 4]) ∧ Below w.heap.size w w')
theorem OpR.yes {w w' : World} {s : List UInt8} {e : Ending} {a c : Int} {l : List Up} {v' : Value} (h : opR s = some (a, c, l)) (he : e = .returned (.tuple #[.agg #[.int .u64 a, .int .u32 c, v'], .int .i64 0])) (h1 : RU w' w.heap.size v' l) (h2 : Below w.heap.size w w') : OpR w s e w' := .inl ⟨a, c, l, v', h, he, h1, h2⟩
theorem OpR.no {w w' : World} {s : List UInt8} {e : Ending} (h : opR s = none) (he : e = .returned (.tuple #[.agg #[.int .u64 0, .int .u32 0, .slice none 0 0], .int .i64 4])) (h2 : Below w.heap.size w w') : OpR w s e w' := .inr ⟨h, he, h2⟩
set_option maxHeartbeats 4000000 in
set_option maxRecDepth 100000 in
theorem refOpen_any (s : List UInt8) (w : World) (hs : s.length ≤ 100000) : Calls Try.prog 20 #[.string (Lend.strOf s)] w (OpR w s) := by
  have HSZ := Lib.hid (show (Lend.strOf s).size ≤ 1000000 by rw [ssize]; omega)
  obtain ⟨T, hT⟩ : ∃ x, x = Lend.strOf s := ⟨_, rfl⟩
  have HTD := Lib.hid (show T.data.toList = s by rw [hT]; rfl)
  rw [← hT] at HSZ ⊢
  clear hT
  obtain ⟨w0, hw0⟩ : ∃ x, x = ((w.alloc (.cells #[.int .u64 0, .int .u32 0, .slice none 0 0] 48)).alloc (.cells #[.int .u64 0, .int .u32 0, .slice none 0 0] 48)).alloc (.cells #[.int .i64 8, .int .i64 4, .int .i64 2] 3) := ⟨_, rfl⟩
  have HB1 := Lib.hid (show Below w.heap.size w w0 by rw [hw0]; exact below_nw (below_nw (below_new _ _) _) _)
  have HX1 := Lib.hid (show Has w0 w.heap.size 48 [.int .u64 0, .int .u32 0, .slice none 0 0] by rw [hw0]; exact ((Has.new _ _ _).alloc _).alloc _)
  have HQ1 := Lib.hid (show Has w0 (w.heap.size + 1) 48 [.int .u64 0, .int .u32 0, .slice none 0 0] by
    rw [hw0]
    have h := (Has.new (w.alloc (.cells #[.int .u64 0, .int .u32 0, .slice none 0 0] 48)) [.int .u64 0, .int .u32 0, .slice none 0 0] 48).alloc (.cells #[.int .i64 8, .int .i64 4, .int .i64 2] 3)
    rwa [World.size_alloc] at h)
  have HROW := Lib.hid (show Row .i64 w0 (some ⟨w.heap.size + 1 + 1, 0, none⟩) 3 [8, 4, 2] by rw [hw0]; exact Row.threeAt _ _ _ _ _ _ _ (by simp))
  by_cases h : 14 ≤ s.length
  · have HR := Lib.hid (rd3 h)
    have HPA := Lib.hid (fun W => refparse_any (s.drop 14) W (by rw [List.length_drop]; omega))
    have HOP := Lib.hid (show ∀ l, parL (s.drop 14) = some l → opR s = if l.length = getL ((s.drop 12).take 2) then some ((getL (s.take 8) : Int), (getL ((s.drop 8).take 4) : Int), l) else none from fun l hl => by unfold opR; rw [if_neg (by omega), hl])
    have HON := Lib.hid (show parL (s.drop 14) = none → opR s = none from fun hl => by unfold opR; rw [if_neg (by omega), hl])
    have HPL := Lib.hid (show (s.drop 14).length ≤ 100000 by rw [List.length_drop]; omega)
    have hy := getL_4 s
    obtain ⟨x, hx⟩ : ∃ x : Int, x = (getL (s.take 8) : Int) := ⟨_, rfl⟩
    obtain ⟨y, hyy⟩ : ∃ x : Int, x = (getL ((s.drop 8).take 4) : Int) := ⟨_, rfl⟩
    obtain ⟨z, hz⟩ : ∃ x, x = getL ((s.drop 12).take 2) := ⟨_, rfl⟩
    rw [← hx, ← hyy, ← hz] at HR HOP
    have hy0 : 0 ≤ y := by omega
    have hy1 : y ≤ 4294967295 := by omega
    clear hx hyy hz hy h hs
    go_enter Try.func20, Try.ntmps20
    go_wp2_with fail
    rw [← hw0]
    clear hw0
    refine (refread_any _ 3 3 [8, 4, 2] _ _ HROW.out (by decide) HSZ.out).mono ?_
    rintro e w2 ⟨bo, n, cap, rfl, hown, hb2⟩
    have HB2 := Lib.hid (below_on HB1.out hb2)
    have HX2 := Lib.hid (HX1.out.below hb2 HX1.out.lt)
    have HQ2 := Lib.hid (HQ1.out.below hb2 HQ1.out.lt)
    have hr := Row.own hown
    rw [HTD.out, HR.out.2.1] at hr
    obtain rfl : 3 = n := hr.len_eq
    rw [HTD.out, HR.out.1, HR.out.2.2]
    have HR2 := Lib.hid hr
    clear hown hr hb2
    go_wp2_with fail
    refine (HPA.out _).mono ?_
    rintro e w3 (⟨l, v', hpl, rfl, hra, hb3⟩ | ⟨hpl, rfl, hb3⟩)
    · have HB3 := Lib.hid (below_on HB2.out hb3)
      have HX3 := Lib.hid (HX2.out.below hb3 HX2.out.lt)
      obtain ⟨g, off, rfl, hc⟩ := (HR2.out.later hb3).at_ (by decide)
      have c0 : w3.cell? ⟨g, off, none⟩ = some (.int .u64 x) := hc 0 (by decide)
      have c1 : w3.cell? ⟨g, off + 1, none⟩ = some (.int .u64 y) := hc 1 (by decide)
      have c2 : w3.cell? ⟨g, off + 2, none⟩ = some (.int .u64 (z : Nat)) := hc 2 (by decide)
      have r0 := HX3.out.cell 0
      have r1 := HX3.out.cell 1
      have r2 := HX3.out.cell 2
      have q0 := HX3.out.frozen 0
      have q1 := HX3.out.frozen 1
      have q2 := HX3.out.frozen 2
      have HQ3 := HQ2.out.below hb3 HQ2.out.lt
      have t0 := HQ3.cell 0
      have t1 := HQ3.cell 1
      have t2 := HQ3.cell 2
      clear HQ3
      simp only [List.getElem?_cons_zero, List.getElem?_cons_succ] at r0 r1 r2 t0 t1 t2
      obtain ⟨vo, vc, rfl, hvc⟩ := own_shape hra
      have HRA := Lib.hid hra
      have HOL := Lib.hid (HOP.out l hpl)
      have hll : l.length ≤ 100000 := by
        have := parL_le hpl
        have := HPL.out
        omega
      have wl : IntKind.u64.wrap (l.length : Int) = (l.length : Int) := by rw [wrap_u64]; omega
      clear hc hb3 hra hvc hpl
      obtain ⟨n, hn⟩ : ∃ n, n = l.length := ⟨_, rfl⟩
      rw [← hn] at hll wl HRA HOL ⊢
      clear hn
      by_cases hz : n = z
      · subst hz
        have wy : IntKind.u32.wrap y = y := by rw [wrap_u32]; omega
        have k0 : w3.drew.cell? ⟨g, off, none⟩ = some (.int .u64 x) := c0
        have k1 : w3.drew.cell? ⟨g, off + 1, none⟩ = some (.int .u64 y) := c1
        have p0 : w3.drew.cell? ⟨w.heap.size, 0, none⟩ = some (.int .u64 0) := r0
        have p1 : w3.drew.cell? ⟨w.heap.size, 1, none⟩ = some (.int .u32 0) := r1
        have p2 : w3.drew.cell? ⟨w.heap.size, 2, none⟩ = some (.slice none 0 0) := r2
        have p3 : w3.drew.frozen? ⟨w.heap.size, 0, none⟩ = false := q0
        have p4 : w3.drew.frozen? ⟨w.heap.size, 1, none⟩ = false := q1
        have p5 : w3.drew.frozen? ⟨w.heap.size, 2, none⟩ = false := q2
        have HY := Lib.hid (show opR s = some (x, y, l) by rw [HOL.out, if_pos rfl])
        clear HOP HON
        go_wp2_with fail
        refine Reg.still_tail 9 (by kernel_rfl) (by kernel_rfl) ?_
        simp only [List.take_succ_cons, List.take_zero, List.drop_succ_cons, List.drop_zero]
        repeat still_step
        try refine wpStill_nil ?_
        go_wp2_with fail
        refine bodyPost_ret (v := .tuple #[.agg #[.int .u64 x, .int .u32 y, .slice vo n vc], .int .i64 0]) (by simp [results, Try.results20, go_sem, r0, r1, r2]) rfl (OpR.yes HY.out rfl (l := l) ?_ ?_)
        · exact own_base (own_drew (ownsRow_setCell_below (ownsRow_setCell_below (ownsRow_setCell_below HRA.out (show w.heap.size < w2.heap.size by have := HX2.out.lt; omega) _) (show w.heap.size < w2.heap.size by have := HX2.out.lt; omega) _) (show w.heap.size < w2.heap.size by have := HX2.out.lt; omega) _)) HB2.out.size
        · exact bel_res (bel_res (bel_res HB3.out.drew _ _) _ _) _ _
      · have hne : ((n : Int) == (z : Int)) = false := by
          have : ¬ (n : Int) = (z : Int) := by omega
          simpa using this
        have HN := Lib.hid (show opR s = none by rw [HOL.out, if_neg hz])
        clear HOP HON hz
        go_wp2_with fail
        refine bodyPost_ret (v := .tuple #[.agg #[.int .u64 0, .int .u32 0, .slice none 0 0], .int .i64 4]) (by simp [results, Try.results20, go_sem, r0, r1, r2]) rfl (OpR.no HN.out rfl ?_)
        exact bel_res (bel_res (bel_res HB3.out _ _) _ _) _ _
    · have HB3 := Lib.hid (below_on HB2.out hb3)
      have HX3 := Lib.hid (HX2.out.below hb3 HX2.out.lt)
      have r0 := HX3.out.cell 0
      have r1 := HX3.out.cell 1
      have r2 := HX3.out.cell 2
      have q0 := HX3.out.frozen 0
      have q1 := HX3.out.frozen 1
      have q2 := HX3.out.frozen 2
      have HQ3 := HQ2.out.below hb3 HQ2.out.lt
      have t0 := HQ3.cell 0
      have t1 := HQ3.cell 1
      have t2 := HQ3.cell 2
      clear HQ3
      simp only [List.getElem?_cons_zero, List.getElem?_cons_succ] at r0 r1 r2 t0 t1 t2
      have HN := Lib.hid (HON.out hpl)
      clear hb3 hpl
      go_wp2_with fail
      refine bodyPost_ret (v := .tuple #[.agg #[.int .u64 0, .int .u32 0, .slice none 0 0], .int .i64 4]) (by simp [results, Try.results20, go_sem, r0, r1, r2]) rfl (OpR.no HN.out rfl ?_)
      exact bel_res (bel_res (bel_res HB3.out _ _) _ _) _ _
  · have HR := Lib.hid (rd3_no (s := s) (by omega))
    have HN := Lib.hid (show opR s = none by unfold opR; rw [if_pos (by omega)])
    clear h hs
    go_enter Try.func20, Try.ntmps20
    go_wp2_with fail
    rw [← hw0]
    clear hw0
    refine (refread_any _ 3 3 [8, 4, 2] _ _ HROW.out (by decide) HSZ.out).mono ?_
    rintro e w2 ⟨bo, n, cap, rfl, hown, hb2⟩
    have HB2 := Lib.hid (below_on HB1.out hb2)
    have HX2 := Lib.hid (HX1.out.below hb2 HX1.out.lt)
    have HQ2 := Lib.hid (HQ1.out.below hb2 HQ1.out.lt)
    rw [HTD.out, HR.out.1, HR.out.2.2]
    clear hown hb2
    have r0 := HX2.out.cell 0
    have r1 := HX2.out.cell 1
    have r2 := HX2.out.cell 2
    have q0 := HX2.out.frozen 0
    have q1 := HX2.out.frozen 1
    have q2 := HX2.out.frozen 2
    have t0 := HQ2.out.cell 0
    have t1 := HQ2.out.cell 1
    have t2 := HQ2.out.cell 2
    simp only [List.getElem?_cons_zero, List.getElem?_cons_succ] at r0 r1 r2 t0 t1 t2
    go_wp2_with fail
    refine bodyPost_ret (v := .tuple #[.agg #[.int .u64 0, .int .u32 0, .slice none 0 0], .int .i64 4]) (by simp [results, Try.results20, go_sem, r0, r1, r2]) rfl (OpR.no HN.out rfl ?_)
    exact bel_res (bel_res (bel_res HB2.out _ _) _ _) _ _
end Go.Proofs.Ytomhalcoomdadaa.Rec
