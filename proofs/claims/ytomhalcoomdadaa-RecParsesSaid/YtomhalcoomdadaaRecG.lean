/- Layer 12 (rec): Link, Open. -/
import Derived.Test.YtomhalcoomdadaaRecF
import Derived.Test.YtomhalcoomdadaaRegionW
namespace Go.Proofs.Ytomhalcoomdadaa.Rec
open Go Go.RowKit Go.Proofs.Ytomhalcoomdadaa Go.Proofs.Ytomhalcoomdadaa.Lend
set_option linter.unusedVariables false

/-- what a record links by -/
def lkN (s c : Int) (l : List Up) : Nat := if errL l = 0 then Sum.chk 0 (pyT s c l) else 0
theorem ret_ue {a b c d : Int} (h : a = b) (h' : c = d) : Ending.returned (.tuple #[.int .u32 a, .int .i64 c]) = .returned (.tuple #[.int .u32 b, .int .i64 d]) := by rw [h, h']
theorem pyT_le {s c : Int} {l : List Up} (h : l.length ≤ 1000) : (pyT s c l).length ≤ 60000 := by
  unfold pyT
  split
  · rename_i he; rw [List.length_append, hd3_length]; have := txL_le l he; omega
  · simp
set_option maxHeartbeats 4000000 in
set_option maxRecDepth 100000 in
theorem Link_any {v : Value} {l : List Up} {w : World} (s c : Int) (tb : Nat) (h : UR w v l) (hf : Wf3 s c l.length) (hwf : ∀ u ∈ l, WfU u) (ht : Sum.IsTab w tb) :
    Calls Try.prog 22 #[.agg #[.int .u64 s, .int .u32 c, v], .pointer (some ⟨tb, 0, none⟩)] w fun e w' => e = .returned (.tuple #[.int .u32 (lkN s c l : Nat), .int .i64 (errL l)]) ∧ Below w.heap.size w w' := by
  obtain ⟨a, cap, hv⟩ := h.slice
  have HPY := Lib.hid (fun W (hb : Below w.heap.size w W) => Payload_any s c (h.below hb) hf hwf)
  have HLK : Hid (lkN s c l = if errL l = 0 then Sum.chk 0 (pyT s c l) else 0) := Lib.hid rfl
  have HSZ := Lib.hid (pyT_le (s := s) (c := c) hf.n1)
  obtain ⟨w0, hw0⟩ : ∃ x, x = w.alloc (.cells #[.int .u64 s, .int .u32 c, v] 57) := ⟨_, rfl⟩
  have HB0 := Lib.hid (show Below w.heap.size w w0 by rw [hw0]; exact below_new _ _)
  have HX := Lib.hid (show Has w0 w.heap.size 57 [.int .u64 s, .int .u32 c, v] by rw [hw0]; exact Has.new _ _ _)
  have HP0 := Lib.hid (HPY.out w0 HB0.out)
  have HT0 := Lib.hid (ht.below HB0.out (Nat.le_refl _))
  obtain ⟨P, hP⟩ : ∃ x, x = Lend.strOf (pyT s c l) := ⟨_, rfl⟩
  rw [← hP] at HP0
  have HPS := Lib.hid (show P.size ≤ 1000000 by rw [hP, ssize]; have := HSZ.out; omega)
  have HPD := Lib.hid (show P.data.toList = pyT s c l by rw [hP]; rfl)
  obtain ⟨er, her⟩ : ∃ x, x = errL l := ⟨_, rfl⟩
  rw [← her] at HP0 HLK ⊢
  obtain ⟨k, hk⟩ : ∃ x, x = lkN s c l := ⟨_, rfl⟩
  rw [← hk] at HLK ⊢
  subst hv
  clear hf h hwf ht HPY hP her hk HSZ
  have y0 := HX.out.cell 0
  have y1 := HX.out.cell 1
  have y2 := HX.out.cell 2
  simp only [List.getElem?_cons_zero, List.getElem?_cons_succ] at y0 y1 y2
  go_enter Try.func22, Try.ntmps22
  go_wp2_with fail
  rw [← hw0]
  refine HP0.out.mono ?_
  rintro e w1 ⟨rfl, hb1⟩
  have HB1 := Lib.hid (below_on HB0.out hb1)
  have HT1 := Lib.hid (HT0.out.below hb1 (Nat.le_refl _))
  clear hb1 hw0 y0 y1 y2
  by_cases hz : er = 0
  · subst hz
    have HK := Lib.hid (show k = Sum.chk 0 (pyT s c l) by rw [HLK.out]; rfl)
    go_wp2_with fail
    refine (Sum.of1_any tb P _ HT1.out HPS.out).mono ?_
    rintro e w2 ⟨rfl, ht2, hb2⟩
    have HB2 := Lib.hid (below_on HB1.out hb2)
    clear ht2 hb2
    go_wp2_with fail
    go_ret2
    exact ⟨ret_ue (by rw [HK.out, HPD.out]) rfl, HB2.out⟩
  · have hne : (er == 0) = false := by simpa using hz
    have HK := Lib.hid (show k = 0 by rw [HLK.out, if_neg hz])
    go_wp2_with fail
    go_ret2
    exact ⟨ret_ue (by rw [HK.out]; rfl) rfl, HB1.out⟩
theorem Link_nil (s c : Int) (v : Value) (w : World) :
    Calls Try.prog 22 #[.agg #[.int .u64 s, .int .u32 c, v], .pointer none] w fun e w' => e = .returned (.tuple #[.int .u32 0, .int .i64 1]) ∧ Below w.heap.size w w' := by
  go_enter Try.func22, Try.ntmps22
  go_wp2_with fail
  go_ret2
  exact ⟨rfl, below_new _ _⟩
/-! ### Open -/
/-- the record of bytes -/
def opR (s : List UInt8) : Option (Int × Int × List Up) :=
  if s.length < 14 then none
  else match parL (s.drop 14) with
    | none => none
    | some l => if l.length = getL ((s.drop 12).take 2) then some ((getL (s.take 8) : Int), (getL ((s.drop 8).take 4) : Int), l) else none
/-- what Open answers -/
def OpP (w : World) (s : List UInt8) (e : Ending) (w' : World) : Prop :=
  (∃ a c l v', opR s = some (a, c, l) ∧ e = .returned (.tuple #[.agg #[.int .u64 a, .int .u32 c, v'], .int .i64 0]) ∧ RA w' w.heap.size v' l ∧ Below w.heap.size w w') ∨
  (opR s = none ∧ e = .returned (.tuple #[.agg #[.int .u64 0, .int .u32 0, .slice none 0 0], .int .i64 4]) ∧ Below w.heap.size w w')
theorem OpP.yes {w w' : World} {s : List UInt8} {e : Ending} {a c : Int} {l : List Up} {v' : Value} (h : opR s = some (a, c, l)) (he : e = .returned (.tuple #[.agg #[.int .u64 a, .int .u32 c, v'], .int .i64 0])) (h1 : RA w' w.heap.size v' l) (h2 : Below w.heap.size w w') : OpP w s e w' := .inl ⟨a, c, l, v', h, he, h1, h2⟩
theorem OpP.no {w w' : World} {s : List UInt8} {e : Ending} (h : opR s = none) (he : e = .returned (.tuple #[.agg #[.int .u64 0, .int .u32 0, .slice none 0 0], .int .i64 4])) (h2 : Below w.heap.size w w') : OpP w s e w' := .inr ⟨h, he, h2⟩
theorem rd3 {s : List UInt8} (h : 14 ≤ s.length) : rdB [8, 4, 2] s = true ∧ rdN [8, 4, 2] s = [(getL (s.take 8) : Int), (getL ((s.drop 8).take 4) : Int), (getL ((s.drop 12).take 2) : Int)] ∧ rdS [8, 4, 2] s = s.drop 14 := by
  have hr := rd_ok (ws := [8, 4, 2]) (l := s) rfl (by show (14 : Int) ≤ _; omega)
  refine ⟨hr.1, ?_, by rw [hr.2.2]; rfl⟩
  rw [hr.2.1]
  simp [rdL]
theorem rd3_no {s : List UInt8} (h : s.length < 14) : rdB [8, 4, 2] s = false ∧ rdN [8, 4, 2] s = [] ∧ rdS [8, 4, 2] s = [] := rd_no (.inr (by show ¬ (14 : Int) ≤ _; omega))
theorem getL_4 (s : List UInt8) : getL ((s.drop 8).take 4) < 4294967296 := by
  have hb := getL_bd ((s.drop 8).take 4)
  have hl : ((s.drop 8).take 4).length ≤ 4 := by rw [List.length_take]; omega
  exact Nat.lt_of_lt_of_le hb (Nat.pow_le_pow_right (by decide) (by omega : 8 * _ ≤ 32))
theorem wrap_u32 (n : Int) : IntKind.u32.wrap n = n % 4294967296 := by simp [IntKind.wrap, IntKind.bits, IntKind.signed]
theorem own_base {w : World} {base base' : Nat} {e : TypeId} {size : Nat} {v : Value} {n : Nat} {xs : List Value} (h : w.ownsRow base e size v n xs) (hb : base' ≤ base) : w.ownsRow base' e size v n xs := by
  refine ⟨h.1, ?_⟩
  rcases h.2 with h | ⟨g, cap, cur, a, b, rest⟩
  · exact .inl h
  · exact .inr ⟨g, cap, cur, a, Nat.le_trans hb b, rest⟩
theorem own_drew {w : World} {base : Nat} {e : TypeId} {size : Nat} {v : Value} {n : Nat} {xs : List Value} (h : w.ownsRow base e size v n xs) : w.drew.ownsRow base e size v n xs := h
theorem parN_le : ∀ (n : Nat) (s : List UInt8) (l : List Up), parN n s = some l → l.length ≤ s.length
  | n, [], l, h => by
    have : l = [] := by cases n <;> (unfold parN at h; injection h with h; exact h.symm)
    subst this; simp
  | 0, x :: s, l, h => by unfold parN at h; cases h
  | n + 1, x :: s, l, h => by
    rw [parN_cons _ _ (by simp)] at h
    cases e : par1 (x :: s) with
    | none => rw [e] at h; cases h
    | some p =>
      obtain ⟨u, r⟩ := p
      rw [e] at h
      simp only at h
      have h1 := (par1_some e).1
      cases e2 : parN n r with
      | none => rw [e2] at h; cases h
      | some m =>
        rw [e2] at h
        injection h with h
        subst h
        have := parN_le n r m e2
        rw [List.length_cons]; omega
theorem parL_le {s : List UInt8} {l : List Up} (h : parL s = some l) : l.length ≤ s.length := parN_le _ s l h
set_option maxHeartbeats 4000000 in
set_option maxRecDepth 100000 in
theorem Open_any (s : List UInt8) (w : World) (hs : s.length ≤ 100000) : Calls Try.prog 19 #[.string (Lend.strOf s)] w (OpP w s) := by
  have HSZ := Lib.hid (show (Lend.strOf s).size ≤ 1000000 by rw [ssize]; omega)
  obtain ⟨T, hT⟩ : ∃ x, x = Lend.strOf s := ⟨_, rfl⟩
  have HTD := Lib.hid (show T.data.toList = s by rw [hT]; rfl)
  rw [← hT] at HSZ ⊢
  clear hT
  obtain ⟨w0, hw0⟩ : ∃ x, x = w.alloc (.cells #[.int .u64 0, .int .u32 0, .slice none 0 0] 57) := ⟨_, rfl⟩
  have HB0 := Lib.hid (show Below w.heap.size w w0 by rw [hw0]; exact below_new _ _)
  have HX := Lib.hid (show Has w0 w.heap.size 57 [.int .u64 0, .int .u32 0, .slice none 0 0] by rw [hw0]; exact Has.new _ _ _)
  by_cases h : 14 ≤ s.length
  · have HR := Lib.hid (rd3 h)
    have HPA := Lib.hid (fun W => Parse_any (s.drop 14) W (by rw [List.length_drop]; omega))
    have HOP := Lib.hid (show ∀ l, parL (s.drop 14) = some l → opR s = if l.length = getL ((s.drop 12).take 2) then some ((getL (s.take 8) : Int), (getL ((s.drop 8).take 4) : Int), l) else none from fun l hl => by unfold opR; rw [if_neg (by omega), hl])
    have HON := Lib.hid (show parL (s.drop 14) = none → opR s = none from fun hl => by unfold opR; rw [if_neg (by omega), hl])
    have HPL := Lib.hid (show (s.drop 14).length ≤ 100000 by rw [List.length_drop]; omega)
    have hy := getL_4 s
    obtain ⟨x, hx⟩ : ∃ x : Int, x = (getL (s.take 8) : Int) := ⟨_, rfl⟩
    obtain ⟨y, hyy⟩ : ∃ x : Int, x = (getL ((s.drop 8).take 4) : Int) := ⟨_, rfl⟩
    obtain ⟨z, hz⟩ : ∃ x, x = getL ((s.drop 12).take 2) := ⟨_, rfl⟩
    rw [← hx, ← hyy, ← hz] at HR HOP
    have hy0 : 0 ≤ y := by omega
    have hy1 : y ≤ 4294967295 := by omega
    clear hx hyy hz hy h hs
    go_enter Try.func19, Try.ntmps19
    go_wp2_with fail
    rw [← hw0]
    refine (recW_any _).mono ?_
    rintro e w1 ⟨b, rfl, hrow, hb1⟩
    have HROW := Lib.hid hrow
    have HB1 := Lib.hid (below_on HB0.out hb1)
    have HX1 := Lib.hid (HX.out.below hb1 HX.out.lt)
    clear hrow hb1 hw0
    go_wp2_with fail
    refine (read_any _ 3 3 [8, 4, 2] _ _ HROW.out (by decide) HSZ.out).mono ?_
    rintro e w2 ⟨bo, n, cap, rfl, hown, hb2⟩
    have HB2 := Lib.hid (below_on HB1.out hb2)
    have HX2 := Lib.hid (HX1.out.below hb2 HX1.out.lt)
    have hr := Row.own hown
    rw [HTD.out, HR.out.2.1] at hr
    obtain rfl : 3 = n := hr.len_eq
    rw [HTD.out, HR.out.1, HR.out.2.2]
    have HR2 := Lib.hid hr
    clear hown hr hb2
    go_wp2_with fail
    refine (HPA.out _).mono ?_
    rintro e w3 (⟨l, v', hpl, rfl, hra, hb3⟩ | ⟨hpl, rfl, hb3⟩)
    · have HB3 := Lib.hid (below_on HB2.out hb3)
      have HX3 := Lib.hid (HX2.out.below hb3 HX2.out.lt)
      obtain ⟨g, off, rfl, hc⟩ := (HR2.out.later hb3).at_ (by decide)
      have c0 : w3.cell? ⟨g, off, none⟩ = some (.int .u64 x) := hc 0 (by decide)
      have c1 : w3.cell? ⟨g, off + 1, none⟩ = some (.int .u64 y) := hc 1 (by decide)
      have c2 : w3.cell? ⟨g, off + 2, none⟩ = some (.int .u64 (z : Nat)) := hc 2 (by decide)
      have r0 := HX3.out.cell 0
      have r1 := HX3.out.cell 1
      have r2 := HX3.out.cell 2
      have q0 := HX3.out.frozen 0
      have q1 := HX3.out.frozen 1
      have q2 := HX3.out.frozen 2
      simp only [List.getElem?_cons_zero, List.getElem?_cons_succ] at r0 r1 r2
      obtain ⟨vo, vc, rfl, hvc⟩ := own_shape hra
      have HRA := Lib.hid hra
      have HOL := Lib.hid (HOP.out l hpl)
      have hll : l.length ≤ 100000 := by
        have := parL_le hpl
        have := HPL.out
        omega
      have wl : IntKind.u64.wrap (l.length : Int) = (l.length : Int) := by rw [wrap_u64]; omega
      clear hc hb3 hra hvc hpl
      obtain ⟨n, hn⟩ : ∃ n, n = l.length := ⟨_, rfl⟩
      rw [← hn] at hll wl HRA HOL ⊢
      clear hn
      by_cases hz : n = z
      · subst hz
        have wy : IntKind.u32.wrap y = y := by rw [wrap_u32]; omega
        have k0 : w3.drew.cell? ⟨g, off, none⟩ = some (.int .u64 x) := c0
        have k1 : w3.drew.cell? ⟨g, off + 1, none⟩ = some (.int .u64 y) := c1
        have p0 : w3.drew.cell? ⟨w.heap.size, 0, none⟩ = some (.int .u64 0) := r0
        have p1 : w3.drew.cell? ⟨w.heap.size, 1, none⟩ = some (.int .u32 0) := r1
        have p2 : w3.drew.cell? ⟨w.heap.size, 2, none⟩ = some (.slice none 0 0) := r2
        have p3 : w3.drew.frozen? ⟨w.heap.size, 0, none⟩ = false := q0
        have p4 : w3.drew.frozen? ⟨w.heap.size, 1, none⟩ = false := q1
        have p5 : w3.drew.frozen? ⟨w.heap.size, 2, none⟩ = false := q2
        have HY := Lib.hid (show opR s = some (x, y, l) by rw [HOL.out, if_pos rfl])
        clear HOP HON
        go_wp2_with fail
        refine Reg.still_tail 9 (by kernel_rfl) (by kernel_rfl) ?_
        simp only [List.take_succ_cons, List.take_zero, List.drop_succ_cons, List.drop_zero]
        repeat still_step
        try refine wpStill_nil ?_
        go_wp2_with fail
        refine bodyPost_ret (v := .tuple #[.agg #[.int .u64 x, .int .u32 y, .slice vo n vc], .int .i64 0]) (by simp [results, Try.results19, go_sem, r0, r1, r2]) rfl (OpP.yes HY.out rfl (l := l) ?_ ?_)
        · exact own_base (own_drew (ownsRow_setCell_below (ownsRow_setCell_below (ownsRow_setCell_below HRA.out (show w.heap.size < w2.heap.size by have := HX2.out.lt; omega) _) (show w.heap.size < w2.heap.size by have := HX2.out.lt; omega) _) (show w.heap.size < w2.heap.size by have := HX2.out.lt; omega) _)) HB2.out.size
        · exact bel_res (bel_res (bel_res HB3.out.drew _ _) _ _) _ _
      · have hne : ((n : Int) == (z : Int)) = false := by
          have : ¬ (n : Int) = (z : Int) := by omega
          simpa using this
        have HN := Lib.hid (show opR s = none by rw [HOL.out, if_neg hz])
        clear HOP HON hz
        go_wp2_with fail
        refine bodyPost_ret (v := .tuple #[.agg #[.int .u64 0, .int .u32 0, .slice none 0 0], .int .i64 4]) (by simp [results, Try.results19, go_sem, r0, r1, r2]) rfl (OpP.no HN.out rfl ?_)
        exact bel_res (bel_res (bel_res HB3.out _ _) _ _) _ _
    · have HB3 := Lib.hid (below_on HB2.out hb3)
      have HX3 := Lib.hid (HX2.out.below hb3 HX2.out.lt)
      have r0 := HX3.out.cell 0
      have r1 := HX3.out.cell 1
      have r2 := HX3.out.cell 2
      have q0 := HX3.out.frozen 0
      have q1 := HX3.out.frozen 1
      have q2 := HX3.out.frozen 2
      simp only [List.getElem?_cons_zero, List.getElem?_cons_succ] at r0 r1 r2
      have HN := Lib.hid (HON.out hpl)
      clear hb3 hpl
      go_wp2_with fail
      refine bodyPost_ret (v := .tuple #[.agg #[.int .u64 0, .int .u32 0, .slice none 0 0], .int .i64 4]) (by simp [results, Try.results19, go_sem, r0, r1, r2]) rfl (OpP.no HN.out rfl ?_)
      exact bel_res (bel_res (bel_res HB3.out _ _) _ _) _ _
  · have HR := Lib.hid (rd3_no (s := s) (by omega))
    have HN := Lib.hid (show opR s = none by unfold opR; rw [if_pos (by omega)])
    clear h hs
    go_enter Try.func19, Try.ntmps19
    go_wp2_with fail
    rw [← hw0]
    refine (recW_any _).mono ?_
    rintro e w1 ⟨b, rfl, hrow, hb1⟩
    have HROW := Lib.hid hrow
    have HB1 := Lib.hid (below_on HB0.out hb1)
    have HX1 := Lib.hid (HX.out.below hb1 HX.out.lt)
    clear hrow hb1 hw0
    go_wp2_with fail
    refine (read_any _ 3 3 [8, 4, 2] _ _ HROW.out (by decide) HSZ.out).mono ?_
    rintro e w2 ⟨bo, n, cap, rfl, hown, hb2⟩
    have HB2 := Lib.hid (below_on HB1.out hb2)
    have HX2 := Lib.hid (HX1.out.below hb2 HX1.out.lt)
    rw [HTD.out, HR.out.1, HR.out.2.2]
    clear hown hb2
    have r0 := HX2.out.cell 0
    have r1 := HX2.out.cell 1
    have r2 := HX2.out.cell 2
    have q0 := HX2.out.frozen 0
    have q1 := HX2.out.frozen 1
    have q2 := HX2.out.frozen 2
    simp only [List.getElem?_cons_zero, List.getElem?_cons_succ] at r0 r1 r2
    go_wp2_with fail
    refine bodyPost_ret (v := .tuple #[.agg #[.int .u64 0, .int .u32 0, .slice none 0 0], .int .i64 4]) (by simp [results, Try.results19, go_sem, r0, r1, r2]) rfl (OpP.no HN.out rfl ?_)
    exact bel_res (bel_res (bel_res HB2.out _ _) _ _) _ _
end Go.Proofs.Ytomhalcoomdadaa.Rec
