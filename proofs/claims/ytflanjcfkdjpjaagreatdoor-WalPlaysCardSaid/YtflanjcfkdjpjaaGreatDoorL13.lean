/- Layers' contracts, bundled: RecG, RecOp, WalMath, WalL, WalU, WalF, WalC, WalA, WalD, AppF, WalR. -/
import Derived.Test.YtflanjcfkdjpjaaGreatDoorL12
import Derived.Test.YtflanjcfkdjpjaaGreatDoorL01
import Derived.Test.YtflanjcfkdjpjaaGreatDoorL11
import Derived.Test.YtflanjcfkdjpjaaGreatDoorL04
import Derived.Test.YtflanjcfkdjpjaaGreatDoorL10
import Derived.Outline
import Derived.Deep.DeepCutAuto
import Derived.Test.YtflanjcfkdjpjaaGreatDoorL07
import Derived.BigQuiet
import Derived.Deep.QuietTactic
import Derived.StillTailTactics
import Derived.Test.YtflanjcfkdjpjaaGreatDoorL02
import Derived.Laws.AppendOwn
import Derived.Below
/- Layer 12 (rec): Link, Open. -/
namespace Go.Proofs.YtflanjcfkdjpjaaGreatDoor.Rec
open Go Go.RowKit Go.Proofs.YtflanjcfkdjpjaaGreatDoor Go.Proofs.YtflanjcfkdjpjaaGreatDoor.Lend
set_option linter.unusedVariables false

/-- what a record links by -/
def lkN (s c : Int) (l : List Up) : Nat := if errL l = 0 then Sum.chk 0 (pyT s c l) else 0
theorem ret_ue {a b c d : Int} (h : a = b) (h' : c = d) : Ending.returned (.tuple #[.int .u32 a, .int .i64 c]) = .returned (.tuple #[.int .u32 b, .int .i64 d]) := by rw [h, h']
theorem pyT_le {s c : Int} {l : List Up} (h : l.length ≤ 1000) : (pyT s c l).length ≤ 60000 := by
  unfold pyT
  split
  · rename_i he; rw [List.length_append, hd3_length]; have := txL_le l he; omega
  · simp
set_option maxHeartbeats 4000000 in
set_option maxRecDepth 100000 in
theorem Link_any {v : Value} {l : List Up} {w : World} (s c : Int) (tb : Nat) (h : UR w v l) (hf : Wf3 s c l.length) (hwf : ∀ u ∈ l, WfU u) (ht : Sum.IsTab w tb) :
    Calls Tryz.prog 19 #[.agg #[.int .u64 s, .int .u32 c, v], .pointer (some ⟨tb, 0, none⟩)] w fun e w' => e = .returned (.tuple #[.int .u32 (lkN s c l : Nat), .int .i64 (errL l)]) ∧ Below w.heap.size w w' := by
  obtain ⟨a, cap, hv⟩ := h.slice
  have HPY := Lib.hid (fun W (hb : Below w.heap.size w W) => Payload_any s c (h.below hb) hf hwf)
  have HLK : Hid (lkN s c l = if errL l = 0 then Sum.chk 0 (pyT s c l) else 0) := Lib.hid rfl
  have HSZ := Lib.hid (pyT_le (s := s) (c := c) hf.n1)
  obtain ⟨w0, hw0⟩ : ∃ x, x = w.alloc (.cells #[.int .u64 s, .int .u32 c, v] 59) := ⟨_, rfl⟩
  have HB0 := Lib.hid (show Below w.heap.size w w0 by rw [hw0]; exact below_new _ _)
  have HX := Lib.hid (show Has w0 w.heap.size 59 [.int .u64 s, .int .u32 c, v] by rw [hw0]; exact Has.new _ _ _)
  have HP0 := Lib.hid (HPY.out w0 HB0.out)
  have HT0 := Lib.hid (ht.below HB0.out (Nat.le_refl _))
  obtain ⟨P, hP⟩ : ∃ x, x = Lend.strOf (pyT s c l) := ⟨_, rfl⟩
  rw [← hP] at HP0
  have HPS := Lib.hid (show P.size ≤ 1000000 by rw [hP, ssize]; have := HSZ.out; omega)
  have HPD := Lib.hid (show P.data.toList = pyT s c l by rw [hP]; rfl)
  obtain ⟨er, her⟩ : ∃ x, x = errL l := ⟨_, rfl⟩
  rw [← her] at HP0 HLK ⊢
  obtain ⟨k, hk⟩ : ∃ x, x = lkN s c l := ⟨_, rfl⟩
  rw [← hk] at HLK ⊢
  subst hv
  clear hf h hwf ht HPY hP her hk HSZ
  have y0 := HX.out.cell 0
  have y1 := HX.out.cell 1
  have y2 := HX.out.cell 2
  simp only [List.getElem?_cons_zero, List.getElem?_cons_succ] at y0 y1 y2
  go_enter Tryz.func19, Tryz.ntmps19
  go_wp2_with fail
  rw [← hw0]
  refine HP0.out.mono ?_
  rintro e w1 ⟨rfl, hb1⟩
  have HB1 := Lib.hid (below_on HB0.out hb1)
  have HT1 := Lib.hid (HT0.out.below hb1 (Nat.le_refl _))
  clear hb1 hw0 y0 y1 y2
  by_cases hz : er = 0
  · subst hz
    have HK := Lib.hid (show k = Sum.chk 0 (pyT s c l) by rw [HLK.out]; rfl)
    go_wp2_with fail
    refine (Sum.of1_any tb P _ HT1.out HPS.out).mono ?_
    rintro e w2 ⟨rfl, ht2, hb2⟩
    have HB2 := Lib.hid (below_on HB1.out hb2)
    clear ht2 hb2
    go_wp2_with fail
    go_ret2
    exact ⟨ret_ue (by rw [HK.out, HPD.out]) rfl, HB2.out⟩
  · have hne : (er == 0) = false := by simpa using hz
    have HK := Lib.hid (show k = 0 by rw [HLK.out, if_neg hz])
    go_wp2_with fail
    go_ret2
    exact ⟨ret_ue (by rw [HK.out]; rfl) rfl, HB1.out⟩
/-! ### Open -/
/-- the record of bytes -/
def opR (s : List UInt8) : Option (Int × Int × List Up) :=
  if s.length < 14 then none
  else match parL (s.drop 14) with
    | none => none
    | some l => if l.length = getL ((s.drop 12).take 2) then some ((getL (s.take 8) : Int), (getL ((s.drop 8).take 4) : Int), l) else none
/-- what Open answers -/
def OpP (w : World) (s : List UInt8) (e : Ending) (w' : World) : Prop :=
  (∃ a c l v', opR s = some (a, c, l) ∧ e = .returned (.tuple #[.agg #[.int .u64 a, .int .u32 c, v'], .int .i64 0]) ∧ RA w' w.heap.size v' l ∧ Below w.heap.size w w') ∨
  (opR s = none ∧ e = .returned (.tuple #[.agg #[.int .u64 0, .int .u32 0, .slice none 0 0], .int .i64 4]) ∧ Below w.heap.size w w')
theorem OpP.yes {w w' : World} {s : List UInt8} {e : Ending} {a c : Int} {l : List Up} {v' : Value} (h : opR s = some (a, c, l)) (he : e = .returned (.tuple #[.agg #[.int .u64 a, .int .u32 c, v'], .int .i64 0])) (h1 : RA w' w.heap.size v' l) (h2 : Below w.heap.size w w') : OpP w s e w' := .inl ⟨a, c, l, v', h, he, h1, h2⟩
theorem OpP.no {w w' : World} {s : List UInt8} {e : Ending} (h : opR s = none) (he : e = .returned (.tuple #[.agg #[.int .u64 0, .int .u32 0, .slice none 0 0], .int .i64 4])) (h2 : Below w.heap.size w w') : OpP w s e w' := .inr ⟨h, he, h2⟩
theorem rd3 {s : List UInt8} (h : 14 ≤ s.length) : rdB [8, 4, 2] s = true ∧ rdN [8, 4, 2] s = [(getL (s.take 8) : Int), (getL ((s.drop 8).take 4) : Int), (getL ((s.drop 12).take 2) : Int)] ∧ rdS [8, 4, 2] s = s.drop 14 := by
  have hr := rd_ok (ws := [8, 4, 2]) (l := s) rfl (by show (14 : Int) ≤ _; omega)
  refine ⟨hr.1, ?_, by rw [hr.2.2]; rfl⟩
  rw [hr.2.1]
  simp [rdL]
theorem rd3_no {s : List UInt8} (h : s.length < 14) : rdB [8, 4, 2] s = false ∧ rdN [8, 4, 2] s = [] ∧ rdS [8, 4, 2] s = [] := rd_no (.inr (by show ¬ (14 : Int) ≤ _; omega))
theorem getL_4 (s : List UInt8) : getL ((s.drop 8).take 4) < 4294967296 := by
  have hb := getL_bd ((s.drop 8).take 4)
  have hl : ((s.drop 8).take 4).length ≤ 4 := by rw [List.length_take]; omega
  exact Nat.lt_of_lt_of_le hb (Nat.pow_le_pow_right (by decide) (by omega : 8 * _ ≤ 32))
theorem wrap_u32 (n : Int) : IntKind.u32.wrap n = n % 4294967296 := by simp [IntKind.wrap, IntKind.bits, IntKind.signed]
theorem own_base {w : World} {base base' : Nat} {e : TypeId} {size : Nat} {v : Value} {n : Nat} {xs : List Value} (h : w.ownsRow base e size v n xs) (hb : base' ≤ base) : w.ownsRow base' e size v n xs := by
  refine ⟨h.1, ?_⟩
  rcases h.2 with h | ⟨g, cap, cur, a, b, rest⟩
  · exact .inl h
  · exact .inr ⟨g, cap, cur, a, Nat.le_trans hb b, rest⟩
theorem own_drew {w : World} {base : Nat} {e : TypeId} {size : Nat} {v : Value} {n : Nat} {xs : List Value} (h : w.ownsRow base e size v n xs) : w.drew.ownsRow base e size v n xs := h
theorem parN_le : ∀ (n : Nat) (s : List UInt8) (l : List Up), parN n s = some l → l.length ≤ s.length
  | n, [], l, h => by
    have : l = [] := by cases n <;> (unfold parN at h; injection h with h; exact h.symm)
    subst this; simp
  | 0, x :: s, l, h => by unfold parN at h; cases h
  | n + 1, x :: s, l, h => by
    rw [parN_cons _ _ (by simp)] at h
    cases e : par1 (x :: s) with
    | none => rw [e] at h; cases h
    | some p =>
      obtain ⟨u, r⟩ := p
      rw [e] at h
      simp only at h
      have h1 := (par1_some e).1
      cases e2 : parN n r with
      | none => rw [e2] at h; cases h
      | some m =>
        rw [e2] at h
        injection h with h
        subst h
        have := parN_le n r m e2
        rw [List.length_cons]; omega
theorem parL_le {s : List UInt8} {l : List Up} (h : parL s = some l) : l.length ≤ s.length := parN_le _ s l h
set_option maxHeartbeats 4000000 in
set_option maxRecDepth 100000 in
theorem Open_any (s : List UInt8) (w : World) (hs : s.length ≤ 100000) : Calls Tryz.prog 95 #[.string (Lend.strOf s)] w (OpP w s) := by
  have HSZ := Lib.hid (show (Lend.strOf s).size ≤ 1000000 by rw [ssize]; omega)
  obtain ⟨T, hT⟩ : ∃ x, x = Lend.strOf s := ⟨_, rfl⟩
  have HTD := Lib.hid (show T.data.toList = s by rw [hT]; rfl)
  rw [← hT] at HSZ ⊢
  clear hT
  obtain ⟨w0, hw0⟩ : ∃ x, x = w.alloc (.cells #[.int .u64 0, .int .u32 0, .slice none 0 0] 59) := ⟨_, rfl⟩
  have HB0 := Lib.hid (show Below w.heap.size w w0 by rw [hw0]; exact below_new _ _)
  have HX := Lib.hid (show Has w0 w.heap.size 59 [.int .u64 0, .int .u32 0, .slice none 0 0] by rw [hw0]; exact Has.new _ _ _)
  by_cases h : 14 ≤ s.length
  · have HR := Lib.hid (rd3 h)
    have HPA := Lib.hid (fun W => Parse_any (s.drop 14) W (by rw [List.length_drop]; omega))
    have HOP := Lib.hid (show ∀ l, parL (s.drop 14) = some l → opR s = if l.length = getL ((s.drop 12).take 2) then some ((getL (s.take 8) : Int), (getL ((s.drop 8).take 4) : Int), l) else none from fun l hl => by unfold opR; rw [if_neg (by omega), hl])
    have HON := Lib.hid (show parL (s.drop 14) = none → opR s = none from fun hl => by unfold opR; rw [if_neg (by omega), hl])
    have HPL := Lib.hid (show (s.drop 14).length ≤ 100000 by rw [List.length_drop]; omega)
    have hy := getL_4 s
    obtain ⟨x, hx⟩ : ∃ x : Int, x = (getL (s.take 8) : Int) := ⟨_, rfl⟩
    obtain ⟨y, hyy⟩ : ∃ x : Int, x = (getL ((s.drop 8).take 4) : Int) := ⟨_, rfl⟩
    obtain ⟨z, hz⟩ : ∃ x, x = getL ((s.drop 12).take 2) := ⟨_, rfl⟩
    rw [← hx, ← hyy, ← hz] at HR HOP
    have hy0 : 0 ≤ y := by omega
    have hy1 : y ≤ 4294967295 := by omega
    clear hx hyy hz hy h hs
    go_enter Tryz.func95, Tryz.ntmps95
    go_wp2_with fail
    rw [← hw0]
    refine (recW_any _).mono ?_
    rintro e w1 ⟨b, rfl, hrow, hb1⟩
    have HROW := Lib.hid hrow
    have HB1 := Lib.hid (below_on HB0.out hb1)
    have HX1 := Lib.hid (HX.out.below hb1 HX.out.lt)
    clear hrow hb1 hw0
    go_wp2_with fail
    refine (read_any _ 3 3 [8, 4, 2] _ _ HROW.out (by decide) HSZ.out).mono ?_
    rintro e w2 ⟨bo, n, cap, rfl, hown, hb2⟩
    have HB2 := Lib.hid (below_on HB1.out hb2)
    have HX2 := Lib.hid (HX1.out.below hb2 HX1.out.lt)
    have hr := Row.own hown
    rw [HTD.out, HR.out.2.1] at hr
    obtain rfl : 3 = n := hr.len_eq
    rw [HTD.out, HR.out.1, HR.out.2.2]
    have HR2 := Lib.hid hr
    clear hown hr hb2
    go_wp2_with fail
    refine (HPA.out _).mono ?_
    rintro e w3 (⟨l, v', hpl, rfl, hra, hb3⟩ | ⟨hpl, rfl, hb3⟩)
    · have HB3 := Lib.hid (below_on HB2.out hb3)
      have HX3 := Lib.hid (HX2.out.below hb3 HX2.out.lt)
      obtain ⟨g, off, rfl, hc⟩ := (HR2.out.later hb3).at_ (by decide)
      have c0 : w3.cell? ⟨g, off, none⟩ = some (.int .u64 x) := hc 0 (by decide)
      have c1 : w3.cell? ⟨g, off + 1, none⟩ = some (.int .u64 y) := hc 1 (by decide)
      have c2 : w3.cell? ⟨g, off + 2, none⟩ = some (.int .u64 (z : Nat)) := hc 2 (by decide)
      have r0 := HX3.out.cell 0
      have r1 := HX3.out.cell 1
      have r2 := HX3.out.cell 2
      have q0 := HX3.out.frozen 0
      have q1 := HX3.out.frozen 1
      have q2 := HX3.out.frozen 2
      simp only [List.getElem?_cons_zero, List.getElem?_cons_succ] at r0 r1 r2
      obtain ⟨vo, vc, rfl, hvc⟩ := own_shape hra
      have HRA := Lib.hid hra
      have HOL := Lib.hid (HOP.out l hpl)
      have hll : l.length ≤ 100000 := by
        have := parL_le hpl
        have := HPL.out
        omega
      have wl : IntKind.u64.wrap (l.length : Int) = (l.length : Int) := by rw [wrap_u64]; omega
      clear hc hb3 hra hvc hpl
      obtain ⟨n, hn⟩ : ∃ n, n = l.length := ⟨_, rfl⟩
      rw [← hn] at hll wl HRA HOL ⊢
      clear hn
      by_cases hz : n = z
      · subst hz
        have wy : IntKind.u32.wrap y = y := by rw [wrap_u32]; omega
        have k0 : w3.drew.cell? ⟨g, off, none⟩ = some (.int .u64 x) := c0
        have k1 : w3.drew.cell? ⟨g, off + 1, none⟩ = some (.int .u64 y) := c1
        have p0 : w3.drew.cell? ⟨w.heap.size, 0, none⟩ = some (.int .u64 0) := r0
        have p1 : w3.drew.cell? ⟨w.heap.size, 1, none⟩ = some (.int .u32 0) := r1
        have p2 : w3.drew.cell? ⟨w.heap.size, 2, none⟩ = some (.slice none 0 0) := r2
        have p3 : w3.drew.frozen? ⟨w.heap.size, 0, none⟩ = false := q0
        have p4 : w3.drew.frozen? ⟨w.heap.size, 1, none⟩ = false := q1
        have p5 : w3.drew.frozen? ⟨w.heap.size, 2, none⟩ = false := q2
        have HY := Lib.hid (show opR s = some (x, y, l) by rw [HOL.out, if_pos rfl])
        clear HOP HON
        go_wp2_with fail
        refine Reg.still_tail 9 (by kernel_rfl) (by kernel_rfl) ?_
        simp only [List.take_succ_cons, List.take_zero, List.drop_succ_cons, List.drop_zero]
        repeat still_step
        try refine wpStill_nil ?_
        go_wp2_with fail
        refine bodyPost_ret (v := .tuple #[.agg #[.int .u64 x, .int .u32 y, .slice vo n vc], .int .i64 0]) (by simp [results, Tryz.results95, go_sem, r0, r1, r2]) rfl (OpP.yes HY.out rfl (l := l) ?_ ?_)
        · exact own_base (own_drew (ownsRow_setCell_below (ownsRow_setCell_below (ownsRow_setCell_below HRA.out (show w.heap.size < w2.heap.size by have := HX2.out.lt; omega) _) (show w.heap.size < w2.heap.size by have := HX2.out.lt; omega) _) (show w.heap.size < w2.heap.size by have := HX2.out.lt; omega) _)) HB2.out.size
        · exact bel_res (bel_res (bel_res HB3.out.drew _ _) _ _) _ _
      · have hne : ((n : Int) == (z : Int)) = false := by
          have : ¬ (n : Int) = (z : Int) := by omega
          simpa using this
        have HN := Lib.hid (show opR s = none by rw [HOL.out, if_neg hz])
        clear HOP HON hz
        go_wp2_with fail
        refine bodyPost_ret (v := .tuple #[.agg #[.int .u64 0, .int .u32 0, .slice none 0 0], .int .i64 4]) (by simp [results, Tryz.results95, go_sem, r0, r1, r2]) rfl (OpP.no HN.out rfl ?_)
        exact bel_res (bel_res (bel_res HB3.out _ _) _ _) _ _
    · have HB3 := Lib.hid (below_on HB2.out hb3)
      have HX3 := Lib.hid (HX2.out.below hb3 HX2.out.lt)
      have r0 := HX3.out.cell 0
      have r1 := HX3.out.cell 1
      have r2 := HX3.out.cell 2
      have q0 := HX3.out.frozen 0
      have q1 := HX3.out.frozen 1
      have q2 := HX3.out.frozen 2
      simp only [List.getElem?_cons_zero, List.getElem?_cons_succ] at r0 r1 r2
      have HN := Lib.hid (HON.out hpl)
      clear hb3 hpl
      go_wp2_with fail
      refine bodyPost_ret (v := .tuple #[.agg #[.int .u64 0, .int .u32 0, .slice none 0 0], .int .i64 4]) (by simp [results, Tryz.results95, go_sem, r0, r1, r2]) rfl (OpP.no HN.out rfl ?_)
      exact bel_res (bel_res (bel_res HB3.out _ _) _ _) _ _
  · have HR := Lib.hid (rd3_no (s := s) (by omega))
    have HN := Lib.hid (show opR s = none by unfold opR; rw [if_pos (by omega)])
    clear h hs
    go_enter Tryz.func95, Tryz.ntmps95
    go_wp2_with fail
    rw [← hw0]
    refine (recW_any _).mono ?_
    rintro e w1 ⟨b, rfl, hrow, hb1⟩
    have HROW := Lib.hid hrow
    have HB1 := Lib.hid (below_on HB0.out hb1)
    have HX1 := Lib.hid (HX.out.below hb1 HX.out.lt)
    clear hrow hb1 hw0
    go_wp2_with fail
    refine (read_any _ 3 3 [8, 4, 2] _ _ HROW.out (by decide) HSZ.out).mono ?_
    rintro e w2 ⟨bo, n, cap, rfl, hown, hb2⟩
    have HB2 := Lib.hid (below_on HB1.out hb2)
    have HX2 := Lib.hid (HX1.out.below hb2 HX1.out.lt)
    rw [HTD.out, HR.out.1, HR.out.2.2]
    clear hown hb2
    have r0 := HX2.out.cell 0
    have r1 := HX2.out.cell 1
    have r2 := HX2.out.cell 2
    have q0 := HX2.out.frozen 0
    have q1 := HX2.out.frozen 1
    have q2 := HX2.out.frozen 2
    simp only [List.getElem?_cons_zero, List.getElem?_cons_succ] at r0 r1 r2
    go_wp2_with fail
    refine bodyPost_ret (v := .tuple #[.agg #[.int .u64 0, .int .u32 0, .slice none 0 0], .int .i64 4]) (by simp [results, Tryz.results95, go_sem, r0, r1, r2]) rfl (OpP.no HN.out rfl ?_)
    exact bel_res (bel_res (bel_res HB2.out _ _) _ _) _ _
end Go.Proofs.YtflanjcfkdjpjaaGreatDoor.Rec


/- Layer 12 (rec): what Open tells of Payload's bytes. -/
namespace Go.Proofs.YtflanjcfkdjpjaaGreatDoor.Rec
open Go Go.RowKit Go.Proofs.YtflanjcfkdjpjaaGreatDoor Go.Proofs.YtflanjcfkdjpjaaGreatDoor.Lend
set_option linter.unusedVariables false

theorem hd3_eq (s c : Int) (n : Nat) : hd3 s c n = encN s 8 ++ (encN c 4 ++ encN (n : Int) 2) := by simp [hd3, encL]
theorem errL_ok : ∀ {l : List Up}, (∀ u ∈ l, chkU u = 0) → errL l = 0
  | [], _ => rfl
  | u :: l, h => by
    show (if chkU u = 0 then errL l else chkU u) = 0
    rw [if_pos (h u (List.mem_cons_self ..))]
    exact errL_ok fun x hx => h x (List.mem_cons_of_mem _ hx)
theorem okL_of {l : List Up} (h : ∀ u ∈ l, chkU u = 0) (hw : ∀ u ∈ l, WfU u) : OkL l := fun u hu => ⟨h u hu, (hw u hu).2.2.1, (hw u hu).2.2.2⟩
theorem pyT_ok {s c : Int} {l : List Up} (h : ∀ u ∈ l, chkU u = 0) : pyT s c l = hd3 s c l.length ++ txL l := by unfold pyT; rw [if_pos (errL_ok h)]
theorem hd3_8 {s c : Int} {n : Nat} (hf : Wf3 s c n) (r : List UInt8) : (getL ((hd3 s c n ++ r).take 8) : Int) = s := by
  rw [hd3_eq, List.append_assoc, List.take_left' (encN_length s 8)]
  exact getL_encN s 8 hf.s0 hf.s1
theorem hd3_4 {s c : Int} {n : Nat} (hf : Wf3 s c n) (r : List UInt8) : (getL (((hd3 s c n ++ r).drop 8).take 4) : Int) = c := by
  rw [hd3_eq, List.append_assoc, List.drop_left' (encN_length s 8), List.append_assoc, List.take_left' (encN_length c 4)]
  exact getL_encN c 4 hf.c0 hf.c1
theorem hd3_2 {s c : Int} {n : Nat} (hf : Wf3 s c n) (r : List UInt8) : getL (((hd3 s c n ++ r).drop 12).take 2) = n := by
  have e : (hd3 s c n ++ r).drop 12 = encN (n : Int) 2 ++ r := by
    rw [show (12 : Nat) = 8 + 4 from rfl, ← List.drop_drop, hd3_eq, List.append_assoc, List.drop_left' (encN_length s 8), List.append_assoc, List.drop_left' (encN_length c 4)]
  rw [e, List.take_left' (encN_length _ 2)]
  have h := getL_encN (n : Int) 2 (by omega) (by have := hf.n1; show (n : Int) < 65536; omega)
  omega
/-- what Open tells of a record's bytes -/
theorem op_py {s c : Int} {l : List Up} (hf : Wf3 s c l.length) (h : ∀ u ∈ l, chkU u = 0) (hw : ∀ u ∈ l, WfU u) : opR (pyT s c l) = some (s, c, l) := by
  rw [pyT_ok h]
  unfold opR
  rw [if_neg (by rw [List.length_append, hd3_length]; omega), List.drop_left' (hd3_length ..), parL_tx (okL_of h hw)]
  simp only
  rw [if_pos (hd3_2 hf _).symm, hd3_8 hf, hd3_4 hf]
end Go.Proofs.YtflanjcfkdjpjaaGreatDoor.Rec


/- Layer 13 (wal): rings of records, as contents of blocks. -/
namespace Go.Proofs.YtflanjcfkdjpjaaGreatDoor.Wal
open Go Go.RowKit Go.Proofs.YtflanjcfkdjpjaaGreatDoor Rem Mir Rec
set_option linter.unusedVariables false

/-- a record's image, at block b of blocks of Z bytes -/
def imR (Z b n c : Int) (l : List Up) : ByteArray := Env.sealS Z 3 b n (pyT n c l)
/-- what the record that a text is an image of has; none, if it isn't record n's, of block b, that links by c -/
def rcO (b n c : Int) (t : List UInt8) : Option (List Up) :=
  if Env.opE t = 0 ∧ Env.F t 0 = 3 ∧ Env.F t 3 = b ∧ Env.F t 4 = n then match opR (Env.opP t) with
    | some (a, d, l) => if a = n ∧ d = c then some l else none
    | none => none
  else none
/-- updates that a record may have -/
structure OkR (Z : Int) (l : List Up) : Prop where
  ch : ∀ u ∈ l, chkU u = 0
  wf : ∀ u ∈ l, WfU u
  len : l.length ≤ 1000
  room : ((txL l).length : Int) ≤ Z - 38
/-- numbers that an image may have -/
structure OkN (Z b n c : Int) : Prop where
  z0 : 128 ≤ Z
  z1 : Z ≤ 1024
  b0 : 0 ≤ b
  b1 : b ≤ 100000
  n0 : 0 ≤ n
  n1 : n < 18446744073709551616
  c0 : 0 ≤ c
  c1 : c < 4294967296
section
variable {Z b n c : Int} {l : List Up}
theorem OkR.f3 (h : OkR Z l) (k : OkN Z b n c) : Wf3 n c l.length := ⟨k.n0, k.n1, k.c0, k.c1, h.len⟩
theorem OkR.py (h : OkR Z l) : ((pyT n c l).length : Int) ≤ Z - 24 := by
  rw [pyT_ok h.ch, List.length_append, hd3_length]; have := h.room; omega
theorem OkN.hd (k : OkN Z b n c) : Env.hdB 3 b = true := by
  have := k.b0; have := k.b1
  simp [Env.hdB, Env.adB]; omega
theorem OkN.sz (k : OkN Z b n c) : Env.szB Z = true := by
  have := k.z0; have := k.z1
  simp [Env.szB]; omega
theorem seal_ok (h : OkR Z l) (k : OkN Z b n c) : Env.sealE Z 3 b (pyT n c l) = 0 := Env.sealE_ok k.sz k.hd h.py
theorem imR_eq (h : OkR Z l) (k : OkN Z b n c) : imR Z b n c l = Lend.strOf (Env.imgL 3 b n (Z - 24).toNat (pyT n c l)) := by unfold imR Env.sealS; rw [if_pos (seal_ok h k)]
theorem imR_size (h : OkR Z l) (k : OkN Z b n c) : ((imR Z b n c l).size : Int) = Z := by
  rw [imR_eq h k, ssize, Env.imgL_length _ _ _ _ _ (by have := h.py (n := n) (c := c); omega)]
  have := k.z0; omega
theorem OkR.fit (h : OkR Z l) (k : OkN Z b n c) : Env.Fit 3 ((pyT n c l).length : Int) b n 0 := by
  have h1 := h.py (n := n) (c := c)
  have := k.z1; have := k.b0; have := k.b1; have := k.n0; have := k.n1
  exact ⟨by omega, by omega, by omega, by omega, by omega, by omega, by omega, by omega, by omega, by omega⟩
/-- a record's image is its own -/
theorem rcO_im (h : OkR Z l) (k : OkN Z b n c) : rcO b n c (imR Z b n c l).data.toList = some l := by
  have hf := h.fit k
  have hlen : (pyT n c l).length ≤ (Z - 24).toNat := by have := h.py (n := n) (c := c); omega
  obtain ⟨_, o2, o3⟩ := Env.img_open hf k.hd hlen (by have := k.z0; omega) (by have := k.z1; omega)
  obtain ⟨f0, f1, f2, f3, f4, f5⟩ := Env.img_F (m := (Z - 24).toNat) hf
  rw [imR_eq h k, Lend.strOf_data]
  unfold rcO
  rw [if_pos ⟨o2, f0, f3, f4⟩, o3, op_py (h.f3 k) h.ch h.wf]
  simp
/-- what a record's image tells a reader of other numbers -/
theorem rcO_no {b' n' c' : Int} (h : OkR Z l) (k : OkN Z b n c) (hne : ¬ (b' = b ∧ n' = n ∧ c' = c)) : rcO b' n' c' (imR Z b n c l).data.toList = none := by
  have hf := h.fit k
  have hlen : (pyT n c l).length ≤ (Z - 24).toNat := by have := h.py (n := n) (c := c); omega
  obtain ⟨_, o2, o3⟩ := Env.img_open hf k.hd hlen (by have := k.z0; omega) (by have := k.z1; omega)
  obtain ⟨f0, f1, f2, f3, f4, f5⟩ := Env.img_F (m := (Z - 24).toNat) hf
  rw [imR_eq h k, Lend.strOf_data]
  unfold rcO
  rw [f3, f4]
  by_cases e : b = b' ∧ n = n'
  · rw [if_pos ⟨o2, f0, e.1, e.2⟩, o3, op_py (h.f3 k) h.ch h.wf]
    simp only
    rw [if_neg fun e2 => hne ⟨e.1.symm, e.2.symm, e2.2.symm⟩]
  · rw [if_neg fun e2 => e ⟨e2.2.2.1, e2.2.2.2⟩]
/-- noughts are no record -/
theorem rcO_zero (m : Nat) : rcO b n c (List.replicate m 0) = none := by
  unfold rcO
  have : Env.opE (List.replicate m (0 : UInt8)) ≠ 0 := by
    unfold Env.opE
    have : Env.opB (List.replicate m (0 : UInt8)) = false := by
      have e : Env.mkB (List.replicate m (0 : UInt8)) = false := by
        unfold Env.mkB
        cases m with
        | zero => rfl
        | succ m => simp [List.replicate_succ, Env.markL]
      unfold Env.opB; rw [e]; simp
    rw [this]; simp
  rw [if_neg fun e => this e.1]
/-! ### rings of records -/
/-- number n's block, in a ring of C blocks from F on -/
def bk (F C n : Int) : Int := F + n % C
/-- the checks that records link by -/
def chL : Int → Int → List (List Up) → Int
  | _, c, [] => c
  | n, c, l :: r => chL (n + 1) (lkN n c l : Nat) r
theorem chL_snoc : ∀ (r : List (List Up)) (n c : Int) (l : List Up), chL n c (r ++ [l]) = (lkN (n + r.length) (chL n c r) l : Nat)
  | [], n, c, l => by simp [chL]
  | a :: r, n, c, l => by
    show chL (n + 1) _ (r ++ [l]) = _
    rw [chL_snoc r (n + 1) _ l]
    show _ = ((lkN (n + ((r.length + 1 : Nat) : Int)) (chL (n + 1) (lkN n c a : Nat) r) l : Nat) : Int)
    rw [show n + 1 + (r.length : Int) = n + ((r.length + 1 : Nat) : Int) by omega]
theorem lkN_bd (n c : Int) (l : List Up) : lkN n c l < 4294967296 := by
  unfold lkN; split
  · exact Sum.chk_lt _ _
  · omega
theorem chL_bd {c : Int} (h0 : 0 ≤ c) (h1 : c < 4294967296) : ∀ (r : List (List Up)) (n : Int), 0 ≤ chL n c r ∧ chL n c r < 4294967296 := by
  intro r
  induction r generalizing c with
  | nil => exact fun _ => ⟨h0, h1⟩
  | cons l r ih => exact fun n => ih (by omega) (by have := lkN_bd n c l; omega) (n + 1)
/-- what both sides' blocks have: of a side and a block -/
abbrev F2 := Nat → Int → ByteArray
/-- the record of a block, and the image that it is told by -/
def rc2 (f : F2) (b n c : Int) : Option (List Up × ByteArray) := match rcO b n c (f 0 b).data.toList with
  | some l => some (l, f 0 b)
  | none => (rcO b n c (f 1 b).data.toList).map fun l => (l, f 1 b)
/-- a block that has an image on both sides -/
def heal (f : F2) (b : Int) (t : ByteArray) : F2 := fun s b' => if b' = b then t else f s b'
/-- how many sides of a block are healed -/
def rep (f : F2) (b : Int) (t : ByteArray) : Nat := (if f 0 b = t then 0 else 1) + (if f 1 b = t then 0 else 1)
theorem heal_eq {f : F2} {b : Int} {t : ByteArray} (h0 : f 0 b = t) (h1 : f 1 b = t) {s : Nat} (hs : s < 2) (b' : Int) : heal f b t s b' = f s b' := by
  unfold heal; split
  · rename_i e; subst e
    rcases (show s = 0 ∨ s = 1 by omega) with rfl | rfl
    · exact h0.symm
    · exact h1.symm
  · rfl
/-- from number n on, by the check c, records are told: these; what the blocks have then; how many sides were healed -/
inductive Tells (F C : Int) (f : F2) (n c : Int) : List (List Up) → F2 → Nat → Prop
  | nil : Tells F C f n c [] f 0
  | snoc {r g R l t} (h : Tells F C f n c r g R) (e : rc2 g (bk F C (n + r.length)) (n + r.length) (chL n c r) = some (l, t)) :
    Tells F C f n c (r ++ [l]) (heal g (bk F C (n + r.length)) t) (R + rep g (bk F C (n + r.length)) t)
/-- all that is there was told -/
def Done (F C : Int) (g : F2) (n c : Int) (r : List (List Up)) : Prop := (r.length : Int) = C ∨ rc2 g (bk F C (n + r.length)) (n + r.length) (chL n c r) = none
/-- record j of a log is there: on one side at least; on the other one it is, or nothing is -/
def There (Z F C : Int) (f : F2) (n c : Int) (r : List (List Up)) : Prop := ∀ j (hj : j < r.length),
  OkR Z r[j] ∧ OkN Z (bk F C (n + j)) (n + j) (chL n c (r.take j)) ∧
  (f 0 (bk F C (n + j)) = imR Z (bk F C (n + j)) (n + j) (chL n c (r.take j)) r[j] ∨
    rcO (bk F C (n + j)) (n + j) (chL n c (r.take j)) (f 0 (bk F C (n + j))).data.toList = none ∧ f 1 (bk F C (n + j)) = imR Z (bk F C (n + j)) (n + j) (chL n c (r.take j)) r[j])
/-- two numbers of one lap have other blocks -/
theorem bk_ne {F C n : Int} {i j : Nat} (hC : 0 < C) (hi : (i : Int) < C) (hj : (j : Int) < C) (h : i ≠ j) : bk F C (n + i) ≠ bk F C (n + j) := by
  intro e
  unfold bk at e
  have e2 : (n + i) % C = (n + j) % C := by omega
  have h1 : ((n + i) - (n + j)) % C = 0 := Int.emod_eq_emod_iff_emod_sub_eq_zero.1 e2
  obtain ⟨k, hk⟩ := Int.dvd_of_emod_eq_zero h1
  have hk0 : k = 0 := by
    rcases Int.lt_trichotomy k 0 with h' | h' | h'
    · have := Int.mul_le_mul_of_nonneg_left (show k ≤ -1 by omega) (show 0 ≤ C by omega); omega
    · exact h'
    · have := Int.mul_le_mul_of_nonneg_left (show 1 ≤ k by omega) (show 0 ≤ C by omega); omega
  subst hk0
  omega
theorem bk_bd {F C n : Int} (hC : 0 < C) : F ≤ bk F C n ∧ bk F C n < F + C := by
  unfold bk
  have := Int.emod_nonneg n (show C ≠ 0 by omega)
  have := Int.emod_lt_of_pos n hC
  omega
section
variable {F C : Int} {f g : F2} {known r : List (List Up)} {R : Nat}
/-- what is told of a ring whose records are there -/
theorem Tells.play (hC : 0 < C) (hlen : (known.length : Int) ≤ C) (hT : There Z F C f n c known) (hE : (known.length : Int) < C → ∀ g : F2, (∀ s, s < 2 → g s (bk F C (n + known.length)) = f s (bk F C (n + known.length))) → rc2 g (bk F C (n + known.length)) (n + known.length) (chL n c known) = none) (h : Tells F C f n c r g R) :
    (r.length : Int) ≤ C → r = known.take r.length ∧ r.length ≤ known.length ∧ (∀ s, s < 2 → ∀ j, j < r.length → (hj : j < known.length) → g s (bk F C (n + j)) = imR Z (bk F C (n + j)) (n + j) (chL n c (known.take j)) known[j]) ∧
      (∀ s, s < 2 → ∀ b, (∀ j, j < r.length → b ≠ bk F C (n + j)) → g s b = f s b) ∧
      R = ((List.range r.length).map fun j => (if f 0 (bk F C (n + (j : Nat))) = imR Z (bk F C (n + (j : Nat))) (n + (j : Nat)) (chL n c (known.take j)) (known[j]?.getD []) then 0 else 1) + (if f 1 (bk F C (n + (j : Nat))) = imR Z (bk F C (n + (j : Nat))) (n + (j : Nat)) (chL n c (known.take j)) (known[j]?.getD []) then 0 else 1)).sum := by
  induction h with
  | nil => exact fun _ => ⟨rfl, Nat.zero_le _, fun _ _ j hj => absurd hj (Nat.not_lt_zero j), fun _ _ _ _ => rfl, rfl⟩
  | @snoc r g R l t h e ih =>
    intro hl
    rw [List.length_append, List.length_singleton] at hl
    obtain ⟨i1, i2, i3, i4, i5⟩ := ih (by omega)
    have hg : ∀ s, s < 2 → g s (bk F C (n + r.length)) = f s (bk F C (n + r.length)) := fun s hs => i4 s hs _ fun j hj => bk_ne hC (by omega) (by omega) (by omega)
    have hlt : r.length < known.length := by
      rcases Nat.lt_or_ge r.length known.length with h | h
      · exact h
      · have e1 : r.length = known.length := by omega
        have e2 : r = known := by rw [i1, e1, List.take_length]
        rw [e2] at e hl hg
        rw [hE (by omega) g hg] at e
        cases e
    obtain ⟨t1, t2, t3⟩ := hT r.length hlt
    rw [← i1] at t2 t3
    have him := rcO_im t1 t2
    have hlt2 : l = known[r.length] ∧ t = imR Z (bk F C (n + r.length)) (n + r.length) (chL n c r) known[r.length] := by
      unfold rc2 at e
      rw [hg 0 (by omega), hg 1 (by omega)] at e
      rcases t3 with t3 | ⟨t3, t4⟩
      · rw [t3, him] at e
        simp only [Option.some.injEq, Prod.mk.injEq] at e
        exact ⟨e.1.symm, e.2.symm⟩
      · rw [t3, t4, him] at e
        simp only [Option.map_some, Option.some.injEq, Prod.mk.injEq] at e
        exact ⟨e.1.symm, e.2.symm⟩
    obtain ⟨rfl, rfl⟩ := hlt2
    rw [List.length_append, List.length_singleton]
    refine ⟨?_, hlt, fun s hs j hj hj2 => ?_, fun s hs b hb => ?_, ?_⟩
    · rw [← List.take_append_getElem hlt, ← i1]
    · unfold heal
      by_cases ej : j = r.length
      · subst ej; rw [if_pos rfl, ← i1]
      · rw [if_neg (bk_ne hC (by omega) (by omega) ej)]; exact i3 s hs j (by omega) hj2
    · unfold heal
      rw [if_neg (hb r.length (by omega))]
      exact i4 s hs b fun j hj => hb j (by omega)
    · rw [List.range_succ, List.map_append, List.sum_append, ← i5]
      simp only [List.map_cons, List.map_nil, List.sum_cons, List.sum_nil, Nat.add_zero]
      unfold rep
      rw [hg 0 (by omega), hg 1 (by omega), ← i1, List.getElem?_eq_getElem hlt, Option.getD_some]
end
end
end Go.Proofs.YtflanjcfkdjpjaaGreatDoor.Wal


/- Layer 13's laws: what is done to a device, where no side is gone and nothing was moved; fresh, again. -/
namespace Go.Proofs.YtflanjcfkdjpjaaGreatDoor.Wal
open Go Go.RowKit Go.Proofs.YtflanjcfkdjpjaaGreatDoor Dev Tab Rem Go.Maps Go.WideMaps Mir
set_option linter.unusedVariables false
section
variable {w0 w w' : World} {X Y Z : List Nat} {q c mm tb bb R s b : Nat} {pd : Nat → Nat} {S : Nat → Sd} {G : Nat → Bool}
theorem mg_chg (h : MG w0 Y mm tb bb q pd S G c R w) (hc : Chg (fun k => k ∈ Y) w w') : MG w0 Y mm tb bb q pd S G c R w' := by
  have hblk : ∀ k, k ∉ Y → k < w.heap.size → w'.heap[k]? = w.heap[k]? := fun k h1 h2 => hc.block k h2 h1
  obtain ⟨n, D, h1, h2, h3⟩ := h.map
  exact ⟨h.cg.chg (hc.mono (fun k _ hk => by simp [hk])), h.fit, Has.same h.row (hblk mm h.my.1 h.lt), Mir.tab_same h.tab (hblk tb h.my.2.1 (h.cg.x tb (by simp)).2), h.mt, h.my, n, D, h1, mapB_same h2 (hblk bb h.my.2.2 (h.cg.x bb (by simp)).2), h3⟩
end
/-! ### what is done to a device, where no side is gone and nothing was moved -/
/-- nothing was moved, and no sector is bad -/
structure Pl (S : Nat → Sd) : Prop where
  nb : NoBad S
  m : ∀ t, t < 2 → (S t).m = []
theorem Pl.pl {S : Nat → Sd} (h : Pl S) {t b : Nat} (ht : t < 2) : pl (S t) b = 4 + b := by
  unfold Rem.pl
  rw [h.m t ht]
  have : plc 16 [] (b : Int) = b := rfl
  rw [this]; omega
theorem Pl.st {S S' : Nat → Sd} {G : Nat → Bool} {b : Nat} {d : ByteArray} {P : Nat → Prop} (h : Pl S) (k : St S S' G b d P) : Pl S' := ⟨k.nb h.nb, fun t ht => (k.m0 h.nb t ht).trans (h.m t ht)⟩
theorem Pl.new {S : Nat → Sd} (h0 : New (S 0)) (h1 : New (S 1)) : Pl S := by
  refine ⟨fun t ht i hi hi2 => ?_, fun t ht => ?_⟩
  · rcases (show t = 0 ∨ t = 1 by omega) with rfl | rfl
    · exact (h0.2 i hi hi2).2
    · exact (h1.2 i hi hi2).2
  · rcases (show t = 0 ∨ t = 1 by omega) with rfl | rfl
    · exact h0.1
    · exact h1.1
/-- a sector has other bytes -/
def setV (S : Nat → Sd) (s i : Nat) (t : ByteArray) : Nat → Sd := setS S s (upd (S s).V i t) (S s).B
theorem setV_m (S : Nat → Sd) (s i : Nat) (t : ByteArray) (u : Nat) : (setV S s i t u).m = (S u).m := setS_m _ _ _ _ _
theorem setV_B (S : Nat → Sd) (s i : Nat) (t : ByteArray) (u : Nat) : (setV S s i t u).B = (S u).B := by
  unfold setV
  by_cases e : u = s
  · subst e; rw [setS_same]
  · rw [setS_ne _ _ _ e]
theorem Pl.setV {S : Nat → Sd} (h : Pl S) (s i : Nat) (t : ByteArray) : Pl (setV S s i t) := ⟨fun u hu j h1 h2 => by rw [setV_B]; exact h.nb u hu j h1 h2, fun u hu => by rw [setV_m]; exact h.m u hu⟩
theorem setV_cont {S : Nat → Sd} {G : Nat → Bool} (h : Pl S) {s u b b' : Nat} {t : ByteArray} (hu : u < 2) (hb : b' < 16) (hG : G u = false) : cont (setV S s (4 + b) t) G u b' = if u = s ∧ b' = b then some t else cont S G u b' := by
  have hp := (h.setV s (4 + b) t).pl (b := b') hu
  have hp' := h.pl (b := b') hu
  have hB := h.nb u hu (4 + b') (by omega) (by omega)
  unfold cont
  rw [hp, hp', setV_B, hB, hG]
  simp only [Bool.false_eq_true, or_self, if_false]
  by_cases e : u = s
  · subst e
    unfold Wal.setV
    rw [setS_same]
    show some (upd (S u).V (4 + b) t (4 + b')) = _
    by_cases eb : b' = b
    · subst eb; rw [upd_same, if_pos ⟨rfl, rfl⟩]
    · rw [upd_ne _ _ (by omega), if_neg (fun h => eb h.2)]
  · unfold Wal.setV
    rw [setS_ne _ _ _ e, if_neg (fun h => e h.1)]
theorem setV_fit {S : Nat → Sd} {G : Nat → Bool} (h : Fit S G) (s i : Nat) (t : ByteArray) : Fit (setV S s i t) G := by
  refine ⟨fun u hu j h1 h2 => ?_, ?_⟩
  · rw [setV_B]; rw [setV_m] at h1; exact h.1 u hu j h1 h2
  · rcases h.2 with h | h
    · exact .inl h
    · exact .inr (fun u hu j h1 h2 => by rw [setV_B]; exact h u hu j h1 h2)
section
variable {w0 w w' : World} {X Y Z : List Nat} {q c mm tb bb R s b : Nat} {pd : Nat → Nat} {S : Nat → Sd} {G : Nat → Bool}
theorem garble_g (h : CG w0 X q pd S G c w) (hs : s < 2) (hG : G s = false) {i : Nat} (hi4 : 4 ≤ i) (hi : i < 24) (hc : c ≤ 1000000) (a : Nat) (y : UInt8) (p : Nat) (hp : p = pd s) (v : Int) (hv : v = i) (u : Int) (hu : u = a) :
    Calls Tryz.prog 23 #[.pointer (some ⟨p, 0, none⟩), .int .i64 v, .int .i64 u, .int .u8 y.toNat] w fun e w' => e = .returned (.tuple #[]) ∧ CG w0 X q pd (setV S s i (turnB ((S s).V i) (a % 192) y)) G c w' ∧ Same X w w' := by
  subst hp; subst hv; subst hu
  obtain ⟨⟨D, h1, h2⟩, h3⟩ := h
  have hcd := h2 s hs
  refine (h1.dev (R := fun e => e = .returned (.tuple #[])) (G := fun E => E = (D s).garbleD (i : Nat) (a : Nat) y) hs fun sb cv hd => (garble_any (i : Nat) (a : Nat) y w hd (by have := hcd.cache; omega)).mono ?_).mono ?_
  · rintro e w' ⟨rfl, hch, hd⟩
    exact ⟨rfl, _, rfl, .same hch hd⟩
  · rintro e w' ⟨rfl, E, rfl, hc', hsm⟩
    rw [hG] at hcd
    have hcd : Cd (D s) 24 192 (S s).V (S s).B c := hcd
    have hE : SideG ((D s).garbleD (i : Nat) (a : Nat) y) ⟨upd (S s).V i (turnB ((S s).V i) (a % 192) y), (S s).B, (S s).m⟩ false c := Rem.Cd.garble hcd hi a y
    have := CPe.setG hc' h2 hE (Nat.le_refl _)
    rw [show upd G s false = G from by rw [← hG]; exact upd_self _ _] at this
    exact ⟨rfl, ⟨this, h3.setS (fun j hj => upd_ne _ _ (by omega)) (fun j hj => h3.2.1 s hs j hj)⟩, fun k hk => hsm k (by simp [hk])⟩
theorem garble_m (h : MG w0 Y mm tb bb q pd S G c R w) (hs : s < 2) (hG : G s = false) {i : Nat} (hi4 : 4 ≤ i) (hi : i < 24) (hc : c ≤ 1000000) (a : Nat) (y : UInt8) (p : Nat) (hp : p = pd s) (v : Int) (hv : v = i) (u : Int) (hu : u = a) :
    Calls Tryz.prog 23 #[.pointer (some ⟨p, 0, none⟩), .int .i64 v, .int .i64 u, .int .u8 y.toNat] w fun e w' => e = .returned (.tuple #[]) ∧ MG w0 Y mm tb bb q pd (setV S s i (turnB ((S s).V i) (a % 192) y)) G c R w' ∧ Same Y w w' :=
  (garble_g h.cg hs hG hi4 hi hc a y p hp v hv u hu).mono fun e w' ⟨h1, h2, h3⟩ => ⟨h1, h.go h2 h3 (setV_fit h.fit _ _ _) (fun t ht => by rw [setV_m]; omega) (Nat.le_refl _), same_y h3⟩
end
/-! ### fresh, again -/
theorem format_x {w0 w : World} {X : List Nat} {pa pb : Nat} (h : Dvs w0 X (pdOf pa pb) (fun _ => Dv.fresh 24 192) w) : Calls Tryz.prog 27 #[.pointer (some ⟨pa, 0, none⟩), .pointer (some ⟨pb, 0, none⟩), .int .i64 4] w fun e w' => ∃ q S, e = .returned (.tuple #[.pointer (some ⟨q, 0, none⟩), .int .i64 0]) ∧ CP w0 X q (pdOf pa pb) S 4 w' ∧ New (S 0) ∧ New (S 1) ∧ Same X w w' := by
  refine (format_e h (both00.sz (by omega))).mono ?_
  rintro e w' ⟨q, rfl, hq, hc, hsm⟩
  obtain ⟨k0, k1⟩ := both00.keepBoth (m := fun _ => []) (fun _ _ => good0)
  obtain ⟨s1, s2⟩ := slots2 (S := S00) (m := fun _ => []) (fun _ _ => good0) (fun _ _ _ _ => rfl) (fun t ht => Below_.fresh (fun _ _ _ _ => rfl) ht)
  rw [k0]
  have hmm : (fun _ => ([] : List Int)) = mOf (kept (kept S00 0 []) 1 []) := by rw [mOf_kept, mOf_kept]; funext t; unfold upd mOf S00; split <;> (try split) <;> rfl
  refine ⟨q, kept (kept S00 0 []) 1 [], rfl, (k1.cp (by rw [← hmm]; exact hc) s1).mono (by omega), ⟨s2 0 (by omega), fun i h1 h2 => ?_⟩, ⟨s2 1 (by omega), fun i h1 h2 => ?_⟩, hsm⟩
  · refine ⟨?_, ?_⟩
    · rw [(kept_far (s := 1) (by omega) (by omega)).1 i h1, (kept_far (s := 0) (by omega) (by omega)).1 i h1]; rfl
    · rw [(kept_far (s := 1) (by omega) (by omega)).2.1, (kept_far (s := 0) (by omega) (by omega)).2.1]; rfl
  · refine ⟨?_, ?_⟩
    · rw [(kept_far (s := 1) (by omega) (by omega)).1 i h1, (kept_far (s := 0) (by omega) (by omega)).1 i h1]; rfl
    · rw [(kept_far (s := 1) (by omega) (by omega)).2.1, (kept_far (s := 0) (by omega) (by omega)).2.1]; rfl
set_option maxHeartbeats 2000000 in
set_option maxRecDepth 100000 in
theorem fresh_any (w : World) : Calls Tryz.prog 7 #[] w fun e w' => ∃ pa pb mm tb bb q S, e = .returned (.tuple #[.agg #[.pointer (some ⟨pa, 0, none⟩), .pointer (some ⟨pb, 0, none⟩)], .pointer (some ⟨mm, 0, none⟩), .bool true]) ∧ MG w [] mm tb bb q (pdOf pa pb) S noG 4 0 w' ∧ New (S 0) ∧ New (S 1) := by
  have HB0 := Lib.hid (b_new w (.cells #[.pointer none, .pointer none] 26))
  have HH0 := Lib.hid (Has.new w [.pointer none, .pointer none] 26)
  go_enter Tryz.func7, Tryz.ntmps7
  go_wp2_with fail
  refine (new_yes 24 192 _ rfl).mono ?_
  rintro e w1 ⟨pa, sa, hpa, hsa, rfl, hd, hb⟩
  have HD := Lib.hid hd
  have HB := Lib.hid hb
  have HPA := Lib.hid (And.intro hpa hsa)
  clear hd hb hpa hsa
  go_wp2_with fail
  refine (new_yes 24 192 w1 rfl).mono ?_
  rintro e w2 ⟨pb, sb, hpb, hsb, rfl, hd, hb⟩
  obtain ⟨p, hp⟩ : ∃ p, p = w.heap.size := ⟨_, rfl⟩
  have hszp : p < w1.heap.size := by have := HB.out.size; simp at this; omega
  have HT := Lib.hid (show Dvs w [p] (pdOf pa pb) (fun _ => Dv.fresh 24 192) w2 from by
    have h0 := HB0.out.size
    have h1 := HB.out.size
    have h2 := hb.size
    have hs0 : (w.alloc (.cells #[.pointer none, .pointer none] 26)).heap.size = p + 1 := by simp [hp]
    rw [hs0] at h1
    obtain ⟨ha, hsa⟩ := HPA.out
    rw [hs0] at ha hsa
    refine ⟨⟨pdOf sa sb, fun _ => .slice none 0 0, fun s hs => ?_, fun s hs k hk => ?_, fun k hk hk2 => ?_⟩, fun k hk => ?_, HB0.out.trans ((HB.out.trans (hb.mono (by rw [hs0]; exact h1))).mono h0)⟩
    · rcases (show s = 0 ∨ s = 1 by omega) with rfl | rfl
      · exact HD.out.below hb (Nat.le_refl _)
      · exact hd
    · rw [List.mem_singleton]
      rcases (show s = 0 ∨ s = 1 by omega) with rfl | rfl
      · have hk : foot pa sa (.slice none 0 0) k := hk
        rcases hk with rfl | rfl | h
        · omega
        · omega
        · cases h
      · have hk : foot pb sb (.slice none 0 0) k := hk
        rcases hk with rfl | rfl | h
        · omega
        · omega
        · cases h
    · have hk : foot pa sa (.slice none 0 0) k := hk
      have hk2 : foot pb sb (.slice none 0 0) k := hk2
      have hlt := HD.out.lt k hk
      rcases hk2 with rfl | rfl | h
      · omega
      · omega
      · cases h
    · rw [List.mem_singleton] at hk; subst hk; omega)
  have HH2 := Lib.hid ((HH0.out.below HB.out (by simp)).below hb (by rw [← hp]; exact hszp))
  rw [← hp] at HH2
  clear hd hb HD HB HPA HB0 HH0 hpb hsb
  go_wp2_with fail
  refine (format_x HT.out).mono ?_
  rintro e w3 ⟨q, S, rfl, hc, h0, h1, hsm⟩
  have HC := Lib.hid hc
  have HH3 := Lib.hid (Has.same HH2.out (hsm p (by simp)))
  have H0 := Lib.hid h0
  have H1 := Lib.hid h1
  clear hc h0 h1 hsm HT HH2
  go_wp2_with fail
  refine (New_m HC.out (fun t ht => by
    rcases (show t = 0 ∨ t = 1 by omega) with rfl | rfl
    · exact H0.out.spare
    · exact H1.out.spare)).mono ?_
  rintro e w4 ⟨mm, tb, bb, rfl, hm, hsm⟩
  have HM := Lib.hid hm
  have HH4 := Lib.hid (Has.same HH3.out (hsm p (by simp)))
  have e0 := HH4.out.cell 0
  have e1 := HH4.out.cell 1
  simp only [List.getElem?_cons_zero, List.getElem?_cons_succ] at e0 e1
  have f0 := Has.frozen HH4.out 0
  have f1 := Has.frozen HH4.out 1
  have h2 := (HH4.out.set 0 (.pointer (some ⟨pa, 0, none⟩))).set 1 (.pointer (some ⟨pb, 0, none⟩))
  have r0 := h2.cell 0
  have r1 := h2.cell 1
  simp only [List.set_cons_zero, List.set_cons_succ, List.getElem?_cons_zero, List.getElem?_cons_succ] at r0 r1
  have HM5 := Lib.hid ((mg_chg HM.out (((Chg.refl _ w4).setCell (p := ⟨p, 0, none⟩) (fun _ => by simp) (.pointer (some ⟨pa, 0, none⟩))).setCell (p := ⟨p, 1, none⟩) (fun _ => by simp) (.pointer (some ⟨pb, 0, none⟩)))).sub (Z := []) (by simp))
  rw [hp] at e0 e1 f0 f1 r0 r1 HM5
  clear h2 hm hsm hszp
  go_wp2
  refine bodyPost_ret (v := .tuple #[.agg #[.pointer (some ⟨pa, 0, none⟩), .pointer (some ⟨pb, 0, none⟩)], .pointer (some ⟨mm, 0, none⟩), .bool true]) (by simp [results, Tryz.results7, go_sem, r0, r1]) rfl ⟨pa, pb, mm, tb, bb, q, S, rfl, HM5.out, H0.out, H1.out⟩
set_option maxHeartbeats 2000000 in
set_option maxRecDepth 100000 in
/-- the devices' mirror anew: what it reads is what it was -/
theorem again_any {w0 w : World} {X : List Nat} {q c pa pb : Nat} {S : Nat → Sd} (h : CP w0 X q (pdOf pa pb) S c w) (hS : ∀ t, t < 2 → Spare (S t)) (hc : c ≤ 700000) : Calls Tryz.prog 13 #[.agg #[.pointer (some ⟨pa, 0, none⟩), .pointer (some ⟨pb, 0, none⟩)]] w fun e w' => ∃ mm tb bb q', e = .returned (.tuple #[.pointer (some ⟨mm, 0, none⟩), .bool true]) ∧ MG w0 X mm tb bb q' (pdOf pa pb) S noG c 0 w' ∧ Same X w w' := by
  have HC := Lib.hid h
  have HS := Lib.hid hS
  have HB0 := Lib.hid (b_new w (.cells #[.pointer (some ⟨pa, 0, none⟩), .pointer (some ⟨pb, 0, none⟩)] 26))
  have HC1 := Lib.hid (h.later HB0.out)
  have HS1 := Lib.hid (Same.of_below h HB0.out)
  have HL := Lib.hid hc
  have HH0 := Has.new w [.pointer (some ⟨pa, 0, none⟩), .pointer (some ⟨pb, 0, none⟩)] 26
  have e0 := HH0.cell 0
  have e1 := HH0.cell 1
  simp only [List.getElem?_cons_zero, List.getElem?_cons_succ] at e0 e1
  clear h hS hc HH0
  go_enter Tryz.func13, Tryz.ntmps13
  go_wp2_with fail
  refine (open_c HC1.out (by have := HL.out; omega)).mono ?_
  rintro e w2 ⟨q', P, rfl, hc2, hp, hsm⟩
  have HC2 := Lib.hid (hc2.sub (Y := X) (fun k hk => List.mem_append_right _ hk))
  have HS2 := Lib.hid (HS1.out.trans hsm)
  clear hc2 hp hsm e0 e1
  go_wp2_with fail
  refine (New_m HC2.out HS.out).mono ?_
  rintro e w3 ⟨mm, tb, bb, rfl, hm, hsm⟩
  have HM := Lib.hid hm
  have HS3 := Lib.hid (HS2.out.trans hsm)
  clear hm hsm
  go_wp2
  refine bodyPost_ret (v := .tuple #[.pointer (some ⟨mm, 0, none⟩), .bool true]) (by simp [results, Tryz.results13, go_sem]) rfl ⟨mm, tb, bb, q', rfl, HM.out, HS3.out⟩
end Go.Proofs.YtflanjcfkdjpjaaGreatDoor.Wal


/- Layer 13's laws: updates. -/
namespace Go.Proofs.YtflanjcfkdjpjaaGreatDoor.Wal
open Go Go.RowKit Go.Proofs.YtflanjcfkdjpjaaGreatDoor Go.Proofs.YtflanjcfkdjpjaaGreatDoor.Lend Rec
set_option linter.unusedVariables false
/-- a row of the document's updates -/
abbrev RU (w : World) (base : Nat) (v : Value) (l : List Up) : Prop := w.ownsRow base 101 4 v l.length (flatU l)
theorem info_ur : (Tryz.prog.info? 101).map (fun i => (i.zero, i.size, i.bytes)) = some (some (.agg #[.int .u8 0, .string ⟨#[]⟩, .string ⟨#[]⟩, .int .u64 0]), 4, 48) := by kernel_rfl
/-- an update, cut off -/
def ctU (u : Up) : Up := ⟨u.kind, u.key.take 20, u.val.take 36, u.delta⟩
def ofL (l : List Up) : List Up := (l.take 5).map ctU
theorem ofL_length (l : List Up) : (ofL l).length = min 5 l.length := by simp [ofL]
theorem ofL_wf {l : List Up} (h : ∀ u ∈ l, WfU u) : ∀ u ∈ ofL l, WfU u := by
  intro u hu
  obtain ⟨x, hx, rfl⟩ := List.mem_map.1 hu
  exact h x (List.mem_of_mem_take hx)
/-- texts that a machine can hold -/
def SzU (u : Up) : Prop := u.key.length ≤ 9223372036854775807 ∧ u.val.length ≤ 9223372036854775807
/-- what updates answers -/
def lenP (m : List Up) : Int := if m = [] then 0 else ((txT m).length : Int)
def errP (m : List Up) : Int := if m = [] then 2 else errL m
def UpsP (w : World) (m : List Up) (e : Ending) (w' : World) : Prop := ∃ a, e = .returned (.tuple #[a, .int .i64 (lenP m), .int .i64 (errP m)]) ∧ RA w' w.heap.size a m ∧ Below w.heap.size w w'
theorem ra_ru {w : World} {B B' : Nat} {v v' : Value} {l l' : List Up} (h : RA w B v l) (h' : RU w B' v' l') : ∀ k, v.ownBlock = some k → v'.ownBlock ≠ some k := by
  intro k hk hk'
  rcases h.2 with ⟨rfl, _⟩ | ⟨g, cap, cur, rfl, _, hg, _⟩
  · cases hk
  · rcases h'.2 with ⟨rfl, _⟩ | ⟨g', cap', cur', rfl, _, hg', _⟩
    · cases hk'
    · have e1 : g = k := by simpa [Value.ownBlock] using hk
      have e2 : g' = k := by simpa [Value.ownBlock] using hk'
      subst e1 e2
      rw [hg] at hg'
      simp at hg'
/-- both rows, and the update's block -/
structure Ox (w0 : World) (av bv : Value) (m : List Up) (w : World) : Prop where
  ra : RA w w0.heap.size av m
  ru : RU w w0.heap.size bv m
  bel : Below w0.heap.size w0 w
theorem Ox.on {w0 w w' : World} {av bv : Value} {m : List Up} (h : Ox w0 av bv m w) (hb : Below w.heap.size w w') : Ox w0 av bv m w' := ⟨own_bel h.ra hb, own_bel h.ru hb, below_on h.bel hb⟩
theorem Ox.set {w0 w : World} {av bv : Value} {m : List Up} (h : Ox w0 av bv m w) {X : Nat} (hX : w0.heap.size ≤ X) (ha : ∀ k, av.ownBlock = some k → k < X) (hb : ∀ k, bv.ownBlock = some k → k < X) (i : Nat) (x : Value) : Ox w0 av bv m (w.setCell ⟨X, i, none⟩ x) :=
  ⟨owns_same h.ra fun k e => Below.heap_setCell _ _ _ _ (fun e2 => by have h1 := ha k e; subst e2; exact Nat.lt_irrefl _ h1), owns_same h.ru fun k e => Below.heap_setCell _ _ _ _ (fun e2 => by have h1 := hb k e; subst e2; exact Nat.lt_irrefl _ h1), h.bel.setCell hX x⟩
theorem ofL_snoc {l : List Up} {k : Nat} (hk : k < l.length) (h : k < 5) : ofL (l.take (k + 1)) = ofL (l.take k) ++ [ctU l[k]] := by
  unfold ofL
  rw [List.take_take, List.take_take, Nat.min_eq_right (by omega), Nat.min_eq_right (by omega), List.take_succ_eq_append_getElem hk, List.map_append]
  rfl
/-- what holds while the update is cut off -/
def Hx (w0 : World) (av bv : Value) (m : List Up) (X : Nat) (kd : Int) (K V : ByteArray) (dl : Int) (w : World) : Prop := Has w X 100 [.int .u8 kd, .string K, .string V, .int .u64 dl] ∧ Ox w0 av bv m w
theorem below_drw (w : World) : Below w.heap.size w w.drew := (Below.refl _ _).drew
theorem takeN (n : Nat) (x : List UInt8) : (Lend.strOf x).extract 0 (min (Lend.strOf x).size n) = Lend.strOf (x.take n) := by
  apply Lend.strOf_ext
  rw [Lib.extract_data, Lend.strOf_data, List.drop_zero, Nat.sub_zero, ssize, List.take_eq_take_iff]; omega
end Go.Proofs.YtflanjcfkdjpjaaGreatDoor.Wal


/- Layer 13's laws: head, flat. -/
namespace Go.Proofs.YtflanjcfkdjpjaaGreatDoor.Wal
open Go Go.RowKit Go.Proofs.YtflanjcfkdjpjaaGreatDoor Go.Proofs.YtflanjcfkdjpjaaGreatDoor.Lend Rec
set_option linter.unusedVariables false

set_option maxHeartbeats 4000000 in
set_option maxRecDepth 100000 in
/-- a list of updates is the beginning of itself -/
theorem head_any {va vb : Value} {l : List Up} {w : World} (ha : UR w va l) (hb : UR w vb l) (hl : l.length ≤ 1000000) :
    Calls Tryz.prog 14 #[va, vb] w fun e w' => e = .returned (.bool true) ∧ Below w.heap.size w w' := by
  obtain ⟨a, ca, rfl, hca⟩ := ha.form
  obtain ⟨b, cb, rfl, hcb⟩ := hb.form
  obtain ⟨n, hn⟩ : ∃ n, n = l.length := ⟨_, rfl⟩
  have HN := Lib.hid hn
  have HA := Lib.hid hca
  have HBB := Lib.hid hcb
  rw [← hn] at hl ⊢
  clear hn ha hb hca hcb
  have hnn : ¬ (n : Int) < (n : Int) := by omega
  go_enter Tryz.func14, Tryz.ntmps14
  go_wp2_with fail
  go_loopw [13] (fun i wr => ∃ k : Nat, k ≤ n ∧ i = .int .i64 k ∧ ∃ q, wr = w.drewN q) (fun i _ => n - (intOf i).toNat)
  case atStart => exact ⟨0, Nat.zero_le _, rfl, 0, rfl⟩
  case round =>
    obtain ⟨k, hk, rfl, q, rfl⟩ := hrel
    by_cases hlt : k < n
    · have hke : k < l.length := by rw [← HN.out]; exact hlt
      have hki : (k : Int) < (n : Int) := by omega
      obtain ⟨g, off, rfl, hc⟩ := HA.out (by omega)
      obtain ⟨g', off', rfl, hd⟩ := HBB.out (by omega)
      obtain ⟨u, hu⟩ : ∃ u, u = l[k] := ⟨_, rfl⟩
      have hc := hc k hke
      have hd := hd k hke
      rw [← hu] at hc hd
      have c0 : w.cell? ⟨g, off + k * 4, none⟩ = some (.int .u8 u.kind) := hc 0 (by omega)
      have c1 : w.cell? ⟨g, off + k * 4 + 1, none⟩ = some (.string (Lend.strOf u.key)) := hc 1 (by omega)
      have c2 : w.cell? ⟨g, off + k * 4 + 2, none⟩ = some (.string (Lend.strOf u.val)) := hc 2 (by omega)
      have c3 : w.cell? ⟨g, off + k * 4 + 3, none⟩ = some (.int .u64 u.delta) := hc 3 (by omega)
      have d0 : w.cell? ⟨g', off' + k * 4, none⟩ = some (.int .u8 u.kind) := hd 0 (by omega)
      have d1 : w.cell? ⟨g', off' + k * 4 + 1, none⟩ = some (.string (Lend.strOf u.key)) := hd 1 (by omega)
      have d2 : w.cell? ⟨g', off' + k * 4 + 2, none⟩ = some (.string (Lend.strOf u.val)) := hd 2 (by omega)
      have d3 : w.cell? ⟨g', off' + k * 4 + 3, none⟩ = some (.int .u64 u.delta) := hd 3 (by omega)
      have hki0 : 0 ≤ (k : Int) := by omega
      clear hc hd hu hke
      go_wp2_with fail
      go_quiet (fail)
      go_wp2_with fail
      go_roundw
      case rel => exact ⟨k + 1, by omega, by go_num, _, rfl⟩
      case measure => simp [intOf]; omega
    · have hkn : ¬ (k : Int) < (n : Int) := by omega
      go_wp2_with fail
      go_ret
      exact ⟨rfl, below_drewN (Below.refl _ _) _⟩
/-- a slice of records: numbers from n on, linked by the check c ahead of them -/
def RS (w : World) (v : Value) (n c : Int) (r : List (List Up)) : Prop := ∃ a cap, v = .slice a r.length cap ∧ (0 < r.length → ∃ g off, a = some ⟨g, off, none⟩ ∧
  ∀ i (hi : i < r.length), ∃ u, w.cell? ⟨g, off + i * 3, none⟩ = some (.int .u64 (n + i)) ∧ w.cell? ⟨g, off + i * 3 + 1, none⟩ = some (.int .u32 (chL n c (r.take i))) ∧ w.cell? ⟨g, off + i * 3 + 2, none⟩ = some u ∧ UR w u r[i])
theorem RS.below {w w' : World} {v : Value} {n c : Int} {r : List (List Up)} (h : RS w v n c r) (hb : Below w.heap.size w w') : RS w' v n c r := by
  obtain ⟨a, cap, rfl, hx⟩ := h
  refine ⟨a, cap, rfl, fun h0 => ?_⟩
  obtain ⟨g, off, rfl, hc⟩ := hx h0
  refine ⟨g, off, rfl, fun i hi => ?_⟩
  obtain ⟨u, h1, h2, h3, h4⟩ := hc i hi
  exact ⟨u, (hb.cell (World.block_lt_of_cell? _ _ h1)).trans h1, (hb.cell (World.block_lt_of_cell? _ _ h2)).trans h2, (hb.cell (World.block_lt_of_cell? _ _ h3)).trans h3, h4.below hb⟩
/-- the cells of a slice of updates -/
theorem UR.news {w : World} {v : Value} {l : List Up} (h : UR w v l) (h0 : l ≠ []) : ∃ g off cap, v = .slice (some ⟨g, off, none⟩) l.length cap ∧ ∀ j u, (flatU l)[j]? = some u → w.cell? ((⟨g, off, none⟩ : Addr).add j) = some u := by
  obtain ⟨a, cap, rfl, hx⟩ := h.form
  obtain ⟨g, off, rfl, hc⟩ := hx (List.length_pos_iff.2 h0)
  refine ⟨g, off, cap, rfl, fun j u hj => ?_⟩
  have hlt : j < l.length * 4 := by
    have := flatU_length l
    rcases Nat.lt_or_ge j (flatU l).length with h | h
    · omega
    · rw [List.getElem?_eq_none h] at hj; cases hj
  have e : j = j / 4 * 4 + j % 4 := by omega
  have h1 := hc (j / 4) (by omega) (j % 4) (by omega)
  rw [Addr.add_lit]
  have h2 := flatU_get l (j / 4) (by omega) (j % 4) (by omega)
  rw [← e] at h2
  rw [← h2, hj] at h1
  rw [← h1]
  congr 2
  omega
theorem flatU_one {l : List Up} : ∀ x ∈ flatU l, x.oneCell' = true := by
  intro x hx
  obtain ⟨u, _, hu⟩ := List.mem_flatMap.1 hx
  exact enc_one u x hu
theorem flatU_app (a b : List Up) : flatU (a ++ b) = flatU a ++ flatU b := by unfold flatU; simp
set_option maxHeartbeats 4000000 in
set_option maxRecDepth 100000 in
theorem flat_any {v : Value} {n c : Int} {r : List (List Up)} {w : World} (h : RS w v n c r) (hr : r.length ≤ 1000) (hne : ∀ l ∈ r, l ≠ []) (hlen : r.flatten.length ≤ 1000000) :
    Calls Tryz.prog 15 #[v] w fun e w' => ∃ v', e = .returned v' ∧ RA w' w.heap.size v' r.flatten ∧ Below w.heap.size w w' := by
  obtain ⟨ia, hia, hza0, hza1, hza2⟩ := info_parts info_up
  obtain ⟨a, cap, rfl, hx⟩ := h
  have HX := Lib.hid hx
  have HNE := Lib.hid hne
  have HL := Lib.hid hlen
  obtain ⟨m, hm⟩ : ∃ m, m = r.length := ⟨_, rfl⟩
  have HM := Lib.hid hm
  rw [← hm] at hr ⊢
  clear hx hne hlen hm
  go_enter Tryz.func15, Tryz.ntmps15
  go_wp2_with fail
  go_loopw [3, 8] (fun av i wr => ∃ (k : Nat) (av' : Value), k ≤ m ∧ av' = av ∧ i = .int .i64 k ∧ RA wr w.heap.size av' (r.take k).flatten ∧ Below w.heap.size w wr) (fun _ i _ => m - (intOf i).toNat)
  case atStart => exact ⟨0, _, Nat.zero_le _, rfl, rfl, World.ownsRow_nil _ _ _ _, Below.refl _ _⟩
  case round =>
    obtain ⟨k, av, hk, rfl, rfl, hra, hbl⟩ := hrel
    by_cases hlt : k < m
    · have hke : k < r.length := by rw [← HM.out]; exact hlt
      have hki : (k : Int) < (m : Int) := by omega
      obtain ⟨g, off, rfl, hc⟩ := HX.out (by omega)
      obtain ⟨u, d0, d1, d2, d3⟩ := hc k hke
      have c0 := (hbl.cell (World.block_lt_of_cell? _ _ d0)).trans d0
      have c1 := (hbl.cell (World.block_lt_of_cell? _ _ d1)).trans d1
      have c2 := (hbl.cell (World.block_lt_of_cell? _ _ d2)).trans d2
      obtain ⟨L, hL⟩ : ∃ L, L = r[k] := ⟨_, rfl⟩
      have hsn : (r.take (k + 1)).flatten = (r.take k).flatten ++ L := by rw [← List.take_append_getElem hke, List.flatten_append, hL]; simp
      have hle : ((r.take k).flatten ++ L).length ≤ 1000000 := by
        rw [← hsn]
        have e := congrArg (fun x => (List.flatten x).length) (List.take_append_drop (k + 1) r)
        simp only [List.flatten_append, List.length_append] at e
        have := HL.out
        omega
      have hn0 := HNE.out _ (List.getElem_mem hke)
      rw [← hL] at d3 hn0
      have HU := Lib.hid (d3.below hbl)
      obtain ⟨g', off', cp, rfl, hcl⟩ := UR.news HU.out hn0
      have HSN := Lib.hid hsn
      have HLE := Lib.hid hle
      have HRA := Lib.hid hra
      have HBL := Lib.hid hbl
      obtain ⟨M, hM⟩ : ∃ M, M = (r.take k).flatten := ⟨_, rfl⟩
      rw [← hM] at HSN HLE HRA
      have HCL := Lib.hid hcl
      clear hc d0 d1 d2 d3 hsn hle hn0 hra hbl hM hcl hL hke
      have HRA1 := Lib.hid (show RA (wr.alloc (.cells #[.int .u64 (n + k), .int .u32 (chL n c (r.take k)), .slice (some ⟨g', off', none⟩) L.length cp] 59)) w.heap.size av M from own_bel HRA.out (below_new _ _))
      have HBL1 := Lib.hid (show Below w.heap.size w (wr.alloc (.cells #[.int .u64 (n + k), .int .u32 (chL n c (r.take k)), .slice (some ⟨g', off', none⟩) L.length cp] 59)) from below_nw HBL.out _)
      have HCL1 := Lib.hid (show ∀ j u, (flatU L)[j]? = some u → (wr.alloc (.cells #[.int .u64 (n + k), .int .u32 (chL n c (r.take k)), .slice (some ⟨g', off', none⟩) L.length cp] 59)).cell? ((⟨g', off', none⟩ : Addr).add j) = some u from fun j u hj => (Below.cell (below_new _ _) (World.block_lt_of_cell? _ _ (HCL.out j u hj))).trans (HCL.out j u hj))
      go_wp2_with (at_builtin; refine wpList_append_own _ rfl _ _ 39 rfl w.heap.size 67 ia _ 4 48 Tryz.underlying39 hia hza0 hza1 hza2 rfl (by decide) _ M.length (flatU M) rfl HRA1.out ⟨g', off', none⟩ L.length cp (flatU L) rfl (flatU_length L) HCL1.out flatU_one ?c1 ?c2 ?c3 ?_)
      case c1 => have := HLE.out; rw [List.length_append] at this; unfold maxLen; omega
      case c2 => have := HLE.out; rw [List.length_append] at this; omega
      case c3 => exact HBL1.out.size
      intro av2 w4 hown4 hgr _
      have HA4 := Lib.hid (show RA w4 w.heap.size av2 (M ++ L) by unfold RA; rw [flatU_app, List.length_append]; exact hown4)
      have HE4 := Lib.hid (HBL1.out.grown hgr HBL1.out.size (fun q hq => (HRA1.out.lt q hq).1))
      clear hown4 hgr c0 c1 c2
      go_wp2_with fail
      go_roundw
      case rel => exact ⟨k + 1, _, by omega, rfl, by go_num, by rw [HSN.out]; exact HA4.out, HE4.out⟩
      case measure => simp [intOf]; omega
    · obtain rfl : k = m := by omega
      have htk : r.take k = r := by rw [HM.out, List.take_length]
      rw [htk] at hra
      have HRA := Lib.hid hra
      have HBL := Lib.hid hbl
      have hkn : ¬ (k : Int) < (k : Int) := by omega
      clear hra hbl htk
      go_wp2_with fail
      go_ret
      exact ⟨_, rfl, HRA.out, HBL.out⟩
end Go.Proofs.YtflanjcfkdjpjaaGreatDoor.Wal


/- Layer 13 (wal): what a log is, beside its mirror; what its blocks read. -/
namespace Go.Proofs.YtflanjcfkdjpjaaGreatDoor.Wal
open Go Go.RowKit Go.Proofs.YtflanjcfkdjpjaaGreatDoor Go.Proofs.YtflanjcfkdjpjaaGreatDoor.Lend Rec Dev Tab Rem Mir
set_option linter.unusedVariables false

/-- what both sides read of the blocks, where nothing is bad or moved -/
def fS (S : Nat → Sd) : F2 := fun s b => (S s).V (4 + b.toNat)
theorem fS_cont {S : Nat → Sd} (h : Pl S) {s b : Nat} (hs : s < 2) (hb : b < 16) : cont S noG s b = some (fS S s (b : Int)) := by
  unfold cont fS
  rw [h.pl hs, h.nb s hs (4 + b) (by omega) (by omega)]
  simp [noG]
theorem fS_st {S S' : Nat → Sd} {b : Nat} {d : ByteArray} {P : Nat → Prop} (h : Pl S) (hg : GoodS S) (k : St S S' noG b d P) (hb : b < 16) (hP : ∀ s, s < 2 → P s ∨ fS S s (b : Int) = d) {s : Nat} (hs : s < 2) {b' : Nat} (hb' : b' < 16) : fS S' s (b' : Int) = heal (fS S) (b : Int) d s (b' : Int) := by
  have h1 := fS_cont (h.st k) hs hb'
  have h2 := fS_cont h hs hb'
  unfold heal
  by_cases e : b' = b
  · subst e
    rw [if_pos rfl]
    rcases k.at_ s hs with ⟨k1, k2, k3⟩ | ⟨k1, k2, k3⟩
    · rw [k3] at h1; exact (Option.some.inj h1).symm
    · rcases hP s hs with hp | hp
      · exact absurd (by rw [wE_nobad h.nb hg hs hb]; rfl) (k1 hp)
      · rw [k2, h2] at h1; rw [← hp]; exact (Option.some.inj h1).symm
  · rw [if_neg (by omega)]
    have := k.far s hs b' hb' e
    rw [h1, h2] at this
    exact Option.some.inj this
theorem fS_write {S S' : Nat → Sd} {b : Nat} {d : ByteArray} (h : Pl S) (hg : GoodS S) (k : St S S' noG b d (fun t => t ∈ al noG)) (hb : b < 16) {s : Nat} (hs : s < 2) {b' : Nat} (hb' : b' < 16) : fS S' s (b' : Int) = heal (fS S) (b : Int) d s (b' : Int) :=
  fS_st h hg k hb (fun t ht => .inl (by rw [al_no]; rcases (show t = 0 ∨ t = 1 by omega) with rfl | rfl <;> simp)) hs hb'
theorem fS_heal {S S' : Nat → Sd} {b : Nat} {d : ByteArray} (h : Pl S) (hg : GoodS S) (k : St S S' noG b d (fun t => t ∈ al noG ∧ cont S noG t b ≠ some d)) (hb : b < 16) {s : Nat} (hs : s < 2) {b' : Nat} (hb' : b' < 16) : fS S' s (b' : Int) = heal (fS S) (b : Int) d s (b' : Int) :=
  fS_st h hg k hb (fun t ht => by
    by_cases e : fS S t (b : Int) = d
    · exact .inr e
    · refine .inl ⟨by rw [al_no]; rcases (show t = 0 ∨ t = 1 by omega) with rfl | rfl <;> simp, fun h2 => e ?_⟩
      rw [fS_cont h ht hb] at h2; exact Option.some.inj h2) hs hb'
/-- how many sides are healed -/
theorem fS_rep {S : Nat → Sd} {b : Nat} {d : ByteArray} (h : Pl S) (hg : GoodS S) (hb : b < 16) : hSum S noG b d (al noG) = rep (fS S) (b : Int) d := by
  have hl : ∀ t, t < 2 → hlN S noG t b d = if fS S t (b : Int) = d then 0 else 1 := fun t ht => by
    unfold hlN
    rw [fS_cont h ht hb]
    simp only [Option.some.injEq]
    have hr : rpN S noG t b = 1 := by unfold rpN; rw [wE_nobad h.nb hg ht hb]; rfl
    rw [hr]
  rw [al_no]
  unfold hSum rep
  simp only [List.map_cons, List.map_nil, List.sum_cons, List.sum_nil, Nat.add_zero]
  rw [hl 0 (by omega), hl 1 (by omega)]
/-- new devices' blocks hold noughts -/
theorem fS_new {S : Nat → Sd} (h0 : New (S 0)) (h1 : New (S 1)) {s b : Nat} (hs : s < 2) (hb : b < 16) : fS S s (b : Int) = noughts 192 := by
  unfold fS
  rw [Int.toNat_natCast]
  rcases (show s = 0 ∨ s = 1 by omega) with rfl | rfl
  · exact (h0.2 _ (by omega) (by omega)).1
  · exact (h1.2 _ (by omega) (by omega)).1
theorem repeatL_0 : ∀ m, Lib.repeatL [0] m = List.replicate m (0 : UInt8)
  | 0 => rfl
  | m + 1 => by rw [List.replicate_succ, ← repeatL_0 m]; rfl
/-- no record is told by noughts -/
theorem rc2_zero {f : F2} {b n c : Int} {m : Nat} (h : ∀ s, s < 2 → f s b = noughts m) : rc2 f b n c = none := by
  unfold rc2
  have e : (noughts m).data.toList = List.replicate m 0 := repeatL_0 m
  rw [h 0 (by omega), h 1 (by omega), e, rcO_zero]
  rfl
end Go.Proofs.YtflanjcfkdjpjaaGreatDoor.Wal


/- Layer 13 (wal): a log, beside its mirror; Next, Left, size, Room, block, head. -/
namespace Go.Proofs.YtflanjcfkdjpjaaGreatDoor.Wal
open Go Go.RowKit Go.Proofs.YtflanjcfkdjpjaaGreatDoor Dev Tab Rem Go.Maps Go.WideMaps Mir Rec
set_option linter.unusedVariables false
set_option maxRecDepth 100000

/-- a log's cells -/
def lrow (mm tl : Nat) (F C n : Int) (k : Nat) (ch : Int) : List Value := [.pointer (some ⟨mm, 0, none⟩), .pointer (some ⟨tl, 0, none⟩), .int .i64 F, .int .i64 C, .int .u64 n, .int .i64 k, .int .u32 ch]
/-- a ring that may be, and numbers -/
structure Rg (F C n : Int) (k : Nat) (ch : Int) : Prop where
  f0 : 0 ≤ F
  c2 : 2 ≤ C
  cm : C ≤ 256
  fc : F + C ≤ 16
  n0 : 0 ≤ n
  n1 : n ≤ 4611686018427487903
  k1 : (k : Int) ≤ C
  ch0 : 0 ≤ ch
  ch1 : ch < 4294967296
/-- the log at lb, whose checks' table is at tl, over the mirror at mm -/
structure Lg (w0 : World) (Y : List Nat) (lb tl mm tb bb q : Nat) (pd : Nat → Nat) (S : Nat → Sd) (c R : Nat) (F C n : Int) (k : Nat) (ch : Int) (w : World) : Prop where
  mg : MG w0 (lb :: tl :: Y) mm tb bb q pd S noG c R w
  row : Has w lb 92 (lrow mm tl F C n k ch)
  tab : Sum.IsTab w tl
  ny : lb ∉ Y
  nty : tl ∉ Y
  rg : Rg F C n k ch
section
variable {w0 w w' : World} {X Y Z : List Nat} {q c mm tb bb R s b lb tl : Nat} {pd : Nat → Nat} {S S' : Nat → Sd} {F C n ch : Int} {k : Nat}
theorem Lg.c0 (h : Lg w0 Y lb tl mm tb bb q pd S c R F C n k ch w) : w.cell? ⟨lb, 0, none⟩ = some (.pointer (some ⟨mm, 0, none⟩)) := h.row.cell 0
theorem Lg.c1 (h : Lg w0 Y lb tl mm tb bb q pd S c R F C n k ch w) : w.cell? ⟨lb, 1, none⟩ = some (.pointer (some ⟨tl, 0, none⟩)) := h.row.cell 1
theorem Lg.c2 (h : Lg w0 Y lb tl mm tb bb q pd S c R F C n k ch w) : w.cell? ⟨lb, 2, none⟩ = some (.int .i64 F) := h.row.cell 2
theorem Lg.c3 (h : Lg w0 Y lb tl mm tb bb q pd S c R F C n k ch w) : w.cell? ⟨lb, 3, none⟩ = some (.int .i64 C) := h.row.cell 3
theorem Lg.c4 (h : Lg w0 Y lb tl mm tb bb q pd S c R F C n k ch w) : w.cell? ⟨lb, 4, none⟩ = some (.int .u64 n) := h.row.cell 4
theorem Lg.c5 (h : Lg w0 Y lb tl mm tb bb q pd S c R F C n k ch w) : w.cell? ⟨lb, 5, none⟩ = some (.int .i64 k) := h.row.cell 5
theorem Lg.c6 (h : Lg w0 Y lb tl mm tb bb q pd S c R F C n k ch w) : w.cell? ⟨lb, 6, none⟩ = some (.int .u32 ch) := h.row.cell 6
theorem Lg.fz (h : Lg w0 Y lb tl mm tb bb q pd S c R F C n k ch w) (i : Nat) : w.frozen? ⟨lb, i, none⟩ = false := h.row.frozen i
theorem Lg.lt (h : Lg w0 Y lb tl mm tb bb q pd S c R F C n k ch w) : lb < w.heap.size := h.row.lt
/-- what a mirror's call leaves -/
theorem Lg.go {c' R' : Nat} (h : Lg w0 Y lb tl mm tb bb q pd S c R F C n k ch w) (hm : MG w0 (lb :: tl :: Y) mm tb bb q pd S' noG c' R' w') (hs : Same (lb :: tl :: Y) w w') : Lg w0 Y lb tl mm tb bb q pd S' c' R' F C n k ch w' :=
  ⟨hm, h.row.same (hs lb (by simp)), Mir.tab_same h.tab (hs tl (by simp)), h.ny, h.nty, h.rg⟩
theorem Lg.later (h : Lg w0 Y lb tl mm tb bb q pd S c R F C n k ch w) (hb : Below w.heap.size w w') : Lg w0 Y lb tl mm tb bb q pd S c R F C n k ch w' :=
  ⟨h.mg.later hb, h.row.below hb h.row.lt, h.tab.below hb (Nat.le_refl _), h.ny, h.nty, h.rg⟩
theorem Lg.drewN (h : Lg w0 Y lb tl mm tb bb q pd S c R F C n k ch w) (j : Nat) : Lg w0 Y lb tl mm tb bb q pd S c R F C n k ch (w.drewN j) := h.later (below_drewN (Below.refl _ _) j)
theorem Lg.mono {d : Nat} (h : Lg w0 Y lb tl mm tb bb q pd S c R F C n k ch w) (hd : c ≤ d) : Lg w0 Y lb tl mm tb bb q pd S d R F C n k ch w := ⟨h.mg.mono hd, h.row, h.tab, h.ny, h.nty, h.rg⟩
theorem Lg.sub (h : Lg w0 Y lb tl mm tb bb q pd S c R F C n k ch w) (hZ : ∀ j ∈ Z, j ∈ Y) : Lg w0 Z lb tl mm tb bb q pd S c R F C n k ch w :=
  ⟨h.mg.sub (fun j hj => by simp at hj ⊢; rcases hj with rfl | rfl | hj <;> simp [*]), h.row, h.tab, fun e => h.ny (hZ _ e), fun e => h.nty (hZ _ e), h.rg⟩
theorem Lg.fresh (h : Lg w0 Y lb tl mm tb bb q pd S c R F C n k ch w) (hb : Below w.heap.size w w') {b : Nat} (h1 : w.heap.size ≤ b) (h2 : b < w'.heap.size) : Lg w0 (b :: Y) lb tl mm tb bb q pd S c R F C n k ch w' :=
  ⟨(h.mg.fresh hb h1 h2).sub (fun j hj => by simp at hj ⊢; rcases hj with rfl | rfl | rfl | hj <;> simp [*]), h.row.below hb h.row.lt, h.tab.below hb (Nat.le_refl _), fun e => by
    rcases List.mem_cons.1 e with rfl | e
    · have := h.lt; omega
    · exact h.ny e, fun e => by
    rcases List.mem_cons.1 e with rfl | e
    · have := isTab_lt h.tab; omega
    · exact h.nty e, h.rg⟩
/-- a value's own block, if it has one, lasts, too -/
theorem Lg.freshV {v : Value} (h : Lg w0 Y lb tl mm tb bb q pd S c R F C n k ch w) (hb : Below w.heap.size w w') (hv : ∀ j, v.ownBlock = some j → w.heap.size ≤ j ∧ j < w'.heap.size) : ∃ Z, (∀ j, v.ownBlock = some j → j ∈ Z) ∧ (∀ j ∈ Z, w.heap.size ≤ j) ∧ Lg w0 (Z ++ Y) lb tl mm tb bb q pd S c R F C n k ch w' := by
  cases e : v.ownBlock with
  | none => exact ⟨[], (fun j hj => by cases hj), (fun j hj => by cases hj), h.later hb⟩
  | some j =>
    obtain ⟨h1, h2⟩ := hv j e
    exact ⟨[j], (fun i hi => by injection hi with hi; subst hi; simp), (fun i hi => by simp at hi; subst hi; exact h1), h.fresh hb h1 h2⟩
theorem Lg.y (h : Lg w0 Y lb tl mm tb bb q pd S c R F C n k ch w) : ∀ j ∈ Y, w0.heap.size ≤ j ∧ j < w.heap.size := fun j hj => h.mg.y j (by simp [hj])
theorem Lg.below (h : Lg w0 Y lb tl mm tb bb q pd S c R F C n k ch w) : Below w0.heap.size w0 w := h.mg.below
/-- a row that is the law's own grows -/
theorem Lg.grow {row : Option Nat} (h : Lg w0 Y lb tl mm tb bb q pd S c R F C n k ch w) (hg : w.grownBy w' row) (hr : ∀ j, row = some j → j ∈ Y) : Lg w0 Y lb tl mm tb bb q pd S c R F C n k ch w' :=
  ⟨h.mg.grow hg (fun j hj => by simp [hr j hj]), h.row.same (hg.block lb h.row.lt fun e => h.ny (hr lb e.symm)), Mir.tab_same h.tab (hg.block tl (isTab_lt h.tab) fun e => h.nty (hr tl e.symm)), h.ny, h.nty, h.rg⟩
/-- a log's cells are turned -/
theorem Lg.turn {n' ch' : Int} {k' : Nat} (h : Lg w0 Y lb tl mm tb bb q pd S c R F C n k ch w) (hc : Chg (fun j => j = lb) w w') (hr : Has w' lb 92 (lrow mm tl F C n' k' ch')) (hg : Rg F C n' k' ch') : Lg w0 Y lb tl mm tb bb q pd S c R F C n' k' ch' w' := by
  have hlt : lb ≠ tl := fun e => by
    have h1 := h.row
    have h2 := h.tab 0 (by omega)
    rw [← e, h1.cell] at h2
    cases h2
  refine ⟨mg_chg h.mg (hc.mono fun j _ hj => by simp [hj]), hr, Mir.tab_same h.tab (hc.block tl (isTab_lt h.tab) fun e => hlt e.symm), h.ny, h.nty, hg⟩
theorem Lg.same_y (h : Lg w0 Y lb tl mm tb bb q pd S c R F C n k ch w) (hc : Chg (fun j => j = lb) w w') : Same Y w w' := fun j hj => hc.block j (h.y j hj).2 fun e => h.ny (e ▸ hj)
/-! ### Next, Left, size, Room, block, head -/
theorem Rg.kb (h : Rg F C n k ch) : k ≤ 256 := by have := h.k1; have := h.cm; omega
theorem Next_l (h : Lg w0 Y lb tl mm tb bb q pd S c R F C n k ch w) : Calls Tryz.prog 20 #[.pointer (some ⟨lb, 0, none⟩)] w fun e w' => e = .returned (.tuple #[.int .u64 (n + k), .int .u32 ch]) ∧ ∃ j, w' = w.drewN j := by
  have c4 := h.c4
  have c5 := h.c5
  have c6 := h.c6
  have hk := h.rg.kb
  have n0 := h.rg.n0
  have n1 := h.rg.n1
  clear h
  have hw : IntKind.u64.wrap (k : Int) = k := by rw [IntKind.wrap_u64]; omega
  have hw2 : IntKind.u64.wrap (n + k) = n + k := by rw [IntKind.wrap_u64]; omega
  go_enter Tryz.func20, Tryz.ntmps20
  go_wp2_with fail
  go_quiet (fail)
  go_wp2
  go_ret2
  exact ⟨rfl, _, rfl⟩
theorem Next_n (w : World) : Calls Tryz.prog 20 #[.pointer none] w fun e w' => e = .returned (.tuple #[.int .u64 0, .int .u32 0]) ∧ w = w' := by
  go_enter Tryz.func20, Tryz.ntmps20
  go_wp2
  go_ret2
  exact ⟨rfl, rfl⟩
theorem Left_l (h : Lg w0 Y lb tl mm tb bb q pd S c R F C n k ch w) : Calls Tryz.prog 21 #[.pointer (some ⟨lb, 0, none⟩)] w fun e w' => e = .returned (.int .i64 (C - k)) ∧ ∃ j, w' = w.drewN j := by
  have c3 := h.c3
  have c5 := h.c5
  have k1 := h.rg.k1
  have cm := h.rg.cm
  have c2 := h.rg.c2
  clear h
  go_enter Tryz.func21, Tryz.ntmps21
  go_wp2_with fail
  go_quiet (fail)
  go_wp2
  go_ret
  exact ⟨rfl, _, rfl⟩
theorem Left_n (w : World) : Calls Tryz.prog 21 #[.pointer none] w fun e w' => e = .returned (.int .i64 0) ∧ w = w' := by
  go_enter Tryz.func21, Tryz.ntmps21
  go_wp2
  go_ret
  exact ⟨rfl, rfl⟩
theorem Pair_h (c0 : w.cell? ⟨mm, 0, none⟩ = some (.pointer (some ⟨q, 0, none⟩))) : Calls Tryz.prog 30 #[.pointer (some ⟨mm, 0, none⟩)] w fun e w' => e = .returned (.pointer (some ⟨q, 0, none⟩)) ∧ w = w' := by
  go_enter Tryz.func30, Tryz.ntmps30
  go_wp2
  go_ret
  exact ⟨rfl, rfl⟩
theorem Repairs_h (c2 : w.cell? ⟨mm, 2, none⟩ = some (.int .i64 (R : Nat))) : Calls Tryz.prog 22 #[.pointer (some ⟨mm, 0, none⟩)] w fun e w' => e = .returned (.int .i64 (R : Nat)) ∧ w = w' := by
  go_enter Tryz.func22, Tryz.ntmps22
  go_wp2
  go_ret
  exact ⟨rfl, rfl⟩
/-- how many bytes a block has: what that asks is the log's mirror, that one's pair, and that one's devices -/
structure Asks (w0 : World) (lb mm q : Nat) (pd : Nat → Nat) (w : World) : Prop where
  c0 : w.cell? ⟨lb, 0, none⟩ = some (.pointer (some ⟨mm, 0, none⟩))
  m0 : w.cell? ⟨mm, 0, none⟩ = some (.pointer (some ⟨q, 0, none⟩))
  pb : ∃ m, PB w q pd m
  cg : ∃ X q' S c, CG w0 X q' pd S noG c w
theorem Lg.asks (h : Lg w0 Y lb tl mm tb bb q pd S c R F C n k ch w) : Asks w0 lb mm q pd w := ⟨h.c0, h.mg.c0, ⟨_, h.mg.cg.pb⟩, _, _, _, _, h.mg.cg⟩
theorem Asks.later (h : Asks w0 lb mm q pd w) (hb : Below w.heap.size w w') : Asks w0 lb mm q pd w' := by
  obtain ⟨m, hm⟩ := h.pb
  obtain ⟨X, q', S, c, hc⟩ := h.cg
  exact ⟨(hb.cell (World.block_lt_of_cell? _ _ h.c0)).trans h.c0, (hb.cell (World.block_lt_of_cell? _ _ h.m0)).trans h.m0, ⟨m, hm.later hb⟩, X, q', S, c, hc.later hb⟩
theorem size_h (h : Asks w0 lb mm q pd w) : Calls Tryz.prog 41 #[.pointer (some ⟨lb, 0, none⟩)] w fun e w' => e = .returned (.int .i64 192) ∧ Below w.heap.size w w' := by
  have c0 := h.c0
  have HM := Lib.hid h.m0
  obtain ⟨m, hm⟩ := h.pb
  obtain ⟨X, q', S, c, hc⟩ := h.cg
  have HP := Lib.hid hm
  have HC := Lib.hid hc
  clear h hm hc
  have hfd : ∀ W, (Instr.field 79 (.agg #[.int .i64 24, .int .i64 192]) 1).run Tryz.prog W = .ok (.int .i64 192) W := fun W => by kernel_rfl
  go_enter Tryz.func41, Tryz.ntmps41
  go_wp2_with fail
  refine (Pair_h HM.out).mono ?_
  rintro e w1 ⟨rfl, rfl⟩
  go_wp2_with fail
  refine (device_e HP.out (s := 0) (by omega)).mono ?_
  rintro e w1 ⟨rfl, rfl⟩
  go_wp2_with fail
  refine (shape_g HC.out (s := 0) (by omega)).mono ?_
  rintro e w1 ⟨rfl, hb⟩
  have HB := Lib.hid hb
  clear hb c0
  go_wp2
  go_ret
  exact ⟨rfl, HB.out⟩
theorem size_l (h : Lg w0 Y lb tl mm tb bb q pd S c R F C n k ch w) : Calls Tryz.prog 41 #[.pointer (some ⟨lb, 0, none⟩)] w fun e w' => e = .returned (.int .i64 192) ∧ Below w.heap.size w w' := size_h h.asks
theorem ur_nil (w : World) : UR w (.slice none 0 0) [] := ⟨none, 0, rfl, fun h => absurd h (by decide)⟩
theorem pyT_0 (s c : Int) : (Lend.strOf (pyT s c [])).size = 14 := by
  rw [ssize, pyT_ok (fun u hu => by cases hu), List.length_append, hd3_length]; rfl
theorem Room_h (h : Asks w0 lb mm q pd w) : Calls Tryz.prog 24 #[.pointer (some ⟨lb, 0, none⟩)] w fun e w' => e = .returned (.int .i64 (192 - 38)) ∧ Below w.heap.size w w' := by
  have HA := Lib.hid h
  have HR := Lib.hid (show Env.roomN 192 = 192 - 24 by decide)
  have HPZ := Lib.hid (pyT_0 0 0)
  obtain ⟨P, hP⟩ : ∃ x, x = Lend.strOf (pyT 0 0 []) := ⟨_, rfl⟩
  have HPP := Lib.hid hP
  rw [← hP] at HPZ
  clear h hP
  go_enter Tryz.func24, Tryz.ntmps24
  go_wp2_with fail
  refine (Payload_any 0 0 (ur_nil _) ⟨by omega, by decide, by omega, by decide, by decide⟩ (fun u hu => by cases hu)).mono ?_
  rintro e w1 ⟨rfl, hb⟩
  rw [← HPP.out]
  have HA1 := Lib.hid (HA.out.later hb)
  have HB1 := Lib.hid hb
  clear hb
  go_wp2_with fail
  refine (size_h HA1.out).mono ?_
  rintro e w2 ⟨rfl, hb⟩
  have HB2 := Lib.hid (below_on HB1.out hb)
  clear hb
  go_wp2_with fail
  refine (Env.room_any 192 _).mono ?_
  rintro e w3 ⟨rfl, rfl⟩
  rw [HR.out]
  have hz := HPZ.out
  go_wp2
  go_ret
  exact ⟨rfl, HB2.out⟩
theorem bk_eq (h : Rg F C n k ch) : F + (n % C + k) % C = bk F C (n + k) := by
  unfold bk; rw [Int.emod_add_emod]
theorem bk_at (h : Rg F C n k ch) (m : Int) : ∃ b : Nat, bk F C m = b ∧ b < 16 := by
  have h1 := bk_bd (F := F) (n := m) (show 0 < C by have := h.c2; omega)
  have := h.fc; have := h.f0
  exact ⟨(bk F C m).toNat, by omega, by omega⟩
end
end Go.Proofs.YtflanjcfkdjpjaaGreatDoor.Wal


/- Layer 13 (wal): block, head, open, add. -/
namespace Go.Proofs.YtflanjcfkdjpjaaGreatDoor.Wal
open Go Go.RowKit Go.Proofs.YtflanjcfkdjpjaaGreatDoor Dev Tab Rem Go.Maps Go.WideMaps Mir Rec
set_option linter.unusedVariables false
section
variable {w0 w w' : World} {X Y Z : List Nat} {q c mm tb bb R s b lb tl : Nat} {pd : Nat → Nat} {S S' : Nat → Sd} {F C n ch : Int} {k : Nat}
theorem ret_i {a b : Int} (h : a = b) : Ending.returned (.int .i64 a) = .returned (.int .i64 b) := by rw [h]
set_option maxRecDepth 100000 in
theorem block_l (h : Lg w0 Y lb tl mm tb bb q pd S c R F C n k ch w) : Calls Tryz.prog 44 #[.pointer (some ⟨lb, 0, none⟩)] w fun e w' => e = .returned (.int .i64 (bk F C (n + k))) ∧ ∃ j, w' = w.drewN j := by
  have c2 := h.c2
  have c3 := h.c3
  have c4 := h.c4
  have c5 := h.c5
  have HE := Lib.hid (bk_eq h.rg)
  obtain ⟨f0, d2, cm, fc, n0, n1, k1, _, _⟩ := h.rg
  clear h
  obtain ⟨x, hx⟩ : ∃ x, x = n % C := ⟨_, rfl⟩
  have hx0 : 0 ≤ x := by rw [hx]; exact Int.emod_nonneg n (by omega)
  have hx1 : x < C := by rw [hx]; exact Int.emod_lt_of_pos n (by omega)
  obtain ⟨y, hy⟩ : ∃ y, y = (x + k) % C := ⟨_, rfl⟩
  have hy0 : 0 ≤ y := by rw [hy]; exact Int.emod_nonneg _ (by omega)
  have hy1 : y < C := by rw [hy]; exact Int.emod_lt_of_pos _ (by omega)
  rw [← hx, ← hy] at HE
  have hwC : IntKind.u64.wrap C = C := by rw [IntKind.wrap_u64]; omega
  have hwk : IntKind.u64.wrap (k : Int) = k := by rw [IntKind.wrap_u64]; omega
  have hwx : IntKind.u64.wrap x = x := by rw [IntKind.wrap_u64]; omega
  have hwy : IntKind.u64.wrap y = y := by rw [IntKind.wrap_u64]; omega
  have hws : IntKind.u64.wrap (x + k) = x + k := by rw [IntKind.wrap_u64]; omega
  have hwi : IntKind.i64.wrap y = y := IntWalk.i64_in _ (by omega)
  have hwf : IntKind.i64.wrap (F + y) = F + y := IntWalk.i64_in _ (by omega)
  have hC0 : ¬ C = 0 := by omega
  have ht : Int.tmod n C = x := by rw [Int.tmod_eq_emod_of_nonneg n0, hx]
  have ht2 : Int.tmod (x + k) C = y := by rw [Int.tmod_eq_emod_of_nonneg (by omega), hy]
  have he : n % C = x := hx.symm
  have he2 : (x + k) % C = y := hy.symm
  clear hx hy
  go_enter Tryz.func44, Tryz.ntmps44
  go_wp2_with fail
  go_quiet (fail)
  go_wp2
  go_ret
  exact ⟨ret_i HE.out, _, rfl⟩
/-- what a record's image says of itself -/
abbrev hdV (b n : Int) : Value := .agg #[.int .u8 3, .int .i64 b, .int .u64 n]
set_option maxRecDepth 100000 in
theorem head_l (h : Lg w0 Y lb tl mm tb bb q pd S c R F C n k ch w) : Calls Tryz.prog 42 #[.pointer (some ⟨lb, 0, none⟩)] w fun e w' => e = .returned (hdV (bk F C (n + k)) (n + k)) ∧ Below w.heap.size w w' := by
  have HL := Lib.hid (h.later (below_new w (.cells #[.int .u8 0, .int .i64 0, .int .u64 0] 113)))
  have HH := Has.new w [.int .u8 0, .int .i64 0, .int .u64 0] 113
  have e0 := HH.cell 0
  have e1 := HH.cell 1
  have e2 := HH.cell 2
  have q0 := HH.frozen 0
  have q1 := HH.frozen 1
  have q2 := HH.frozen 2
  simp only [List.getElem?_cons_zero, List.getElem?_cons_succ] at e0 e1 e2
  clear h HH
  go_enter Tryz.func42, Tryz.ntmps42
  go_wp2_with fail
  refine (Next_l HL.out).mono ?_
  rintro e w1 ⟨rfl, j1, rfl⟩
  go_wp2_with fail
  refine (block_l (HL.out.drewN j1)).mono ?_
  rintro e w1 ⟨rfl, j2, rfl⟩
  obtain ⟨B, hB⟩ : ∃ x, x = bk F C (n + k) := ⟨_, rfl⟩
  have HBB := Lib.hid hB
  rw [← hB]
  clear hB
  go_wp2
  refine bodyPost_ret (v := hdV B (n + k)) (by simp [results, Tryz.results42, go_sem, hdV]) rfl ⟨by rw [HBB.out], ?_⟩
  repeat (first | exact Below.refl _ _ | exact below_drewN (below_nw (Below.refl _ _) _) _ | apply below_nw | refine Env.below_st ?_ (Nat.le_refl _) _)
end
end Go.Proofs.YtflanjcfkdjpjaaGreatDoor.Wal


/- append to a row of one's own: the new row's block is the elder one's, or new. -/
namespace Go.Proofs.YtflanjcfkdjpjaaGreatDoor
open Go Go.RowKit
section
variable {P : Program} (w : World)
theorem append_place (base : Nat) (t ty e : TypeId) (i : TypeInfo) (z : Value) (size bytes : Nat) (ht : P.underlying t = some (.slice e)) (hi : P.info? e = some i) (hz : i.zero = some z)
    (hsize : i.size = size) (hby : i.bytes = bytes) (hzs : z.cells.size = size) (hsz : 0 < size)
    (v : Value) (n : Nat) (xs : List Value) (hown : w.ownsRow base e size v n xs)
    (a : Addr) (m c : Nat) (news : List Value) (hl : news.length = m * size) (hnews : ∀ j u, news[j]? = some u → w.cell? (a.add j) = some u) (h1 : ∀ u ∈ news, u.oneCell' = true)
    (h63 : n + m ≤ maxLen) (hbytes : (n + m) * bytes ≤ 140737488355328) {v' : Value} {w' : World}
    (hr : (Builtin.append_ #[t, t] ty #[v, .slice (some a) m c]).run P w = .ok v' w') : ∀ k, v'.ownBlock = some k → v.ownBlock = some k ∨ (w.heap.size ≤ k ∧ Below w.heap.size w w') := by
  subst hsize
  subst hby
  have hsmall : n + m ≤ 9223372036854775807 := by simp only [maxLen] at h63; omega
  rcases hown.2 with ⟨rfl, rfl⟩ | ⟨g, cap, cur, rfl, hbg, hg, hnc, hcm, hcs, htake⟩
  · by_cases hm : m = 0
    · subst hm
      have hr2 : (Builtin.append_ #[t, t] ty #[.slice none 0 0, .slice (some a) 0 c]).run P w = .ok (.slice none 0 0) w := by
        simp [Builtin.append_, run_underlying ht, sizeOf, typeInfo, hi, Builtin.lenOf, Builtin.firstCells, loadCells, loadCellsFrom]
      rw [hr2] at hr
      injection hr with e1 e2
      subst e1
      intro k hk; cases hk
    · have hr2 := run_append_nil (P := P) w t ty e i z ht hi hz a m c news hl hnews (by omega) (by omega) (by have hb := hbytes; simp only [Nat.zero_add] at hb; omega)
      rw [hr2] at hr
      injection hr with e1 e2
      subst e1
      subst e2
      intro k hk
      injection hk with hk
      exact .inr ⟨Nat.le_of_eq hk, (Below.refl _ w).drew.alloc (Nat.le_refl _) _⟩
  · by_cases hroom : n + m ≤ cap
    · have hfit : n * i.size + news.length ≤ cur.size := by rw [hl, hcs, ← Nat.add_mul]; exact Nat.mul_le_mul_right _ hroom
      have hr2 := run_append_room (P := P) w t ty e i ht hi g n cap cur hg a m c news hl hnews h1 hroom hfit
      rw [hr2] at hr
      injection hr with e1 e2
      subst e1
      exact fun k hk => .inl hk
    · have holds : ∀ j u, xs[j]? = some u → w.cell? ((⟨g, 0, none⟩ : Addr).add j) = some u := hown.cells (g := g) rfl
      have hr2 := run_append_grow (P := P) w t ty e i z ht hi hz ⟨g, 0, none⟩ n cap xs hown.1 holds a m c news hl hnews (by omega) (by omega) (growslice_fits (by omega) hbytes)
      rw [hr2] at hr
      injection hr with e1 e2
      subst e1
      subst e2
      intro k hk
      injection hk with hk
      exact .inr ⟨Nat.le_of_eq hk, (Below.refl _ w).drew.alloc (Nat.le_refl _) _⟩
variable {w}
theorem wpList_append_place {ops : Array Oper} {rest : List Oper} {o : Oper} {a : Act} {Q : Exit → Act → World → Prop} (hgd : o.guard = none) (s x : Operand) (t : TypeId)
    (ho : o.op = .call { callee := .builtin .append, args := #[s, x], argTypes := #[t, t] })
    (base : Nat) (e : TypeId) (i : TypeInfo) (z : Value) (size bytes : Nat) (ht : P.underlying t = some (.slice e)) (hi : P.info? e = some i) (hz : i.zero = some z)
    (hsize : i.size = size) (hby : i.bytes = bytes) (hzs : z.cells.size = size) (hsz : 0 < size)
    (v : Value) (n : Nat) (xs : List Value) (hs : a.eval s = v) (hown : w.ownsRow base e size v n xs)
    (ad : Addr) (m c : Nat) (news : List Value) (hx : a.eval x = .slice (some ad) m c) (hl : news.length = m * size) (hnews : ∀ j u, news[j]? = some u → w.cell? (ad.add j) = some u) (h1 : ∀ u ∈ news, u.oneCell' = true)
    (h63 : n + m ≤ maxLen) (hbytes : (n + m) * bytes ≤ 140737488355328) (hbase : base ≤ w.heap.size)
    (h : ∀ v' w', w'.ownsRow base e size v' (n + m) (xs ++ news) → w.grownBy w' v.ownBlock → (∀ k, v'.ownBlock = some k → v.ownBlock = some k ∨ (w.heap.size ≤ k ∧ Below w.heap.size w w')) → wpList P ops Q rest (a.put o.dst v') w') : wpList P ops Q (o :: rest) a w := by
  refine wpList_plain hgd fun _ hK => ?_
  obtain ⟨v', w', hr, h2, h3, h4⟩ := run_append_own (P := P) w base t o.type e i z size bytes ht hi hz hsize hby hzs hsz v n xs hown ad m c news hl hnews h1 h63 hbytes hbase
  have hp := append_place (P := P) w base t o.type e i z size bytes ht hi hz hsize hby hzs hsz v n xs hown ad m c news hl hnews h1 h63 hbytes hr
  unfold Oper.wp execOp
  simp only [ho, resolve, invoke, builtin, Sem.run_bind, Sem.run_pure, Result.andThen_ok, List.map_toArray, List.map_cons, List.map_nil, hs, hx, hr]
  exact hK _ _ (h v' w' h2 h3 hp)
end
end Go.Proofs.YtflanjcfkdjpjaaGreatDoor


/- Layer 13 (wal): rows of records. -/
namespace Go.Proofs.YtflanjcfkdjpjaaGreatDoor.Wal
open Go Go.RowKit Go.Proofs.YtflanjcfkdjpjaaGreatDoor Go.Proofs.YtflanjcfkdjpjaaGreatDoor.Lend Rec
set_option linter.unusedVariables false

def enc3 (t : Int × Int × Value) : List Value := [.int .u64 t.1, .int .u32 t.2.1, t.2.2]
def flat3 (T : List (Int × Int × Value)) : List Value := T.flatMap enc3
theorem flat3_length (T : List (Int × Int × Value)) : (flat3 T).length = T.length * 3 := by
  unfold flat3
  induction T with
  | nil => rfl
  | cons u l ih => rw [List.flatMap_cons, List.length_append, ih]; simp [enc3]; omega
theorem flat3_snoc (T : List (Int × Int × Value)) (t : Int × Int × Value) : flat3 (T ++ [t]) = flat3 T ++ enc3 t := by unfold flat3; simp
theorem flat3_get : ∀ (l : List (Int × Int × Value)) (i : Nat) (hi : i < l.length) (j : Nat), j < 3 → (flat3 l)[i * 3 + j]? = (enc3 l[i])[j]?
  | [], i, hi, _, _ => by cases hi
  | u :: l, 0, _, j, hj => by
    unfold flat3
    rw [List.flatMap_cons, List.getElem?_append_left (by simp [enc3]; omega)]
    simp
  | u :: l, i + 1, hi, j, hj => by
    have e : flat3 (u :: l) = enc3 u ++ flat3 l := by unfold flat3; simp
    rw [e, List.getElem?_append_right (by simp [enc3]; omega), show (i + 1) * 3 + j - (enc3 u).length = i * 3 + j by simp [enc3]; omega]
    exact flat3_get l i (by simpa using hi) j hj
/-- a row of records -/
abbrev RR (w : World) (base : Nat) (v : Value) (T : List (Int × Int × Value)) : Prop := w.ownsRow base 59 3 v T.length (flat3 T)
theorem ra_rr {w : World} {B B' : Nat} {v v' : Value} {l : List Up} {T : List (Int × Int × Value)} (h : RA w B v l) (h' : RR w B' v' T) : ∀ k, v.ownBlock = some k → v'.ownBlock ≠ some k := by
  intro k h1 h2
  rcases h.2 with ⟨rfl, _⟩ | ⟨g, cap, cur, rfl, _, hg, _⟩
  · cases h1
  · rcases h'.2 with ⟨rfl, _⟩ | ⟨g', cap', cur', rfl, _, hg', _⟩
    · cases h2
    · injection h1 with h1
      injection h2 with h2
      have h1 : g = k := h1
      have h2 : g' = k := h2
      subst h1; subst h2
      rw [hg] at hg'
      injection hg' with hg'
      injection hg' with e1 e2
      exact absurd e2 (by decide)
/-- a row of records from number n on, linked by the check c ahead of them; its blocks are of Z -/
structure RZ (w : World) (base : Nat) (Z : List Nat) (v : Value) (n c : Int) (r : List (List Up)) : Prop where
  rows : ∃ T : List (Int × Int × Value), T.length = r.length ∧ RR w base v T ∧ ∀ i (hi : i < T.length) (hr : i < r.length), T[i].1 = n + i ∧ T[i].2.1 = chL n c (r.take i) ∧ RA w base T[i].2.2 r[i] ∧ ∀ k, T[i].2.2.ownBlock = some k → k ∈ Z
  own : ∀ k, v.ownBlock = some k → k ∈ Z
section
variable {w w' : World} {base : Nat} {Z Z' : List Nat} {v v' : Value} {n c : Int} {r : List (List Up)} {l : List Up}
theorem RZ.nil (w : World) (base : Nat) (Z : List Nat) (n c : Int) : RZ w base Z (.slice none 0 0) n c [] := ⟨⟨[], rfl, World.ownsRow_nil _ _ _ _, fun i hi => by cases hi⟩, fun k hk => by cases hk⟩
theorem RZ.same (h : RZ w base Z v n c r) (hs : ∀ k ∈ Z, w'.heap[k]? = w.heap[k]?) : RZ w' base Z v n c r := by
  obtain ⟨⟨T, h1, h2, h3⟩, h4⟩ := h
  refine ⟨⟨T, h1, owns_same h2 fun k hk => hs k (h4 k hk), fun i hi hr => ?_⟩, h4⟩
  obtain ⟨a, b, d, e⟩ := h3 i hi hr
  exact ⟨a, b, owns_same d fun k hk => hs k (e k hk), e⟩
theorem RZ.mono (h : RZ w base Z v n c r) (hZ : ∀ k ∈ Z, k ∈ Z') : RZ w base Z' v n c r := by
  obtain ⟨⟨T, h1, h2, h3⟩, h4⟩ := h
  exact ⟨⟨T, h1, h2, fun i hi hr => by obtain ⟨a, b, d, e⟩ := h3 i hi hr; exact ⟨a, b, d, fun k hk => hZ k (e k hk)⟩⟩, fun k hk => hZ k (h4 k hk)⟩
theorem RZ.rs (h : RZ w base Z v n c r) : RS w v n c r := by
  obtain ⟨⟨T, h1, h2, h3⟩, h4⟩ := h
  rcases h2.2 with ⟨hv, h0⟩ | ⟨g, cap, cur, hv, hb, hg, hn, hm, hs, ht⟩
  · exact ⟨none, 0, by rw [hv, ← h1, h0], fun hp => by omega⟩
  · refine ⟨some ⟨g, 0, none⟩, cap, by rw [hv, h1], fun _ => ⟨g, 0, rfl, fun i hi => ?_⟩⟩
    obtain ⟨a, b, d, e⟩ := h3 i (by omega) hi
    have key : ∀ j, j < 3 → w.cell? ⟨g, 0 + i * 3 + j, none⟩ = (enc3 T[i])[j]? := fun j hj => by
      rw [← flat3_get T i (by omega) j hj, ← ht, List.getElem?_take, if_pos (by omega)]
      unfold World.cell?
      simp only [hg]
      simp
    refine ⟨T[i].2.2, ?_, ?_, ?_, UR.of_own d⟩
    · exact (key 0 (by omega)).trans (by rw [← a]; rfl)
    · exact (key 1 (by omega)).trans (by rw [← b]; rfl)
    · exact (key 2 (by omega)).trans rfl
/-- one more -/
theorem RZ.snoc {T : List (Int × Int × Value)} {u : Value} (h1 : T.length = r.length) (h2 : RR w base v T)
    (h3 : ∀ i (hi : i < T.length) (hr : i < r.length), T[i].1 = n + i ∧ T[i].2.1 = chL n c (r.take i) ∧ RA w base T[i].2.2 r[i] ∧ ∀ k, T[i].2.2.ownBlock = some k → k ∈ Z)
    (hu : RA w base u l) (huz : ∀ k, u.ownBlock = some k → k ∈ Z) (hown : w'.ownsRow base 59 3 v' (T.length + 1) (flat3 T ++ enc3 (n + r.length, chL n c r, u))) (hg : w.grownBy w' v.ownBlock) (hv : ∀ k, v'.ownBlock = some k → k ∈ Z') (hZ : ∀ k ∈ Z, k ∈ Z') : RZ w' base Z' v' n c (r ++ [l]) := by
  have keep : ∀ {u' : Value} {l' : List Up}, RA w base u' l' → RA w' base u' l' := fun {u' l'} h => owns_same h fun k hk => hg.block k (h.lt k hk).2 fun e => ra_rr h h2 k hk e.symm
  refine ⟨⟨T ++ [(n + r.length, chL n c r, u)], by simp [h1], ?_, fun i hi hr => ?_⟩, hv⟩
  · unfold RR
    rw [flat3_snoc, List.length_append, List.length_singleton]
    exact hown
  · by_cases e : i < T.length
    · have e1 : (T ++ [(n + (r.length : Int), chL n c r, u)])[i] = T[i] := List.getElem_append_left e
      have e2 : (r ++ [l])[i] = r[i]'(by omega) := List.getElem_append_left (by omega)
      have e3 : (r ++ [l]).take i = r.take i := by rw [List.take_append_of_le_length (by omega)]
      obtain ⟨a, b, d, f⟩ := h3 i e (by omega)
      rw [e1, e2, e3]
      exact ⟨a, b, keep d, fun k hk => hZ k (f k hk)⟩
    · have hi2 : i = r.length := by rw [List.length_append, List.length_singleton] at hr; omega
      subst hi2
      have e1 : (T ++ [(n + (r.length : Int), chL n c r, u)])[r.length] = (n + (r.length : Int), chL n c r, u) := by simp [← h1]
      have e2 : (r ++ [l])[r.length] = l := by simp
      have e3 : (r ++ [l]).take r.length = r := by simp
      rw [e1, e2, e3]
      exact ⟨rfl, rfl, keep hu, fun k hk => hZ k (huz k hk)⟩
end
end Go.Proofs.YtflanjcfkdjpjaaGreatDoor.Wal


