/- Layer 12 (rec): Payload, Link. -/
import Derived.Test.YtomhalcoomdadaaRecE
import Derived.Test.YtomhalcoomdadaaSumW
namespace Go.Proofs.Ytomhalcoomdadaa.Rec
open Go Go.RowKit Go.Proofs.Ytomhalcoomdadaa Go.Proofs.Ytomhalcoomdadaa.Lend
set_option linter.unusedVariables false

/-- a record's first bytes -/
def hd3 (s c : Int) (n : Nat) : List UInt8 := encL [8, 4, 2] [s, c, (n : Int)]
theorem hd3_length (s c : Int) (n : Nat) : (hd3 s c n).length = 14 := by simp [hd3, encL, encN_length]
/-- a record's bytes -/
def pyT (s c : Int) (l : List Up) : List UInt8 := if errL l = 0 then hd3 s c l.length ++ txL l else []
structure Wf3 (s c : Int) (n : Nat) : Prop where
  s0 : 0 ≤ s
  s1 : s < 18446744073709551616
  c0 : 0 ≤ c
  c1 : c < 4294967296
  n1 : n ≤ 1000
theorem Wf3.wr {s c : Int} {n : Nat} (h : Wf3 s c n) : wrS [8, 4, 2] [s, c, (n : Int)] = Lend.strOf (hd3 s c n) ∧ wrB [8, 4, 2] [s, c, (n : Int)] = true := by
  have h4 : fitsB c 4 = true := by unfold fitsB; rw [decide_eq_true_eq]; exact h.c1
  have h2 : fitsB (n : Int) 2 = true := by unfold fitsB; rw [decide_eq_true_eq]; have := h.n1; show (n : Int) < 65536; omega
  have h := wr_ok (ws := [8, 4, 2]) (ns := [s, c, (n : Int)]) rfl rfl (by simp [fitsL, fitsB_8 s h.s1, h4, h2])
  exact ⟨h.2, h.1⟩
theorem Wf3.ns {s c : Int} {n : Nat} (h : Wf3 s c n) : ∀ x ∈ [s, c, (n : Int)], 0 ≤ x ∧ x < 18446744073709551616 := by
  have := h.s0; have := h.s1; have := h.c0; have := h.c1; have := h.n1
  intro x hx
  simp only [List.mem_cons, List.mem_nil_iff, or_false] at hx
  omega
theorem txL_le : ∀ (l : List Up), errL l = 0 → (txL l).length ≤ 51 * l.length
  | [], _ => by unfold txL; simp
  | u :: l, h => by
    have e : txL (u :: l) = txU u ++ txL l := by unfold txL; rfl
    rw [e, List.length_append, List.length_cons]
    have h : (if chkU u = 0 then errL l else chkU u) = 0 := h
    by_cases hc : chkU u = 0
    · rw [if_pos hc] at h
      have := txL_le l h
      have := txU_le hc
      omega
    · rw [if_neg hc] at h; exact absurd h hc
theorem txT_le (l : List Up) : (txT l).length ≤ 51 * l.length := by
  unfold txT
  split
  · rename_i h; exact txL_le l h
  · simp
theorem UR.slice {w : World} {v : Value} {l : List Up} (h : UR w v l) : ∃ a cap, v = .slice a l.length cap := by obtain ⟨a, cap, hv, _⟩ := h.form; exact ⟨a, cap, hv⟩
set_option maxHeartbeats 4000000 in
set_option maxRecDepth 100000 in
theorem Payload_any {v : Value} {l : List Up} {w : World} (s c : Int) (h : UR w v l) (hf : Wf3 s c l.length) (hwf : ∀ u ∈ l, WfU u) :
    Calls Try.prog 21 #[.agg #[.int .u64 s, .int .u32 c, v]] w fun e w' => e = .returned (.tuple #[.string (Lend.strOf (pyT s c l)), .int .i64 (errL l)]) ∧ Below w.heap.size w w' := by
  obtain ⟨a, cap, rfl⟩ := h.slice
  obtain ⟨n, hn⟩ : ∃ n, n = l.length := ⟨_, rfl⟩
  have HN := Lib.hid hf.ns
  have HW := Lib.hid hf.wr
  have HLE := Lib.hid (txT_le l)
  have hs0 := hf.s0; have hs1 : s ≤ 18446744073709551615 := by have := hf.s1; omega
  have hc0 := hf.c0; have hc1 : c ≤ 4294967295 := by have := hf.c1; omega
  have hn1 := hf.n1
  have HTX := Lib.hid (fun W (hb : Below w.heap.size w W) => Text_any (h.below hb) hf.n1 hwf)
  have HPY : Hid (pyT s c l = if errL l = 0 then hd3 s c n ++ txL l else []) := Lib.hid (by rw [hn]; rfl)
  have HTT : Hid (txT l = if errL l = 0 then txL l else []) := Lib.hid rfl
  rw [← hn] at HN HW HTX HLE hn1 ⊢
  clear hf h hwf hn
  have wc : IntKind.u64.wrap c = c := by rw [wrap_u64]; omega
  have wn : IntKind.u64.wrap (n : Int) = (n : Int) := by rw [wrap_u64]; omega
  obtain ⟨T, hT⟩ : ∃ x, x = Lend.strOf (txT l) := ⟨_, rfl⟩
  have hts : T.size ≤ 51000 := by rw [hT, ssize]; have := HLE.out; omega
  rw [← hT] at HTX
  obtain ⟨er, her⟩ : ∃ x, x = errL l := ⟨_, rfl⟩
  rw [← her] at HTX HPY HTT ⊢
  obtain ⟨P, hP⟩ : ∃ x, x = pyT s c l := ⟨_, rfl⟩
  rw [← hP] at HPY ⊢
  have HT := Lib.hid hT
  obtain ⟨H, hH⟩ : ∃ x, x = Lend.strOf (hd3 s c n) := ⟨_, rfl⟩
  rw [← hH] at HW
  have hhs : H.size ≤ 14 := by rw [hH, ssize, hd3_length]; exact Nat.le_refl _
  have HH := Lib.hid hH
  clear hT her hP hH
  obtain ⟨w0, hw0⟩ : ∃ x, x = w.alloc (.cells #[.int .u64 s, .int .u32 c, .slice a n cap] 57) := ⟨_, rfl⟩
  have HB0 := Lib.hid (show Below w.heap.size w w0 by rw [hw0]; exact below_new _ _)
  have HX := Lib.hid (show Has w0 w.heap.size 57 [.int .u64 s, .int .u32 c, .slice a n cap] by rw [hw0]; exact Has.new _ _ _)
  have HT0 := Lib.hid (HTX.out w0 HB0.out)
  clear HTX
  go_enter Try.func21, Try.ntmps21
  go_wp2_with fail
  rw [← hw0]
  refine HT0.out.mono ?_
  rintro e w1 ⟨rfl, hb1⟩
  have HB1 := Lib.hid (below_on HB0.out hb1)
  have hx1 := HX.out.below hb1 HX.out.lt
  have hxl := hx1.lt
  have y0 := hx1.cell 0
  have y1 := hx1.cell 1
  have y2 := hx1.cell 2
  simp only [List.getElem?_cons_zero, List.getElem?_cons_succ] at y0 y1 y2
  clear hx1 hb1 hw0
  by_cases hz : er = 0
  · subst hz
    have HPY := Lib.hid (show P = hd3 s c n ++ txL l by rw [HPY.out]; rfl)
    have HTT := Lib.hid (show txT l = txL l by rw [HTT.out]; rfl)
    go_wp2_with fail
    go_region_held3 (fun W => W.cell? ⟨w.heap.size, 0, none⟩ = some (.int .u64 s) ∧ W.cell? ⟨w.heap.size, 1, none⟩ = some (.int .u32 c) ∧ W.cell? ⟨w.heap.size, 2, none⟩ = some (.slice a n cap))
      (first
        | with_reducible exact keep3 (by assumption) (by assumption)
        | with_reducible exact keep3 (by assumption) (below_new _ _)
        | go_keep)
      (first
        | (go_at_call 33; refine (recW_any _).mono ?_; rintro e wm ⟨bm, rfl, hrow, hbel⟩)
        | (go_at_call 35
           refine (write_any _ _ 3 3 3 3 [8, 4, 2] [s, c, (n : Int)] _ ?_ ?_ (by decide) (by decide) HN.out).mono ?_
           · repeat (first | assumption | apply Row.drw | apply Row.new | refine Row.later ?_ (by assumption))
           · repeat (first | (refine Row.threeAt _ _ _ _ _ _ _ ?_; first | rfl | (simp; done)) | apply Row.drw | apply Row.new | refine Row.later ?_ (by assumption))
           rintro e wo ⟨rfl, hbel2⟩
           rw [HW.out.1, HW.out.2]))
    all_goals
      rename_i hend
      clear hend wc wn y0 y1 y2
      go_wp2_with fail
      go_ret2
      refine ⟨ret_te (by rw [HPY.out, HH.out, HT.out, HTT.out, sapp]; simp) rfl, ?_⟩
      repeat (first | exact HB1.out | apply below_nw | apply below_dr | refine below_on ?_ (by assumption))
  · have hne : (er == 0) = false := by simpa using hz
    have HPY := Lib.hid (show P = [] by rw [HPY.out, if_neg hz])
    clear wc wn
    go_wp2_with fail
    go_ret2
    exact ⟨ret_te (by rw [HPY.out]; rfl) rfl, HB1.out⟩
end Go.Proofs.Ytomhalcoomdadaa.Rec
