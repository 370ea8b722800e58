/-
  The law CacheHits holds: of blocks that are asked for again and again, no more than there are slots, each is read but once. Conditions: none but the row's own.
-/
import Derived.Test.YtbdiadbaapfdgaaRows
import Derived.Test.YtbdiadbaapfdgaaCaY
import Derived.Deep.CutBlock
import Derived.WalkKit
import Derived.ProofKit
import Derived.OpenShut
import Derived.ShutString
import Derived.ChangeOld
import Derived.Below
namespace Go.Proofs.Ytbdiadbaapfdgaa.cacheHits
open Go.ChangeShapes Go.WideShapes Go.ChangeAt Go.RowKit
open Go.ChangeMaps (open_string shut_string)
set_option linter.unusedVariables false

theorem own : ownKnob Try.prog.godebug = none := by kernel_rfl
theorem laidOut : laidOutB Try.prog = true := by kernel_rfl

/-- WHAT THE WALK IS TOLD OF A SLICE OF INTEGERS THAT CAME IN: it is nil; or it leads to a row of 'cap' cells, the numbers 'zs' (the first 'len' are its elements, the rest its spare room), each fitting its kind. -/
def IsRow (k : IntKind) (w : World) (a : Option Addr) (len cap : Nat) (zs : List Int) : Prop :=
  (a = none ∧ len = 0 ∧ cap = 0 ∧ zs = []) ∨
  ∃ x, a = some x ∧ len ≤ cap ∧ cap ≤ maxLen ∧ zs.length = cap ∧ (∀ i, i < zs.length → w.cell? (x.add i) = some (.int k (zs.getD i 0))) ∧ ∀ n ∈ zs, (Lit.int k n).wf = true

theorem isRow_row {k : IntKind} {w : World} {a : Option Addr} {len cap : Nat} {zs : List Int} (h : IsRow k w a len cap zs) :
    Row k w a len (zs.take len) ∧ len ≤ cap ∧ cap ≤ maxLen ∧ (∀ n ∈ zs.take len, (Lit.int k n).wf = true) := by
  rcases h with ⟨rfl, rfl, rfl, rfl⟩ | ⟨x, rfl, hl, hm, hz, hc, hwf⟩
  · exact ⟨⟨rfl, fun h => absurd h (by decide)⟩, Nat.le_refl _, by unfold maxLen; omega, by simp⟩
  · refine ⟨⟨by simp; omega, fun h => ?_⟩, hl, hm, fun n hn => hwf n (List.mem_of_mem_take hn)⟩
    obtain ⟨b, off, spot⟩ := x
    have h0 := hc 0 (by omega)
    have hs : spot = none := by simpa [Addr.add] using World.cell?_spot h0
    subst hs
    refine ⟨b, off, rfl, fun i hi => ?_⟩
    have := hc i (by omega)
    rw [Addr.add_lit] at this
    rw [this]
    simp [List.getD, hi]

theorem walk_wf {zs : List Int} (h : ∀ n ∈ zs, (Lit.int .u64 n).wf = true) : ∀ n ∈ zs, 0 ≤ n ∧ n < 18446744073709551616 := by
  intro n hn
  have := bounds_u64 (h n hn)
  omega
open Go.Proofs.Ytbdiadbaapfdgaa.Ca

/-! ### STEP 1: THE WALK: the Go text returns true, AND WRITES NOTHING THAT WAS THERE: 'Below w.heap.size w w'' (Derived/Below.lean: '.refl', '.alloc', '.drew', '.setCell' at a new block, '.trans'). Open each 'IsRow' by 'rcases' AHEAD of 'go_enter'; part every test ahead of the walk. -/
set_option maxHeartbeats 8000000 in
set_option maxRecDepth 100000 in
theorem walk (a0 : Int) (a1 : Option Addr) (len1 cap1 : Nat) (z1 : List Int) (w : World) (w0 : (Lit.int .u8 a0).wf = true) (w1 : IsRow .u8 w a1 len1 cap1 z1) :
    Calls Try.prog 6 #[.int .u8 a0, .slice a1 len1 cap1] w fun e w' => e = .returned (.bool true) ∧ Below w.heap.size w w' := by
  obtain ⟨hr1, hlc1, hcm1, hwf1⟩ := isRow_row w1
  have R1 := Lib.hid hr1
  have WF := Lib.hid hwf1
  have HLZ := Lib.hid hr1.len_eq
  have hb8 := bounds_u8 w0
  obtain ⟨hb80, hb81⟩ := hb8
  clear hr1 hwf1 w1 w0
  unfold maxLen at hcm1
  have hmm := @run_makeMap Try.prog
  have HMM := Lib.hid hmm
  obtain ⟨n, hn, hn1, hn12⟩ : ∃ n : Nat, 1 + a0 % 12 = (n : Int) ∧ 1 ≤ n ∧ n ≤ 12 := ⟨(1 + a0 % 12).toNat, by omega, by omega, by omega⟩
  clear hmm
  go_enter Try.func6, Try.ntmps6
  go_wp2_with fail
  try rw [hn]
  refine (new_yes n _ hn1 (by omega)).mono ?_
  rintro e w1 ⟨p, R, rfl, hs, hR, hb⟩
  have O1 := Lib.hid (Own.of hs hR (Below.refl _ w) hb)
  clear hs hR hb
  go_wp2_with fail
  refine (wakes_any _).mono ?_
  rintro e w2 ⟨rfl, hb⟩
  have O2 := Lib.hid (O1.out.on hb)
  clear hb O1
  obtain ⟨mm, hm⟩ : ∃ mm, mm = min len1 100 := ⟨_, rfl⟩
  have hmin : ∀ W ts, (Builtin.min_ ts 3 #[.int .i64 (len1 : Nat), .int .i64 100]).run Try.prog W = .ok (.int .i64 (mm : Int)) W := by
    intro W ts; rw [hm]; exact run_minC _ _ _ _ len1 100
  have hm100 : mm ≤ 100 := by omega
  have hml : mm ≤ len1 := by omega
  have hml' : mm ≤ cap1 := by omega
  clear hm
  have hmm := HMM.out
  obtain ⟨mb, hmb⟩ : ∃ b, b = w2.heap.size := ⟨_, rfl⟩
  obtain ⟨W3, hW3⟩ : ∃ W, W = w2.alloc (.map #[] 0) := ⟨_, rfl⟩
  have HT3 := Lib.hid (show Tw w (fun k => k = mb) p n [] [] (.slice none 0 0) 0 0 0 W3 by
    rw [hW3, hmb]
    exact ((Tw.start O2.out).more (.map #[] 0)).less fun k hk => .inr hk)
  have HS3 := Lib.hid (show SM W3 mb [] by rw [hW3, hmb]; exact SM.made w2)
  have HMB := Lib.hid (show w.heap.size ≤ mb by rw [hmb]; exact O2.out.bel.size)
  clear O2
  go_wp2_with fail
  rw [← hmb, ← hW3]
  clear hmin hmm hmb hW3 HMM
  go_loopw [8, 45] (fun rd i wr => ∃ (k c f m : Nat) (es : List En), k ≤ mm ∧ i = .int .i64 k ∧ rd = .int .i64 m ∧ c ≤ 2 * k ∧ f + m = k ∧ m = es.length ∧ Hit n es ∧ Tw w (fun b => b = mb) p n es [] (.slice none 0 0) c f m wr ∧ SM wr mb (es.map En.addr)) (fun _ i _ => mm - (intOf i).toNat)
  case atStart => exact ⟨0, 0, 0, 0, [], Nat.zero_le _, rfl, rfl, Nat.le_refl _, rfl, rfl, (fun e h => by cases h), HT3.out, HS3.out⟩
  case round =>
    obtain ⟨k, c, f, m, es, hk, rfl, rfl, hc, hfm, hml2, hhit, ht, hsm⟩ := hrel
    have HML := Lib.hid hml2
    have HLE := Lib.hid ht.len
    clear hml2
    clear HT3 HS3
    by_cases hlt : k < mm
    · obtain ⟨zb, zo, rfl, hcell⟩ := (R1.out.below ht.bel (Nat.le_refl _)).at_ (by omega)
      have hz := hcell k (by omega)
      obtain ⟨y, hy⟩ : ∃ y, y = (z1.take len1).getD k 0 := ⟨_, rfl⟩
      have hyb : 0 ≤ y ∧ y ≤ 255 := by
        have := bounds_u8 (WF.out y (by rw [hy, List.getD_eq_getElem?_getD, List.getElem?_eq_getElem (by rw [HLZ.out]; omega)]; exact List.getElem_mem _))
        omega
      rw [← hy] at hz
      obtain ⟨a, ha⟩ : ∃ a : Int, Int.tmod y (n : Int) = a := ⟨_, rfl⟩
      have hab : 0 ≤ a ∧ a < n := by
        rw [Int.tmod_eq_emod_of_nonneg hyb.1] at ha
        have h1 := Int.emod_nonneg y (show (n : Int) ≠ 0 by omega)
        have h2 := Int.emod_lt_of_pos y (show (0 : Int) < n by omega)
        omega
      obtain ⟨ha0, ha1⟩ := hab
      obtain ⟨hy0, hy1⟩ := hyb
      have hnz : ¬ (n : Int) = 0 := by omega
      obtain ⟨X, hX⟩ : ∃ b, b = wr.heap.size := ⟨_, rfl⟩
      obtain ⟨W7, hW7⟩ : ∃ W, W = wr.alloc (.cells #[.int .i64 a, .int .u64 7, .int .u32 0] 35) := ⟨_, rfl⟩
      have HT := Lib.hid (show Tw w (fun k => k = mb ∨ k = X) p n es [] (.slice none 0 0) c f m W7 by
        rw [hW7, hX]; exact ht.more _)
      have HX := Lib.hid (show Has W7 X 35 [.int .i64 a, .int .u64 7, .int .u32 0] by rw [hW7, hX]; exact Has.new wr _ _)
      have HS := Lib.hid (show SM W7 mb (es.map En.addr) by rw [hW7]; exact hsm.same (Below.heap_alloc _ _ _ hsm.lt))
      have HH := Lib.hid hhit
      have HAI := Lib.hid (show in64 a by unfold in64; omega)
      clear hcell hy hhit ht hsm
      have hres : (Int.tmod y (n : Int)) = a := ha
      clear ha
      go_upto_region 12 with fail
      rw [← hW7, ← hX]
      clear hz hres hW7 hX hnz
      have y0 := HX.out.cell 0
      have y1 := HX.out.cell 1
      have y2 := HX.out.cell 2
      simp only [List.getElem?_cons_zero, List.getElem?_cons_succ] at y0 y1 y2
      cases e : gtE es a with
      | some t =>
        have htm : t ∈ es := List.mem_of_find?_eq_some e
        have hta : t.addr = a := by have := List.find?_some e; simpa using this
        obtain ⟨_, _, h7, h0, hpay⟩ := HH.out t htm
        rw [hta] at hpay
        have hperm := again_perm (by obtain ⟨R, o, _⟩ := HT.out; exact o.at_.nodup) htm
        have hag := HH.out.again htm
        rw [hta] at hperm hag
        have HPM := Lib.hid hperm
        have HAG := Lib.hid hag
        clear hperm hag
        have HE := Lib.hid e
        have HTM := Lib.hid htm
        have HTA := Lib.hid hta
        obtain ⟨R, o, rr, aa⟩ := HT.out
        have HPP := Lib.hid (get_hit o.at_ a 7 0 HAI.out (by omega) e h7 h0)
        have HKP := Lib.hid (fun es' c' f' m' w8 hk => Tw.kept (w' := w8) (es' := es') (c' := c') (f' := f') (m' := m') o rr aa hk)
        have HPY := Lib.hid hpay
        clear o rr aa HT e htm hta h7 h0 hpay
        go_wp2_with fail
        refine HPP.out.mono ?_
        rintro e w8 ⟨rfl, hk8⟩
        obtain ⟨t8, s8⟩ := HKP.out _ _ _ _ w8 hk8
        have T8 := Lib.hid (t8.less (K' := fun b => b = mb) fun k h => .inl h)
        have HX8 := Lib.hid (HX.out.same (s8 X (.inr rfl)))
        have HS8 := Lib.hid ((HS.out.same (s8 mb (.inl rfl))).perm HPM.out.symm)
        rw [HPY.out]
        clear hk8 t8 s8 HPP HKP y0 y1 y2 HX HS
        have y0 := HX8.out.cell 0
        simp only [List.getElem?_cons_zero] at y0
        go_wp2_with fail
        go_roundw
        case rel => exact ⟨k + 1, c + 1, f + 1, m, _, by omega, by go_num, rfl, by omega, by omega, by rw [HML.out]; have := HPM.out.length_eq; simpa using this.symm, HAG.out, T8.out, HS8.out⟩
        case measure => simp [intOf]; omega
      | none =>
        have HNM := Lib.hid (gtE_none e)
        obtain ⟨R, o, rr, aa⟩ := HT.out
        have HND := Lib.hid o.at_.nodup
        have HLT := Lib.hid (show es.length < n by
          have := fewer (n := n) o.at_.nodup (fun x hx => by
            obtain ⟨e, he, rfl⟩ := List.mem_map.1 hx
            have := HH.out e he
            exact ⟨this.1, this.2.1⟩) (gtE_none e) ha0 ha1
          simpa using this)
        have HPP := Lib.hid (get_miss o.at_ a 7 0 HAI.out (by omega) (fun t ht => by rw [e] at ht; cases ht))
        have HKP := Lib.hid (fun es' c' f' m' w8 hk => Tw.kept (w' := w8) (es' := es') (c' := c') (f' := f') (m' := m') o rr aa hk)
        clear o rr aa HT e
        go_wp2_with fail
        refine HPP.out.mono ?_
        rintro e w8 ⟨rfl, hk8⟩
        obtain ⟨t8, s8⟩ := HKP.out _ _ _ _ w8 hk8
        have T8 := Lib.hid t8
        have HX8 := Lib.hid (HX.out.same (s8 X (.inr rfl)))
        have HS8 := Lib.hid (HS.out.same (s8 mb (.inl rfl)))
        clear hk8 t8 s8 HPP HKP y0 y1 y2 HX HS
        have y0 := HX8.out.cell 0
        simp only [List.getElem?_cons_zero] at y0
        obtain ⟨w9, hrun, hs9, hg9⟩ := HS8.out.update HNM.out (by have := HLT.out; rw [List.length_map]; omega) HAI.out
        have T9 := Lib.hid (T8.out.grown (.inl rfl) HMB.out hg9)
        have HX9 := Lib.hid (HX8.out.same (hg9.block X HX8.out.lt (fun e => by
          have e := Option.some.inj e
          obtain ⟨D, ⟨es', clock, hb, _⟩, _⟩ := HS8.out
          have h3 := HX8.out
          unfold Has at h3
          rw [e, hb] at h3
          cases h3)))
        have HS9 := Lib.hid hs9
        have x0 := HX9.out.cell 0
        have x1 := HX9.out.cell 1
        have x2 := HX9.out.cell 2
        simp only [List.getElem?_cons_zero, List.getElem?_cons_succ] at x0 x1 x2
        obtain ⟨R, o, rr, aa⟩ := T9.out
        have HPP := Lib.hid (put_any o.at_ a 7 0 4 (Utf8.encode (97 + a)) HAI.out (by omega))
        have HKP := Lib.hid (fun es' c' f' m' w8 hk => Tw.kept (w' := w8) (es' := es') (c' := c') (f' := f') (m' := m') o rr aa hk)
        rw [put_new (e := ⟨a, 7, 0, 4, Utf8.encode (97 + a)⟩) HNM.out HLT.out] at HPP
        clear o rr aa T8 HX8 HS8 hs9 hg9 T9
        go_wp2_with fail
        refine HPP.out.mono ?_
        rintro e w10 ⟨rfl, hk10⟩
        obtain ⟨t10, s10⟩ := HKP.out _ _ _ _ w10 hk10
        have T10 := Lib.hid (t10.less (K' := fun b => b = mb) fun k h => .inl h)
        have HS10 := Lib.hid (HS9.out.same (s10 mb (.inl rfl)))
        have HHN := Lib.hid (show Hit n (⟨a, 7, 0, 4, Utf8.encode (97 + a)⟩ :: es) from fun e he => by
          rcases List.mem_cons.1 he with rfl | he
          · exact ⟨ha0, ha1, rfl, rfl, rfl⟩
          · exact HH.out e he)
        clear hk10 t10 s10 HPP HKP x0 x1 x2 y0 HX9 HS9 hrun
        go_wp2_with fail
        go_roundw
        case rel => exact ⟨k + 1, c + 1 + 1, f, m + 1, _, by omega, by go_num, by go_num, by omega, by omega, by rw [HML.out]; rfl, HHN.out, T10.out, HS10.out⟩
        case measure => simp [intOf]; omega
    · have hki : ¬ (k : Int) < (mm : Int) := by omega
      have hke : k = mm := by omega
      subst hke
      obtain rfl : m = es.length := HML.out
      have HT := Lib.hid ht
      have HS := Lib.hid hsm
      have HCO := Lib.hid (show Calls Try.prog 17 #[.pointer (some ⟨p, 0, none⟩)] wr (fun e w' => e = .returned (.tuple #[.int .i64 f, .int .i64 es.length]) ∧ Below wr.heap.size wr w') from by obtain ⟨R, o, _⟩ := HT.out; exact counts_any o.at_)
      have hff : ((k : Int) - (es.length : Int)) = (f : Int) := by omega
      have HFF := Lib.hid hff
      clear ht hsm hhit hff HML HLE hfm
      go_wp2_with fail
      refine HCO.out.mono ?_
      rintro e w11 ⟨rfl, hb⟩
      have HT1 := Lib.hid (HT.out.on hb)
      have hs1 := HS.out.same (hb.block mb HS.out.lt)
      have HS1 := Lib.hid hs1
      have hln := hs1.len
      rw [List.length_map] at hln
      have HLS := Lib.hid (show Calls Try.prog 16 #[.pointer (some ⟨p, 0, none⟩)] w11 (LsE w11 es) from by obtain ⟨R, o, _⟩ := HT1.out; exact list_any o.at_)
      have hff := HFF.out
      clear hb hs1 HCO HT HS
      obtain ⟨L, hL⟩ : ∃ L, L = es.length := ⟨_, rfl⟩
      rw [← hL] at hln hff ⊢
      have HLL := Lib.hid hL
      clear hL
      go_wp2_with fail
      refine HLS.out.mono ?_
      rintro e w12 ⟨vl, rfl, hrow, hb⟩
      have HB := Lib.hid (HT1.out.on hb).bel
      have hs2 := HS1.out.same (hb.block mb HS1.out.lt)
      have hln2 := hs2.len
      rw [List.length_map, ← HLL.out] at hln2
      obtain ⟨al, cl, rfl⟩ := ownsRow_any hrow
      rw [← HLL.out]
      clear hrow hb hs2 HLS HT1 HS1 hln
      go_wp2_with fail
      go_ret
      exact ⟨rfl, HB.out⟩

/-! ### THE ROW's STEP: WRITTEN OUT: LEAVE IT -/
set_option maxRecDepth 100000 in
theorem lifted (os : Os) (started : os.Started) (H : Type) (enc : TypeId × Value → H) :
    ReturnsInHanded {} Try.checked os 6 .any (Rows.cacheHitsSpec.pre6 enc Try.prog Try.f6 Rows.cacheHitsRow.domain false) (Rows.cacheHitsSpec.post enc Try.prog Try.f6 false true false false) := by
  refine returnsInHanded_of_change (C := Try.checked) own started (by kernel_rfl) Try.func6
    (ChangeSpec.witness6 (enc := enc) (C := Try.checked) false ⟨#[], #[.int .u8 0, .slice none 0 0], []⟩ 8 (by kernel_rfl) (by kernel_rfl) (by kernel_rfl) (by kernel_rfl)) ?_
  intro W base args ds gs before hval0 hW hcnd _
  have hval : ∀ (j : Nat) t v, Try.f6.params[j]? = some t → args[j]? = some v → Value.okWide Try.prog W .any base t v := hval0
  have hW' := hW
  obtain ⟨p, q, hA0, hV, rfl, hfz, hnd⟩ := hW
  have hA : DataW.TrodAll enc Try.prog W 0 (fun _ => true) true Try.f6.params.toList args.toList ds p := hA0
  rw [Try.params6] at hA hval
  obtain ⟨v0, vs0, d0, ds0, p0, q0, hargs, rfl, rfl, h0, r0⟩ := trodAll_cons hA
  obtain ⟨v1, vs1, d1, ds1, p1, q1, rfl, rfl, rfl, h1, r1⟩ := trodAll_cons r0
  obtain ⟨rfl, rfl, rfl⟩ := trodAll_nil r1
  obtain rfl : args = #[v0, v1] := by cases args; simp_all
  obtain ⟨rfl, rfl⟩ := trodVars_none hV
  obtain ⟨a0, rfl, rfl, rfl, w0⟩ := open_int Try.underlying5 (hval 0 5 v0 rfl rfl) h0
  obtain ⟨a1, len1, cap1, rfl⟩ := okWide_slice Try.underlying53 (hval 1 53 v1 rfl rfl)
  have k1 := h1
  have lt1 : ∀ x ∈ p1, x.block < W.heap.size := by obtain ⟨m, hm⟩ := k1; exact DataW.trod_lt m _ _ _ hm
  obtain ⟨z1, w1⟩ : ∃ zs, IsRow .u8 W a1 len1 cap1 zs := by
    obtain ⟨fuel, hf⟩ := h1
    rcases open_ints Try.underlying53 Try.underlying5 (by kernel_rfl) hf with ⟨hcs, _⟩ | ⟨x, l, c, zs, hcs, _, hl, hm, hz, _, hcell, hwz⟩
    · simp [Value.cells] at hcs
      obtain ⟨rfl, rfl, rfl⟩ := hcs
      exact ⟨[], .inl ⟨rfl, rfl, rfl, rfl⟩⟩
    · simp [Value.cells] at hcs
      obtain ⟨rfl, rfl, rfl⟩ := hcs
      exact ⟨zs, .inr ⟨_, rfl, hl, hm, by simpa using hz, hcell, hwz⟩⟩
  clear hA0 hval0
  refine (walk a0 a1 len1 cap1 z1 W w0 w1).mono fun e W' ⟨he, bel⟩ => ?_
  subst he
  exact ⟨_, rfl, _, _, _, [], _, [], hW', trodAll_mk1 (shut_bool Try.underlying4 _), (trodAll_cons_mk (shut_int Try.underlying5 w0) (trodAll_cons_mk (Below.trod laidOut (by kernel_rfl) (of_decide_eq_true (by kernel_rfl)) k1 bel lt1) trodAll_mk0)), rfl, bel.frame _, fun h => by cases h⟩

theorem over : Rows.cacheHitsRow.holds Try.pinned (OpenSpec.ofChange Rows.cacheHitsSpec) :=
  OpenClaim.holds_of_wide 6 Try.f6 rfl rfl rfl rfl rfl rfl rfl ⟨rfl, rfl, rfl, rfl, rfl⟩ rfl rfl rfl rfl rfl (by kernel_rfl) Try.func6 (by kernel_rfl)
    (of_decide_eq_true (by kernel_rfl)) (by unfold Func.isWrapper; first | (rw [if_pos (by decide +kernel)]; kernel_rfl) | (rw [if_neg (by decide +kernel)]; exact ⟨rfl, rfl⟩))
    (fun os started H enc _ => lifted os started H enc)

/-- ████ THE STATEMENT ████ -/
theorem proved : Rows.CacheHitsSaid := over
#print axioms proved
end Go.Proofs.Ytbdiadbaapfdgaa.cacheHits
