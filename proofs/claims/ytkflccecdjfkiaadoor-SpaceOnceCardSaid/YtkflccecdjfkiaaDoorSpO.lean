/- Contracts of layer 10 (space): end, Settle, Undo, New; all of them with blocks as one list. -/
import Derived.Test.YtkflccecdjfkiaaDoorSpP
import Derived.Test.YtkflccecdjfkiaaDoorBitM
namespace Go.Proofs.YtkflccecdjfkiaaDoor.Spc
open Go.RowKit Go.Proofs.YtkflccecdjfkiaaDoor Go.Proofs.YtkflccecdjfkiaaDoor.Bit
set_option linter.unusedVariables false

theorem puts_minus (l m : List Bool) (hm : m.length = l.length) : putsL l (lstL m.length m) false = minusL l m :=
  ext_bg (by rw [putsL_length, minusL_length]) fun i hi => by
    rw [putsL_length] at hi
    rw [putsL_get _ _ _ _ hi]
    have e : bg (minusL l m) i = (bg l i && !bg m i) := by
      unfold minusL; rw [bg, List.getD_eq_getElem?_getD, List.getElem?_map, List.getElem?_range hi]; rfl
    rw [e]
    by_cases h : bg m i = true
    · rw [if_pos ((mem_lst _ _ _).2 ⟨by omega, h⟩), h]; simp
    · have h' : bg m i = false := by simpa using h
      rw [if_neg (fun k => h ((mem_lst _ _ _).1 k).2), h']; simp
theorem tz_ne {w : World} (hT : Tz w) {q o : Nat} {k : Int} (h : w.cell? ⟨q, o, none⟩ = some (.int .i64 k)) (ho : o < 64) : q ≠ 0 := by
  rintro rfl
  have := hT.at_ ho
  rw [h] at this
  cases this
theorem set_ne {w : World} (hT : Tz w) {q : Nat} {R : List Nat} {l : List Bool} (h : SetAt w q R l) : q ≠ 0 := by
  obtain ⟨ws, _, h1, _⟩ := h
  exact tz_ne hT h1.c0 (by decide)
theorem Tz.chg {w w' : World} (hT : Tz w) {R : List Nat} (hc : Chg (fun k => k ∈ R) w w') (hR : 0 ∉ R) : Tz w' := fun j hj => by
  have h := hT j hj
  have hb := World.block_lt_of_cell? _ _ h
  rw [← h]
  have := hc.block _ hb hR
  unfold World.cell?
  rw [show w'.heap[(⟨0, j, none⟩ : Addr).block]? = w.heap[(⟨0, j, none⟩ : Addr).block]? from this]
theorem SpB.tz {w : World} {p pf pt pg : Nat} {S : Sp} (h : SpB w p pf pt pg S) (hT : Tz w) : 0 ∉ [p, pf, pt, pg] := by
  have a := tz_ne hT h.m0 (by decide)
  have b := set_ne hT h.free
  have c := set_ne hT h.taken
  have d := set_ne hT h.given
  simp only [List.mem_cons, List.mem_nil_iff, or_false]
  omega
section
variable {p pf pt pg q : Nat} {S : Sp} {l m : List Bool}
set_option maxHeartbeats 1000000 in
set_option maxRecDepth 100000 in
theorem empty_b (w : World) (hT : Tz w) (h : SetAt w q [q] l) : Calls Tryd.prog 43 #[.pointer (some ⟨q, 0, none⟩)] w fun e w' => e = .returned (.tuple #[]) ∧ SetAt w' q [q] (noneL l.length) ∧ Chg (fun k => k ∈ [q]) w w' := by
  have H := Lib.hid h
  have hls := list_any w hT h
  obtain ⟨N, hN⟩ : ∃ N, N = cntL l := ⟨_, rfl⟩
  obtain ⟨xs, hx⟩ : ∃ xs, xs = lstL l.length l := ⟨_, rfl⟩
  rw [← hN, ← hx] at hls
  have HNX := Lib.hid (show xs.length = N by rw [hN, hx]; rfl)
  have HEND := Lib.hid (show putsL l xs false = noneL l.length by rw [hx]; exact puts_none l)
  have hN4 : N ≤ 4096 := by rw [hN]; have := cnt_le l; have := h.bd; omega
  clear hN hx h hT
  go_enter Tryd.func43, Tryd.ntmps43
  go_wp2_with fail
  refine hls.mono ?_
  rintro e w1 ⟨ao, cap, rfl, hv, hn, hb⟩
  have hap := apart_new (R := [q]) (fun k hk => H.out.lt k hk) hn
  have HAP := Lib.hid hap
  have HV := Lib.hid hv
  have HS0 := Lib.hid (H.out.same (w' := w1) fun k hk => hb.block k (H.out.lt k hk))
  have HC0 := Lib.hid (Chg.of_below (R := fun k => k ∈ [q]) hb (Nat.le_refl _))
  clear hap hv hn hb hls
  go_wp2_with fail
  go_loopw [7] (fun i wr => ∃ c : Nat, c ≤ N ∧ i = .int .i64 c ∧ SetAt wr q [q] (putsL l (xs.take c) false) ∧ Chg (fun k => k ∈ [q]) w wr ∧ Vals wr ao N cap (iV xs)) (fun i _ => N - (intOf i).toNat)
  case atStart => exact ⟨0, Nat.zero_le _, rfl, HS0.out, HC0.out, HV.out⟩
  case round =>
    obtain ⟨c, hc, rfl, hs, hch, hv⟩ := hrel
    have HS := Lib.hid hs
    have HC := Lib.hid hch
    have HVr := Lib.hid hv
    clear HS0 HC0 HV
    by_cases hlt : c < N
    · have hlt' : (c : Int) < (N : Int) := by omega
      obtain ⟨b2, o2, rfl, hcell⟩ := hv.int (by omega)
      have hcc := hcell c hlt
      have HPS := Lib.hid (putsL_snoc l xs c (by rw [HNX.out]; exact hlt) false)
      obtain ⟨X, hX⟩ : ∃ X, X = ig xs c := ⟨_, rfl⟩
      rw [← hX] at hcc HPS
      clear hs hch hv hcell hX
      go_wp2_with fail
      refine (put_any X false _ HS.out).mono ?_
      rintro e w2 ⟨R', rfl, hs, _, hch⟩
      have HS2 := Lib.hid (SetAt.one hs)
      rw [← HPS.out] at HS2
      have HC2 := Lib.hid (HC.out.trans hch fun i _ hi => hi)
      have HV2 := Lib.hid (Vals.chg HVr.out hch (fun _ => HAP.out))
      clear hs hch
      go_wp2_with fail
      go_roundw
      case rel => exact ⟨c + 1, by omega, by go_num, HS2.out, HC2.out, HV2.out⟩
      case measure => simp [intOf]; omega
    · have hcN : c = N := by omega
      rw [hcN, ← HNX.out, List.take_length, HEND.out] at hs
      have HSE := Lib.hid hs
      clear hs hch hv hcN
      go_wp2_with fail
      go_end0
      exact ⟨rfl, HSE.out, HC.out⟩
theorem SpB.useP {w : World} (h : SpB w p pf pt pg S) {U : List Bool} (e : U = S.used) : SpB w p pf pt pg { S with used := U } := by subst e; exact h
theorem SpB.emT {w w' : World} {R T : List Nat} {l : List Bool} (h : SpB w p pf pt pg S) (hs : SetAt w' pt R l) (hl : l.length = S.used.length) (hc : Chg (fun j => j ∈ [pt]) w w') : SpB w' p pf pt pg { S with taken := l } := by
  obtain ⟨d1, d2, d3, d4, d5, d6⟩ := h.d
  exact ⟨hc.has h.main (by simp; omega), h.free.same fun j hj => hc.block j (h.free.lt j hj) (by simp at hj ⊢; omega), SetAt.one hs, h.given.same fun j hj => hc.block j (h.given.lt j hj) (by simp at hj ⊢; omega), ⟨h.ok.n1, h.ok.n2, hl, h.ok.gl, h.ok.fl, h.ok.g0, h.ok.le, h.ok.lb⟩, h.d⟩
theorem SpB.emG {w w' : World} {R T : List Nat} {l : List Bool} (h : SpB w p pf pt pg S) (hs : SetAt w' pg R l) (hl : l.length = S.used.length) (hc : Chg (fun j => j ∈ [pg]) w w') : SpB w' p pf pt pg { S with given := l } := by
  obtain ⟨d1, d2, d3, d4, d5, d6⟩ := h.d
  exact ⟨hc.has h.main (by simp; omega), h.free.same fun j hj => hc.block j (h.free.lt j hj) (by simp at hj ⊢; omega), h.taken.same fun j hj => hc.block j (h.taken.lt j hj) (by simp at hj ⊢; omega), SetAt.one hs, ⟨h.ok.n1, h.ok.n2, h.ok.tl, hl, h.ok.fl, h.ok.g0, h.ok.le, h.ok.lb⟩, h.d⟩
set_option maxHeartbeats 1000000 in
set_option maxRecDepth 100000 in
theorem end_b (w : World) (hT : Tz w) (h : SpB w p pf pt pg S) (hm : SetAt w q [q] m) (hl : m.length = S.used.length) : Calls Tryd.prog 34 #[.pointer (some ⟨p, 0, none⟩), .pointer (some ⟨q, 0, none⟩)] w fun e w' => e = .returned (.tuple #[]) ∧ Kept w p [p, pf, pt, pg] (({ S with used := minusL S.used m } : Sp).begun) w' := by
  have H := Lib.hid h
  have HT := Lib.hid hT
  have hls := list_any w hT hm
  obtain ⟨N, hN⟩ : ∃ N, N = cntL m := ⟨_, rfl⟩
  obtain ⟨xs, hx⟩ : ∃ xs, xs = lstL m.length m := ⟨_, rfl⟩
  rw [← hN, ← hx] at hls
  have HNX := Lib.hid (show xs.length = N by rw [hN, hx]; rfl)
  have HEND := Lib.hid (show putsL S.used xs false = minusL S.used m by rw [hx]; exact puts_minus _ _ hl)
  have hN4 : N ≤ 4096 := by rw [hN]; have := cnt_le m; have := hm.bd; omega
  clear hN hx hm hT hl h
  go_enter Tryd.func34, Tryd.ntmps34
  go_wp2_with fail
  refine hls.mono ?_
  rintro e w1 ⟨ao, cap, rfl, hv, hn, hb⟩
  have hap := apart_new (R := [pf]) (fun k hk => H.out.lt k (by simp at hk ⊢; simp [hk])) hn
  have HAP := Lib.hid hap
  have HV := Lib.hid hv
  have HS0 := Lib.hid (H.out.on hb)
  have HC0 := Lib.hid (chgB p pf pt pg hb)
  clear hap hv hn hb hls
  go_wp2_with fail
  go_loopw [9] (fun i wr => ∃ c : Nat, c ≤ N ∧ i = .int .i64 c ∧ SpB wr p pf pt pg { S with used := putsL S.used (xs.take c) false } ∧ Chg (fun k => k ∈ [p, pf, pt, pg]) w wr ∧ Vals wr ao N cap (iV xs)) (fun i _ => N - (intOf i).toNat)
  case atStart => exact ⟨0, Nat.zero_le _, rfl, HS0.out, HC0.out, HV.out⟩
  case round =>
    obtain ⟨c, hc, rfl, hs, hch, hv⟩ := hrel
    have HS := Lib.hid hs
    have HC := Lib.hid hch
    have HVr := Lib.hid hv
    clear HS0 HC0 HV
    by_cases hlt : c < N
    · have hlt' : (c : Int) < (N : Int) := by omega
      obtain ⟨b2, o2, rfl, hcell⟩ := hv.int (by omega)
      have hcc := hcell c hlt
      have HPS := Lib.hid (putsL_snoc S.used xs c (by rw [HNX.out]; exact hlt) false)
      obtain ⟨X, hX⟩ : ∃ X, X = ig xs c := ⟨_, rfl⟩
      rw [← hX] at hcc HPS
      have m1 := hs.m1
      clear hs hch hv hcell hX
      go_wp2_with fail
      refine (put_any X true _ HS.out.free).mono ?_
      rintro e w2 ⟨R', rfl, hs, _, hch⟩
      have HS2 := Lib.hid (HS.out.putF X false hs hch)
      have HC2 := Lib.hid (HC.out.trans (chgF p pf pt pg hch) fun i _ hi => hi)
      have HV2 := Lib.hid (Vals.chg HVr.out hch (fun _ => HAP.out))
      clear hs hch
      go_wp2_with fail
      go_roundw
      case rel => exact ⟨c + 1, by omega, by go_num, by rw [HPS.out]; exact HS2.out, HC2.out, HV2.out⟩
      case measure => simp [intOf]; omega
    · have hcN : c = N := by omega
      rw [hcN, ← HNX.out, List.take_length, HEND.out] at hs
      have HSE := Lib.hid hs
      have HTr := Lib.hid (Tz.chg HT.out hch (H.out.tz HT.out))
      have m2 := hs.m2
      clear hs hch hv hcN
      go_wp2_with fail
      refine (empty_b _ HTr.out HSE.out.taken).mono ?_
      rintro e w2 ⟨rfl, hs, hch⟩
      have HS2 := Lib.hid (HSE.out.emT (T := []) hs (by rw [noneL, List.length_replicate]; exact HSE.out.ok.tl) hch)
      have HC2 := Lib.hid (HC.out.trans (chgT p pf pt pg hch) fun i _ hi => hi)
      have HT2 := Lib.hid (Tz.chg HT.out HC2.out (H.out.tz HT.out))
      have m3 := HS2.out.m3
      clear hs hch m2
      go_wp2_with fail
      refine (empty_b _ HT2.out HS2.out.given).mono ?_
      rintro e w3 ⟨rfl, hs, hch⟩
      have HS3 := Lib.hid (HS2.out.emG (T := []) hs (by rw [noneL, List.length_replicate]; exact HSE.out.ok.gl) hch)
      have HC3 := Lib.hid (HC2.out.trans (chgG p pf pt pg hch) fun i _ hi => hi)
      clear hs hch m3
      go_wp2_with fail
      go_end0
      have e1 := HSE.out.ok.tl
      have e2 := HSE.out.ok.gl
      have hk := HS3.out.kept HC3.out
      refine ⟨rfl, ?_⟩
      have e3 : (({ S with used := minusL S.used m } : Sp).begun) = ({ S with used := minusL S.used m, taken := noneL S.taken.length, given := noneL S.given.length } : Sp) := by
        unfold Sp.begun
        simp only at e1 e2 ⊢
        rw [e1, e2]
      rw [e3]; exact hk
set_option maxRecDepth 100000 in
theorem settle_b (w : World) (hT : Tz w) (h : SpB w p pf pt pg S) : Calls Tryd.prog 17 #[.pointer (some ⟨p, 0, none⟩)] w fun e w' => e = .returned (.tuple #[]) ∧ Kept w p [p, pf, pt, pg] S.settle w' := by
  have he := end_b w hT h h.given h.ok.gl
  have m3 := h.m3
  clear h hT
  go_enter Tryd.func17, Tryd.ntmps17
  go_wp2_with fail
  refine he.mono ?_
  rintro e w1 ⟨rfl, hk⟩
  have HK := Lib.hid hk
  clear hk
  go_wp2_with fail
  go_end0
  exact ⟨rfl, HK.out⟩
set_option maxRecDepth 100000 in
theorem undo_b (w : World) (hT : Tz w) (h : SpB w p pf pt pg S) : Calls Tryd.prog 19 #[.pointer (some ⟨p, 0, none⟩)] w fun e w' => e = .returned (.tuple #[]) ∧ Kept w p [p, pf, pt, pg] S.undo w' := by
  have he := end_b w hT h h.taken h.ok.tl
  have m2 := h.m2
  clear h hT
  go_enter Tryd.func19, Tryd.ntmps19
  go_wp2_with fail
  refine he.mono ?_
  rintro e w1 ⟨rfl, hk⟩
  have HK := Lib.hid hk
  clear hk
  go_wp2_with fail
  go_end0
  exact ⟨rfl, HK.out⟩
end
/-- a space in which the free ones aren't put yet -/
structure SpN (w : World) (p pf pt pg : Nat) (F : List Bool) (S : Sp) : Prop where
  main : Has w p 63 [.int .i64 S.first, .pointer (some ⟨pf, 0, none⟩), .pointer (some ⟨pt, 0, none⟩), .pointer (some ⟨pg, 0, none⟩), .int .u64 S.gen, .int .u64 S.last]
  free : SetAt w pf [pf] F
  taken : SetAt w pt [pt] S.taken
  given : SetAt w pg [pg] S.given
  d : p ≠ pf ∧ p ≠ pt ∧ p ≠ pg ∧ pf ≠ pt ∧ pf ≠ pg ∧ pt ≠ pg
theorem SpN.put {w w' : World} {p pf pt pg : Nat} {R : List Nat} {F F' : List Bool} {S : Sp} (h : SpN w p pf pt pg F S) (hs : SetAt w' pf R F') (hc : Chg (fun j => j ∈ [pf]) w w') : SpN w' p pf pt pg F' S := by
  obtain ⟨d1, d2, d3, d4, d5, d6⟩ := h.d
  exact ⟨hc.has h.main (by simp; omega), SetAt.one hs, h.taken.same fun j hj => hc.block j (h.taken.lt j hj) (by simp at hj ⊢; omega), h.given.same fun j hj => hc.block j (h.given.lt j hj) (by simp at hj ⊢; omega), h.d⟩
set_option maxHeartbeats 1000000 in
set_option maxRecDepth 100000 in
theorem new_yes (n f : Nat) (g l : Int) (w : World) (h : mayP n f g l = true) (h0 : 0 ≤ g) (hl : l < 18446744073709551616) : Calls Tryd.prog 7 #[.int .i64 n, .int .i64 f, .int .u64 g, .int .u64 l] w fun e w' => ∃ p R, e = .returned (.tuple #[.pointer (some ⟨p, 0, none⟩), .int .i64 0]) ∧ SpAt w' p R (Sp.fresh n f g l) ∧ (∀ k ∈ R, w.heap.size ≤ k) ∧ Below w.heap.size w w' := by
  obtain ⟨b1, b2, b3, b4, b5⟩ := mayP_bd h
  have HOK := Lib.hid (fresh_ok h h0 hl)
  have HL := Lib.hid hl
  have HG := Lib.hid h0
  have hS := mayS_of b1 b2
  have hnn : (n : Int).toNat = n := by omega
  clear h hl h0
  go_enter Tryd.func7, Tryd.ntmps7
  go_wp2_with fail
  refine (Bit.new_yes (n : Int) w hS).mono ?_
  rintro e w1 ⟨pg, Rg, rfl, hs, hR, hb⟩
  rw [hnn] at hs
  have HSG := Lib.hid (SetAt.one hs)
  have hpg : w.heap.size ≤ pg := hR pg (by rw [SetAt.r hs]; simp)
  have HB1 := Lib.hid hb
  clear hs hR hb hnn hS
  go_wp2_with fail
  refine (copy_any _ HSG.out).mono ?_
  rintro e w2 ⟨pf, Rf, rfl, hs, hR, hb⟩
  have HSF := Lib.hid (SetAt.one hs)
  have hpf : w1.heap.size ≤ pf := hR pf (by rw [SetAt.r hs]; simp)
  have HSG2 := Lib.hid (HSG.out.same (w' := w2) fun k hk => hb.block k (HSG.out.lt k hk))
  have HB2 := Lib.hid (Bit.b_on HB1.out hb)
  have hpgl := HSG.out.lt pg (by simp)
  clear hs hR hb
  go_wp2_with fail
  refine (copy_any _ HSG2.out).mono ?_
  rintro e w3 ⟨pt, Rt, rfl, hs, hR, hb⟩
  have HST := Lib.hid (SetAt.one hs)
  have hpt : w2.heap.size ≤ pt := hR pt (by rw [SetAt.r hs]; simp)
  have HSG3 := Lib.hid (HSG2.out.same (w' := w3) fun k hk => hb.block k (HSG2.out.lt k hk))
  have HSF3 := Lib.hid (HSF.out.same (w' := w3) fun k hk => hb.block k (HSF.out.lt k hk))
  have HB3 := Lib.hid (Bit.b_on HB2.out hb)
  have hpfl := HSF.out.lt pf (by simp)
  have hptl := HST.out.lt pt (by simp)
  have hz12 : w1.heap.size ≤ w2.heap.size := by have := HSF.out.lt pf (by simp); omega
  have HORD := Lib.hid (show w.heap.size ≤ pg ∧ pg < pf ∧ pf < pt ∧ pt < w3.heap.size from ⟨hpg, by omega, by omega, hptl⟩)
  clear hs hR hb hpg hpf hpt hpgl hpfl hptl hz12 HSG HSG2 HSF HB1 HB2
  have HM := Lib.hid (Has.new w3 [.int .i64 (f : Nat), .pointer (some ⟨pf, 0, none⟩), .pointer (some ⟨pt, 0, none⟩), .pointer (some ⟨pg, 0, none⟩), .int .u64 g, .int .u64 l] 63)
  obtain ⟨p, hp⟩ : ∃ p, p = w3.heap.size := ⟨_, rfl⟩
  rw [← hp] at HM HORD
  have HN0 := Lib.hid (show SpN (w3.alloc (.cells #[.int .i64 (f : Nat), .pointer (some ⟨pf, 0, none⟩), .pointer (some ⟨pt, 0, none⟩), .pointer (some ⟨pg, 0, none⟩), .int .u64 g, .int .u64 l] 63)) p pf pt pg (fromL n f f) (Sp.fresh n f g l) from by
    obtain ⟨o1, o2, o3, o4⟩ := HORD.out
    refine ⟨HM.out, ?_, ?_, ?_, by omega⟩
    · rw [fromL_start]; exact HSF3.out.same fun k hk => (b_new w3 _).block k (HSF3.out.lt k hk)
    · exact HST.out.same fun k hk => (b_new w3 _).block k (HST.out.lt k hk)
    · exact HSG3.out.same fun k hk => (b_new w3 _).block k (HSG3.out.lt k hk))
  have HBn := Lib.hid (b_nw HB3.out (.cells #[.int .i64 (f : Nat), .pointer (some ⟨pf, 0, none⟩), .pointer (some ⟨pt, 0, none⟩), .pointer (some ⟨pg, 0, none⟩), .int .u64 g, .int .u64 l] 63))
  have hfn : f ≤ n := by omega
  have hn4 : n ≤ 4096 := by omega
  have HGE := Lib.hid (show ∀ k ∈ [p, pf, pt, pg], w.heap.size ≤ k by
    obtain ⟨o1, o2, o3, o4⟩ := HORD.out
    intro k hk
    simp only [List.mem_cons, List.mem_nil_iff, or_false] at hk
    omega)
  clear HM HSF3 HST HSG3 HB3 HORD b4 b5
  go_wp2_with fail
  rw [← hp]
  obtain ⟨W, hW⟩ : ∃ W, W = w3.alloc (.cells #[.int .i64 (f : Nat), .pointer (some ⟨pf, 0, none⟩), .pointer (some ⟨pt, 0, none⟩), .pointer (some ⟨pg, 0, none⟩), .int .u64 g, .int .u64 l] 63) := ⟨_, rfl⟩
  rw [← hW] at HN0 HBn ⊢
  clear hp hW
  go_loopw [13] (fun i wr => ∃ c : Nat, f ≤ c ∧ c ≤ n ∧ i = .int .i64 c ∧ SpN wr p pf pt pg (fromL n f c) (Sp.fresh n f g l) ∧ Below w.heap.size w wr) (fun i _ => n - (intOf i).toNat)
  case atStart => exact ⟨f, Nat.le_refl _, hfn, rfl, HN0.out, HBn.out⟩
  case round =>
    obtain ⟨c, hfc, hc, rfl, hs, hbr⟩ := hrel
    have HS := Lib.hid hs
    have HBR := Lib.hid hbr
    clear HN0 HBn
    by_cases hlt : c < n
    · have hlt' : (c : Int) < (n : Int) := by omega
      have HFP := Lib.hid (fromL_put n f c hfc hlt)
      have m1 : wr.cell? ⟨p, 1, none⟩ = some (.pointer (some ⟨pf, 0, none⟩)) := hs.main.cell 1
      clear hs hbr
      go_wp2_with fail
      refine (put_any (c : Nat) true _ HS.out.free).mono ?_
      rintro e w5 ⟨R', rfl, hs, _, hch⟩
      rw [HFP.out] at hs
      have HS2 := Lib.hid (HS.out.put hs hch)
      have HB2 := Lib.hid (HBR.out.trans (hch.below HBR.out.size (fun i hi => HGE.out i (by simp at hi ⊢; simp [hi]))))
      clear hs hch
      go_wp2_with fail
      go_roundw
      case rel => exact ⟨c + 1, by omega, by omega, by go_num, HS2.out, HB2.out⟩
      case measure => simp [intOf]; omega
    · have hcn : c = n := by omega
      rw [hcn] at hs
      have HSE := Lib.hid (show SpB wr p pf pt pg (Sp.fresh n f g l) from ⟨hs.main, by rw [← fromL_end n f g l]; exact hs.free, hs.taken, hs.given, HOK.out, hs.d⟩)
      clear hs hbr hcn
      go_wp2_with fail
      go_ret2
      exact ⟨p, _, rfl, ⟨pf, pt, pg, rfl, HSE.out⟩, HGE.out, HBR.out⟩
theorem new_no (n f g l : Int) (w : World) (h : mayP n f g l = false) : Calls Tryd.prog 7 #[.int .i64 n, .int .i64 f, .int .u64 g, .int .u64 l] w fun e w' => e = .returned (.tuple #[.pointer none, .int .i64 2]) ∧ Below w.heap.size w w' := by
  cases hn : mayS n with
  | false =>
    clear h
    go_enter Tryd.func7, Tryd.ntmps7
    go_wp2_with fail
    refine (Bit.new_no n w hn).mono ?_
    rintro e w1 ⟨rfl, hb⟩
    go_wp2_with fail
    go_ret2
    exact ⟨rfl, hb⟩
  | true =>
    obtain ⟨b1, b2⟩ := mayS_bd hn
    have HN := Lib.hid hn
    have hor : f < 0 ∨ (0 ≤ f ∧ n ≤ f) ∨ (0 ≤ f ∧ f < n ∧ l < g) := by
      by_cases a : f < 0
      · exact .inl a
      by_cases b : n ≤ f
      · exact .inr (.inl ⟨by omega, b⟩)
      refine .inr (.inr ⟨by omega, by omega, ?_⟩)
      have : ¬ g ≤ l := fun e => by rw [mayP_of b1 b2 (by omega) (by omega) e] at h; cases h
      omega
    clear hn h b1 b2
    rcases hor with h1 | ⟨h1, h2⟩ | ⟨h1, h2, h3⟩
    all_goals
      go_enter Tryd.func7, Tryd.ntmps7
      go_wp2_with fail
      refine (Bit.new_yes n w HN.out).mono ?_
      rintro e w1 ⟨p, R, rfl, _, _, hb⟩
      go_wp2_with fail
      go_ret2
      exact ⟨rfl, hb⟩
section
variable {p : Nat} {R : List Nat} {S : Sp}
theorem use_any (k : Int) (w : World) (h : SpAt w p R S) : Calls Tryd.prog 15 #[.pointer (some ⟨p, 0, none⟩), .int .i64 k] w fun e w' => e = .returned (.int .i64 (useE S k)) ∧ Kept w p R (S.use k) w' := by obtain ⟨_, _, _, rfl, h⟩ := h; exact use_b k w h
theorem take_any (w : World) (hT : Tz w) (h : SpAt w p R S) : Calls Tryd.prog 11 #[.pointer (some ⟨p, 0, none⟩)] w fun e w' => e = .returned (.tuple #[.int .i64 (takeN S), .int .i64 (takeE S)]) ∧ Kept w p R S.take w' := by obtain ⟨_, _, _, rfl, h⟩ := h; exact take_b w hT h
theorem give_any (k : Int) (w : World) (h : SpAt w p R S) : Calls Tryd.prog 13 #[.pointer (some ⟨p, 0, none⟩), .int .i64 k] w fun e w' => e = .returned (.int .i64 (giveE S k)) ∧ Kept w p R (S.give k) w' := by obtain ⟨_, _, _, rfl, h⟩ := h; exact give_b k w h
theorem settle_any (w : World) (hT : Tz w) (h : SpAt w p R S) : Calls Tryd.prog 17 #[.pointer (some ⟨p, 0, none⟩)] w fun e w' => e = .returned (.tuple #[]) ∧ Kept w p R S.settle w' := by obtain ⟨_, _, _, rfl, h⟩ := h; exact settle_b w hT h
theorem undo_any (w : World) (hT : Tz w) (h : SpAt w p R S) : Calls Tryd.prog 19 #[.pointer (some ⟨p, 0, none⟩)] w fun e w' => e = .returned (.tuple #[]) ∧ Kept w p R S.undo w' := by obtain ⟨_, _, _, rfl, h⟩ := h; exact undo_b w hT h
theorem step_any (w : World) (h : SpAt w p R S) : Calls Tryd.prog 21 #[.pointer (some ⟨p, 0, none⟩)] w fun e w' => e = .returned (.tuple #[.int .u64 (stepN S), .int .i64 (stepE S)]) ∧ Kept w p R S.step w' := by obtain ⟨_, _, _, rfl, h⟩ := h; exact step_b w h
theorem used_any (k : Int) (w : World) (h : SpAt w p R S) : Calls Tryd.prog 23 #[.pointer (some ⟨p, 0, none⟩), .int .i64 k] w fun e w' => e = .returned (.bool (hasL S.used k)) ∧ Below w.heap.size w w' := by obtain ⟨_, _, _, rfl, h⟩ := h; exact used_b k w h
theorem free_any (w : World) (h : SpAt w p R S) : Calls Tryd.prog 24 #[.pointer (some ⟨p, 0, none⟩)] w fun e w' => e = .returned (.int .i64 (freeN S)) ∧ Below w.heap.size w w' := by obtain ⟨_, _, _, rfl, h⟩ := h; exact free_b w h
theorem gen_any (w : World) (h : SpAt w p R S) : Calls Tryd.prog 25 #[.pointer (some ⟨p, 0, none⟩)] w fun e w' => e = .returned (.int .u64 S.gen) ∧ Below w.heap.size w w' := by obtain ⟨_, _, _, rfl, h⟩ := h; exact gen_b w h
end
end Go.Proofs.YtkflccecdjfkiaaDoor.Spc
