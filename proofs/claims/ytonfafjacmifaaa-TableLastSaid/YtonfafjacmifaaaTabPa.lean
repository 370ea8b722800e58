/- Contracts of layer 6 (table): parse, Parse. -/
import Derived.Test.YtonfafjacmifaaaTabT
namespace Go.Proofs.Ytonfafjacmifaaa.Tab
open Go.RowKit Go.Proofs.Ytonfafjacmifaaa Go.Proofs.Ytonfafjacmifaaa.Lend
set_option linter.unusedVariables false

theorem tabW_zero_sum : sumW (tabW 0) = 8 := rfl
theorem rd_tab (l : List UInt8) (h : l.length = 8 + 2 * getL (l.take 8)) : rdL (tabW (getL (l.take 8))) l = ((getL (l.take 8) : Nat) : Int) :: paL l := by
  have hN : paN l = getL (l.take 8) := by unfold paN; omega
  have hr2 : ∀ (c : Nat) (l : List UInt8), rdL (twos c) l = (List.range c).map fun i => ((getL ((l.drop (2 * i)).take 2) : Nat) : Int) := by
    intro c
    induction c with
    | zero => intro l; rfl
    | succ c ih =>
      intro l
      show rdL (2 :: twos c) l = _
      rw [rdL, ih, List.range_succ_eq_map]
      simp only [List.map_cons, List.map_map]
      congr 1
      apply List.map_congr_left
      intro i _
      simp only [Function.comp, List.drop_drop]
      rw [show (2 : Int).toNat + 2 * i = 2 * (i + 1) by simp; omega]
  show rdL (8 :: twos (getL (l.take 8))) l = _
  rw [rdL, hr2]
  show _ = _ :: List.map (paI l) (List.range (paN l))
  rw [hN]
  congr 1
  apply List.map_congr_left
  intro i _
  simp only [List.drop_drop, paI]
  rfl
theorem paF_no {l : List UInt8} {k : Int} (h : l.length < 8 ∨ k < getL (l.take 8) ∨ l.length ≠ 8 + 2 * getL (l.take 8)) : paF l k = false := by
  have : ¬ paF l k = true := by
    intro h2
    simp only [paF, Bool.and_eq_true, decide_eq_true_eq] at h2
    have : paN l = (l.length - 8) / 2 := rfl
    omega
  simpa using this
theorem paF_yes {l : List UInt8} {k : Int} (h1 : (getL (l.take 8) : Int) ≤ k) (h2 : l.length = 8 + 2 * getL (l.take 8)) : paF l k = true := by
  have : paN l = (l.length - 8) / 2 := rfl
  simp only [paF, Bool.and_eq_true, decide_eq_true_eq]
  omega

set_option maxRecDepth 100000 in
set_option maxHeartbeats 2000000 in
theorem parse1_any (s : ByteArray) (k : Int) (w : World) (hs : s.size ≤ 1000000) (hk0 : 0 ≤ k) (hk : k ≤ 32) :
    Calls Try.prog 24 #[.string s, .int .i64 k] w fun e w' => ∃ ao len cap, e = .returned (.tuple #[.slice ao len cap, .bool (paF s.data.toList k)]) ∧ (paF s.data.toList k = true → Row .u64 w' ao len (paL s.data.toList) ∧ len ≤ cap ∧ NewA w.heap.size ao) ∧ Below w.heap.size w w' := by
  obtain ⟨l, hl⟩ : ∃ l, s.data.toList = l := ⟨_, rfl⟩
  have hwk : IntKind.u64.wrap k = k := by rw [wrap_u64]; omega
  rw [hl]
  have HL := Lib.hid hl
  clear hl
  by_cases h8 : l.length < 8
  · rw [paF_no (.inl h8)]
    obtain ⟨r1, r2, r3⟩ := rd_no (ws := tabW 0) (l := l) (.inr (by rw [tabW_zero_sum]; omega))
    have HR := Lib.hid r1
    clear r1 r2 r3 h8
    go_enter Try.func24, Try.ntmps24
    go_wp2_with fail
    refine (widths_any 0 w (by omega)).mono ?_
    rintro e w1 ⟨bo, cb, rfl, hrow, hb1⟩
    have HB1 := Lib.hid hb1
    have HRW := Lib.hid hrow
    clear hb1 hrow
    go_wp2_with fail
    refine (read_any _ _ _ _ s w1 HRW.out (by omega) hs).mono ?_
    rintro e w2 ⟨co, n2, c2, rfl, _, hb2⟩
    rw [HL.out, HR.out]
    have HB2 := Lib.hid (b_on HB1.out hb2)
    clear hb2
    go_wp2_with fail
    go_ret2
    exact ⟨_, _, _, rfl, (fun h => by cases h), HB2.out⟩
  · obtain ⟨r1, r2, r3⟩ := rd_ok (ws := tabW 0) (l := l) (tabW_ok 0) (by rw [tabW_zero_sum]; omega)
    obtain ⟨G, hG⟩ : ∃ G, G = getL (l.take 8) := ⟨_, rfl⟩
    have HR0 := Lib.hid r1
    have HR1 := Lib.hid (show rdN (tabW 0) l = [(G : Int)] by rw [r2, hG]; rfl)
    have HG := Lib.hid hG
    have hGb : G < 18446744073709551616 := by
      have h1 := getL_bd (l.take 8)
      have h2 : (l.take 8).length ≤ 8 := by simp; omega
      have h3 : 2 ^ (8 * (l.take 8).length) ≤ 2 ^ 64 := Nat.pow_le_pow_right (by decide) (by omega)
      omega
    clear r1 r2 r3
    by_cases hGk : k < (G : Int)
    · rw [paF_no (l := l) (k := k) (.inr (.inl (by rw [← hG]; exact hGk)))]
      clear hG h8
      go_enter Try.func24, Try.ntmps24
      go_wp2_with fail
      refine (widths_any 0 w (by omega)).mono ?_
      rintro e w1 ⟨bo, cb, rfl, hrow, hb1⟩
      have HB1 := Lib.hid hb1
      have HRW := Lib.hid hrow
      clear hb1 hrow
      go_wp2_with fail
      refine (read_any _ _ _ _ s w1 HRW.out (by omega) hs).mono ?_
      rintro e w2 ⟨co, n2, c2, rfl, hown, hb2⟩
      rw [HL.out, HR1.out] at hown
      rw [HL.out, HR0.out]
      have hrow := Row.own hown
      obtain rfl : 1 = n2 := hrow.len_eq
      obtain ⟨b2, o2, rfl, hcell⟩ := hrow.at_ (by omega)
      have hg0 := hcell 0 (by omega)
      rw [show [(G : Int)].getD 0 0 = (G : Int) from rfl, Nat.add_zero] at hg0
      have HB2 := Lib.hid (b_on HB1.out hb2)
      clear hb2 hown hrow hcell
      go_wp2_with fail
      go_ret2
      exact ⟨_, _, _, rfl, (fun h => by cases h), HB2.out⟩
    · have hG32 : G ≤ 32 := by omega
      have hGk' : (G : Int) ≤ k := by omega
      have hwG : IntKind.i64.wrap (G : Int) = G := IntWalk.i64_in _ (by omega)
      have hgt : ¬ k < (G : Int) := hGk
      by_cases hlen : l.length < 8 + 2 * G
      · rw [paF_no (l := l) (k := k) (.inr (.inr (by rw [← hG]; omega)))]
        obtain ⟨r1, r2, r3⟩ := rd_no (ws := tabW G) (l := l) (.inr (by rw [tabW_sum]; omega))
        have HR4 := Lib.hid r1
        clear r1 r2 r3 hG h8 hlen
        go_enter Try.func24, Try.ntmps24
        go_wp2_with fail
        refine (widths_any 0 w (by omega)).mono ?_
        rintro e w1 ⟨bo, cb, rfl, hrow, hb1⟩
        have HB1 := Lib.hid hb1
        have HRW := Lib.hid hrow
        clear hb1 hrow
        go_wp2_with fail
        refine (read_any _ _ _ _ s w1 HRW.out (by omega) hs).mono ?_
        rintro e w2 ⟨co, n2, c2, rfl, hown, hb2⟩
        rw [HL.out, HR1.out] at hown
        rw [HL.out, HR0.out]
        have hrow := Row.own hown
        obtain rfl : 1 = n2 := hrow.len_eq
        obtain ⟨b2, o2, rfl, hcell⟩ := hrow.at_ (by omega)
        have hg0 := hcell 0 (by omega)
        rw [show [(G : Int)].getD 0 0 = (G : Int) from rfl, Nat.add_zero] at hg0
        have HB2 := Lib.hid (b_on HB1.out hb2)
        clear hb2 hown hrow hcell
        go_wp2_with fail
        refine (widths_any G w2 (by omega)).mono ?_
        rintro e w3 ⟨do_, cd, rfl, hrow, hb3⟩
        have HB3 := Lib.hid (b_on HB2.out hb3)
        have HRW3 := Lib.hid hrow
        clear hb3 hrow hg0
        go_wp2_with fail
        refine (read_any _ _ _ _ s w3 HRW3.out (by omega) hs).mono ?_
        rintro e w4 ⟨eo, n4, c4, rfl, hown, hb4⟩
        rw [HL.out] at hown
        rw [HL.out, HR4.out]
        have HB4 := Lib.hid (b_on HB3.out hb4)
        clear hb4 hown
        go_wp2_with fail
        go_ret2
        exact ⟨_, _, _, rfl, (fun h => by cases h), HB4.out⟩
      · obtain ⟨r1, r2, r3⟩ := rd_ok (ws := tabW G) (l := l) (tabW_ok G) (by rw [tabW_sum]; omega)
        have HR4 := Lib.hid r1
        have e8 : (sumW (tabW G)).toNat = 8 + 2 * G := by rw [tabW_sum]; omega
        rw [e8] at r3
        by_cases heq : l.length = 8 + 2 * G
        · rw [paF_yes (l := l) (k := k) (by rw [← hG]; omega) (by rw [← hG]; exact heq)]
          have HR5 := Lib.hid (show rdN (tabW G) l = (G : Int) :: paL l by rw [r2, hG]; exact rd_tab l (by rw [← hG]; exact heq))
          have HPL := Lib.hid (show (paL l).length = G by rw [paL_length, paN]; omega)
          have HR6 := Lib.hid (show strOf (rdS (tabW G) l) = ⟨#[]⟩ by rw [r3, List.drop_of_length_le (by omega)]; rfl)
          clear r1 r2 r3 e8 hG h8 hlen heq
          go_enter Try.func24, Try.ntmps24
          go_wp2_with fail
          refine (widths_any 0 w (by omega)).mono ?_
          rintro e w1 ⟨bo, cb, rfl, hrow, hb1⟩
          have HB1 := Lib.hid hb1
          have HRW := Lib.hid hrow
          clear hb1 hrow
          go_wp2_with fail
          refine (read_any _ _ _ _ s w1 HRW.out (by omega) hs).mono ?_
          rintro e w2 ⟨co, n2, c2, rfl, hown, hb2⟩
          rw [HL.out, HR1.out] at hown
          rw [HL.out, HR0.out]
          have hrow := Row.own hown
          obtain rfl : 1 = n2 := hrow.len_eq
          obtain ⟨b2, o2, rfl, hcell⟩ := hrow.at_ (by omega)
          have hg0 := hcell 0 (by omega)
          rw [show [(G : Int)].getD 0 0 = (G : Int) from rfl, Nat.add_zero] at hg0
          have HB2 := Lib.hid (b_on HB1.out hb2)
          clear hb2 hown hrow hcell
          go_wp2_with fail
          refine (widths_any G w2 (by omega)).mono ?_
          rintro e w3 ⟨do_, cd, rfl, hrow, hb3⟩
          have HB3 := Lib.hid (b_on HB2.out hb3)
          have HRW3 := Lib.hid hrow
          clear hb3 hrow hg0
          go_wp2_with fail
          refine (read_any _ _ _ _ s w3 HRW3.out (by omega) hs).mono ?_
          rintro e w4 ⟨eo, n4, c4, rfl, hown, hb4⟩
          rw [HL.out] at hown
          rw [HL.out, HR4.out, HR6.out]
          rw [HR5.out] at hown
          have HB4 := Lib.hid (b_on HB3.out hb4)
          have hrow4 := Row.own hown
          obtain rfl : G + 1 = n4 := by
            have h1 := hrow4.len_eq
            rw [List.length_cons, HPL.out] at h1; exact h1
          obtain ⟨b4, o4, rfl, _⟩ := hrow4.at_ (by omega)
          obtain ⟨a5, c5, hv, hle⟩ := own_shape hown
          injection hv with hv1 hv2 hv3
          subst hv3
          clear hv1 hv2
          have HNW := Lib.hid (show w.heap.size ≤ b4 from Nat.le_trans HB3.out.size (NewA.own hown _ rfl))
          have hrd := hrow4.dropIf c4 1 (by omega) hle
          rw [List.drop_one, List.tail_cons, Nat.add_sub_cancel] at hrd
          have HRD := Lib.hid hrd
          clear hb4 hrow4 hrd hown
          by_cases hc1 : c4 = 1
          · subst hc1
            have hG0 : G = 0 := by omega
            go_wp2_with fail
            go_ret2
            refine ⟨_, _, _, rfl, fun _ => ⟨?_, by omega, fun a ha => by cases ha; exact HNW.out⟩, HB4.out⟩
            have := HRD.out
            subst hG0
            simpa using this
          · have hlt1 : 1 < c4 := by omega
            go_wp2_with fail
            go_ret2
            refine ⟨_, _, _, rfl, fun _ => ⟨?_, by omega, fun a ha => by cases ha; exact HNW.out⟩, HB4.out⟩
            have := HRD.out
            rw [if_neg hc1, Option.map_some, Addr.add_lit] at this
            exact this
        · rw [paF_no (l := l) (k := k) (.inr (.inr (by rw [← hG]; exact heq)))]
          have hne : (strOf (rdS (tabW G) l)).size ≠ 0 := by
            rw [r3]; show (l.drop (8 + 2 * G)).length ≠ 0
            rw [List.length_drop]; omega
          have HNE := Lib.hid hne
          clear r1 r2 r3 e8 hG h8 hlen heq hne
          go_enter Try.func24, Try.ntmps24
          go_wp2_with fail
          refine (widths_any 0 w (by omega)).mono ?_
          rintro e w1 ⟨bo, cb, rfl, hrow, hb1⟩
          have HB1 := Lib.hid hb1
          have HRW := Lib.hid hrow
          clear hb1 hrow
          go_wp2_with fail
          refine (read_any _ _ _ _ s w1 HRW.out (by omega) hs).mono ?_
          rintro e w2 ⟨co, n2, c2, rfl, hown, hb2⟩
          rw [HL.out, HR1.out] at hown
          rw [HL.out, HR0.out]
          have hrow := Row.own hown
          obtain rfl : 1 = n2 := hrow.len_eq
          obtain ⟨b2, o2, rfl, hcell⟩ := hrow.at_ (by omega)
          have hg0 := hcell 0 (by omega)
          rw [show [(G : Int)].getD 0 0 = (G : Int) from rfl, Nat.add_zero] at hg0
          have HB2 := Lib.hid (b_on HB1.out hb2)
          clear hb2 hown hrow hcell
          go_wp2_with fail
          refine (widths_any G w2 (by omega)).mono ?_
          rintro e w3 ⟨do_, cd, rfl, hrow, hb3⟩
          have HB3 := Lib.hid (b_on HB2.out hb3)
          have HRW3 := Lib.hid hrow
          clear hb3 hrow hg0
          go_wp2_with fail
          refine (read_any _ _ _ _ s w3 HRW3.out (by omega) hs).mono ?_
          rintro e w4 ⟨eo, n4, c4, rfl, hown, hb4⟩
          rw [HL.out] at hown
          rw [HL.out, HR4.out]
          have HB4 := Lib.hid (b_on HB3.out hb4)
          obtain ⟨R, hR⟩ : ∃ R, R = strOf (rdS (tabW G) l) := ⟨_, rfl⟩
          have hne := HNE.out
          rw [← hR] at hne ⊢
          have hemp : R.toList.isEmpty = false := by
            rw [ByteArray.toList_eq, List.isEmpty_eq_false_iff]
            intro hx
            apply hne
            have : R.data.toList.length = 0 := by rw [hx]; rfl
            simpa using this
          clear hb4 hown hR hne
          go_wp2_with fail
          go_ret2
          exact ⟨_, _, _, rfl, (fun h => by cases h), HB4.out⟩

theorem Row.setRow {kd : IntKind} {w : World} {ao : Option Addr} {len q : Nat} {xs : List Int} (h : Row kd w ao len xs) (hq : ∀ a, ao = some a → a.block ≠ q) (cs : Array Value) : Row kd (w.setRow q cs) ao len xs :=
  ⟨h.len_eq, fun hl => by
    obtain ⟨b, off, hb, hc⟩ := h.at_ hl
    exact ⟨b, off, hb, fun i hi => (cell_setRow_other w q cs ⟨b, off + i, none⟩ (show b ≠ q from hq ⟨b, off, none⟩ hb)).trans (hc i hi)⟩⟩
/-- what Parse's table is -/
def psN (l : List UInt8) (n k : Int) : Int := if paE l n k = 0 then n else 0
def psK (l : List UInt8) (n k : Int) : Int := if paE l n k = 0 then k else 0
theorem ps_ok {l : List UInt8} {n k : Int} (h : paE l n k = 0) : psN l n k = n ∧ psK l n k = k := ⟨by rw [psN, if_pos h], by rw [psK, if_pos h]⟩
theorem ps_bad {l : List UInt8} {n k : Int} (h : paE l n k ≠ 0) : psN l n k = 0 ∧ psK l n k = 0 := ⟨by rw [psN, if_neg h], by rw [psK, if_neg h]⟩

set_option maxRecDepth 100000 in
set_option maxHeartbeats 4000000 in
theorem parse_any (s : ByteArray) (n k : Int) (w : World) (hs : s.size ≤ 1000000) : Calls Try.prog 14 #[.string s, .int .i64 n, .int .i64 k] w fun e w' => e = .returned (.tuple #[.agg (ta (psN s.data.toList n k) (psK s.data.toList n k) (paM s.data.toList n k)), .int .i64 (paE s.data.toList n k)]) ∧ Below w.heap.size w w' := by
  obtain ⟨l, hl⟩ : ∃ l, s.data.toList = l := ⟨_, rfl⟩
  rw [hl]
  have HL := Lib.hid hl
  have hP0 := TAt.made w 0 0 []
  have hB0 := b_new w (.cells (ta 0 0 []) 25)
  obtain ⟨p, hp⟩ : ∃ p, p = w.heap.size := ⟨_, rfl⟩
  have hpw : w.heap.size ≤ p := by omega
  rw [← hp] at hP0
  have HP := Lib.hid hP0
  have HB := Lib.hid hB0
  clear hl hP0 hB0
  cases hm : mayB n k with
  | false =>
    have hE : paE l n k = 2 := pa_may hm
    obtain ⟨y1, y2, y3⟩ := nw_no hm
    obtain ⟨z1, z2⟩ := ps_bad (l := l) (n := n) (k := k) (by rw [hE]; decide)
    rw [z1, z2, paM_no (by rw [hE]; decide), hE]
    have HY := Lib.hid (And.intro y1 (And.intro y2 y3))
    clear hE y1 y2 y3 z1 z2 hm
    go_enter Try.func14, Try.ntmps14
    go_wp2_with (first | with_reducible refine wl_alloc ?_)
    rw [← hp]
    clear hp
    refine (new_any n k _).mono ?_
    rintro e w1 ⟨rfl, hb⟩
    rw [HY.out.1, HY.out.2.1, HY.out.2.2]
    have hP1 := HP.out.on hb
    have HB1 := Lib.hid (b_on HB.out hb)
    have hQ := TAt.made w1 0 0 []
    have sq := hQ.st 0 0 []
    have hP2 := hP1.new (.cells (ta 0 0 []) 25)
    rw [World.setRow_alloc_new] at sq
    have sp := hP2.st 0 0 []
    have zp := (hP2.put 0 0 []).ld
    have hB2 := b_row (b_nw HB1.out (.cells (ta 0 0 []) 25)) (p := p) hpw (ta 0 0 [])
    clear hb hP1 hQ hP2
    go_wp2_with (first | with_reducible refine wl_alloc ?_ | with_reducible refine wl_build0 ?_)
    exact bodyPost_ret (v := .tuple #[.agg (ta 0 0 []), .int .i64 2]) (by simp [results, Try.results14, go_sem, zp]) rfl ⟨rfl, hB2⟩
  | true =>
    obtain ⟨m1, m2, m3, m4⟩ := mayB_parts hm
    obtain ⟨y1, y2, y3⟩ := nw_yes hm
    have HY := Lib.hid (And.intro y1 (And.intro y2 y3))
    clear y1 y2 y3
    cases hf : paF l k with
    | false =>
      have hE : paE l n k = 4 := pa_form hm (by rw [paB, hf]; rfl)
      obtain ⟨z1, z2⟩ := ps_bad (l := l) (n := n) (k := k) (by rw [hE]; decide)
      rw [z1, z2, paM_no (by rw [hE]; decide), hE]
      have HF := Lib.hid hf
      clear hE z1 z2 hm hf
      go_enter Try.func14, Try.ntmps14
      go_wp2_with (first | with_reducible refine wl_alloc ?_)
      rw [← hp]
      clear hp
      refine (new_any n k _).mono ?_
      rintro e w1 ⟨rfl, hb⟩
      rw [HY.out.1, HY.out.2.1, HY.out.2.2]
      have hP1 := HP.out.on hb
      have HB1 := Lib.hid (b_nw (b_on HB.out hb) (.cells (ta n k []) 25))
      have sq := (TAt.made w1 0 0 []).st n k []
      rw [World.setRow_alloc_new] at sq
      have HP2 := Lib.hid (hP1.new (.cells (ta n k []) 25))
      clear hb hP1
      go_wp2_with (first | with_reducible refine wl_alloc ?_)
      refine (parse1_any s k _ hs m3 m4).mono ?_
      rintro e w2 ⟨ao, len, cap, rfl, _, hb⟩
      rw [HL.out, HF.out]
      have hP3 := HP2.out.on hb
      have sp := hP3.st 0 0 []
      have zp := (hP3.put 0 0 []).ld
      have hB3 := b_row (b_on HB1.out hb) (p := p) hpw (ta 0 0 [])
      clear hb hP3 sq
      go_wp2_with (first | with_reducible refine wl_build0 ?_)
      exact bodyPost_ret (v := .tuple #[.agg (ta 0 0 []), .int .i64 4]) (by simp [results, Try.results14, go_sem, zp]) rfl ⟨rfl, hB3⟩
    | true =>
      obtain ⟨N, hN⟩ : ∃ N, N = paN l := ⟨_, rfl⟩
      have hNk : (N : Int) ≤ k := by
        simp only [paF, Bool.and_eq_true, decide_eq_true_eq] at hf
        omega
      have HBAD := Lib.hid (show ∀ c, c < N → n ≤ paI l c → psN l n k = 0 ∧ psK l n k = 0 ∧ paM l n k = [] ∧ paE l n k = 4 from fun c hc hx => by
        have hE : paE l n k = 4 := pa_form hm (paB_bad (by rw [← hN]; exact hc) hx)
        obtain ⟨z1, z2⟩ := ps_bad (l := l) (n := n) (k := k) (by rw [hE]; decide)
        exact ⟨z1, z2, paM_no (by rw [hE]; decide), hE⟩)
      have HOK := Lib.hid (show (∀ c, c < N → paI l c < n) → psN l n k = n ∧ psK l n k = k ∧ paM l n k = paL l ∧ paE l n k = 0 from fun h => by
        have hE : paE l n k = 0 := pa_ok hm (paB_all hf (by rw [← hN]; exact h))
        obtain ⟨z1, z2⟩ := ps_ok (l := l) (n := n) (k := k) hE
        exact ⟨z1, z2, paM_ok hE, hE⟩)
      have HTK := Lib.hid (show ∀ c, c < N → (paL l).take (c + 1) = (paL l).take c ++ [paI l c] from fun c hc => paL_take l c (by rw [← hN]; exact hc))
      have HGD := Lib.hid (show ∀ c, c < N → (paL l).getD c 0 = paI l c from fun c hc => paL_getD l c (by rw [← hN]; exact hc))
      have HLEN := Lib.hid (show (paL l).length = N by rw [paL_length, hN])
      have HALL := Lib.hid (show (paL l).take N = paL l from List.take_of_length_le (by rw [HLEN.out]; exact Nat.le_refl _))
      have HGOOD := Lib.hid (show ∀ c, c ≤ N → (∀ j, j < c → paI l j < n) → Good n k ((paL l).take c) from fun c hc h => ⟨hm, by rw [List.length_take, HLEN.out]; omega, fun x hx => by
        obtain ⟨j, hj, e⟩ := List.mem_iff_getElem.1 hx
        rw [List.length_take, HLEN.out] at hj
        have e2 : x = paI l j := by
          rw [← e, List.getElem_take, ← HGD.out j (by omega), List.getD_eq_getElem?_getD, List.getElem?_eq_getElem (by rw [HLEN.out]; omega)]; rfl
        rw [e2]
        exact ⟨(paI_bd l j).1, h j (by omega)⟩⟩)
      have HF := Lib.hid hf
      have hN32 : N ≤ 32 := by omega
      clear hm hf hN
      go_enter Try.func14, Try.ntmps14
      go_wp2_with (first | with_reducible refine wl_alloc ?_)
      rw [← hp]
      clear hp
      refine (new_any n k _).mono ?_
      rintro e w1 ⟨rfl, hb⟩
      rw [HY.out.1, HY.out.2.1, HY.out.2.2]
      have hP1 := HP.out.on hb
      have hpq : p < w1.heap.size := hP1.lt
      have HB1 := Lib.hid (b_nw (b_on HB.out hb) (.cells (ta n k []) 25))
      have sq := (TAt.made w1 0 0 []).st n k []
      rw [World.setRow_alloc_new] at sq
      have HP2 := Lib.hid (hP1.new (.cells (ta n k []) 25))
      have hQ2 := TAt.made w1 n k []
      obtain ⟨q, hq⟩ : ∃ q, q = w1.heap.size := ⟨_, rfl⟩
      rw [← hq] at hQ2 hpq
      have HQ2 := Lib.hid hQ2
      have hqs : (w1.alloc (.cells (ta n k []) 25)).heap.size = q + 1 := by rw [hq]; simp
      have hqw : w.heap.size ≤ q := by omega
      clear hb hP1 hQ2
      go_wp2_with (first | with_reducible refine wl_alloc ?_)
      rw [← hq]
      clear hq
      refine (parse1_any s k _ hs m3 m4).mono ?_
      rintro e w2 ⟨ao, len, cap, rfl, hrow, hb⟩
      rw [HL.out, HF.out]
      rw [HL.out, hqs] at hrow
      obtain ⟨hrow, hlc, hnew⟩ := hrow HF.out
      obtain rfl : N = len := by rw [← hrow.len_eq, HLEN.out]
      have HP3 := Lib.hid (HP2.out.on hb)
      have HQ3 := Lib.hid (HQ2.out.on hb)
      have HB3 := Lib.hid (b_on HB1.out hb)
      have HR3 := Lib.hid hrow
      have HOF := Lib.hid (show ∀ a, ao = some a → a.block ≠ q ∧ a.block ≠ p from fun a ha => by have := hnew a ha; omega)
      clear hb sq hqs HP2 HQ2 HB1 HB HP hrow hnew
      go_wp2_with fail
      go_loopw [9, 35] (fun e i wr => ∃ c : Nat, c ≤ N ∧ i = .int .i64 c ∧ e = .int .i64 0 ∧ TAt wr q n k ((paL l).take c) ∧ TAt wr p 0 0 [] ∧ (∀ j, j < c → paI l j < n) ∧ Row .u64 wr ao N (paL l) ∧ Below w.heap.size w wr) (fun _ i _ => N - (intOf i).toNat)
      case atStart => exact ⟨0, Nat.zero_le _, rfl, rfl, HQ3.out, HP3.out, fun j hj => absurd hj (Nat.not_lt_zero _), HR3.out, HB3.out⟩
      case round =>
        obtain ⟨c, hc, rfl, rfl, hq, hp, hall, hr, hbr⟩ := hrel
        clear HP3 HQ3 HB3 HR3
        by_cases hlt : c < N
        · obtain ⟨b, off, rfl, hcell⟩ := hr.at_ (by omega)
          have ec := hcell c hlt
          rw [HGD.out c hlt] at ec
          obtain ⟨x, hx⟩ : ∃ x, x = paI l c := ⟨_, rfl⟩
          have hxb : 0 ≤ x ∧ x < 65536 := by rw [hx]; exact paI_bd l c
          rw [← hx] at ec
          obtain ⟨hx0, hx1⟩ := hxb
          have hwx : IntKind.i64.wrap x = x := IntWalk.i64_in _ (by omega)
          have HG := Lib.hid (HGOOD.out c hc hall)
          have HQ := Lib.hid hq
          have HP := Lib.hid hp
          have HR := Lib.hid hr
          have HB := Lib.hid hbr
          have HAL := Lib.hid hall
          have HX := Lib.hid hx
          have e0 := hq.ld
          have hlenc : ((paL l).take c).length = c := by rw [List.length_take, HLEN.out]; omega
          have HLC := Lib.hid hlenc
          clear hcell hx hq hp hr hbr hall hlenc
          go_wp2_with fail
          refine (move_any n k x _ _ HG.out).mono ?_
          rintro e w3 ⟨rfl, hb⟩
          have hQ3 := HQ.out.on hb
          have hP3 := HP.out.on hb
          have hR3 := HR.out.below hb (Nat.le_refl _)
          have hB3 := b_on HB.out hb
          by_cases hxn : x < n
          · have hE := mv_yes (n := n) (k := k) (m := (paL l).take c) hx0 hxn (by rw [HLC.out]; omega)
            obtain ⟨v1, v2, v3⟩ := mv_ok hE
            rw [v1, v2, v3, hE, HX.out, ← HTK.out c hlt]
            have sq := hQ3.st n k ((paL l).take (c + 1))
            have HQ4 := Lib.hid (hQ3.put n k ((paL l).take (c + 1)))
            have HP4 := Lib.hid (hP3.putOther (q := q) (by omega) (ta n k ((paL l).take (c + 1))))
            have HR4 := Lib.hid (Row.setRow hR3 (q := q) (fun a ha => (HOF.out a ha).1) (ta n k ((paL l).take (c + 1))))
            have HB4 := Lib.hid (b_row hB3 (p := q) hqw (ta n k ((paL l).take (c + 1))))
            clear hb hQ3 hP3 hR3 hB3 hE v1 v2 v3 e0 ec
            go_wp2_with fail
            go_roundw
            case rel =>
              refine ⟨c + 1, by omega, by go_num, rfl, HQ4.out, HP4.out, fun j hj => ?_, HR4.out, HB4.out⟩
              by_cases hjc : j < c
              · exact HAL.out j hjc
              · obtain rfl : j = c := by omega
                rw [← HX.out]; exact hxn
            case measure => simp [intOf]; omega
          · have hE := mv_no (n := n) (k := k) (m := (paL l).take c) (b := x) (by omega)
            obtain ⟨v1, v2, v3⟩ := mv_bad (n := n) (k := k) (m := (paL l).take c) (b := x) (by rw [hE]; decide)
            rw [v1, v2, v3, hE]
            obtain ⟨z1, z2, z3, z4⟩ := HBAD.out c hlt (by rw [← HX.out]; omega)
            have HZ := Lib.hid (And.intro z1 (And.intro z2 (And.intro z3 z4)))
            have sq := hQ3.st 0 0 []
            have hP4 := hP3.putOther (q := q) (by omega) (ta 0 0 [])
            have sp := hP4.st 0 0 []
            have zp := (hP4.put 0 0 []).ld
            have hB4 := b_row (b_row hB3 (p := q) hqw (ta 0 0 [])) (p := p) hpw (ta 0 0 [])
            clear hb hQ3 hP3 hR3 hB3 hP4 hE v1 v2 v3 z1 z2 z3 z4 e0 ec
            go_wp2_with (first | with_reducible refine wl_build0 ?_)
            exact bodyPost_ret (v := .tuple #[.agg (ta 0 0 []), .int .i64 4]) (by simp [results, Try.results14, go_sem, zp]) rfl ⟨by rw [HZ.out.1, HZ.out.2.1, HZ.out.2.2.1, HZ.out.2.2.2], hB4⟩
        · obtain rfl : c = N := by omega
          rw [HALL.out] at hq
          have e0 := hq.ld
          have sp := hp.st n k (paL l)
          have zp := (hp.put n k (paL l)).ld
          have hB4 := b_row hbr (p := p) hpw (ta n k (paL l))
          have HZ := Lib.hid (HOK.out hall)
          clear hq hp hr hbr hall
          go_wp2_with fail
          exact bodyPost_ret (v := .tuple #[.agg (ta n k (paL l)), .int .i64 0]) (by simp [results, Try.results14, go_sem, zp]) rfl ⟨by rw [HZ.out.1, HZ.out.2.1, HZ.out.2.2.1, HZ.out.2.2.2], hB4⟩
end Go.Proofs.Ytonfafjacmifaaa.Tab
