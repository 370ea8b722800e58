/- Layer 9's laws: wakes, same. -/
import Derived.Test.YtbpalojofojklaaDoorBitR
namespace Go.Proofs.YtbpalojofojklaaDoor.Bit
open Go.RowKit Go.Proofs.YtbpalojofojklaaDoor
set_option linter.unusedVariables false

/-- a set that lies above w0's end, beside nothing that was there -/
structure Own (w0 : World) (p : Nat) (R : List Nat) (l : List Bool) (w : World) : Prop where
  at_ : SetAt w p R l
  ge : ∀ k ∈ R, w0.heap.size ≤ k
section
variable {w0 w w' : World} {p q : Nat} {R T : List Nat} {l m : List Bool}
theorem Own.on (h : Own w0 p R l w) (hb : Below w.heap.size w w') : Own w0 p R l w' := ⟨h.at_.same fun k hk => hb.block k (h.at_.lt k hk), h.ge⟩
theorem Own.chg (h : Own w0 p R l w) (hc : Chg (fun k => k ∈ T) w w') (hd : ∀ k ∈ R, k ∉ T) : Own w0 p R l w' := ⟨h.at_.same fun k hk => hc.block k (h.at_.lt k hk) (hd k hk), h.ge⟩
theorem Own.of (h : SetAt w' p R l) (hR : ∀ k ∈ R, w.heap.size ≤ k) (hb : w0.heap.size ≤ w.heap.size) : Own w0 p R l w' := ⟨h, fun k hk => Nat.le_trans hb (hR k hk)⟩
theorem Own.put (h : Own w0 p R l w) (h' : SetAt w' p T m) (hT : ∀ k ∈ T, k ∈ R ∨ w.heap.size ≤ k) (hb : w0.heap.size ≤ w.heap.size) : Own w0 p T m w' :=
  ⟨h', fun k hk => (hT k hk).elim (h.ge k) (Nat.le_trans hb)⟩
theorem b_chg {R : List Nat} (h : Below w0.heap.size w0 w) (hc : Chg (fun k => k ∈ R) w w') (hR : ∀ k ∈ R, w0.heap.size ≤ k) : Below w0.heap.size w0 w' := h.trans (hc.below h.size hR)
end
theorem apart_new {R : List Nat} {w : World} {ao : Option Addr} (hR : ∀ k ∈ R, k < w.heap.size) (hn : NewM w.heap.size ao) : Apart R ao := fun a ha hk => by have := hR _ hk; have := hn a ha; omega

set_option maxHeartbeats 1000000 in
set_option maxRecDepth 100000 in
theorem wakes_any (w : World) (hT : Tz w) : Calls Tryd.prog 9 #[] w fun e w' => e = .returned (.bool true) ∧ Below w.heap.size w w' := by
  obtain ⟨l0, hl0⟩ : ∃ l, l = List.replicate 70 false := ⟨_, rfl⟩
  obtain ⟨l1, hl1⟩ : ∃ l, l = putL l0 0 true := ⟨_, rfl⟩
  obtain ⟨l2, hl2⟩ : ∃ l, l = putL l1 64 true := ⟨_, rfl⟩
  have f1 := Lib.hid (show hasL l0 0 = false by subst hl0; rfl)
  have f2 := Lib.hid (show hasL l1 64 = false by subst hl1; subst hl0; rfl)
  have f3 := Lib.hid (show nextN l2 1 true = 64 ∧ nextB l2 1 true = true ∧ cntL l2 = 2 ∧ hasL l2 64 = true by subst hl2; subst hl1; subst hl0; decide +kernel)
  have f4 := Lib.hid (show (putL l2 64 true).length = 70 by subst hl2; subst hl1; subst hl0; simp [putL_length])
  have L0 := Lib.hid hl0
  have L1 := Lib.hid hl1
  have L2 := Lib.hid hl2
  have HT := Lib.hid hT
  clear hl0 hl1 hl2 hT
  go_enter Tryd.func9, Tryd.ntmps9
  go_wp2_with fail
  refine (new_yes 70 _ (by decide)).mono ?_
  rintro e w1 ⟨p, R, rfl, hs, hR, hb⟩
  rw [show (70 : Int).toNat = 70 from rfl, ← L0.out] at hs
  have O1 := Lib.hid (Own.of hs hR (Nat.le_refl _))
  have B1 := Lib.hid hb
  clear hs hR hb
  go_wp2_with fail
  refine (put_any 0 true _ O1.out.at_).mono ?_
  rintro e w2 ⟨R2, rfl, hs, hR, hc⟩
  rw [f1.out]
  rw [← L1.out] at hs
  have O2 := Lib.hid (O1.out.put hs hR B1.out.size)
  have B2 := Lib.hid (b_chg B1.out hc O1.out.ge)
  clear hs hR hc
  go_wp2_with fail
  refine (put_any 64 true _ O2.out.at_).mono ?_
  rintro e w3 ⟨R3, rfl, hs, hR, hc⟩
  rw [f2.out]
  rw [← L2.out] at hs
  have O3 := Lib.hid (O2.out.put hs hR B2.out.size)
  have B3 := Lib.hid (b_chg B2.out hc O2.out.ge)
  clear hs hR hc
  go_wp2_with fail
  refine (next_any 1 true _ (HT.out.on B3.out) O3.out.at_).mono ?_
  rintro e w4 ⟨rfl, hb⟩
  rw [f3.out.1, f3.out.2.1]
  have O4 := Lib.hid (O3.out.on hb)
  have B4 := Lib.hid (b_on B3.out hb)
  clear hb
  go_wp2_with fail
  refine (count_any _ O4.out.at_).mono ?_
  rintro e w5 ⟨rfl, hb⟩
  rw [f3.out.2.2.1]
  have O5 := Lib.hid (O4.out.on hb)
  have B5 := Lib.hid (b_on B4.out hb)
  clear hb
  go_wp2_with fail
  refine (put_any 64 true _ O5.out.at_).mono ?_
  rintro e w6 ⟨R6, rfl, hs, hR, hc⟩
  rw [f3.out.2.2.2]
  have O6 := Lib.hid (O5.out.put hs hR B5.out.size)
  have B6 := Lib.hid (b_chg B5.out hc O5.out.ge)
  clear hs hR hc
  go_wp2_with fail
  refine (size_any _ O6.out.at_).mono ?_
  rintro e w7 ⟨rfl, hb⟩
  rw [f4.out]
  have B7 := Lib.hid (b_on B6.out hb)
  clear hb
  go_wp2_with fail
  go_ret
  exact ⟨rfl, B7.out⟩

set_option maxHeartbeats 4000000 in
set_option maxRecDepth 100000 in
theorem same_any (p : Nat) (R : List Nat) (l : List Bool) (ao : Option Addr) (len cap : Nat) (f : Int) (w : World) (hT : Tz w) (h : SetAt w p R l) (hv : Vals w ao len cap (bV l)) :
    Calls Tryd.prog 10 #[.pointer (some ⟨p, 0, none⟩), .slice ao len cap, .int .i64 f] w fun e w' => e = .returned (.bool true) ∧ Below w.heap.size w w' := by
  have hlen : l.length = len := by have := hv.len_eq; simpa [bV] using this
  have hbd := h.bd
  rw [hlen] at hbd
  obtain ⟨hl1, hl2⟩ := hbd
  have HL := Lib.hid hlen
  have hs : ∀ w' : World, Below w.heap.size w w' → SetAt w' p R l := fun w' hb => h.same fun k hk => hb.block k (h.lt k hk)
  have HS := Lib.hid hs
  have HV := Lib.hid hv
  have HT := Lib.hid hT
  clear hs hlen hT
  go_enter Tryd.func10, Tryd.ntmps10
  go_wp2_with fail
  refine (list_any _ HT.out h).mono ?_
  rintro e w1 ⟨lo, lc, rfl, hls, _, hb⟩
  rw [HL.out] at hls
  obtain ⟨N, hN⟩ : ∃ N, N = cntL l := ⟨_, rfl⟩
  rw [← hN] at hls ⊢
  have HN := Lib.hid (show N = (lstL len l).length by rw [hN, cntL, HL.out])
  have hNl : N ≤ len := by rw [hN, ← HL.out]; exact cnt_le l
  have HLS := Lib.hid hls
  have HB1 := Lib.hid hb
  clear hls hb h hv hN
  go_wp2_with fail
  go_loopw [7, 9] (fun q i wr => ∃ c Q : Nat, c ≤ len + 2 ∧ i = .int .i64 ((c : Int) - 1) ∧ q = .int .i64 Q ∧ Q = (lstL (min (c - 1) len) l).length ∧ Below w1.heap.size w1 wr) (fun _ i _ => ((len : Int) + 1 - intOf i).toNat)
  case atStart => exact ⟨0, 0, by omega, rfl, rfl, by rw [show min (0 - 1) len = 0 by omega]; rfl, Below.refl _ _⟩
  case round =>
    obtain ⟨c, Q, hc, rfl, rfl, hQ, hbr⟩ := hrel
    have HBr := Lib.hid (b_on HB1.out hbr)
    have HB1r := Lib.hid hbr
    have HVr := Lib.hid (HV.out.below (b_on HB1.out hbr))
    have HLr := Lib.hid (HLS.out.below hbr)
    have HSr := Lib.hid (HS.out _ (b_on HB1.out hbr))
    have HQ := Lib.hid hQ
    have hQ2 : Q ≤ 4096 := by rw [hQ]; have := lst_le (min (c - 1) len) l; omega
    clear hbr hQ
    by_cases hlt : c ≤ len + 1
    · have hle : (c : Int) - 1 ≤ len := by omega
      by_cases hin : 1 ≤ c ∧ c ≤ len
      · obtain ⟨hc1, hc2⟩ := hin
        obtain ⟨J, rfl⟩ : ∃ J, c = J + 1 := ⟨c - 1, by omega⟩
        have hJ : ((J + 1 : Nat) : Int) - 1 = (J : Int) := by omega
        rw [hJ] at hle ⊢
        obtain ⟨vb, vo, rfl, hcell⟩ := HVr.out.bool (by omega)
        have hcj := hcell J (by omega)
        obtain ⟨x, hx⟩ : ∃ x, x = bg l J := ⟨_, rfl⟩
        rw [← hx] at hcj
        have HH := Lib.hid (show hasL l J = x by rw [hx]; exact hasL_in (by rw [HL.out]; omega))
        have HQ' := Lib.hid (show Q = (lstL J l).length by rw [HQ.out]; congr 2; omega)
        have hJN : (J : Int) < len := by omega
        cases x with
        | true =>
          obtain ⟨k1, k2⟩ := lst_at (l := l) (j := J) (N := len) (by omega) hx.symm
          rw [← HQ'.out, ← HN.out] at k1
          obtain ⟨b2, o2, rfl, hc2'⟩ := HLr.out.int (by omega)
          have hcq := hc2' Q k1
          rw [ig, HQ'.out, k2, ← HQ'.out] at hcq
          have HST := Lib.hid (show (lstL (J + 1) l).length = (lstL J l).length + 1 by rw [lst_succ, if_pos hx.symm]; simp)
          have HCQ := Lib.hid hcq
          have hQl : (Q : Int) < (N : Int) := by omega
          clear hcell hc2' hcq k2 hx
          go_wp2_with fail
          refine (has_any _ _ HSr.out).mono ?_
          rintro e w3 ⟨rfl, hb⟩
          rw [HH.out]
          have hcq : w3.cell? ⟨b2, o2 + Q, none⟩ = some (.int .i64 (J : Int)) := (hb.cell (World.block_lt_of_cell? _ _ HCQ.out)).trans HCQ.out
          have HB3 := Lib.hid (b_on HB1r.out hb)
          clear hb
          go_wp2_with fail
          go_roundw
          case rel => exact ⟨J + 2, Q + 1, by omega, by go_num, by go_num, by rw [show min (J + 2 - 1) len = J + 1 by omega, HST.out, HQ'.out], HB3.out⟩
          case measure => simp [intOf]; omega
        | false =>
          have HST := Lib.hid (show (lstL (J + 1) l).length = (lstL J l).length by rw [lst_succ, if_neg (by rw [← hx]; decide)])
          clear hcell hx
          go_wp2_with fail
          refine (has_any _ _ HSr.out).mono ?_
          rintro e w3 ⟨rfl, hb⟩
          rw [HH.out]
          have HB3 := Lib.hid (b_on HB1r.out hb)
          clear hb
          go_wp2_with fail
          go_roundw
          case rel => exact ⟨J + 2, Q, by omega, by go_num, rfl, by rw [show min (J + 2 - 1) len = J + 1 by omega, HST.out, HQ'.out], HB3.out⟩
          case measure => simp [intOf]; omega
      · have HH := Lib.hid (show hasL l ((c : Int) - 1) = false by exact hasL_out (by rw [HL.out]; omega))
        have HQ' := Lib.hid (show Q = (lstL (min (c + 1 - 1) len) l).length by rw [HQ.out]; congr 2; omega)
        by_cases hc0 : c = 0
        · subst hc0
          go_wp2_with fail
          refine (has_any _ _ HSr.out).mono ?_
          rintro e w3 ⟨rfl, hb⟩
          rw [show (-1 : Int) = ((0 : Nat) : Int) - 1 from rfl, HH.out]
          have HB3 := Lib.hid (b_on HB1r.out hb)
          clear hb
          go_wp2_with fail
          go_roundw
          case rel => exact ⟨0 + 1, Q, by omega, by go_num, rfl, HQ'.out, HB3.out⟩
          case measure => simp [intOf]; omega
        · have hcl : (c : Int) - 1 = len := by omega
          have hnl : ¬ ((c : Int) - 1 < len) := by omega
          have h0l : (0 : Int) ≤ (c : Int) - 1 := by omega
          go_wp2_with fail
          refine (has_any _ _ HSr.out).mono ?_
          rintro e w3 ⟨rfl, hb⟩
          try rw [← hcl]
          rw [HH.out]
          have HB3 := Lib.hid (b_on HB1r.out hb)
          clear hb
          go_wp2_with fail
          go_roundw
          case rel => exact ⟨c + 1, Q, by omega, by go_num, rfl, HQ'.out, HB3.out⟩
          case measure => simp [intOf]; omega
    · have hle : (len : Int) < (c : Int) - 1 := by omega
      have hQN : Q = N := by rw [HQ.out, show min (c - 1) len = len by omega, HN.out]
      subst hQN
      clear HVr HLr HSr HQ hlt
      go_upto_region 12 with fail
      go_cut [68, 69, 70] (fun sv lv iv wx => ∃ (b : Nat) (X : Int), sv = .slice (some ⟨b, 0, none⟩) 3 3 ∧ lv = .int .i64 3 ∧ iv = .int .i64 0 ∧ Has wx b 3 [.int .i64 f, .int .i64 0, .int .i64 X] ∧ Below w1.heap.size w1 wx)
      case first =>
        have hb1 := HB1r.out
        have hlp : (0 : Int) < (len : Int) + 2 := by omega
        have hlz : ¬ (len : Int) + 2 = 0 := by omega
        go_wp2
        all_goals (go_meet; exact ⟨_, _, rfl, rfl, rfl, Has.new _ _ _, b_nw hb1 _⟩)
      case rest =>
        obtain ⟨b3, X, rfl, rfl, rfl, hx3, hbx⟩ := hcut
        have HX3 := Lib.hid hx3
        have HBX := Lib.hid hbx
        clear hx3 hbx HB1r HBr
        go_wp2_with fail
        go_loopw [70] (fun i wr => ∃ c : Nat, c ≤ 3 ∧ i = .int .i64 c ∧ Below wc.heap.size wc wr) (fun i _ => 3 - (intOf i).toNat)
        case atStart => exact ⟨0, by decide, rfl, Below.refl _ _⟩
        case round =>
          obtain ⟨c, hc3, rfl, hbr⟩ := hrel
          have HBr := Lib.hid hbr
          have hx3 := HX3.out.below hbr HX3.out.lt
          by_cases hlt : c < 3
          · have hlt' : (c : Int) < 3 := by omega
            obtain ⟨F, hF⟩ : ∃ F : Int, wr.cell? ⟨b3, c, none⟩ = some (.int .i64 F) := by
              match c, hlt with
              | 0, _ => exact ⟨_, hx3.cell 0⟩
              | 1, _ => exact ⟨_, hx3.cell 1⟩
              | 2, _ => exact ⟨_, hx3.cell 2⟩
            clear hx3 hbr
            have hy := Has.new wr [.bool true, .bool false] 4
            have HY := Lib.hid hy
            have HBw := Lib.hid (b_nw HBr.out (.cells #[.bool true, .bool false] 4))
            clear hy
            obtain ⟨yb, hyb⟩ : ∃ b, b = wr.heap.size := ⟨_, rfl⟩
            rw [← hyb] at HY
            go_wp2_with fail
            rw [← hyb]
            obtain ⟨Wy, hWy⟩ : ∃ W, W = wr.alloc (.cells #[.bool true, .bool false] 4) := ⟨_, rfl⟩
            rw [← hWy] at HY HBw ⊢
            clear hyb hWy hF
            go_loopw [76] (fun i w5 => ∃ d : Nat, d ≤ 2 ∧ i = .int .i64 d ∧ Below Wy.heap.size Wy w5) (fun i _ => 2 - (intOf i).toNat)
            case atStart => exact ⟨0, by decide, rfl, Below.refl _ _⟩
            case round =>
              obtain ⟨d, hd2, rfl, hbd⟩ := hrel
              have HBd := Lib.hid hbd
              have hy := HY.out.below hbd HY.out.lt
              have HSd := Lib.hid (HS.out _ (b_on HB1.out (b_on HBX.out (b_on HBw.out hbd))))
              have HVd := Lib.hid (HV.out.below (b_on HB1.out (b_on HBX.out (b_on HBw.out hbd))))
              have HTd := Lib.hid (HT.out.on (b_on HB1.out (b_on HBX.out (b_on HBw.out hbd))))
              by_cases hdt : d < 2
              · have hdt' : (d : Int) < 2 := by omega
                obtain ⟨E, hE⟩ : ∃ E : Bool, wr.cell? ⟨yb, d, none⟩ = some (.bool E) := by
                  match d, hdt with
                  | 0, _ => exact ⟨_, hy.cell 0⟩
                  | 1, _ => exact ⟨_, hy.cell 1⟩
                clear hy hbd
                go_wp2_with fail
                refine (next_any _ _ _ HTd.out HSd.out).mono ?_
                rintro e w6 ⟨rfl, hb⟩
                have HB6 := Lib.hid (b_on HBd.out hb)
                have HV6 := Lib.hid (HVd.out.below hb)
                clear hb hE
                go_wp2_with fail
                refine (refnext_any _ _ _ l _ _ _ HV6.out (by omega)).mono ?_
                rintro e w7 ⟨rfl, rfl⟩
                go_wp2_with fail
                go_roundw
                case rel => exact ⟨d + 1, by omega, by go_num, HB6.out⟩
                case measure => simp [intOf]; omega
              · clear hy
                go_wp2_with fail
                go_roundw
                case rel => exact ⟨c + 1, by omega, by go_num, b_on HBw.out HBd.out⟩
                case measure => simp [intOf]; omega
          · clear hx3
            have HSd := Lib.hid (HS.out _ (b_on HB1.out (b_on HBX.out hbr)))
            have HCN := Lib.hid (show (cntL l : Int) = Q by rw [cntL, HL.out, ← HN.out])
            have hll := HL.out
            go_wp2_with fail
            refine (count_any _ HSd.out).mono ?_
            rintro e w6 ⟨rfl, hb⟩
            rw [HCN.out]
            have HB6 := Lib.hid (b_on HBr.out hb)
            have HS6 := Lib.hid (HS.out _ (b_on HB1.out (b_on HBX.out HB6.out)))
            clear hb
            go_wp2_with fail
            refine (size_any _ HS6.out).mono ?_
            rintro e w7 ⟨rfl, hb⟩
            rw [hll]
            have HB7 := Lib.hid (b_on HB1.out (b_on HBX.out (b_on HB6.out hb)))
            clear hb
            go_wp2_with fail
            go_ret
            exact ⟨rfl, HB7.out⟩
end Go.Proofs.YtbpalojofojklaaDoor.Bit
