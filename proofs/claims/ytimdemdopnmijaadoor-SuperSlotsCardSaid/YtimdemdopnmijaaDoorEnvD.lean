/- Contracts of layer 4 (env): unseal, Open, Meets. -/
import Derived.Test.YtimdemdopnmijaaDoorEnvC
namespace Go.Proofs.YtimdemdopnmijaaDoor.Env
open Go.RowKit Go.Proofs.YtimdemdopnmijaaDoor Go.Proofs.YtimdemdopnmijaaDoor.Lend
set_option linter.unusedVariables false

theorem set3_S {W : World} {c b : Nat} {x y z u v t : Value} (h : W.cell? ⟨c, 0, none⟩ = some x ∧ W.cell? ⟨c, 1, none⟩ = some y ∧ W.cell? ⟨c, 2, none⟩ = some z) (hn : c ≠ b) :
    (((W.setCell ⟨b, 0, none⟩ u).setCell ⟨b, 1, none⟩ v).setCell ⟨b, 2, none⟩ t).cell? ⟨c, 0, none⟩ = some x ∧ (((W.setCell ⟨b, 0, none⟩ u).setCell ⟨b, 1, none⟩ v).setCell ⟨b, 2, none⟩ t).cell? ⟨c, 1, none⟩ = some y ∧ (((W.setCell ⟨b, 0, none⟩ u).setCell ⟨b, 1, none⟩ v).setCell ⟨b, 2, none⟩ t).cell? ⟨c, 2, none⟩ = some z := by
  have e := fun o => st3 W b ⟨c, o, none⟩ u v t hn
  have e0 := e 0; have e1 := e 1; have e2 := e 2
  exact ⟨Eq.trans e0 h.1, Eq.trans e1 h.2.1, Eq.trans e2 h.2.2⟩
/-- what 'unseal' answers -/
def yesOpen (l : List UInt8) : Value := .tuple #[.agg #[.int .u8 (F l 0), .int .i64 (F l 3), .int .u64 (F l 4)], .string (strOf (opP l)), .agg #[.int .i64 (F l 3), .int .u64 (F l 4), .int .u32 (F l 5)], .int .i64 0]
def noOpen (e : Int) : Value := .tuple #[.agg #[.int .u8 0, .int .i64 0, .int .u64 0], .string ⟨#[]⟩, .agg #[.int .i64 0, .int .u64 0, .int .u32 0], .int .i64 e]
def openV (l : List UInt8) : Value := if opE l = 0 then yesOpen l else noOpen (opE l)
theorem openV_form {l : List UInt8} (h : opB l = false) : openV l = noOpen 4 := by
  have e : opE l = 4 := by rw [opE, if_neg (by rw [h]; decide)]
  rw [openV, e]; rfl
theorem openV_sum {l : List UInt8} (h : opB l = true) (hc : F l 5 ≠ opC l) : openV l = noOpen 5 := by
  have e : opE l = 5 := by rw [opE, if_pos h, if_neg hc]
  rw [openV, e]; rfl
theorem openV_ok {l : List UInt8} (h : opB l = true) (hc : F l 5 = opC l) : openV l = yesOpen l := by
  have e : opE l = 0 := by rw [opE, if_pos h, if_pos hc]
  rw [openV, if_pos e]
set_option maxHeartbeats 4000000 in
set_option maxRecDepth 100000 in
theorem unseal_any (b : Nat) (s : ByteArray) (w : World) (ht : Sum.IsTab w b) (hs : s.size ≤ 1000000) :
    Calls Tryd.prog 32 #[.pointer (some ⟨b, 0, none⟩), .string s] w fun e w' => e = .returned (openV s.data.toList) ∧ Below w.heap.size w w' := by
  obtain ⟨l, hl⟩ : ∃ l, s.data.toList = l := ⟨_, rfl⟩
  have hsz := sz_of hl
  rw [hl]
  have HL := Lib.hid hl
  have HSZ := Lib.hid hsz
  have HT := Lib.hid ht
  clear hl hsz ht
  go_enter Tryd.func32, Tryd.ntmps32
  go_wp2_with fail
  refine (parse_any s _ hs).mono ?_
  rintro e w1 ⟨rfl, hb1⟩
  rw [HL.out]
  have hw1 : w.heap.size + 1 < w1.heap.size := by have := hb1.size; simp at this; omega
  have r0 : w1.cell? ⟨w.heap.size, 0, none⟩ = some (.int .u8 0) := by rw [hb1.cell (by simp; omega)]; simp
  have r1 : w1.cell? ⟨w.heap.size, 1, none⟩ = some (.int .i64 0) := by rw [hb1.cell (by simp; omega)]; simp
  have r2 : w1.cell? ⟨w.heap.size, 2, none⟩ = some (.int .u64 0) := by rw [hb1.cell (by simp; omega)]; simp
  have r3 : w1.cell? ⟨w.heap.size + 1, 0, none⟩ = some (.int .i64 0) := by rw [hb1.cell (by simp)]; simp
  have r4 : w1.cell? ⟨w.heap.size + 1, 1, none⟩ = some (.int .u64 0) := by rw [hb1.cell (by simp)]; simp
  have r5 : w1.cell? ⟨w.heap.size + 1, 2, none⟩ = some (.int .u32 0) := by rw [hb1.cell (by simp)]; simp
  have hlw : w.heap.size < w1.heap.size := by omega
  have f0 : w1.frozen? ⟨w.heap.size, 0, none⟩ = false := by rw [hb1.frozen (by simp; omega)]; simp
  have f1 : w1.frozen? ⟨w.heap.size, 1, none⟩ = false := by rw [hb1.frozen (by simp; omega)]; simp
  have f2 : w1.frozen? ⟨w.heap.size, 2, none⟩ = false := by rw [hb1.frozen (by simp; omega)]; simp
  have f3 : w1.frozen? ⟨w.heap.size + 1, 0, none⟩ = false := by rw [hb1.frozen (by simp)]; simp
  have f4 : w1.frozen? ⟨w.heap.size + 1, 1, none⟩ = false := by rw [hb1.frozen (by simp)]; simp
  have f5 : w1.frozen? ⟨w.heap.size + 1, 2, none⟩ = false := by rw [hb1.frozen (by simp)]; simp
  have HB1 := Lib.hid (below_on (below_nw (below_new w _) _) hb1)
  cases h : opB l with
  | false =>
    have HV := Lib.hid (openV_form h)
    have HP := Lib.hid (parseV_no h)
    rw [HP.out]
    unfold noParse
    clear hb1 h
    go_wp2_with fail
    refine bodyPost_ret (v := noOpen 4) (by simp [results, Tryd.results32, go_sem, r0, r1, r2, r3, r4, r5, hlw, hw1, noOpen]) rfl ⟨by rw [HV.out], ?_⟩
    exact below_nw (below_st (below_st (below_st (below_st (below_st (below_st HB1.out (Nat.le_refl _) _) (Nat.le_refl _) _) (Nat.le_refl _) _) (Nat.le_succ _) _) (Nat.le_succ _) _) (Nat.le_succ _) _) _
  | true =>
    have HP := Lib.hid (parseV_yes h)
    have HH := Lib.hid h
    obtain ⟨p1, p2, p3, p4, p5, p6, p7⟩ := opB_parts h
    rw [HP.out]
    unfold yesParse
    obtain ⟨hf, _⟩ := F_bd l
    obtain ⟨x0, hx0⟩ : ∃ x, x = F l 0 := ⟨_, rfl⟩
    obtain ⟨x2, hx2⟩ : ∃ x, x = F l 2 := ⟨_, rfl⟩
    obtain ⟨x3, hx3⟩ : ∃ x, x = F l 3 := ⟨_, rfl⟩
    obtain ⟨x4, hx4⟩ : ∃ x, x = F l 4 := ⟨_, rfl⟩
    obtain ⟨x5, hx5⟩ : ∃ x, x = F l 5 := ⟨_, rfl⟩
    have hy : yesOpen l = .tuple #[.agg #[.int .u8 x0, .int .i64 x3, .int .u64 x4], .string (strOf (opP l)), .agg #[.int .i64 x3, .int .u64 x4, .int .u32 x5], .int .i64 0] := by rw [yesOpen, hx0, hx3, hx4, hx5]
    have HY := Lib.hid hy
    have hoc : opC l = ckL x0 x2 x3 x4 (l.drop 24) := by rw [opC, hx0, hx2, hx3, hx4]
    have hop : opP l = (l.drop 24).take x2.toNat := by rw [opP, hx2]
    rw [← hx2] at p6
    rw [← hx0, ← hx2, ← hx3, ← hx4, ← hx5] at hf ⊢
    have HF0 := Lib.hid (show Fit x0 x2 x3 x4 0 from ⟨hf.k0, hf.k1, hf.n0, hf.n1, hf.a0, hf.a1, hf.g0, hf.g1, by decide, by decide⟩)
    obtain ⟨n2, hn2⟩ := Int.eq_ofNat_of_zero_le hf.n0
    subst hn2
    have h24 : (24 : Int) ≤ (s.size : Int) := by have := HSZ.out; omega
    obtain ⟨bd, hbd0⟩ : ∃ x, x = s.extract 24 s.size := ⟨_, rfl⟩
    have hbd : bd.data.toList = l.drop 24 := by rw [hbd0, Lib.extract_to_end, HL.out]
    have hbs : bd.size = l.length - 24 := by rw [sz_of hbd]; simp
    have hck : ckL x0 n2 x3 x4 bd.data.toList = opC l := by rw [hbd, hoc]
    have hpl : bd.extract 0 n2 = strOf (opP l) := by
      apply strOf_ext
      rw [Lib.extract_data, hbd, hop]; simp
    have hnb : n2 ≤ bd.size := by omega
    have hbl : bd.size ≤ 100000 := by omega
    have HCK := Lib.hid hck
    have HPL := Lib.hid hpl
    have HX5 := Lib.hid hx5
    have HBD := Lib.hid hbd0
    have hnb2 : (n2 : Int) ≤ (bd.size : Int) := by omega
    have HT2 := Lib.hid (tab_on HT.out (below_nw HB1.out (.cells #[.int .u8 x0, .int .i64 x3, .int .u64 x4] 61)))
    clear hb1 h p1 p2 p3 p4 p5 p6 p7 hx0 hx2 hx3 hx4 hx5 hy hoc hop hbd hbd0 hbs hck hpl hf
    go_wp2_with fail
    rw [← HBD.out]
    refine (checkOf_any b x0 n2 x3 x4 bd _ HT2.out HF0.out hbl).mono ?_
    rintro e w2 ⟨rfl, hb2⟩
    rw [HCK.out]
    have old : ∀ p : Addr, p.block < w1.heap.size → w2.cell? p = w1.cell? p := fun p hp => by
      rw [hb2.cell (by simp; omega)]; exact World.cell?_alloc_lt _ _ _ hp
    have oldz : ∀ p : Addr, p.block < w1.heap.size → w2.frozen? p = w1.frozen? p := fun p hp => by
      rw [hb2.frozen (by simp; omega)]; exact (below_new w1 _).frozen hp
    have q0 : w2.cell? ⟨w.heap.size, 0, none⟩ = some (.int .u8 0) := by rw [old _ hlw]; exact r0
    have q1 : w2.cell? ⟨w.heap.size, 1, none⟩ = some (.int .i64 0) := by rw [old _ hlw]; exact r1
    have q2 : w2.cell? ⟨w.heap.size, 2, none⟩ = some (.int .u64 0) := by rw [old _ hlw]; exact r2
    have q3 : w2.cell? ⟨w.heap.size + 1, 0, none⟩ = some (.int .i64 0) := by rw [old _ hw1]; exact r3
    have q4 : w2.cell? ⟨w.heap.size + 1, 1, none⟩ = some (.int .u64 0) := by rw [old _ hw1]; exact r4
    have q5 : w2.cell? ⟨w.heap.size + 1, 2, none⟩ = some (.int .u32 0) := by rw [old _ hw1]; exact r5
    have y0 : w2.frozen? ⟨w.heap.size, 0, none⟩ = false := by rw [oldz _ hlw]; exact f0
    have y1 : w2.frozen? ⟨w.heap.size, 1, none⟩ = false := by rw [oldz _ hlw]; exact f1
    have y2 : w2.frozen? ⟨w.heap.size, 2, none⟩ = false := by rw [oldz _ hlw]; exact f2
    have y3 : w2.frozen? ⟨w.heap.size + 1, 0, none⟩ = false := by rw [oldz _ hw1]; exact f3
    have y4 : w2.frozen? ⟨w.heap.size + 1, 1, none⟩ = false := by rw [oldz _ hw1]; exact f4
    have y5 : w2.frozen? ⟨w.heap.size + 1, 2, none⟩ = false := by rw [oldz _ hw1]; exact f5
    have g0 : w2.cell? ⟨w1.heap.size, 0, none⟩ = some (.int .u8 x0) := by rw [hb2.cell (by simp)]; simp
    have g1 : w2.cell? ⟨w1.heap.size, 1, none⟩ = some (.int .i64 x3) := by rw [hb2.cell (by simp)]; simp
    have g2 : w2.cell? ⟨w1.heap.size, 2, none⟩ = some (.int .u64 x4) := by rw [hb2.cell (by simp)]; simp
    have HB2 := Lib.hid (below_on (below_nw HB1.out _) hb2)
    have hn1 : w1.heap.size ≠ w.heap.size := by omega
    have hn2' : w1.heap.size ≠ w.heap.size + 1 := by omega
    clear old oldz hb2 r0 r1 r2 r3 r4 r5 f0 f1 f2 f3 f4 f5
    by_cases hc : x5 = (opC l : Int)
    · have HV := Lib.hid (openV_ok HH.out (by rw [← HX5.out]; exact hc))
      have hc2 : ((x5 : Int) != (opC l : Int)) = false := by rw [hc]; simp
      have HC := Lib.hid hc
      clear hc
      go_wp2_with fail
      have HBW := HB2
      have HA1 := set3_S (b := w.heap.size) (u := .int .u8 x0) (v := .int .i64 x3) (t := .int .u64 x4) ⟨g0, g1, g2⟩ hn1
      have HA2 := set3_S (b := w.heap.size + 1) (u := .int .i64 x3) (v := .int .u64 x4) (t := .int .u32 x5) HA1 hn2'
      have HB1 := set3_S (b := w.heap.size + 1) (u := .int .i64 x3) (v := .int .u64 x4) (t := .int .u32 x5) ⟨g0, g1, g2⟩ hn2'
      have HB2 := set3_S (b := w.heap.size) (u := .int .u8 x0) (v := .int .i64 x3) (t := .int .u64 x4) HB1 hn1
      go_region_held3 (fun W => W.cell? ⟨w1.heap.size, 0, none⟩ = some (.int .u8 x0) ∧ W.cell? ⟨w1.heap.size, 1, none⟩ = some (.int .i64 x3) ∧ W.cell? ⟨w1.heap.size, 2, none⟩ = some (.int .u64 x4))
        (first | go_keep | exact HA1 | exact HA2 | exact HB1 | exact HB2) (fail)
      all_goals
        rename_i hend
        clear hend HA1 HA2 HB1 HB2 g0 g1 g2
        go_wp2_with fail
        refine bodyPost_ret (v := .tuple #[.agg #[.int .u8 x0, .int .i64 x3, .int .u64 x4], .string (bd.extract 0 n2), .agg #[.int .i64 x3, .int .u64 x4, .int .u32 x5], .int .i64 0]) (by simp [results, Tryd.results32, go_sem, q0, q1, q2, q3, q4, q5]) rfl ⟨by rw [HV.out, HY.out, HPL.out], ?_⟩
        exact below_dr (by repeat (first | exact HBW.out | refine below_st ?_ (Nat.le_refl _) _ | refine below_st ?_ (Nat.le_succ _) _))
    · have HV := Lib.hid (openV_sum HH.out (by rw [← HX5.out]; exact hc))
      have hc2 : ((x5 : Int) != (opC l : Int)) = true := by simpa using hc
      clear hc
      go_wp2_with fail
      refine bodyPost_ret (v := noOpen 5) (by simp [results, Tryd.results32, go_sem, q0, q1, q2, q3, q4, q5, noOpen]) rfl ⟨by rw [HV.out], ?_⟩
      exact below_st (below_st (below_st (below_st (below_st (below_st HB2.out (Nat.le_refl _) _) (Nat.le_refl _) _) (Nat.le_refl _) _) (Nat.le_succ _) _) (Nat.le_succ _) _) (Nat.le_succ _) _

def oK (l : List UInt8) : Int := if opE l = 0 then F l 0 else 0
def oA (l : List UInt8) : Int := if opE l = 0 then F l 3 else 0
def oG (l : List UInt8) : Int := if opE l = 0 then F l 4 else 0
def oC (l : List UInt8) : Int := if opE l = 0 then F l 5 else 0
def oP (l : List UInt8) : ByteArray := if opE l = 0 then strOf (opP l) else ⟨#[]⟩
theorem openV_o (l : List UInt8) : openV l = .tuple #[.agg #[.int .u8 (oK l), .int .i64 (oA l), .int .u64 (oG l)], .string (oP l), .agg #[.int .i64 (oA l), .int .u64 (oG l), .int .u32 (oC l)], .int .i64 (opE l)] := by
  by_cases h : opE l = 0
  · rw [openV, if_pos h]; simp only [oK, oA, oG, oC, oP, yesOpen, h, if_true]
  · rw [openV, if_neg h]; simp only [oK, oA, oG, oC, oP, if_neg h, noOpen]
theorem opE_vals (l : List UInt8) : opE l = 0 ∨ opE l = 4 ∨ opE l = 5 := by
  unfold opE; split
  · split
    · exact .inl rfl
    · exact .inr (.inr rfl)
  · exact .inr (.inl rfl)
/-- what 'Open' answers -/
def open3V (l : List UInt8) : Value := .tuple #[.agg #[.int .u8 (oK l), .int .i64 (oA l), .int .u64 (oG l)], .string (oP l), .int .i64 (opE l)]
theorem open_any (b : Nat) (s : ByteArray) (w : World) (ht : Sum.IsTab w b) (hs : s.size ≤ 1000000) :
    Calls Tryd.prog 18 #[.pointer (some ⟨b, 0, none⟩), .string s] w fun e w' => e = .returned (open3V s.data.toList) ∧ Below w.heap.size w w' := by
  have HV := Lib.hid (openV_o s.data.toList)
  have HT := Lib.hid (tab_on ht (below_new w (.cells #[.int .u8 0, .int .i64 0, .int .u64 0] 61)))
  clear ht
  go_enter Tryd.func18, Tryd.ntmps18
  go_wp2_with fail
  refine (unseal_any b s _ HT.out hs).mono ?_
  rintro e w1 ⟨rfl, hb1⟩
  rw [HV.out]
  have hlw : w.heap.size < w1.heap.size := by have := hb1.size; simp at this; omega
  have r0 : w1.cell? ⟨w.heap.size, 0, none⟩ = some (.int .u8 0) := by rw [hb1.cell (by simp)]; simp
  have r1 : w1.cell? ⟨w.heap.size, 1, none⟩ = some (.int .i64 0) := by rw [hb1.cell (by simp)]; simp
  have r2 : w1.cell? ⟨w.heap.size, 2, none⟩ = some (.int .u64 0) := by rw [hb1.cell (by simp)]; simp
  have f0 : w1.frozen? ⟨w.heap.size, 0, none⟩ = false := by rw [hb1.frozen (by simp)]; simp
  have f1 : w1.frozen? ⟨w.heap.size, 1, none⟩ = false := by rw [hb1.frozen (by simp)]; simp
  have f2 : w1.frozen? ⟨w.heap.size, 2, none⟩ = false := by rw [hb1.frozen (by simp)]; simp
  have HB1 := Lib.hid (below_on (below_new w _) hb1)
  clear hb1
  go_wp2_with fail
  refine bodyPost_ret (v := open3V s.data.toList) (by simp [results, Tryd.results18, go_sem, r0, r1, r2, hlw, open3V]) rfl ⟨rfl, ?_⟩
  repeat (first | exact HB1.out | apply below_nw | refine below_st ?_ (Nat.le_refl _) _)

/-- does an image meet what is known? -/
def meetB (l : List UInt8) (a g c : Int) : Bool := decide (opE l = 0) && (decide (F l 3 = a) && (decide (F l 4 = g) && decide (F l 5 = c)))
theorem meetB_no {l : List UInt8} {a g c : Int} (h : ¬ opE l = 0) : meetB l a g c = false := by simp [meetB, h]
theorem meetB_yes {l : List UInt8} {a g c : Int} (h : opE l = 0) : meetB l a g c = (decide (oA l = a) && (decide (oG l = g) && decide (oC l = c))) := by simp [meetB, h, oA, oG, oC]
end Go.Proofs.YtimdemdopnmijaaDoor.Env
