/- The document's Open of layer 5. -/
import Derived.Test.YtimdemdopnmijaaDoorRefSup
namespace Go.Proofs.YtimdemdopnmijaaDoor.Sup
open Go.RowKit Go.Proofs.YtimdemdopnmijaaDoor Go.Proofs.YtimdemdopnmijaaDoor.Lend Go.Proofs.YtimdemdopnmijaaDoor.Env
set_option linter.unusedVariables false

/-- the world while a block is made and filled -/
def ROG (W0 : World) (o : Obj) (f : World → World) : Bool → Bool → World
  | false, _ => W0.drew
  | true, false => W0.drew.alloc o
  | true, true => f (W0.drew.alloc o)
def RG (W0 : World) (o : Obj) (f : World → World) (b c : Bool) (w : World) : Prop := w = ROG W0 o f b c
theorem RG.start (W0 : World) (o : Obj) (f : World → World) : RG W0 o f false false W0.drew := rfl
theorem RG.size {W0 w : World} {o : Obj} {f : World → World} {c : Bool} (h : RG W0 o f false c w) : w.heap.size = W0.heap.size := by rw [h]; rfl
theorem RG.al {W0 w : World} {o : Obj} {f : World → World} {c : Bool} (h : RG W0 o f false c w) : RG W0 o f true false (w.alloc o) := by rw [h]; rfl
theorem RG.st {W0 w : World} {o : Obj} {f : World → World} (h : RG W0 o f true false w) : RG W0 o f true true (f w) := by rw [h]; rfl
theorem RG.has {W0 w : World} {cs : List Value} {t : TypeId} {f : World → World} (h : RG W0 (.cells cs.toArray t) f true false w) : Has w W0.heap.size t cs := by
  rw [h]; exact Has.new W0.drew cs t
theorem RG.below {W0 w : World} {o : Obj} {f : World → World} {b c : Bool} (hf : ∀ w, Below W0.heap.size W0 w → Below W0.heap.size W0 (f w)) (h : RG W0 o f b c w) : Below W0.heap.size W0 w := by
  rw [h]
  have b0 : Below W0.heap.size W0 W0.drew := below_dr (Below.refl _ _)
  match b, c with
  | false, _ => exact b0
  | true, false => exact below_nw b0 _
  | true, true => exact hf _ (below_nw b0 _)
def set7 (b : Nat) (x0 x1 x2 x3 x4 x5 x6 : Value) (w : World) : World := ((((((w.setCell ⟨b, 0, none⟩ x0).setCell ⟨b, 1, none⟩ x1).setCell ⟨b, 2, none⟩ x2).setCell ⟨b, 3, none⟩ x3).setCell ⟨b, 4, none⟩ x4).setCell ⟨b, 5, none⟩ x5).setCell ⟨b, 6, none⟩ x6
theorem set7_has {b : Nat} {t : TypeId} {y0 y1 y2 y3 y4 y5 y6 : Value} (x0 x1 x2 x3 x4 x5 x6 : Value) {w : World} (h : Has w b t [y0, y1, y2, y3, y4, y5, y6]) : Has (set7 b x0 x1 x2 x3 x4 x5 x6 w) b t [x0, x1, x2, x3, x4, x5, x6] :=
  ((((((h.set 0 x0).set 1 x1).set 2 x2).set 3 x3).set 4 x4).set 5 x5).set 6 x6
theorem set7_below {a : World} {k b : Nat} (hk : k ≤ b) (x0 x1 x2 x3 x4 x5 x6 : Value) {w : World} (h : Below k a w) : Below k a (set7 b x0 x1 x2 x3 x4 x5 x6 w) :=
  Below.setCell (Below.setCell (Below.setCell (Below.setCell (Below.setCell (Below.setCell (Below.setCell h (by exact hk) _) (by exact hk) _) (by exact hk) _) (by exact hk) _) (by exact hk) _) (by exact hk) _) (by exact hk) _
theorem RG.has7 {W0 w : World} {t : TypeId} {y0 y1 y2 y3 y4 y5 y6 x0 x1 x2 x3 x4 x5 x6 : Value}
    (h : RG W0 (.cells #[y0, y1, y2, y3, y4, y5, y6] t) (set7 W0.heap.size x0 x1 x2 x3 x4 x5 x6) true true w) : Has w W0.heap.size t [x0, x1, x2, x3, x4, x5, x6] := by
  rw [h]; exact set7_has _ _ _ _ _ _ _ (Has.new W0.drew [y0, y1, y2, y3, y4, y5, y6] t)
/-- what Open of a superblock answers -/
def souV (l : List UInt8) (e : Int) : Value := if souE l = 0 then .tuple #[.agg #[.int .u64 (F l 4), .int .i64 (sP l 0), .int .u64 (sP l 1), .int .u32 (sP l 2), .int .i64 (sP l 3), .int .u64 (sP l 4), .int .u32 (sP l 5)], .int .i64 e]
  else .tuple #[.agg #[.int .u64 0, .int .i64 0, .int .u64 0, .int .u32 0, .int .i64 0, .int .u64 0, .int .u32 0], .int .i64 e]
def noSou (e : Int) : Value := .tuple #[.agg #[.int .u64 0, .int .i64 0, .int .u64 0, .int .u32 0, .int .i64 0, .int .u64 0, .int .u32 0], .int .i64 e]
theorem souV_no {l : List UInt8} {e : Int} (h : souE l = e) (he : e ≠ 0) : souV l (souE l) = noSou e := by rw [souV, if_neg (by rw [h]; exact he), h]; rfl
theorem opE_bd (l : List UInt8) : opE l = 0 ∨ opE l = 4 ∨ opE l = 5 := by unfold opE; split <;> (try split) <;> simp
set_option maxHeartbeats 4000000 in
set_option maxRecDepth 100000 in
theorem refopen_sup (s : ByteArray) (w : World) (hs : s.size ≤ 1000000) :
    Calls Tryd.prog 16 #[.string s] w fun e w' => e = .returned (souV s.data.toList (souE s.data.toList)) ∧ Below w.heap.size w w' := by
  obtain ⟨l, hl⟩ : ∃ l, s.data.toList = l := ⟨_, rfl⟩
  have hsz := sz_of hl
  rw [hl]
  have HL := Lib.hid hl
  obtain ⟨E, hE⟩ : ∃ E, opE l = E := ⟨_, rfl⟩
  have hx := (Has.new w [.int .u64 0, .int .i64 0, .int .u64 0, .int .u32 0, .int .i64 0, .int .u64 0, .int .u32 0] 41).alloc (.cells #[.int .u64 0, .int .i64 0, .int .u64 0, .int .u32 0, .int .i64 0, .int .u64 0, .int .u32 0] 41)
  have hy := Has.new (w.alloc (.cells #[.int .u64 0, .int .i64 0, .int .u64 0, .int .u32 0, .int .i64 0, .int .u64 0, .int .u32 0] 41)) [.int .u64 0, .int .i64 0, .int .u64 0, .int .u32 0, .int .i64 0, .int .u64 0, .int .u32 0] 41
  rw [World.size_alloc] at hy
  have HX := Lib.hid hx
  have HY := Lib.hid hy
  by_cases h0 : E = 0
  · have HE := Lib.hid (show opE l = 0 by rw [hE, h0])
    obtain ⟨hf, _⟩ := F_bd l
    obtain ⟨k, hk⟩ : ∃ x, x = F l 0 := ⟨_, rfl⟩
    obtain ⟨a, ha⟩ : ∃ x, x = F l 3 := ⟨_, rfl⟩
    obtain ⟨g, hg⟩ : ∃ x, x = F l 4 := ⟨_, rfl⟩
    obtain ⟨c, hc⟩ : ∃ x, x = F l 5 := ⟨_, rfl⟩
    obtain ⟨P, hP⟩ : ∃ P, P = strOf (opP l) := ⟨_, rfl⟩
    have HPD := Lib.hid (show P.data.toList = opP l by rw [hP]; rfl)
    have HR := Lib.hid (show ropV l = .tuple #[.agg #[.int .u8 k, .int .i64 a, .int .u64 g], .string P, .int .u64 c, .int .i64 0] by rw [ropV_yes HE.out, hk, ha, hg, hc, hP])
    have hps : P.size = (opP l).length := by rw [hP]; rfl
    have hps2 := opP_le l
    have hps3 : P.size ≤ 1000000 := by omega
    rw [← hk, ← ha, ← hg] at hf
    have HK := Lib.hid hk
    have HA := Lib.hid ha
    have HG := Lib.hid hg
    have HF := Lib.hid hf
    have HPS := Lib.hid hps
    have HSV := Lib.hid (show souE l = 4 → souV l (souE l) = noSou 4 from fun h => souV_no h (by decide))
    have HB := Lib.hid (show souB l = false → souE l = 4 from fun h => souE_no HE.out h)
    have wa : IntKind.u64.wrap a = a := by rw [wrap_u64]; have := hf.a0; have := hf.a1; omega
    clear h0 hE hx hy hsz hl hk ha hg hc hP hps hps2 hf
    go_enter Tryd.func16, Tryd.ntmps16
    go_wp2_with fail
    refine (refopen_any s _ hs).mono ?_
    rintro e w1 ⟨rfl, hb⟩
    rw [HL.out, HR.out]
    have hx := HX.out.below hb (by simp; omega)
    have hy := HY.out.below hb (by simp)
    have HX1 := Lib.hid hx
    have HY1 := Lib.hid hy
    have HB1 := Lib.hid (below_on (below_nw (below_new _ _) _) hb)
    have h1 := hx.lt
    have h2 := hy.lt
    clear hx hy hb
    go_wp2_with fail
    refine (refread_any _ 6 6 allW P _ (Row.sixAt .i64 _ _ _ _ _ _ _ _ _ (by simp)) (by decide) hps3).mono ?_
    rintro e w2 ⟨bo, n, cap, rfl, hown, hb⟩
    rw [HPD.out] at hown ⊢
    have hz := Has.new w1 [.int .u8 k, .int .i64 a, .int .u64 g] 49
    have hx := ((HX1.out.alloc _).alloc _).below hb (by simp; omega)
    have hy := ((HY1.out.alloc _).alloc _).below hb (by simp; omega)
    have hz := (hz.alloc _).below hb (by simp; omega)
    have HX2 := Lib.hid hx
    have HY2 := Lib.hid hy
    have HZ2 := Lib.hid hz
    have HB2 := Lib.hid (below_on (below_nw (below_nw HB1.out _) _) hb)
    obtain ⟨x0, x1, x2, x3, x4, x5, x6⟩ := has7 hx
    obtain ⟨y0, y1, y2, y3, y4, y5, y6⟩ := has7 hy
    have z0 : w2.cell? ⟨w1.heap.size, 0, none⟩ = some (.int .u8 k) := hz.cell 0
    have z1 : w2.cell? ⟨w1.heap.size, 1, none⟩ = some (.int .i64 a) := hz.cell 1
    have z2 : w2.cell? ⟨w1.heap.size, 2, none⟩ = some (.int .u64 g) := hz.cell 2
    have h1 := hx.lt
    have h2 := hy.lt
    have h3 := hz.lt
    have f0 := hx.frozen
    have HOWN := Lib.hid hown
    clear hx hy hz hown hb
    by_cases hlen : 29 ≤ P.size
    · obtain ⟨r1, r2, r3⟩ := rd_ok (ws := allW) (l := opP l) allW_ok (by show (29 : Int) ≤ _; rw [← HPS.out]; omega)
      have HRD := Lib.hid r1
      have HRN := Lib.hid r2
      have HRS := Lib.hid r3
      have hR := Row.own HOWN.out
      rw [HRN.out, sP_list] at hR
      obtain rfl : 6 = n := hR.len_eq
      obtain ⟨rb, ro, rfl, hc⟩ := hR.at_ (by decide)
      have c0 : w2.cell? ⟨rb, ro, none⟩ = some (.int .u64 (sP l 0)) := hc 0 (by decide)
      have c1 : w2.cell? ⟨rb, ro + 1, none⟩ = some (.int .u64 (sP l 1)) := hc 1 (by decide)
      have c2 : w2.cell? ⟨rb, ro + 2, none⟩ = some (.int .u64 (sP l 2)) := hc 2 (by decide)
      have c3 : w2.cell? ⟨rb, ro + 3, none⟩ = some (.int .u64 (sP l 3)) := hc 3 (by decide)
      have c4 : w2.cell? ⟨rb, ro + 4, none⟩ = some (.int .u64 (sP l 4)) := hc 4 (by decide)
      have c5 : w2.cell? ⟨rb, ro + 5, none⟩ = some (.int .u64 (sP l 5)) := hc 5 (by decide)
      rw [HRD.out, HRS.out]
      clear r1 r2 r3 hR hc
      by_cases hle : P.size ≤ 29
      · have hz : strOf ((opP l).drop (sumW allW).toNat) = ⟨#[]⟩ := by
          rw [show (sumW allW).toNat = 29 from rfl, List.drop_of_length_le (by rw [← HPS.out]; exact hle)]; rfl
        rw [hz]
        have hP29 : (opP l).length = 29 := by rw [← HPS.out]; omega
        obtain ⟨sl, hsl⟩ : ∃ x, x = g % 2 := ⟨_, rfl⟩
        have hsl2 : Int.tmod g 2 = sl := by rw [hsl]; exact Int.tmod_eq_emod_of_nonneg HF.out.g0
        have HSL := Lib.hid hsl
        have HP29 := Lib.hid hP29
        clear hz hle hlen hsl hP29
        by_cases hk1 : k = 1
        · by_cases ha1 : a = sl
          · have HA1 := Lib.hid (show F l 3 = F l 4 % 2 by rw [← HA.out, ← HG.out, ha1, HSL.out])
            have HK1 := Lib.hid (show F l 0 = 1 by rw [← HK.out, hk1])
            subst hk1
            subst ha1
            obtain ⟨⟨b0, b0'⟩, ⟨b1, b1'⟩, ⟨b2, b2'⟩, ⟨b3, b3'⟩, ⟨b4, b4'⟩, ⟨b5, b5'⟩⟩ := sP_bd l
            obtain ⟨p0, hp0⟩ : ∃ x, x = sP l 0 := ⟨_, rfl⟩
            obtain ⟨p1, hp1⟩ : ∃ x, x = sP l 1 := ⟨_, rfl⟩
            obtain ⟨p2, hp2⟩ : ∃ x, x = sP l 2 := ⟨_, rfl⟩
            obtain ⟨p3, hp3⟩ : ∃ x, x = sP l 3 := ⟨_, rfl⟩
            obtain ⟨p4, hp4⟩ : ∃ x, x = sP l 4 := ⟨_, rfl⟩
            obtain ⟨p5, hp5⟩ : ∃ x, x = sP l 5 := ⟨_, rfl⟩
            rw [← hp0] at b0 b0' c0
            rw [← hp1] at b1 b1' c1
            rw [← hp2] at b2 b2' c2
            rw [← hp3] at b3 b3' c3
            rw [← hp4] at b4 b4' c4
            rw [← hp5] at b5 b5' c5
            have v0 : IntKind.i64.wrap p0 = p0 := IntWalk.i64_in _ (by omega)
            have v2 : IntKind.u32.wrap p2 = p2 := by rw [IntKind.wrap_u32]; omega
            have v3 : IntKind.i64.wrap p3 = p3 := IntWalk.i64_in _ (by omega)
            have v5 : IntKind.u32.wrap p5 = p5 := by rw [IntKind.wrap_u32]; omega
            have HSB := Lib.hid (show souB l = supB g p0 p1 p3 by
              rw [souB, HP29.out, HK1.out, HA1.out, hp0, hp1, hp3, HG.out]; simp)
            have HVY := Lib.hid (show souB l = true → souV l (souE l) = .tuple #[.agg #[.int .u64 g, .int .i64 p0, .int .u64 p1, .int .u32 p2, .int .i64 p3, .int .u64 p4, .int .u32 p5], .int .i64 0] from fun h => by
              have e := souE_yes HE.out h
              rw [e, souV, if_pos e, ← HG.out, hp0, hp1, hp2, hp3, hp4, hp5])
            clear b0 b0' b1 b1' b2 b2' b3 b3' b4 b4' b5 b5' hp0 hp1 hp2 hp3 hp4 hp5
            go_wp2_with fail
            have K0 : w2.cell? ⟨rb, ro, none⟩ = some (.int .u64 p0) ∧ w2.cell? ⟨rb, ro + 1, none⟩ = some (.int .u64 p1) ∧ w2.cell? ⟨rb, ro + 2, none⟩ = some (.int .u64 p2) ∧ w2.cell? ⟨rb, ro + 3, none⟩ = some (.int .u64 p3) ∧ w2.cell? ⟨rb, ro + 4, none⟩ = some (.int .u64 p4) ∧ w2.cell? ⟨rb, ro + 5, none⟩ = some (.int .u64 p5) ∧ w2.cell? ⟨w1.heap.size, 2, none⟩ = some (.int .u64 g) := ⟨c0, c1, c2, c3, c4, c5, z2⟩
            have HK0 := Lib.hid K0
            have HSF := Lib.hid (fun (w : World) (h : Below w2.heap.size w2 w) => set7_below (k := w2.heap.size) (b := w2.heap.size) (Nat.le_refl _) (.int .u64 g) (.int .i64 p0) (.int .u64 p1) (.int .u32 p2) (.int .i64 p3) (.int .u64 p4) (.int .u32 p5) h)
            have H0 := Lib.hid (RG.start w2 (.cells #[.int .u64 0, .int .i64 0, .int .u64 0, .int .u32 0, .int .i64 0, .int .u64 0, .int .u32 0] 41) (set7 w2.heap.size (.int .u64 g) (.int .i64 p0) (.int .u64 p1) (.int .u32 p2) (.int .i64 p3) (.int .u64 p4) (.int .u32 p5)))
            clear K0 c0 c1 c2 c3 c4 c5 x0 x1 x2 x3 x4 x5 x6 y0 y1 y2 y3 y4 y5 y6 z0 z1 z2
            refine Reg.region_vals (by kernel_rfl) [(54, .pointer (some ⟨w1.heap.size, 2, none⟩)), (55, .int .u64 g), (56, .slice (some ⟨rb, ro, none⟩) 6 cap), (57, .pointer (some ⟨rb, ro, none⟩)), (58, .int .u64 p0), (59, .int .i64 p0), (60, .slice (some ⟨rb, ro, none⟩) 6 cap), (61, .pointer (some ⟨rb, ro + 1, none⟩)), (62, .int .u64 p1), (63, .slice (some ⟨rb, ro, none⟩) 6 cap), (64, .pointer (some ⟨rb, ro + 2, none⟩)), (65, .int .u64 p2), (66, .int .u32 p2), (67, .slice (some ⟨rb, ro, none⟩) 6 cap), (68, .pointer (some ⟨rb, ro + 3, none⟩)), (69, .int .u64 p3), (70, .int .i64 p3), (71, .slice (some ⟨rb, ro, none⟩) 6 cap), (72, .pointer (some ⟨rb, ro + 4, none⟩)), (73, .int .u64 p4), (74, .slice (some ⟨rb, ro, none⟩) 6 cap), (75, .pointer (some ⟨rb, ro + 5, none⟩)), (76, .int .u64 p5), (77, .int .u32 p5), (78, .agg #[.int .u64 g, .int .i64 p0, .int .u64 p1, .int .u32 p2, .int .i64 p3, .int .u64 p4, .int .u32 p5]), (12, .pointer (some ⟨w2.heap.size, 0, none⟩))] (fun l wx => RG w2 (.cells #[.int .u64 0, .int .i64 0, .int .u64 0, .int .u32 0, .int .i64 0, .int .u64 0, .int .u32 0] 41) (set7 w2.heap.size (.int .u64 g) (.int .i64 p0) (.int .u64 p1) (.int .u32 p2) (.int .i64 p3) (.int .u64 p4) (.int .u32 p5)) (l 25) (l 26) wx) (by kernel_rfl) (by kernel_rfl) (by kernel_rfl) (H0.out) ⟨?_, ?_, ?_, ?_, ?_, ?_, ?_, ?_, ?_, ?_, ?_, ?_, ?_, ?_, ?_, ?_, ?_, ?_, ?_, ?_, ?_, ?_, ?_, ?_, ?_, ?_, ?_, trivial⟩ ?hend
            · -- 0: 54 := Op.fieldAddr 49 t5 2
              intro aq wq lq hI hl hdone hlater hold hd ho
              have h5 : aq.tmps.getD 5 undef = .pointer (some ⟨w1.heap.size, 0, none⟩) := ho 5 (by kernel_rfl)
              clear hd ho hdone hlater hold
              rw [Array.getD_eq_getD_getElem?] at h5
              refine Reg.step2_val (.pointer (some ⟨w1.heap.size, 2, none⟩)) ?_ rfl hI trivial
              go_simp
            · -- 1: 55 := Op.load 22 t54
              intro aq wq lq hI hl hdone hlater hold hd ho
              have h54 : aq.tmps.getD 54 undef = .pointer (some ⟨w1.heap.size, 2, none⟩) := hd 54 (by kernel_rfl)
              clear hd ho hdone hlater hold
              rw [Array.getD_eq_getD_getElem?] at h54
              have e0 := cells_on HK0.out.2.2.2.2.2.2 (hI.below HSF.out)
              refine Reg.step2_val (.int .u64 g) ?_ rfl hI trivial
              go_simp
            · -- 2: 56 := Op.move t9
              intro aq wq lq hI hl hdone hlater hold hd ho
              have h9 : aq.tmps.getD 9 undef = .slice (some ⟨rb, ro, none⟩) 6 cap := ho 9 (by kernel_rfl)
              clear hd ho hdone hlater hold
              exact Reg.step2_move (.tmp 9) rfl h9 hI trivial
            · -- 3: 57 := Op.indexAddr 75 t56 (const (0:i64))
              intro aq wq lq hI hl hdone hlater hold hd ho
              have h56 : aq.tmps.getD 56 undef = .slice (some ⟨rb, ro, none⟩) 6 cap := hd 56 (by kernel_rfl)
              clear hd ho hdone hlater hold
              rw [Array.getD_eq_getD_getElem?] at h56
              refine Reg.step2_val (.pointer (some ⟨rb, ro, none⟩)) ?_ rfl hI trivial
              go_simp
            · -- 4: 58 := Op.load 22 t57
              intro aq wq lq hI hl hdone hlater hold hd ho
              have h57 : aq.tmps.getD 57 undef = .pointer (some ⟨rb, ro, none⟩) := hd 57 (by kernel_rfl)
              clear hd ho hdone hlater hold
              rw [Array.getD_eq_getD_getElem?] at h57
              have e0 := cells_on HK0.out.1 (hI.below HSF.out)
              refine Reg.step2_val (.int .u64 p0) ?_ rfl hI trivial
              go_simp
            · -- 5: 59 := Op.convert 22 3 t58
              intro aq wq lq hI hl hdone hlater hold hd ho
              have h58 : aq.tmps.getD 58 undef = .int .u64 p0 := hd 58 (by kernel_rfl)
              clear hd ho hdone hlater hold
              rw [Array.getD_eq_getD_getElem?] at h58
              refine Reg.step2_val (.int .i64 p0) ?_ rfl hI trivial
              simp [execOp, Act.eval, h58]
              try go_simp
            · -- 6: 60 := Op.move t9
              intro aq wq lq hI hl hdone hlater hold hd ho
              have h9 : aq.tmps.getD 9 undef = .slice (some ⟨rb, ro, none⟩) 6 cap := ho 9 (by kernel_rfl)
              clear hd ho hdone hlater hold
              exact Reg.step2_move (.tmp 9) rfl h9 hI trivial
            · -- 7: 61 := Op.indexAddr 75 t60 (const (1:i64))
              intro aq wq lq hI hl hdone hlater hold hd ho
              have h60 : aq.tmps.getD 60 undef = .slice (some ⟨rb, ro, none⟩) 6 cap := hd 60 (by kernel_rfl)
              clear hd ho hdone hlater hold
              rw [Array.getD_eq_getD_getElem?] at h60
              refine Reg.step2_val (.pointer (some ⟨rb, ro + 1, none⟩)) ?_ rfl hI trivial
              go_simp
            · -- 8: 62 := Op.load 22 t61
              intro aq wq lq hI hl hdone hlater hold hd ho
              have h61 : aq.tmps.getD 61 undef = .pointer (some ⟨rb, ro + 1, none⟩) := hd 61 (by kernel_rfl)
              clear hd ho hdone hlater hold
              rw [Array.getD_eq_getD_getElem?] at h61
              have e0 := cells_on HK0.out.2.1 (hI.below HSF.out)
              refine Reg.step2_val (.int .u64 p1) ?_ rfl hI trivial
              go_simp
            · -- 9: 63 := Op.move t9
              intro aq wq lq hI hl hdone hlater hold hd ho
              have h9 : aq.tmps.getD 9 undef = .slice (some ⟨rb, ro, none⟩) 6 cap := ho 9 (by kernel_rfl)
              clear hd ho hdone hlater hold
              exact Reg.step2_move (.tmp 9) rfl h9 hI trivial
            · -- 10: 64 := Op.indexAddr 75 t63 (const (2:i64))
              intro aq wq lq hI hl hdone hlater hold hd ho
              have h63 : aq.tmps.getD 63 undef = .slice (some ⟨rb, ro, none⟩) 6 cap := hd 63 (by kernel_rfl)
              clear hd ho hdone hlater hold
              rw [Array.getD_eq_getD_getElem?] at h63
              refine Reg.step2_val (.pointer (some ⟨rb, ro + 2, none⟩)) ?_ rfl hI trivial
              go_simp
            · -- 11: 65 := Op.load 22 t64
              intro aq wq lq hI hl hdone hlater hold hd ho
              have h64 : aq.tmps.getD 64 undef = .pointer (some ⟨rb, ro + 2, none⟩) := hd 64 (by kernel_rfl)
              clear hd ho hdone hlater hold
              rw [Array.getD_eq_getD_getElem?] at h64
              have e0 := cells_on HK0.out.2.2.1 (hI.below HSF.out)
              refine Reg.step2_val (.int .u64 p2) ?_ rfl hI trivial
              go_simp
            · -- 12: 66 := Op.convert 22 23 t65
              intro aq wq lq hI hl hdone hlater hold hd ho
              have h65 : aq.tmps.getD 65 undef = .int .u64 p2 := hd 65 (by kernel_rfl)
              clear hd ho hdone hlater hold
              rw [Array.getD_eq_getD_getElem?] at h65
              refine Reg.step2_val (.int .u32 p2) ?_ rfl hI trivial
              simp [execOp, Act.eval, h65]
              try go_simp
            · -- 13: 67 := Op.move t9
              intro aq wq lq hI hl hdone hlater hold hd ho
              have h9 : aq.tmps.getD 9 undef = .slice (some ⟨rb, ro, none⟩) 6 cap := ho 9 (by kernel_rfl)
              clear hd ho hdone hlater hold
              exact Reg.step2_move (.tmp 9) rfl h9 hI trivial
            · -- 14: 68 := Op.indexAddr 75 t67 (const (3:i64))
              intro aq wq lq hI hl hdone hlater hold hd ho
              have h67 : aq.tmps.getD 67 undef = .slice (some ⟨rb, ro, none⟩) 6 cap := hd 67 (by kernel_rfl)
              clear hd ho hdone hlater hold
              rw [Array.getD_eq_getD_getElem?] at h67
              refine Reg.step2_val (.pointer (some ⟨rb, ro + 3, none⟩)) ?_ rfl hI trivial
              go_simp
            · -- 15: 69 := Op.load 22 t68
              intro aq wq lq hI hl hdone hlater hold hd ho
              have h68 : aq.tmps.getD 68 undef = .pointer (some ⟨rb, ro + 3, none⟩) := hd 68 (by kernel_rfl)
              clear hd ho hdone hlater hold
              rw [Array.getD_eq_getD_getElem?] at h68
              have e0 := cells_on HK0.out.2.2.2.1 (hI.below HSF.out)
              refine Reg.step2_val (.int .u64 p3) ?_ rfl hI trivial
              go_simp
            · -- 16: 70 := Op.convert 22 3 t69
              intro aq wq lq hI hl hdone hlater hold hd ho
              have h69 : aq.tmps.getD 69 undef = .int .u64 p3 := hd 69 (by kernel_rfl)
              clear hd ho hdone hlater hold
              rw [Array.getD_eq_getD_getElem?] at h69
              refine Reg.step2_val (.int .i64 p3) ?_ rfl hI trivial
              simp [execOp, Act.eval, h69]
              try go_simp
            · -- 17: 71 := Op.move t9
              intro aq wq lq hI hl hdone hlater hold hd ho
              have h9 : aq.tmps.getD 9 undef = .slice (some ⟨rb, ro, none⟩) 6 cap := ho 9 (by kernel_rfl)
              clear hd ho hdone hlater hold
              exact Reg.step2_move (.tmp 9) rfl h9 hI trivial
            · -- 18: 72 := Op.indexAddr 75 t71 (const (4:i64))
              intro aq wq lq hI hl hdone hlater hold hd ho
              have h71 : aq.tmps.getD 71 undef = .slice (some ⟨rb, ro, none⟩) 6 cap := hd 71 (by kernel_rfl)
              clear hd ho hdone hlater hold
              rw [Array.getD_eq_getD_getElem?] at h71
              refine Reg.step2_val (.pointer (some ⟨rb, ro + 4, none⟩)) ?_ rfl hI trivial
              go_simp
            · -- 19: 73 := Op.load 22 t72
              intro aq wq lq hI hl hdone hlater hold hd ho
              have h72 : aq.tmps.getD 72 undef = .pointer (some ⟨rb, ro + 4, none⟩) := hd 72 (by kernel_rfl)
              clear hd ho hdone hlater hold
              rw [Array.getD_eq_getD_getElem?] at h72
              have e0 := cells_on HK0.out.2.2.2.2.1 (hI.below HSF.out)
              refine Reg.step2_val (.int .u64 p4) ?_ rfl hI trivial
              go_simp
            · -- 20: 74 := Op.move t9
              intro aq wq lq hI hl hdone hlater hold hd ho
              have h9 : aq.tmps.getD 9 undef = .slice (some ⟨rb, ro, none⟩) 6 cap := ho 9 (by kernel_rfl)
              clear hd ho hdone hlater hold
              exact Reg.step2_move (.tmp 9) rfl h9 hI trivial
            · -- 21: 75 := Op.indexAddr 75 t74 (const (5:i64))
              intro aq wq lq hI hl hdone hlater hold hd ho
              have h74 : aq.tmps.getD 74 undef = .slice (some ⟨rb, ro, none⟩) 6 cap := hd 74 (by kernel_rfl)
              clear hd ho hdone hlater hold
              rw [Array.getD_eq_getD_getElem?] at h74
              refine Reg.step2_val (.pointer (some ⟨rb, ro + 5, none⟩)) ?_ rfl hI trivial
              go_simp
            · -- 22: 76 := Op.load 22 t75
              intro aq wq lq hI hl hdone hlater hold hd ho
              have h75 : aq.tmps.getD 75 undef = .pointer (some ⟨rb, ro + 5, none⟩) := hd 75 (by kernel_rfl)
              clear hd ho hdone hlater hold
              rw [Array.getD_eq_getD_getElem?] at h75
              have e0 := cells_on HK0.out.2.2.2.2.2.1 (hI.below HSF.out)
              refine Reg.step2_val (.int .u64 p5) ?_ rfl hI trivial
              go_simp
            · -- 23: 77 := Op.convert 22 23 t76
              intro aq wq lq hI hl hdone hlater hold hd ho
              have h76 : aq.tmps.getD 76 undef = .int .u64 p5 := hd 76 (by kernel_rfl)
              clear hd ho hdone hlater hold
              rw [Array.getD_eq_getD_getElem?] at h76
              refine Reg.step2_val (.int .u32 p5) ?_ rfl hI trivial
              simp [execOp, Act.eval, h76]
              try go_simp
            · -- 24: 78 := Op.build 41 #((0, t55), (1, t59), (2, t62), (3, t66), (4, t7
              intro aq wq lq hI hl hdone hlater hold hd ho
              have h55 : aq.tmps.getD 55 undef = .int .u64 g := hd 55 (by kernel_rfl)
              have h59 : aq.tmps.getD 59 undef = .int .i64 p0 := hd 59 (by kernel_rfl)
              have h62 : aq.tmps.getD 62 undef = .int .u64 p1 := hd 62 (by kernel_rfl)
              have h66 : aq.tmps.getD 66 undef = .int .u32 p2 := hd 66 (by kernel_rfl)
              have h70 : aq.tmps.getD 70 undef = .int .i64 p3 := hd 70 (by kernel_rfl)
              have h73 : aq.tmps.getD 73 undef = .int .u64 p4 := hd 73 (by kernel_rfl)
              have h77 : aq.tmps.getD 77 undef = .int .u32 p5 := hd 77 (by kernel_rfl)
              clear hd ho hdone hlater hold
              rw [Array.getD_eq_getD_getElem?] at h55 h59 h62 h66 h70 h73 h77
              refine Reg.step2_val (.agg #[.int .u64 g, .int .i64 p0, .int .u64 p1, .int .u32 p2, .int .i64 p3, .int .u64 p4, .int .u32 p5]) ?_ rfl hI trivial
              simp [execOp, Act.eval, h55, h59, h62, h66, h70, h73, h77]
              try go_simp
            · -- 25: 12 := Op.alloc 41
              intro aq wq lq hI hl hdone hlater hold hd ho
              have gl26 : lq 26 = false := hlater 26 (by kernel_rfl)
              clear hd ho hdone hlater hold
              have hJ := hI
              clear hI
              rw [show lq 25 = false from hl] at hJ
              have hsz := hJ.size
              have hN := hJ.al
              clear hJ
              refine Reg.step2_do (.pointer (some ⟨w2.heap.size, 0, none⟩)) (wq.alloc (.cells #[.int .u64 0, .int .i64 0, .int .u64 0, .int .u32 0, .int .i64 0, .int .u64 0, .int .u32 0] 41)) ?_ rfl (by show RG _ _ _ true (lq 26) _; rw [show lq 26 = false from gl26]; exact hN) trivial
              rw [← hsz]
              clear hN hsz
              simp [execOp]
              go_simp
            · -- 26: None := Op.store 41 t12 t78
              intro aq wq lq hI hl hdone hlater hold hd ho
              have h12 : aq.tmps.getD 12 undef = .pointer (some ⟨w2.heap.size, 0, none⟩) := hd 12 (by kernel_rfl)
              have h78 : aq.tmps.getD 78 undef = .agg #[.int .u64 g, .int .i64 p0, .int .u64 p1, .int .u32 p2, .int .i64 p3, .int .u64 p4, .int .u32 p5] := hd 78 (by kernel_rfl)
              have gd25 : lq 25 = true := hdone 25 (by kernel_rfl)
              clear hd ho hdone hlater hold
              rw [Array.getD_eq_getD_getElem?] at h12 h78
              have hJ := hI
              clear hI
              rw [show lq 26 = false from hl, show lq 25 = true from gd25] at hJ
              obtain ⟨e0, e1, e2, e3, e4, e5, e6⟩ := has7 hJ.has
              have f1 := hJ.has.frozen
              have hN := hJ.st
              clear hJ
              refine Reg.step2_skip (set7 w2.heap.size (.int .u64 g) (.int .i64 p0) (.int .u64 p1) (.int .u32 p2) (.int .i64 p3) (.int .u64 p4) (.int .u32 p5) wq) rfl ?_ (show RG _ _ _ (lq 25) true _ by rw [show lq 25 = true from gd25]; exact hN) trivial
              clear hN
              unfold set7
              simp [execOp]
              go_simp
            case hend =>
              intro wx hI
              simp only [Reg.fill, List.foldl_cons, List.foldl_nil, List.setIfInBounds_toArray, List.set_cons_zero, List.set_cons_succ]
              have hI := (show RG w2 (.cells #[.int .u64 0, .int .i64 0, .int .u64 0, .int .u32 0, .int .i64 0, .int .u64 0, .int .u32 0] 41) (set7 w2.heap.size (.int .u64 g) (.int .i64 p0) (.int .u64 p1) (.int .u32 p2) (.int .i64 p3) (.int .u64 p4) (.int .u32 p5)) true true wx from hI)
              have hb := hI.below HSF.out
              have hn := hI.has7
              have HB3 := Lib.hid (below_on HB2.out hb)
              have HX3 := Lib.hid (HX2.out.below hb HX2.out.lt)
              have HY3 := Lib.hid (HY2.out.below hb HY2.out.lt)
              have HN3 := Lib.hid hn
              obtain ⟨n0, n1, n2, n3, n4, n5, n6⟩ := has7 hn
              clear hI hb hn f0
              go_wp2_with fail
              refine (refright_sup _ _ _ _ _ _ _ _).mono ?_
              rintro e w4 ⟨rfl, hb⟩
              have hx := HX3.out.below hb HX3.out.lt
              have hy := HY3.out.below hb HY3.out.lt
              have hn := HN3.out.below hb HN3.out.lt
              have HB4 := Lib.hid (below_on HB3.out hb)
              clear n0 n1 n2 n3 n4 n5 n6
              obtain ⟨x0, x1, x2, x3, x4, x5, x6⟩ := has7 hx
              obtain ⟨y0, y1, y2, y3, y4, y5, y6⟩ := has7 hy
              obtain ⟨n0, n1, n2, n3, n4, n5, n6⟩ := has7 hn
              have f0 := hx.frozen
              clear hx hy hn hb
              cases hsb : supB g p0 p1 p3 with
              | false =>
                have HV := Lib.hid (HSV.out (HB.out (by rw [HSB.out, hsb])))
                clear hsb
                go_wp2_with fail
                refine bodyPost_ret (v := noSou 4) (by simp [results, Tryd.results16, go_sem, x0, x1, x2, x3, x4, x5, x6, noSou]) rfl ⟨by rw [HV.out], ?_⟩
                exact set7_below (Nat.le_refl _) _ _ _ _ _ _ _ HB4.out
              | true =>
                have HV := Lib.hid (HVY.out (by rw [HSB.out, hsb]))
                clear hsb
                go_wp2_with fail
                refine bodyPost_ret (v := .tuple #[.agg #[.int .u64 g, .int .i64 p0, .int .u64 p1, .int .u32 p2, .int .i64 p3, .int .u64 p4, .int .u32 p5], .int .i64 0]) (by simp [results, Tryd.results16, go_sem, x0, x1, x2, x3, x4, x5, x6]) rfl ⟨by rw [HV.out], ?_⟩
                exact set7_below (Nat.le_refl _) _ _ _ _ _ _ _ HB4.out
          · have HV := Lib.hid (HSV.out (HB.out (by rw [souB, show decide (F l 3 = F l 4 % 2) = false from decide_eq_false (by rw [← HA.out, ← HG.out, ← HSL.out]; exact ha1)]; simp)))
            have ha2 : (a != sl) = true := by simpa using ha1
            go_wp2_with fail
            refine bodyPost_ret (v := noSou 4) (by simp [results, Tryd.results16, go_sem, x0, x1, x2, x3, x4, x5, x6, noSou]) rfl ⟨by rw [HV.out], ?_⟩
            exact set7_below (Nat.le_refl _) _ _ _ _ _ _ _ HB2.out
        · have HV := Lib.hid (HSV.out (HB.out (by rw [souB, show decide (F l 0 = 1) = false from decide_eq_false (by rw [← HK.out]; exact hk1)]; simp)))
          have hk2 : (k != 1) = true := by simpa using hk1
          go_wp2_with fail
          refine bodyPost_ret (v := noSou 4) (by simp [results, Tryd.results16, go_sem, x0, x1, x2, x3, x4, x5, x6, noSou]) rfl ⟨by rw [HV.out], ?_⟩
          exact set7_below (Nat.le_refl _) _ _ _ _ _ _ _ HB2.out
      · have HV := Lib.hid (HSV.out (HB.out (by rw [souB, decide_eq_false (by rw [← HPS.out]; omega)]; rfl)))
        obtain ⟨R, hR⟩ : ∃ R, R = strOf ((opP l).drop (sumW allW).toNat) := ⟨_, rfl⟩
        have hne : ¬ R.toList = [] := fun h => by
          have h2 : R.size = 0 := by rw [ByteArray.toList_eq] at h; have := congrArg List.length h; simpa using this
          rw [hR] at h2
          have h3 : ((opP l).drop (sumW allW).toNat).length = 0 := h2
          rw [List.length_drop, ← HPS.out, show (sumW allW).toNat = 29 from rfl] at h3
          omega
        rw [← hR]
        clear hR hle hlen
        go_wp2_with fail
        refine bodyPost_ret (v := noSou 4) (by simp [results, Tryd.results16, go_sem, x0, x1, x2, x3, x4, x5, x6, noSou]) rfl ⟨by rw [HV.out], ?_⟩
        exact set7_below (Nat.le_refl _) _ _ _ _ _ _ _ HB2.out
    · obtain ⟨r1, r2, r3⟩ := rd_no (ws := allW) (l := opP l) (.inr (by show ¬ (29 : Int) ≤ _; rw [← HPS.out]; omega))
      have HV := Lib.hid (HSV.out (HB.out (by rw [souB, decide_eq_false (by rw [← HPS.out]; omega)]; rfl)))
      rw [r1, r3]
      clear r1 r2 r3 hlen
      go_wp2_with fail
      refine bodyPost_ret (v := noSou 4) (by simp [results, Tryd.results16, go_sem, x0, x1, x2, x3, x4, x5, x6, noSou]) rfl ⟨by rw [HV.out], ?_⟩
      exact set7_below (Nat.le_refl _) _ _ _ _ _ _ _ HB2.out
  · have HV := Lib.hid (souV_no (l := l) (e := E) (by rw [souE, hE, if_neg h0]) h0)
    have HR := Lib.hid (ropV_no (l := l) (e := E) hE h0)
    have h0' : (E == 0) = false := by simpa using h0
    clear hE hx hy hsz hl
    go_enter Tryd.func16, Tryd.ntmps16
    go_wp2_with fail
    refine (refopen_any s _ hs).mono ?_
    rintro e w1 ⟨rfl, hb⟩
    rw [HL.out, HR.out]
    unfold noRop
    have hx := HX.out.below hb (by simp; omega)
    have hy := HY.out.below hb (by simp)
    have HX1 := Lib.hid hx
    have HY1 := Lib.hid hy
    have HB1 := Lib.hid (below_on (below_nw (below_new _ _) _) hb)
    obtain ⟨x0, x1, x2, x3, x4, x5, x6⟩ := has7 hx
    obtain ⟨y0, y1, y2, y3, y4, y5, y6⟩ := has7 hy
    have h1 := hx.lt
    have h2 := hy.lt
    have f0 := hx.frozen
    clear hx hy hb
    go_wp2_with fail
    refine bodyPost_ret (v := noSou E) (by simp [results, Tryd.results16, go_sem, x0, x1, x2, x3, x4, x5, x6, h1, noSou]) rfl ⟨by rw [HV.out], ?_⟩
    exact below_nw (set7_below (Nat.le_refl _) _ _ _ _ _ _ _ HB1.out) _
end Go.Proofs.YtimdemdopnmijaaDoor.Sup
