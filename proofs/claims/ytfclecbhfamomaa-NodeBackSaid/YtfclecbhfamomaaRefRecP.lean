/- Layer 12 (rec): the document's own answers: Parse. -/
import Derived.Test.YtfclecbhfamomaaRecE
import Derived.Test.YtfclecbhfamomaaRefLend
namespace Go.Proofs.Ytfclecbhfamomaa.Rec
open Go Go.RowKit Go.Proofs.Ytfclecbhfamomaa Go.Proofs.Ytfclecbhfamomaa.Lend
set_option linter.unusedVariables false

/-- a row of the document's updates -/
abbrev RU (w : World) (base : Nat) (v : Value) (l : List Up) : Prop := w.ownsRow base 78 4 v l.length (flatU l)
/-- what the document's Parse answers -/
def PaP (w : World) (s : List UInt8) (e : Ending) (w' : World) : Prop :=
  (∃ l v', parL s = some l ∧ e = .returned (.tuple #[v', .int .i64 0]) ∧ RU w' w.heap.size v' l ∧ Below w.heap.size w w') ∨
  (parL s = none ∧ e = .returned (.tuple #[.slice none 0 0, .int .i64 4]) ∧ Below w.heap.size w w')
theorem PaP.yes {w w' : World} {s : List UInt8} {e : Ending} (l : List Up) (v' : Value) (h : parL s = some l) (he : e = .returned (.tuple #[v', .int .i64 0])) (h1 : RU w' w.heap.size v' l) (h2 : Below w.heap.size w w') : PaP w s e w' := .inl ⟨l, v', h, he, h1, h2⟩
theorem PaP.no {w w' : World} {s : List UInt8} {e : Ending} (h : parL s = none) (he : e = .returned (.tuple #[.slice none 0 0, .int .i64 4])) (h2 : Below w.heap.size w w') : PaP w s e w' := .inr ⟨h, he, h2⟩
theorem info_ur : (Try.prog.info? 78).map (fun i => (i.zero, i.size, i.bytes)) = some (some (.agg #[.int .u8 0, .string ⟨#[]⟩, .string ⟨#[]⟩, .int .u64 0]), 4, 48) := by kernel_rfl
theorem refsplit_at (l : List UInt8) (w : World) (h : l.length ≤ 1000000) : Calls Try.prog 35 #[.string (Lend.strOf l)] w fun e w' => e = .returned (.tuple #[.string (Lend.strOf (splT l)), .string (Lend.strOf (splR l)), .bool (splB l)]) ∧ Below w.heap.size w w' := by
  have := refsplit_any (Lend.strOf l) w (by rw [ssize]; exact h)
  rwa [Lend.strOf_data] at this
/-- the update's block, beside the row -/
structure Cx (w0 : World) (v : Value) (m : List Up) (X : Nat) (cs : List Value) (w : World) : Prop where
  has : Has w X 78 cs
  row : RU w w0.heap.size v m
  bel : Below w0.heap.size w0 w
  old : ∀ k, v.ownBlock = some k → k < X
  ge : w0.heap.size ≤ X
theorem Cx.on {w0 w w' : World} {v : Value} {m : List Up} {X : Nat} {cs : List Value} (h : Cx w0 v m X cs w) (hb : Below w.heap.size w w') : Cx w0 v m X cs w' := ⟨h.has.below hb h.has.lt, own_bel h.row hb, below_on h.bel hb, h.old, h.ge⟩
theorem Cx.set {w0 w : World} {v : Value} {m : List Up} {X : Nat} {cs : List Value} (h : Cx w0 v m X cs w) (i : Nat) (x : Value) : Cx w0 v m X (cs.set i x) (w.setCell ⟨X, i, none⟩ x) :=
  ⟨h.has.set i x, owns_same h.row fun k e => Below.heap_setCell _ _ _ _ (fun e2 => by have h1 := h.old k e; subst e2; exact Nat.lt_irrefl _ h1), h.bel.setCell h.ge x, h.old, h.ge⟩
set_option maxRecDepth 100000 in
set_option maxHeartbeats 8000000 in
theorem refparse_any (s : List UInt8) (w : World) (hs : s.length ≤ 100000) : Calls Try.prog 57 #[.string (Lend.strOf s)] w (PaP w s) := by
  obtain ⟨i0, hi, hz0, hz1, hz2⟩ := info_parts info_ur
  go_enter Try.func57, Try.ntmps57
  go_wp2_with fail
  go_loopw [0, 4] (fun sv ov wr => ∃ (r : List UInt8) (m : List Up) (v : Value), v = ov ∧ sv = .string (Lend.strOf r) ∧ RU wr w.heap.size v m ∧ parL s = (parL r).map (m ++ ·) ∧ m.length + r.length ≤ s.length ∧ Below w.heap.size w wr) (fun sv _ _ => lenOf sv)
  case atStart => exact ⟨s, [], _, rfl, rfl, World.ownsRow_nil _ _ _ _, by cases parL s <;> rfl, by simp, Below.refl _ _⟩
  case round =>
    obtain ⟨r, m, v, rfl, rfl, hrow, hpl, hln, hb⟩ := hrel
    cases r with
    | nil =>
      have HP := Lib.hid (show parL s = some m by rw [hpl, parL_nil]; simp)
      have HR := Lib.hid hrow
      have HB := Lib.hid hb
      clear hrow hpl hln hb
      have hz : (Lend.strOf []).size = 0 := rfl
      go_wp2_with fail
      go_ret2
      exact PaP.yes m _ HP.out rfl HR.out HB.out
    | cons b r =>
      have hsz := ssize (b :: r)
      rw [List.length_cons] at hsz hln
      have hpos : 0 < ((Lend.strOf (b :: r)).size : Int) := by omega
      have HROW := Lib.hid hrow
      have HPL := Lib.hid hpl
      have HLN := Lib.hid hln
      have HB := Lib.hid hb
      have hb255 := b.toNat_lt
      obtain ⟨T, hT⟩ : ∃ T, T = Lend.strOf (b :: r) := ⟨_, rfl⟩
      rw [← hT] at hpos hsz ⊢
      have HT := Lib.hid hT
      have HSZ := Lib.hid hsz
      have hp0 : 0 < T.size := by omega
      have hp1 : 1 ≤ T.size := by omega
      have HL1 := Lib.hid (show r.length ≤ 1000000 by omega)
      clear hrow hpl hln hb hT
      have HEX := Lib.hid (show T.extract 1 (r.length + 1) = Lend.strOf r from by
        apply Lend.strOf_ext
        rw [Lib.extract_data, HT.out, Lend.strOf_data, List.drop_succ_cons, List.drop_zero]
        exact List.take_of_length_le (by omega))
      have HT0 := Lib.hid (show T[0] = b by have := HT.out; subst this; rfl)
      go_wp2_with fail
      rw [HEX.out]
      refine (refsplit_at r _ HL1.out).mono ?_
      rintro e w1 ⟨rfl, hb1⟩
      have HBX := Lib.hid (below_on HB.out hb1)
      have HR1 := Lib.hid (own_bel HROW.out hb1)
      clear hb1
      cases hs1 : Lend.splB r with
      | false =>
        have HN := Lib.hid (show parL s = none by rw [HPL.out, parL_none (by simp) (par1_no hs1)]; rfl)
        clear hs1
        go_wp2_with fail
        go_ret2
        exact PaP.no HN.out rfl HBX.out
      | true =>
        have HS1 := Lib.hid hs1
        have HL2 := Lib.hid (show (splR r).length ≤ 1000000 by have := splR_le r; have := HL1.out; omega)
        have hkd0 := HT0.out
        obtain ⟨kd, hkd⟩ : ∃ x : Int, (T[0].toNat : Int) = x := ⟨_, rfl⟩
        have hk0 : 0 ≤ kd := by omega
        have hk1 : kd ≤ 255 := by rw [← hkd, hkd0]; omega
        have HKD := Lib.hid (show kd = (b.toNat : Int) by rw [← hkd, hkd0])
        obtain ⟨w2, hw2⟩ : ∃ x, x = w1.alloc (.cells #[.int .u8 kd, .string (Lend.strOf (splT r)), .string ⟨#[]⟩, .int .u64 0] 78) := ⟨_, rfl⟩
        have HX := Lib.hid (show Cx w v m w1.heap.size [.int .u8 kd, .string (Lend.strOf (splT r)), .string ⟨#[]⟩, .int .u64 0] w2 by
          rw [hw2]
          exact ⟨Has.new _ _ _, HR1.out.alloc _, below_nw HBX.out _, fun k e => (HR1.out.lt k e).2, HBX.out.size⟩)
        clear hs1 hkd0 hb255 hsz hpos
        rw [hw2] at HX
        have y0 := HX.out.has.cell 0
        have y1 := HX.out.has.cell 1
        have y2 := HX.out.has.cell 2
        have y3 := HX.out.has.cell 3
        have z2 := HX.out.has.frozen 2
        have z3 := HX.out.has.frozen 3
        simp only [List.getElem?_cons_zero, List.getElem?_cons_succ] at y0 y1 y2 y3
        rw [← hw2] at HX
        by_cases hA : b = 1
        · subst hA
          have HPR := Lib.hid (par1_put HS1.out)
          obtain rfl : kd = 1 := HKD.out
          go_wp2_with fail
          rw [← hw2]
          refine (refsplit_at _ _ HL2.out).mono ?_
          rintro e w3 ⟨rfl, hb3⟩
          have HB3 := Lib.hid (HX.out.on hb3)
          clear hb3 hw2 z2 z3 y0 y1 y2 y3
          have y0 := HB3.out.has.cell 0
          have y1 := HB3.out.has.cell 1
          have y2 := HB3.out.has.cell 2
          have y3 := HB3.out.has.cell 3
          simp only [List.getElem?_cons_zero, List.getElem?_cons_succ] at y0 y1 y2 y3
          have z2 := HB3.out.has.frozen 2
          have z3 := HB3.out.has.frozen 3
          cases hs2 : Lend.splB (splR r) with
          | false =>
            have HN := Lib.hid (show parL s = none by rw [HPL.out, parL_none (by simp) (show par1 (1 :: r) = none by rw [HPR.out, if_neg (by rw [hs2]; decide)])]; rfl)
            clear hs2
            go_wp2_with fail
            go_ret2
            exact PaP.no HN.out rfl HB3.out.bel
          | true =>
            have HPR := Lib.hid (show par1 (1 :: r) = fin1 ⟨1, splT r, splT (splR r), 0⟩ (splR (splR r)) by rw [HPR.out, if_pos hs2])
            clear hs2
            obtain ⟨w4, hw4⟩ : ∃ x, x = w3.setCell ⟨w1.heap.size, 2, none⟩ (.string (Lend.strOf (splT (splR r)))) := ⟨_, rfl⟩
            have HB4 := Lib.hid (show Cx w v m w1.heap.size [.int .u8 1, .string (Lend.strOf (splT r)), .string (Lend.strOf (splT (splR r))), .int .u64 0] w4 by rw [hw4]; exact HB3.out.set 2 _)
            obtain ⟨u, hu⟩ : ∃ u : Up, u = ⟨1, splT r, splT (splR r), 0⟩ := ⟨_, rfl⟩
            have HCK := Lib.hid (show ∀ W, Calls Try.prog 50 #[.agg #[.int .u8 1, .string (Lend.strOf (splT r)), .string (Lend.strOf (splT (splR r))), .int .u64 0]] W fun e w' => e = .returned (.int .i64 (chkU u)) ∧ Below W.heap.size W w' from fun W => by subst hu; exact refcheck_any _ W (by simp only; omega) (by simp only; omega))
            rw [← hu] at HPR
            have HEU := Lib.hid (show encU u = [.int .u8 1, .string (Lend.strOf (splT r)), .string (Lend.strOf (splT (splR r))), .int .u64 0] by rw [hu]; rfl)
            clear hu
            go_wp2_with fail
            rw [← hw4]
            refine (HCK.out _).mono ?_
            rintro e w9 ⟨rfl, hb9⟩
            have HB9 := Lib.hid (HB4.out.on hb9)
            clear hb9 hw4 z2 z3 y0 y1 y2 y3
            have y0 := HB9.out.has.cell 0
            have y1 := HB9.out.has.cell 1
            have y2 := HB9.out.has.cell 2
            have y3 := HB9.out.has.cell 3
            simp only [List.getElem?_cons_zero, List.getElem?_cons_succ] at y0 y1 y2 y3
            by_cases hck : chkU u = 0
            · rw [hck]
              have HP := Lib.hid (show par1 (_ :: r) = some (u, splR (splR r)) by rw [HPR.out]; unfold fin1; rw [if_pos hck])
              clear hck
              have HNW := Lib.hid (show ∀ j x, (encU u)[j]? = some x → (w9.alloc (.cells #[.int .u8 1, .string (Lend.strOf (splT r)), .string (Lend.strOf (splT (splR r))), .int .u64 0] 78)).cell? ((⟨w9.heap.size, 0, none⟩ : Addr).add j) = some x from by
                rw [HEU.out]
                exact has_news (Has.new w9 [.int .u8 1, .string (Lend.strOf (splT r)), .string (Lend.strOf (splT (splR r))), .int .u64 0] 78))
              have HB2 := Lib.hid (below_nw HB9.out.bel (.cells #[.int .u8 1, .string (Lend.strOf (splT r)), .string (Lend.strOf (splT (splR r))), .int .u64 0] 78))
              go_wp2_with (at_builtin; refine wpList_append_own _ rfl _ _ 33 rfl w.heap.size 78 i0 _ 4 48 Try.underlying33 hi hz0 hz1 hz2 rfl (by decide) _ m.length (flatU m) rfl (HB9.out.row.alloc _) ⟨w9.heap.size, 0, none⟩ 1 1 (encU u) rfl rfl HNW.out (enc_one u) ?c1 ?c2 ?c3 ?_)
              case c1 => unfold maxLen; have := HLN.out; omega
              case c2 => have := HLN.out; omega
              case c3 => exact HB2.out.size
              intro v' w4 hown4 hgr _
              have HB4 := Lib.hid (HB2.out.grown hgr HB2.out.size (fun q hq => (HB9.out.row.lt q hq).1))
              have HOW4 := Lib.hid (show RU w4 w.heap.size v' (m ++ [u]) by unfold RU; rw [flatU_snoc, List.length_append]; exact hown4)
              have HPL2 := Lib.hid (show parL s = (parL (splR (splR r))).map ((m ++ [u]) ++ ·) by
                rw [HPL.out, parL_some HP.out]
                cases parL (splR (splR r)) <;> simp)
              have HLN2 := Lib.hid (show (m ++ [u]).length + (splR (splR r)).length ≤ s.length ∧ (splR (splR r)).length < r.length + 1 by
                have h1 := (par1_some HP.out).1
                have h2 := HLN.out
                rw [List.length_append]
                rw [List.length_cons] at h1
                simp only [List.length_cons, List.length_nil]
                omega)
              clear hown4 hgr y0 y1 y2 y3
              go_wp2_with fail
              go_roundw
              case rel => exact ⟨splR (splR r), m ++ [u], _, rfl, rfl, HOW4.out, HPL2.out, HLN2.out.1, HB4.out⟩
              case measure => simp only [lenOf]; rw [HSZ.out, ssize]; exact HLN2.out.2
            · have hne : (chkU u == 0) = false := by simpa using hck
              have HN := Lib.hid (show parL s = none by rw [HPL.out, parL_none (by simp) (show par1 (_ :: r) = none by rw [HPR.out]; unfold fin1; rw [if_neg hck])]; rfl)
              clear hck y0 y1 y2 y3
              go_wp2_with fail
              go_ret2
              exact PaP.no HN.out rfl HB9.out.bel
        · by_cases hC : b = 3
          · subst hC
            have HPR := Lib.hid (par1_add HS1.out)
            obtain rfl : kd = 3 := HKD.out
            obtain ⟨R, hR⟩ : ∃ R, R = Lend.strOf (splR r) := ⟨_, rfl⟩
            have HRS := Lib.hid (show R.size = (splR r).length by rw [hR, ssize])
            have HRD := Lib.hid (show R.data.toList = splR r by rw [hR]; rfl)
            rw [← hR]
            clear hR
            by_cases h8 : 8 ≤ R.size
            · have h8' : ¬ (R.size : Int) < 8 := by omega
              have HPR := Lib.hid (show par1 (3 :: r) = fin1 ⟨3, splT r, [], dlN (splR r)⟩ (dlR (splR r)) by rw [HPR.out, if_pos (by unfold dlB; rw [decide_eq_true_eq, ← HRS.out]; exact h8)])
              have HG := Lib.hid (fun W => refget_any (R.extract 0 8) W (by simp; omega))
              have HGN := Lib.hid (show ((getL (R.extract 0 8).data.toList : Nat) : Int) = dlN (splR r) by rw [Lib.extract_data, HRD.out, dlN, if_pos (by rw [← HRS.out]; exact h8)]; rfl)
              have HE2 := Lib.hid (show R.extract 8 R.size = Lend.strOf (dlR (splR r)) by
                apply Lend.strOf_ext
                rw [Lib.extract_data, HRD.out, dlR, if_pos (by rw [← HRS.out]; exact h8)]
                exact List.take_of_length_le (by rw [List.length_drop, HRS.out]; omega))
              have hdl := dlN_bd (splR r)
              go_wp2_with fail
              rw [← hw2] at y0 y1 y2 y3 z2 z3 ⊢
              clear hw2
              refine (HG.out _).mono ?_
              rintro e w3 ⟨rfl, rfl⟩
              rw [HGN.out]
              obtain ⟨w4, hw4⟩ : ∃ x, x = w2.setCell ⟨w1.heap.size, 3, none⟩ (.int .u64 (dlN (splR r))) := ⟨_, rfl⟩
              have HB4 := Lib.hid (show Cx w v m w1.heap.size [.int .u8 3, .string (Lend.strOf (splT r)), .string ⟨#[]⟩, .int .u64 (dlN (splR r))] w4 by rw [hw4]; exact HX.out.set 3 _)
              obtain ⟨u, hu⟩ : ∃ u : Up, u = ⟨3, splT r, [], dlN (splR r)⟩ := ⟨_, rfl⟩
              have HCK := Lib.hid (show ∀ W, Calls Try.prog 50 #[.agg #[.int .u8 3, .string (Lend.strOf (splT r)), .string ⟨#[]⟩, .int .u64 (dlN (splR r))]] W fun e w' => e = .returned (.int .i64 (chkU u)) ∧ Below W.heap.size W w' from fun W => by subst hu; exact refcheck_any _ W (by simp only; omega) (by simp only; omega))
              rw [← hu] at HPR
              have HEU := Lib.hid (show encU u = [.int .u8 3, .string (Lend.strOf (splT r)), .string ⟨#[]⟩, .int .u64 (dlN (splR r))] by rw [hu]; rfl)
              clear hu
              go_wp2_with fail
              rw [← hw4]
              refine (HCK.out _).mono ?_
              rintro e w9 ⟨rfl, hb9⟩
              have HB9 := Lib.hid (HB4.out.on hb9)
              clear hb9 hw4 z2 z3 y0 y1 y2 y3
              have y0 := HB9.out.has.cell 0
              have y1 := HB9.out.has.cell 1
              have y2 := HB9.out.has.cell 2
              have y3 := HB9.out.has.cell 3
              simp only [List.getElem?_cons_zero, List.getElem?_cons_succ] at y0 y1 y2 y3
              by_cases hck : chkU u = 0
              · rw [hck]
                have HP := Lib.hid (show par1 (_ :: r) = some (u, dlR (splR r)) by rw [HPR.out]; unfold fin1; rw [if_pos hck])
                clear hck
                have HNW := Lib.hid (show ∀ j x, (encU u)[j]? = some x → (w9.alloc (.cells #[.int .u8 3, .string (Lend.strOf (splT r)), .string ⟨#[]⟩, .int .u64 (dlN (splR r))] 78)).cell? ((⟨w9.heap.size, 0, none⟩ : Addr).add j) = some x from by
                  rw [HEU.out]
                  exact has_news (Has.new w9 [.int .u8 3, .string (Lend.strOf (splT r)), .string ⟨#[]⟩, .int .u64 (dlN (splR r))] 78))
                have HB2 := Lib.hid (below_nw HB9.out.bel (.cells #[.int .u8 3, .string (Lend.strOf (splT r)), .string ⟨#[]⟩, .int .u64 (dlN (splR r))] 78))
                go_wp2_with (at_builtin; refine wpList_append_own _ rfl _ _ 33 rfl w.heap.size 78 i0 _ 4 48 Try.underlying33 hi hz0 hz1 hz2 rfl (by decide) _ m.length (flatU m) rfl (HB9.out.row.alloc _) ⟨w9.heap.size, 0, none⟩ 1 1 (encU u) rfl rfl HNW.out (enc_one u) ?c1 ?c2 ?c3 ?_)
                case c1 => unfold maxLen; have := HLN.out; omega
                case c2 => have := HLN.out; omega
                case c3 => exact HB2.out.size
                intro v' w4 hown4 hgr _
                have HB4 := Lib.hid (HB2.out.grown hgr HB2.out.size (fun q hq => (HB9.out.row.lt q hq).1))
                have HOW4 := Lib.hid (show RU w4 w.heap.size v' (m ++ [u]) by unfold RU; rw [flatU_snoc, List.length_append]; exact hown4)
                have HPL2 := Lib.hid (show parL s = (parL (dlR (splR r))).map ((m ++ [u]) ++ ·) by
                  rw [HPL.out, parL_some HP.out]
                  cases parL (dlR (splR r)) <;> simp)
                have HLN2 := Lib.hid (show (m ++ [u]).length + (dlR (splR r)).length ≤ s.length ∧ (dlR (splR r)).length < r.length + 1 by
                  have h1 := (par1_some HP.out).1
                  have h2 := HLN.out
                  rw [List.length_append]
                  rw [List.length_cons] at h1
                  simp only [List.length_cons, List.length_nil]
                  omega)
                clear hown4 hgr y0 y1 y2 y3
                go_wp2_with fail
                go_roundw
                case rel => exact ⟨dlR (splR r), m ++ [u], _, rfl, by rw [HE2.out], HOW4.out, HPL2.out, HLN2.out.1, HB4.out⟩
                case measure => simp only [lenOf]; rw [HSZ.out]; rw [HE2.out, ssize]; exact HLN2.out.2
              · have hne : (chkU u == 0) = false := by simpa using hck
                have HN := Lib.hid (show parL s = none by rw [HPL.out, parL_none (by simp) (show par1 (_ :: r) = none by rw [HPR.out]; unfold fin1; rw [if_neg hck])]; rfl)
                clear hck y0 y1 y2 y3
                go_wp2_with fail
                go_ret2
                exact PaP.no HN.out rfl HB9.out.bel
            · have h8' : (R.size : Int) < 8 := by omega
              have HN := Lib.hid (show parL s = none by rw [HPL.out, parL_none (by simp) (show par1 (3 :: r) = none by rw [HPR.out, if_neg (by unfold dlB; rw [decide_eq_true_eq, ← HRS.out]; exact h8)])]; rfl)
              go_wp2_with fail
              go_ret2
              rw [← hw2]
              exact PaP.no HN.out rfl HX.out.bel
          · have HPR := Lib.hid (show par1 (b :: r) = fin1 ⟨kd, splT r, [], 0⟩ (splR r) by rw [par1_oth HS1.out hA hC, HKD.out])
            have hn1 : (kd == 1) = false := by
              have : ¬ kd = 1 := fun e => hA (UInt8.toNat_inj.1 (by have := HKD.out; show b.toNat = 1; omega))
              simpa using this
            have hn3 : (kd == 3) = false := by
              have : ¬ kd = 3 := fun e => hC (UInt8.toNat_inj.1 (by have := HKD.out; show b.toNat = 3; omega))
              simpa using this
            clear hA hC
            obtain ⟨u, hu⟩ : ∃ u : Up, u = ⟨kd, splT r, [], 0⟩ := ⟨_, rfl⟩
            have HCK := Lib.hid (show ∀ W, Calls Try.prog 50 #[.agg #[.int .u8 kd, .string (Lend.strOf (splT r)), .string ⟨#[]⟩, .int .u64 0]] W fun e w' => e = .returned (.int .i64 (chkU u)) ∧ Below W.heap.size W w' from fun W => by subst hu; exact refcheck_any _ W (by simp only; omega) (by simp only; omega))
            rw [← hu] at HPR
            have HEU := Lib.hid (show encU u = [.int .u8 kd, .string (Lend.strOf (splT r)), .string ⟨#[]⟩, .int .u64 0] by rw [hu]; rfl)
            clear hu
            go_wp2_with fail
            rw [← hw2]
            refine (HCK.out _).mono ?_
            rintro e w9 ⟨rfl, hb9⟩
            have HB9 := Lib.hid (HX.out.on hb9)
            clear hb9 hw2 z2 z3 y0 y1 y2 y3
            have y0 := HB9.out.has.cell 0
            have y1 := HB9.out.has.cell 1
            have y2 := HB9.out.has.cell 2
            have y3 := HB9.out.has.cell 3
            simp only [List.getElem?_cons_zero, List.getElem?_cons_succ] at y0 y1 y2 y3
            by_cases hck : chkU u = 0
            · rw [hck]
              have HP := Lib.hid (show par1 (_ :: r) = some (u, splR r) by rw [HPR.out]; unfold fin1; rw [if_pos hck])
              clear hck
              have HNW := Lib.hid (show ∀ j x, (encU u)[j]? = some x → (w9.alloc (.cells #[.int .u8 kd, .string (Lend.strOf (splT r)), .string ⟨#[]⟩, .int .u64 0] 78)).cell? ((⟨w9.heap.size, 0, none⟩ : Addr).add j) = some x from by
                rw [HEU.out]
                exact has_news (Has.new w9 [.int .u8 kd, .string (Lend.strOf (splT r)), .string ⟨#[]⟩, .int .u64 0] 78))
              have HB2 := Lib.hid (below_nw HB9.out.bel (.cells #[.int .u8 kd, .string (Lend.strOf (splT r)), .string ⟨#[]⟩, .int .u64 0] 78))
              go_wp2_with (at_builtin; refine wpList_append_own _ rfl _ _ 33 rfl w.heap.size 78 i0 _ 4 48 Try.underlying33 hi hz0 hz1 hz2 rfl (by decide) _ m.length (flatU m) rfl (HB9.out.row.alloc _) ⟨w9.heap.size, 0, none⟩ 1 1 (encU u) rfl rfl HNW.out (enc_one u) ?c1 ?c2 ?c3 ?_)
              case c1 => unfold maxLen; have := HLN.out; omega
              case c2 => have := HLN.out; omega
              case c3 => exact HB2.out.size
              intro v' w4 hown4 hgr _
              have HB4 := Lib.hid (HB2.out.grown hgr HB2.out.size (fun q hq => (HB9.out.row.lt q hq).1))
              have HOW4 := Lib.hid (show RU w4 w.heap.size v' (m ++ [u]) by unfold RU; rw [flatU_snoc, List.length_append]; exact hown4)
              have HPL2 := Lib.hid (show parL s = (parL (splR r)).map ((m ++ [u]) ++ ·) by
                rw [HPL.out, parL_some HP.out]
                cases parL (splR r) <;> simp)
              have HLN2 := Lib.hid (show (m ++ [u]).length + (splR r).length ≤ s.length ∧ (splR r).length < r.length + 1 by
                have h1 := (par1_some HP.out).1
                have h2 := HLN.out
                rw [List.length_append]
                rw [List.length_cons] at h1
                simp only [List.length_cons, List.length_nil]
                omega)
              clear hown4 hgr y0 y1 y2 y3
              go_wp2_with fail
              go_roundw
              case rel => exact ⟨splR r, m ++ [u], _, rfl, rfl, HOW4.out, HPL2.out, HLN2.out.1, HB4.out⟩
              case measure => simp only [lenOf]; rw [HSZ.out, ssize]; exact HLN2.out.2
            · have hne : (chkU u == 0) = false := by simpa using hck
              have HN := Lib.hid (show parL s = none by rw [HPL.out, parL_none (by simp) (show par1 (_ :: r) = none by rw [HPR.out]; unfold fin1; rw [if_neg hck])]; rfl)
              clear hck y0 y1 y2 y3
              go_wp2_with fail
              go_ret2
              exact PaP.no HN.out rfl HB9.out.bel
end Go.Proofs.Ytfclecbhfamomaa.Rec
