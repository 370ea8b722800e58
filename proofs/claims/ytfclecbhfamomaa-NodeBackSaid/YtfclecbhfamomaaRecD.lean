/- Layer 12 (rec): parse. -/
import Derived.Test.YtfclecbhfamomaaRecC
namespace Go.Proofs.Ytfclecbhfamomaa.Rec
open Go Go.RowKit Go.Proofs.Ytfclecbhfamomaa Go.Proofs.Ytfclecbhfamomaa.Lend
set_option linter.unusedVariables false

def dlB (l : List UInt8) : Bool := decide (8 ≤ l.length)
def dlN (l : List UInt8) : Int := if 8 ≤ l.length then (getL (l.take 8) : Int) else 0
def dlR (l : List UInt8) : List UInt8 := if 8 ≤ l.length then l.drop 8 else []
theorem ret_dl {a b : Int} {s t : ByteArray} {c d : Bool} (h : a = b) (h1 : s = t) (h' : c = d) : Ending.returned (.tuple #[.int .u64 a, .string s, .bool c]) = .returned (.tuple #[.int .u64 b, .string t, .bool d]) := by rw [h, h1, h']
theorem dlN_bd (l : List UInt8) : 0 ≤ dlN l ∧ dlN l < 18446744073709551616 := by
  unfold dlN
  split
  · have hb := getL_bd (l.take 8)
    have hl : (l.take 8).length = 8 := by rw [List.length_take]; omega
    rw [hl] at hb
    have : getL (l.take 8) < 18446744073709551616 := hb
    omega
  · omega
set_option maxRecDepth 100000 in
set_option maxHeartbeats 4000000 in
theorem parseDelta_any (l : List UInt8) (w : World) (hs : l.length ≤ 1000000) : Calls Try.prog 74 #[.string (Lend.strOf l)] w fun e w' => e = .returned (.tuple #[.int .u64 (dlN l), .string (Lend.strOf (dlR l)), .bool (dlB l)]) ∧ Below w.heap.size w w' := by
  have HSZ := Lib.hid (show (Lend.strOf l).size ≤ 1000000 by rw [ssize]; exact hs)
  by_cases h : 8 ≤ l.length
  · have hr := rd_ok (ws := [8]) (l := l) rfl (by show (8 : Int) ≤ _; omega)
    have HR := Lib.hid (show rdB [8] l = true ∧ rdN [8] l = [dlN l] ∧ rdS [8] l = dlR l from ⟨hr.1, by rw [hr.2.1]; simp [rdL, dlN, h], by rw [hr.2.2]; simp [sumW, dlR, h]⟩)
    have HB := Lib.hid (show dlB l = true by simp [dlB, h])
    obtain ⟨d, hd⟩ : ∃ x, x = dlN l := ⟨_, rfl⟩
    have HD := Lib.hid hd
    rw [← hd] at HR ⊢
    clear hr hd h hs
    go_enter Try.func74, Try.ntmps74
    go_wp2_with fail
    refine (deltaW_any _).mono ?_
    rintro e w1 ⟨b, rfl, hrow, hb1⟩
    have HROW := Lib.hid hrow
    have HB1 := Lib.hid hb1
    clear hrow hb1
    go_wp2_with fail
    refine (read_any _ 1 1 [8] _ _ HROW.out (by decide) HSZ.out).mono ?_
    rintro e w2 ⟨bo, n, cap, rfl, hown, hb2⟩
    have HB2 := Lib.hid (below_on HB1.out hb2)
    have hr := Row.own hown
    rw [Lend.strOf_data, HR.out.2.1] at hr
    obtain rfl : 1 = n := hr.len_eq
    rw [Lend.strOf_data, HR.out.1, HR.out.2.2]
    obtain ⟨g, off, rfl, hc⟩ := hr.at_ (by decide)
    have c0 : w2.cell? ⟨g, off, none⟩ = some (.int .u64 d) := hc 0 (by decide)
    clear hown hr hc hb2
    go_wp2_with fail
    go_ret3
    exact ⟨ret_dl rfl rfl HB.out.symm, HB2.out⟩
  · have hr := rd_no (ws := [8]) (l := l) (.inr (by show ¬ (8 : Int) ≤ _; omega))
    have HR := Lib.hid hr
    have HN := Lib.hid (show dlN l = 0 ∧ dlR l = [] ∧ dlB l = false from ⟨by simp [dlN, h], by simp [dlR, h], by simp [dlB, h]⟩)
    clear hr h hs
    rw [HN.out.1, HN.out.2.1, HN.out.2.2]
    go_enter Try.func74, Try.ntmps74
    go_wp2_with fail
    refine (deltaW_any _).mono ?_
    rintro e w1 ⟨b, rfl, hrow, hb1⟩
    have HROW := Lib.hid hrow
    have HB1 := Lib.hid hb1
    clear hrow hb1
    go_wp2_with fail
    refine (read_any _ 1 1 [8] _ _ HROW.out (by decide) HSZ.out).mono ?_
    rintro e w2 ⟨bo, n, cap, rfl, hown, hb2⟩
    have HB2 := Lib.hid (below_on HB1.out hb2)
    rw [Lend.strOf_data, HR.out.1, HR.out.2.2]
    clear hown hb2
    go_wp2_with fail
    go_ret3
    exact ⟨ret_dl rfl rfl rfl, HB2.out⟩
/-- Split, of a text told by its bytes -/
theorem split_at (l : List UInt8) (w : World) (h : l.length ≤ 1000000) : Calls Try.prog 68 #[.string (Lend.strOf l)] w fun e w' => e = .returned (.tuple #[.string (Lend.strOf (splT l)), .string (Lend.strOf (splR l)), .bool (splB l)]) ∧ Below w.heap.size w w' := by
  have := split_any (Lend.strOf l) w (by rw [ssize]; exact h)
  rwa [Lend.strOf_data] at this
theorem splE (l : List UInt8) : spl2 l = if Lend.splB l = true then some (Lend.splT l, Lend.splR l) else none := by
  cases l with
  | nil => rfl
  | cons n l =>
    show (if l.length < n.toNat then none else some (l.take n.toNat, l.drop n.toNat)) = _
    by_cases h : l.length < n.toNat
    · rw [if_pos h]
      have : Lend.splB (n :: l) = false := by simp [Lend.splB]; omega
      rw [this]; rfl
    · rw [if_neg h]
      have : Lend.splB (n :: l) = true := by simp [Lend.splB]; omega
      rw [this, if_pos rfl]
      have h2 : n.toNat ≤ l.length := by omega
      simp [Lend.splT, Lend.splR, h2]
theorem splR_le (l : List UInt8) : (Lend.splR l).length ≤ l.length := by
  cases l with
  | nil => simp [Lend.splR]
  | cons n l => simp only [Lend.splR]; split <;> simp <;> omega
/-- par1, way by way -/
theorem par1_no {b : UInt8} {r : List UInt8} (h : splB r = false) : par1 (b :: r) = none := by
  show (match spl2 r with | none => none | some (key, rest) => _) = _
  rw [splE, h]; rfl
theorem par1_put {r : List UInt8} (h : splB r = true) : par1 (1 :: r) = if splB (splR r) = true then fin1 ⟨1, splT r, splT (splR r), 0⟩ (splR (splR r)) else none := by
  show (match spl2 r with | none => none | some (key, rest) => _) = _
  rw [splE, h]
  show (match spl2 (splR r) with | none => none | some (v, more) => fin1 ⟨1, splT r, v, 0⟩ more) = _
  rw [splE]
  cases splB (splR r) <;> rfl
theorem par1_add {r : List UInt8} (h : splB r = true) : par1 (3 :: r) = if dlB (splR r) = true then fin1 ⟨3, splT r, [], dlN (splR r)⟩ (dlR (splR r)) else none := by
  show (match spl2 r with | none => none | some (key, rest) => _) = _
  rw [splE, h]
  show (if (splR r).length < 8 then none else fin1 ⟨3, splT r, [], getL ((splR r).take 8)⟩ ((splR r).drop 8)) = _
  unfold dlB dlN dlR
  by_cases h8 : 8 ≤ (splR r).length
  · rw [if_neg (by omega), if_pos h8, if_pos h8, if_pos (by simpa using h8)]
  · rw [if_pos (by omega), if_neg (by simpa using h8)]
theorem par1_oth {b : UInt8} {r : List UInt8} (h : splB r = true) (h1 : ¬ b = 1) (h3 : ¬ b = 3) : par1 (b :: r) = fin1 ⟨b.toNat, splT r, [], 0⟩ (splR r) := by
  show (match spl2 r with | none => none | some (key, rest) => _) = _
  rw [splE, h]
  show (if b = 1 then _ else if b = 3 then _ else _) = _
  rw [if_neg h1, if_neg h3]
theorem strOf0 : Lend.strOf [] = ⟨#[]⟩ := rfl
/-- what parse answers -/
def PuP (w : World) (s : List UInt8) (e : Ending) (w' : World) : Prop :=
  (∃ u r, par1 s = some (u, r) ∧ e = .returned (.tuple #[.agg #[.int .u8 u.kind, .string (Lend.strOf u.key), .string (Lend.strOf u.val), .int .u64 u.delta], .string (Lend.strOf r), .bool true]) ∧ Below w.heap.size w w') ∨
  (par1 s = none ∧ e = .returned (.tuple #[.agg #[.int .u8 0, .string ⟨#[]⟩, .string ⟨#[]⟩, .int .u64 0], .string ⟨#[]⟩, .bool false]) ∧ Below w.heap.size w w')
theorem PuP.yes {w w' : World} {s r : List UInt8} {e : Ending} {u : Up} (h : par1 s = some (u, r)) (he : e = .returned (.tuple #[.agg #[.int .u8 u.kind, .string (Lend.strOf u.key), .string (Lend.strOf u.val), .int .u64 u.delta], .string (Lend.strOf r), .bool true])) (h2 : Below w.heap.size w w') : PuP w s e w' := .inl ⟨u, r, h, he, h2⟩
theorem PuP.no {w w' : World} {s : List UInt8} {e : Ending} (h : par1 s = none) (he : e = .returned (.tuple #[.agg #[.int .u8 0, .string ⟨#[]⟩, .string ⟨#[]⟩, .int .u64 0], .string ⟨#[]⟩, .bool false])) (h2 : Below w.heap.size w w') : PuP w s e w' := .inr ⟨h, he, h2⟩
theorem bel_res {w w' : World} (h : Below w.heap.size w w') (i : Nat) (v : Value) : Below w.heap.size w (w'.setCell ⟨w.heap.size, i, none⟩ v) := h.setCell (Nat.le_refl _) v
/-- the two boxes of parse: its result's, and u -/
structure Bx (w0 : World) (cs : List Value) (w : World) : Prop where
  res : Has w w0.heap.size 70 [.int .u8 0, .string ⟨#[]⟩, .string ⟨#[]⟩, .int .u64 0]
  u : Has w (w0.heap.size + 1) 70 cs
  bel : Below w0.heap.size w0 w
theorem Bx.on {w0 w w' : World} {cs : List Value} (h : Bx w0 cs w) (hb : Below w.heap.size w w') : Bx w0 cs w' := ⟨h.res.below hb h.res.lt, h.u.below hb h.u.lt, below_on h.bel hb⟩
theorem Bx.set {w0 w : World} {cs : List Value} (h : Bx w0 cs w) (i : Nat) (v : Value) : Bx w0 (cs.set i v) (w.setCell ⟨w0.heap.size + 1, i, none⟩ v) := ⟨h.res.setOther (show w0.heap.size + 1 ≠ w0.heap.size by omega) v, h.u.set i v, h.bel.setCell (show w0.heap.size ≤ w0.heap.size + 1 by omega) v⟩
set_option maxRecDepth 100000 in
set_option maxHeartbeats 8000000 in
theorem parse_any (s : List UInt8) (w : World) (hs : s.length ≤ 100000) (hne : s ≠ []) : Calls Try.prog 70 #[.string (Lend.strOf s)] w (PuP w s) := by
  cases s with
  | nil => exact absurd rfl hne
  | cons b r =>
    have hsz := ssize (b :: r)
    rw [List.length_cons] at hsz hs
    have hb255 := b.toNat_lt
    obtain ⟨T, hT⟩ : ∃ T, T = Lend.strOf (b :: r) := ⟨_, rfl⟩
    rw [← hT] at hsz ⊢
    have hp0 : 0 < T.size := by omega
    have hp1 : 1 ≤ T.size := by omega
    have HT := Lib.hid hT
    have HR := Lib.hid (show r.length ≤ 1000000 by omega)
    have HEX := Lib.hid (show T.extract 1 (r.length + 1) = Lend.strOf r from by
      apply Lend.strOf_ext
      rw [Lib.extract_data, HT.out, Lend.strOf_data, List.drop_succ_cons, List.drop_zero]
      exact List.take_of_length_le (by omega))
    have hT0 : T.get! 0 = b := by rw [HT.out]; rfl
    clear hT hne hs
    go_enter Try.func70, Try.ntmps70
    go_wp2_with fail
    have e0 : T[0] = b := by have := HT.out; subst this; rfl
    rw [e0, HEX.out]
    obtain ⟨kd, hkd⟩ : ∃ x : Int, x = (b.toNat : Int) := ⟨_, rfl⟩
    rw [← hkd]
    have hk0 : 0 ≤ kd := by omega
    have hk1 : kd ≤ 255 := by omega
    have HKD := Lib.hid hkd
    refine (split_at r _ HR.out).mono ?_
    rintro e w1 ⟨rfl, hb1⟩
    have HBX := Lib.hid (Bx.on (w0 := w) (cs := [.int .u8 kd, .string ⟨#[]⟩, .string ⟨#[]⟩, .int .u64 0]) ⟨(Has.new w _ _).alloc _, by have := Has.new (w.alloc (.cells #[.int .u8 0, .string ⟨#[]⟩, .string ⟨#[]⟩, .int .u64 0] 70)) [.int .u8 kd, .string ⟨#[]⟩, .string ⟨#[]⟩, .int .u64 0] 70; rwa [World.size_alloc] at this, below_nw (below_new _ _) _⟩ hb1)
    clear hb1 hkd e0 hT0 hb255 hsz hp0 hp1
    have r0 := HBX.out.res.cell 0
    have r1 := HBX.out.res.cell 1
    have r2 := HBX.out.res.cell 2
    have r3 := HBX.out.res.cell 3
    have q0 := HBX.out.res.frozen 0
    have q1 := HBX.out.res.frozen 1
    have q2 := HBX.out.res.frozen 2
    have q3 := HBX.out.res.frozen 3
    simp only [List.getElem?_cons_zero, List.getElem?_cons_succ] at r0 r1 r2 r3
    cases hs1 : Lend.splB r with
    | false =>
      have HN := Lib.hid (par1_no (b := b) hs1)
      clear hs1
      go_wp2_with fail
      refine bodyPost_ret (v := .tuple #[.agg #[.int .u8 0, .string ⟨#[]⟩, .string ⟨#[]⟩, .int .u64 0], .string ⟨#[]⟩, .bool false]) (by simp [results, Try.results70, go_sem, r0, r1, r2, r3]) rfl (PuP.no HN.out rfl ?_)
      exact bel_res (bel_res (bel_res (bel_res HBX.out.bel _ _) _ _) _ _) _ _
    | true =>
      have HS1 := Lib.hid hs1
      have HL2 := Lib.hid (show (splR r).length ≤ 1000000 by have := splR_le r; have := HR.out; omega)
      obtain ⟨w2, hw2⟩ : ∃ x, x = w1.setCell ⟨w.heap.size + 1, 1, none⟩ (.string (Lend.strOf (splT r))) := ⟨_, rfl⟩
      have HB2 := Lib.hid (show Bx w [.int .u8 kd, .string (Lend.strOf (splT r)), .string ⟨#[]⟩, .int .u64 0] w2 by rw [hw2]; exact HBX.out.set 1 _)
      have y0 := HBX.out.u.cell 0
      have y1 := HBX.out.u.cell 1
      have y2 := HBX.out.u.cell 2
      have y3 := HBX.out.u.cell 3
      have z1 := HBX.out.u.frozen 1
      simp only [List.getElem?_cons_zero, List.getElem?_cons_succ] at y0 y1 y2 y3
      clear hs1
      by_cases hA : b = 1
      · subst hA
        have HPR := Lib.hid (par1_put HS1.out)
        obtain rfl : kd = 1 := HKD.out
        go_wp2_with fail
        rw [← hw2]
        refine (split_at _ _ HL2.out).mono ?_
        rintro e w3 ⟨rfl, hb3⟩
        have HB3 := Lib.hid (HB2.out.on hb3)
        clear hb3 hw2 z1 y0 y1 y2 y3 r0 r1 r2 r3 q0 q1 q2 q3
        have y0 := HB3.out.u.cell 0
        have y1 := HB3.out.u.cell 1
        have y2 := HB3.out.u.cell 2
        have y3 := HB3.out.u.cell 3
        have r0 := HB3.out.res.cell 0
        have q0 := HB3.out.res.frozen 0
        have r1 := HB3.out.res.cell 1
        have q1 := HB3.out.res.frozen 1
        have r2 := HB3.out.res.cell 2
        have q2 := HB3.out.res.frozen 2
        have r3 := HB3.out.res.cell 3
        have q3 := HB3.out.res.frozen 3
        simp only [List.getElem?_cons_zero, List.getElem?_cons_succ] at y0 y1 y2 y3 r0 r1 r2 r3
        have z2 := HB3.out.u.frozen 2
        cases hs2 : Lend.splB (splR r) with
        | false =>
          have HT2 := Lib.hid (show splT (splR r) = [] from (spl_no hs2).1)
          have HPN := Lib.hid (show par1 (1 :: r) = none by rw [HPR.out, if_neg (by rw [hs2]; decide)])
          have HBQ := Lib.hid (HB3.out.set 2 (.string (Lend.strOf [])))
          rw [HT2.out]
          clear hs2
          go_wp2_with fail
          refine bodyPost_ret (v := .tuple #[.agg #[.int .u8 0, .string ⟨#[]⟩, .string ⟨#[]⟩, .int .u64 0], .string ⟨#[]⟩, .bool false]) (by simp [results, Try.results70, go_sem, r0, r1, r2, r3]) rfl (PuP.no HPN.out rfl ?_)
          exact bel_res (bel_res (bel_res (bel_res HBQ.out.bel _ _) _ _) _ _) _ _
        | true =>
          have HPR := Lib.hid (show par1 (1 :: r) = fin1 ⟨1, splT r, splT (splR r), 0⟩ (splR (splR r)) by rw [HPR.out, if_pos hs2])
          clear hs2
          obtain ⟨w4, hw4⟩ : ∃ x, x = w3.setCell ⟨w.heap.size + 1, 2, none⟩ (.string (Lend.strOf (splT (splR r)))) := ⟨_, rfl⟩
          have HB4 := Lib.hid (show Bx w [.int .u8 1, .string (Lend.strOf (splT r)), .string (Lend.strOf (splT (splR r))), .int .u64 0] w4 by rw [hw4]; exact HB3.out.set 2 _)
          obtain ⟨u, hu⟩ : ∃ u : Up, u = ⟨1, splT r, splT (splR r), 0⟩ := ⟨_, rfl⟩
          have HCK := Lib.hid (show ∀ W, Calls Try.prog 65 #[.agg #[.int .u8 1, .string (Lend.strOf (splT r)), .string (Lend.strOf (splT (splR r))), .int .u64 0]] W fun e w' => e = .returned (.int .i64 (chkU u)) ∧ Below W.heap.size W w' from fun W => by subst hu; exact check_any _ W (by simp only; omega) (by simp only; omega))
          rw [← hu] at HPR
          have HU := Lib.hid hu
          clear hu
          go_wp2_with fail
          rw [← hw4]
          refine (HCK.out _).mono ?_
          rintro e w9 ⟨rfl, hb9⟩
          have HB9 := Lib.hid (HB4.out.on hb9)
          clear hb9 hw4 y0 y1 y2 y3 r0 r1 r2 r3 q0 q1 q2 q3
          have y0 := HB9.out.u.cell 0
          have y1 := HB9.out.u.cell 1
          have y2 := HB9.out.u.cell 2
          have y3 := HB9.out.u.cell 3
          have r0 := HB9.out.res.cell 0
          have q0 := HB9.out.res.frozen 0
          have r1 := HB9.out.res.cell 1
          have q1 := HB9.out.res.frozen 1
          have r2 := HB9.out.res.cell 2
          have q2 := HB9.out.res.frozen 2
          have r3 := HB9.out.res.cell 3
          have q3 := HB9.out.res.frozen 3
          simp only [List.getElem?_cons_zero, List.getElem?_cons_succ] at y0 y1 y2 y3 r0 r1 r2 r3
          by_cases hck : chkU u = 0
          · rw [hck]
            have HP := Lib.hid (show par1 (_ :: r) = some (u, splR (splR r)) by rw [HPR.out]; unfold fin1; rw [if_pos hck])
            clear hck
            go_wp2_with fail
            refine bodyPost_ret (v := .tuple #[.agg #[.int .u8 u.kind, .string (Lend.strOf u.key), .string (Lend.strOf u.val), .int .u64 u.delta], .string (Lend.strOf (splR (splR r))), .bool true]) (by simp [results, Try.results70, go_sem, r0, r1, r2, r3, HU.out]) rfl (PuP.yes HP.out rfl ?_)
            exact bel_res (bel_res (bel_res (bel_res HB9.out.bel _ _) _ _) _ _) _ _
          · have hne : (chkU u == 0) = false := by simpa using hck
            have HP := Lib.hid (show par1 (_ :: r) = none by rw [HPR.out]; unfold fin1; rw [if_neg hck])
            clear hck
            go_wp2_with fail
            refine bodyPost_ret (v := .tuple #[.agg #[.int .u8 0, .string ⟨#[]⟩, .string ⟨#[]⟩, .int .u64 0], .string ⟨#[]⟩, .bool false]) (by simp [results, Try.results70, go_sem, r0, r1, r2, r3]) rfl (PuP.no HP.out rfl ?_)
            exact bel_res (bel_res (bel_res (bel_res HB9.out.bel _ _) _ _) _ _) _ _
      · by_cases hC : b = 3
        · subst hC
          have HPR := Lib.hid (par1_add HS1.out)
          obtain rfl : kd = 3 := HKD.out
          go_wp2_with fail
          rw [← hw2]
          refine (parseDelta_any _ _ HL2.out).mono ?_
          rintro e w3 ⟨rfl, hb3⟩
          have HB3 := Lib.hid (HB2.out.on hb3)
          clear hb3 hw2 z1 y0 y1 y2 y3 r0 r1 r2 r3 q0 q1 q2 q3
          have y0 := HB3.out.u.cell 0
          have y1 := HB3.out.u.cell 1
          have y2 := HB3.out.u.cell 2
          have y3 := HB3.out.u.cell 3
          have r0 := HB3.out.res.cell 0
          have q0 := HB3.out.res.frozen 0
          have r1 := HB3.out.res.cell 1
          have q1 := HB3.out.res.frozen 1
          have r2 := HB3.out.res.cell 2
          have q2 := HB3.out.res.frozen 2
          have r3 := HB3.out.res.cell 3
          have q3 := HB3.out.res.frozen 3
          simp only [List.getElem?_cons_zero, List.getElem?_cons_succ] at y0 y1 y2 y3 r0 r1 r2 r3
          have z3 := HB3.out.u.frozen 3
          cases hs2 : dlB (splR r) with
          | false =>
            have HPN := Lib.hid (show par1 (3 :: r) = none by rw [HPR.out, if_neg (by rw [hs2]; decide)])
            have HBQ := Lib.hid (HB3.out.set 3 (.int .u64 (dlN (splR r))))
            clear hs2
            go_wp2_with fail
            refine bodyPost_ret (v := .tuple #[.agg #[.int .u8 0, .string ⟨#[]⟩, .string ⟨#[]⟩, .int .u64 0], .string ⟨#[]⟩, .bool false]) (by simp [results, Try.results70, go_sem, r0, r1, r2, r3]) rfl (PuP.no HPN.out rfl ?_)
            exact bel_res (bel_res (bel_res (bel_res HBQ.out.bel _ _) _ _) _ _) _ _
          | true =>
            have HPR := Lib.hid (show par1 (3 :: r) = fin1 ⟨3, splT r, [], dlN (splR r)⟩ (dlR (splR r)) by rw [HPR.out, if_pos hs2])
            clear hs2
            obtain ⟨w4, hw4⟩ : ∃ x, x = w3.setCell ⟨w.heap.size + 1, 3, none⟩ (.int .u64 (dlN (splR r))) := ⟨_, rfl⟩
            have HB4 := Lib.hid (show Bx w [.int .u8 3, .string (Lend.strOf (splT r)), .string ⟨#[]⟩, .int .u64 (dlN (splR r))] w4 by rw [hw4]; exact HB3.out.set 3 _)
            obtain ⟨u, hu⟩ : ∃ u : Up, u = ⟨3, splT r, [], dlN (splR r)⟩ := ⟨_, rfl⟩
            have HCK := Lib.hid (show ∀ W, Calls Try.prog 65 #[.agg #[.int .u8 3, .string (Lend.strOf (splT r)), .string ⟨#[]⟩, .int .u64 (dlN (splR r))]] W fun e w' => e = .returned (.int .i64 (chkU u)) ∧ Below W.heap.size W w' from fun W => by subst hu; exact check_any _ W (by simp only; omega) (by simp only; omega))
            rw [← hu] at HPR
            have HU := Lib.hid hu
            clear hu
            go_wp2_with fail
            rw [← hw4]
            refine (HCK.out _).mono ?_
            rintro e w9 ⟨rfl, hb9⟩
            have HB9 := Lib.hid (HB4.out.on hb9)
            clear hb9 hw4 y0 y1 y2 y3 r0 r1 r2 r3 q0 q1 q2 q3
            have y0 := HB9.out.u.cell 0
            have y1 := HB9.out.u.cell 1
            have y2 := HB9.out.u.cell 2
            have y3 := HB9.out.u.cell 3
            have r0 := HB9.out.res.cell 0
            have q0 := HB9.out.res.frozen 0
            have r1 := HB9.out.res.cell 1
            have q1 := HB9.out.res.frozen 1
            have r2 := HB9.out.res.cell 2
            have q2 := HB9.out.res.frozen 2
            have r3 := HB9.out.res.cell 3
            have q3 := HB9.out.res.frozen 3
            simp only [List.getElem?_cons_zero, List.getElem?_cons_succ] at y0 y1 y2 y3 r0 r1 r2 r3
            by_cases hck : chkU u = 0
            · rw [hck]
              have HP := Lib.hid (show par1 (_ :: r) = some (u, dlR (splR r)) by rw [HPR.out]; unfold fin1; rw [if_pos hck])
              clear hck
              go_wp2_with fail
              refine bodyPost_ret (v := .tuple #[.agg #[.int .u8 u.kind, .string (Lend.strOf u.key), .string (Lend.strOf u.val), .int .u64 u.delta], .string (Lend.strOf (dlR (splR r))), .bool true]) (by simp [results, Try.results70, go_sem, r0, r1, r2, r3, HU.out, strOf0]) rfl (PuP.yes HP.out rfl ?_)
              exact bel_res (bel_res (bel_res (bel_res HB9.out.bel _ _) _ _) _ _) _ _
            · have hne : (chkU u == 0) = false := by simpa using hck
              have HP := Lib.hid (show par1 (_ :: r) = none by rw [HPR.out]; unfold fin1; rw [if_neg hck])
              clear hck
              go_wp2_with fail
              refine bodyPost_ret (v := .tuple #[.agg #[.int .u8 0, .string ⟨#[]⟩, .string ⟨#[]⟩, .int .u64 0], .string ⟨#[]⟩, .bool false]) (by simp [results, Try.results70, go_sem, r0, r1, r2, r3]) rfl (PuP.no HP.out rfl ?_)
              exact bel_res (bel_res (bel_res (bel_res HB9.out.bel _ _) _ _) _ _) _ _
        · have HPR := Lib.hid (show par1 (b :: r) = fin1 ⟨kd, splT r, [], 0⟩ (splR r) by rw [par1_oth HS1.out hA hC, HKD.out])
          have hn1 : (kd == 1) = false := by
            have : ¬ kd = 1 := fun e => hA (UInt8.toNat_inj.1 (by have := HKD.out; show b.toNat = 1; omega))
            simpa using this
          have hn3 : (kd == 3) = false := by
            have : ¬ kd = 3 := fun e => hC (UInt8.toNat_inj.1 (by have := HKD.out; show b.toNat = 3; omega))
            simpa using this
          clear hA hC
          obtain ⟨u, hu⟩ : ∃ u : Up, u = ⟨kd, splT r, [], 0⟩ := ⟨_, rfl⟩
          have HCK := Lib.hid (show ∀ W, Calls Try.prog 65 #[.agg #[.int .u8 kd, .string (Lend.strOf (splT r)), .string ⟨#[]⟩, .int .u64 0]] W fun e w' => e = .returned (.int .i64 (chkU u)) ∧ Below W.heap.size W w' from fun W => by subst hu; exact check_any _ W (by simp only; omega) (by simp only; omega))
          rw [← hu] at HPR
          have HU := Lib.hid hu
          clear hu
          go_wp2_with fail
          rw [← hw2]
          refine (HCK.out _).mono ?_
          rintro e w9 ⟨rfl, hb9⟩
          have HB9 := Lib.hid (HB2.out.on hb9)
          clear hb9 hw2 y0 y1 y2 y3 r0 r1 r2 r3 q0 q1 q2 q3
          have y0 := HB9.out.u.cell 0
          have y1 := HB9.out.u.cell 1
          have y2 := HB9.out.u.cell 2
          have y3 := HB9.out.u.cell 3
          have r0 := HB9.out.res.cell 0
          have q0 := HB9.out.res.frozen 0
          have r1 := HB9.out.res.cell 1
          have q1 := HB9.out.res.frozen 1
          have r2 := HB9.out.res.cell 2
          have q2 := HB9.out.res.frozen 2
          have r3 := HB9.out.res.cell 3
          have q3 := HB9.out.res.frozen 3
          simp only [List.getElem?_cons_zero, List.getElem?_cons_succ] at y0 y1 y2 y3 r0 r1 r2 r3
          by_cases hck : chkU u = 0
          · rw [hck]
            have HP := Lib.hid (show par1 (_ :: r) = some (u, splR r) by rw [HPR.out]; unfold fin1; rw [if_pos hck])
            clear hck
            go_wp2_with fail
            refine bodyPost_ret (v := .tuple #[.agg #[.int .u8 u.kind, .string (Lend.strOf u.key), .string (Lend.strOf u.val), .int .u64 u.delta], .string (Lend.strOf (splR r)), .bool true]) (by simp [results, Try.results70, go_sem, r0, r1, r2, r3, HU.out, strOf0]) rfl (PuP.yes HP.out rfl ?_)
            exact bel_res (bel_res (bel_res (bel_res HB9.out.bel _ _) _ _) _ _) _ _
          · have hne : (chkU u == 0) = false := by simpa using hck
            have HP := Lib.hid (show par1 (_ :: r) = none by rw [HPR.out]; unfold fin1; rw [if_neg hck])
            clear hck
            go_wp2_with fail
            refine bodyPost_ret (v := .tuple #[.agg #[.int .u8 0, .string ⟨#[]⟩, .string ⟨#[]⟩, .int .u64 0], .string ⟨#[]⟩, .bool false]) (by simp [results, Try.results70, go_sem, r0, r1, r2, r3]) rfl (PuP.no HP.out rfl ?_)
            exact bel_res (bel_res (bel_res (bel_res HB9.out.bel _ _) _ _) _ _) _ _
end Go.Proofs.Ytfclecbhfamomaa.Rec
