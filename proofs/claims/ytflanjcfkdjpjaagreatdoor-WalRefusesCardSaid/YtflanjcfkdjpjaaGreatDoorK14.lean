/- Layers' contracts, bundled: RecD, RecE, SumW, RecF, RecG, RecOp, WalMath, WalL, WalU. -/
import Derived.Test.YtflanjcfkdjpjaaGreatDoorK13
import Derived.OwnWalk
import Derived.Maps.AppendAt
import Derived.Test.YtflanjcfkdjpjaaGreatDoorK04
import Derived.Test.YtflanjcfkdjpjaaGreatDoorK01
import Derived.Test.YtflanjcfkdjpjaaGreatDoorK12
import Derived.Test.YtflanjcfkdjpjaaGreatDoorK05
import Derived.Test.YtflanjcfkdjpjaaGreatDoorK11
import Derived.Outline
import Derived.Deep.DeepCutAuto
import Derived.Test.YtflanjcfkdjpjaaGreatDoorK07
/- Layer 12 (rec): parse. -/
namespace Go.Proofs.YtflanjcfkdjpjaaGreatDoor.Rec
open Go Go.RowKit Go.Proofs.YtflanjcfkdjpjaaGreatDoor Go.Proofs.YtflanjcfkdjpjaaGreatDoor.Lend
set_option linter.unusedVariables false

def dlB (l : List UInt8) : Bool := decide (8 ≤ l.length)
def dlN (l : List UInt8) : Int := if 8 ≤ l.length then (getL (l.take 8) : Int) else 0
def dlR (l : List UInt8) : List UInt8 := if 8 ≤ l.length then l.drop 8 else []
theorem ret_dl {a b : Int} {s t : ByteArray} {c d : Bool} (h : a = b) (h1 : s = t) (h' : c = d) : Ending.returned (.tuple #[.int .u64 a, .string s, .bool c]) = .returned (.tuple #[.int .u64 b, .string t, .bool d]) := by rw [h, h1, h']
theorem dlN_bd (l : List UInt8) : 0 ≤ dlN l ∧ dlN l < 18446744073709551616 := by
  unfold dlN
  split
  · have hb := getL_bd (l.take 8)
    have hl : (l.take 8).length = 8 := by rw [List.length_take]; omega
    rw [hl] at hb
    have : getL (l.take 8) < 18446744073709551616 := hb
    omega
  · omega
set_option maxRecDepth 100000 in
set_option maxHeartbeats 4000000 in
theorem parseDelta_any (l : List UInt8) (w : World) (hs : l.length ≤ 1000000) : Calls Tryz.prog 150 #[.string (Lend.strOf l)] w fun e w' => e = .returned (.tuple #[.int .u64 (dlN l), .string (Lend.strOf (dlR l)), .bool (dlB l)]) ∧ Below w.heap.size w w' := by
  have HSZ := Lib.hid (show (Lend.strOf l).size ≤ 1000000 by rw [ssize]; exact hs)
  by_cases h : 8 ≤ l.length
  · have hr := rd_ok (ws := [8]) (l := l) rfl (by show (8 : Int) ≤ _; omega)
    have HR := Lib.hid (show rdB [8] l = true ∧ rdN [8] l = [dlN l] ∧ rdS [8] l = dlR l from ⟨hr.1, by rw [hr.2.1]; simp [rdL, dlN, h], by rw [hr.2.2]; simp [sumW, dlR, h]⟩)
    have HB := Lib.hid (show dlB l = true by simp [dlB, h])
    obtain ⟨d, hd⟩ : ∃ x, x = dlN l := ⟨_, rfl⟩
    have HD := Lib.hid hd
    rw [← hd] at HR ⊢
    clear hr hd h hs
    go_enter Tryz.func150, Tryz.ntmps150
    go_wp2_with fail
    refine (deltaW_any _).mono ?_
    rintro e w1 ⟨b, rfl, hrow, hb1⟩
    have HROW := Lib.hid hrow
    have HB1 := Lib.hid hb1
    clear hrow hb1
    go_wp2_with fail
    refine (read_any _ 1 1 [8] _ _ HROW.out (by decide) HSZ.out).mono ?_
    rintro e w2 ⟨bo, n, cap, rfl, hown, hb2⟩
    have HB2 := Lib.hid (below_on HB1.out hb2)
    have hr := Row.own hown
    rw [Lend.strOf_data, HR.out.2.1] at hr
    obtain rfl : 1 = n := hr.len_eq
    rw [Lend.strOf_data, HR.out.1, HR.out.2.2]
    obtain ⟨g, off, rfl, hc⟩ := hr.at_ (by decide)
    have c0 : w2.cell? ⟨g, off, none⟩ = some (.int .u64 d) := hc 0 (by decide)
    clear hown hr hc hb2
    go_wp2_with fail
    go_ret3
    exact ⟨ret_dl rfl rfl HB.out.symm, HB2.out⟩
  · have hr := rd_no (ws := [8]) (l := l) (.inr (by show ¬ (8 : Int) ≤ _; omega))
    have HR := Lib.hid hr
    have HN := Lib.hid (show dlN l = 0 ∧ dlR l = [] ∧ dlB l = false from ⟨by simp [dlN, h], by simp [dlR, h], by simp [dlB, h]⟩)
    clear hr h hs
    rw [HN.out.1, HN.out.2.1, HN.out.2.2]
    go_enter Tryz.func150, Tryz.ntmps150
    go_wp2_with fail
    refine (deltaW_any _).mono ?_
    rintro e w1 ⟨b, rfl, hrow, hb1⟩
    have HROW := Lib.hid hrow
    have HB1 := Lib.hid hb1
    clear hrow hb1
    go_wp2_with fail
    refine (read_any _ 1 1 [8] _ _ HROW.out (by decide) HSZ.out).mono ?_
    rintro e w2 ⟨bo, n, cap, rfl, hown, hb2⟩
    have HB2 := Lib.hid (below_on HB1.out hb2)
    rw [Lend.strOf_data, HR.out.1, HR.out.2.2]
    clear hown hb2
    go_wp2_with fail
    go_ret3
    exact ⟨ret_dl rfl rfl rfl, HB2.out⟩
/-- Split, of a text told by its bytes -/
theorem split_at (l : List UInt8) (w : World) (h : l.length ≤ 1000000) : Calls Tryz.prog 149 #[.string (Lend.strOf l)] w fun e w' => e = .returned (.tuple #[.string (Lend.strOf (splT l)), .string (Lend.strOf (splR l)), .bool (splB l)]) ∧ Below w.heap.size w w' := by
  have := split_any (Lend.strOf l) w (by rw [ssize]; exact h)
  rwa [Lend.strOf_data] at this
theorem splE (l : List UInt8) : spl2 l = if Lend.splB l = true then some (Lend.splT l, Lend.splR l) else none := by
  cases l with
  | nil => rfl
  | cons n l =>
    show (if l.length < n.toNat then none else some (l.take n.toNat, l.drop n.toNat)) = _
    by_cases h : l.length < n.toNat
    · rw [if_pos h]
      have : Lend.splB (n :: l) = false := by simp [Lend.splB]; omega
      rw [this]; rfl
    · rw [if_neg h]
      have : Lend.splB (n :: l) = true := by simp [Lend.splB]; omega
      rw [this, if_pos rfl]
      have h2 : n.toNat ≤ l.length := by omega
      simp [Lend.splT, Lend.splR, h2]
theorem splR_le (l : List UInt8) : (Lend.splR l).length ≤ l.length := by
  cases l with
  | nil => simp [Lend.splR]
  | cons n l => simp only [Lend.splR]; split <;> simp <;> omega
/-- par1, way by way -/
theorem par1_no {b : UInt8} {r : List UInt8} (h : splB r = false) : par1 (b :: r) = none := by
  show (match spl2 r with | none => none | some (key, rest) => _) = _
  rw [splE, h]; rfl
theorem par1_put {r : List UInt8} (h : splB r = true) : par1 (1 :: r) = if splB (splR r) = true then fin1 ⟨1, splT r, splT (splR r), 0⟩ (splR (splR r)) else none := by
  show (match spl2 r with | none => none | some (key, rest) => _) = _
  rw [splE, h]
  show (match spl2 (splR r) with | none => none | some (v, more) => fin1 ⟨1, splT r, v, 0⟩ more) = _
  rw [splE]
  cases splB (splR r) <;> rfl
theorem par1_add {r : List UInt8} (h : splB r = true) : par1 (3 :: r) = if dlB (splR r) = true then fin1 ⟨3, splT r, [], dlN (splR r)⟩ (dlR (splR r)) else none := by
  show (match spl2 r with | none => none | some (key, rest) => _) = _
  rw [splE, h]
  show (if (splR r).length < 8 then none else fin1 ⟨3, splT r, [], getL ((splR r).take 8)⟩ ((splR r).drop 8)) = _
  unfold dlB dlN dlR
  by_cases h8 : 8 ≤ (splR r).length
  · rw [if_neg (by omega), if_pos h8, if_pos h8, if_pos (by simpa using h8)]
  · rw [if_pos (by omega), if_neg (by simpa using h8)]
theorem par1_oth {b : UInt8} {r : List UInt8} (h : splB r = true) (h1 : ¬ b = 1) (h3 : ¬ b = 3) : par1 (b :: r) = fin1 ⟨b.toNat, splT r, [], 0⟩ (splR r) := by
  show (match spl2 r with | none => none | some (key, rest) => _) = _
  rw [splE, h]
  show (if b = 1 then _ else if b = 3 then _ else _) = _
  rw [if_neg h1, if_neg h3]
theorem strOf0 : Lend.strOf [] = ⟨#[]⟩ := rfl
/-- what parse answers -/
def PuP (w : World) (s : List UInt8) (e : Ending) (w' : World) : Prop :=
  (∃ u r, par1 s = some (u, r) ∧ e = .returned (.tuple #[.agg #[.int .u8 u.kind, .string (Lend.strOf u.key), .string (Lend.strOf u.val), .int .u64 u.delta], .string (Lend.strOf r), .bool true]) ∧ Below w.heap.size w w') ∨
  (par1 s = none ∧ e = .returned (.tuple #[.agg #[.int .u8 0, .string ⟨#[]⟩, .string ⟨#[]⟩, .int .u64 0], .string ⟨#[]⟩, .bool false]) ∧ Below w.heap.size w w')
theorem PuP.yes {w w' : World} {s r : List UInt8} {e : Ending} {u : Up} (h : par1 s = some (u, r)) (he : e = .returned (.tuple #[.agg #[.int .u8 u.kind, .string (Lend.strOf u.key), .string (Lend.strOf u.val), .int .u64 u.delta], .string (Lend.strOf r), .bool true])) (h2 : Below w.heap.size w w') : PuP w s e w' := .inl ⟨u, r, h, he, h2⟩
theorem PuP.no {w w' : World} {s : List UInt8} {e : Ending} (h : par1 s = none) (he : e = .returned (.tuple #[.agg #[.int .u8 0, .string ⟨#[]⟩, .string ⟨#[]⟩, .int .u64 0], .string ⟨#[]⟩, .bool false])) (h2 : Below w.heap.size w w') : PuP w s e w' := .inr ⟨h, he, h2⟩
theorem bel_res {w w' : World} (h : Below w.heap.size w w') (i : Nat) (v : Value) : Below w.heap.size w (w'.setCell ⟨w.heap.size, i, none⟩ v) := h.setCell (Nat.le_refl _) v
/-- the two boxes of parse: its result's, and u -/
structure Bx (w0 : World) (cs : List Value) (w : World) : Prop where
  res : Has w w0.heap.size 67 [.int .u8 0, .string ⟨#[]⟩, .string ⟨#[]⟩, .int .u64 0]
  u : Has w (w0.heap.size + 1) 67 cs
  bel : Below w0.heap.size w0 w
theorem Bx.on {w0 w w' : World} {cs : List Value} (h : Bx w0 cs w) (hb : Below w.heap.size w w') : Bx w0 cs w' := ⟨h.res.below hb h.res.lt, h.u.below hb h.u.lt, below_on h.bel hb⟩
theorem Bx.set {w0 w : World} {cs : List Value} (h : Bx w0 cs w) (i : Nat) (v : Value) : Bx w0 (cs.set i v) (w.setCell ⟨w0.heap.size + 1, i, none⟩ v) := ⟨h.res.setOther (show w0.heap.size + 1 ≠ w0.heap.size by omega) v, h.u.set i v, h.bel.setCell (show w0.heap.size ≤ w0.heap.size + 1 by omega) v⟩
set_option maxRecDepth 100000 in
set_option maxHeartbeats 8000000 in
theorem parse_any (s : List UInt8) (w : World) (hs : s.length ≤ 100000) (hne : s ≠ []) : Calls Tryz.prog 140 #[.string (Lend.strOf s)] w (PuP w s) := by
  cases s with
  | nil => exact absurd rfl hne
  | cons b r =>
    have hsz := ssize (b :: r)
    rw [List.length_cons] at hsz hs
    have hb255 := b.toNat_lt
    obtain ⟨T, hT⟩ : ∃ T, T = Lend.strOf (b :: r) := ⟨_, rfl⟩
    rw [← hT] at hsz ⊢
    have hp0 : 0 < T.size := by omega
    have hp1 : 1 ≤ T.size := by omega
    have HT := Lib.hid hT
    have HR := Lib.hid (show r.length ≤ 1000000 by omega)
    have HEX := Lib.hid (show T.extract 1 (r.length + 1) = Lend.strOf r from by
      apply Lend.strOf_ext
      rw [Lib.extract_data, HT.out, Lend.strOf_data, List.drop_succ_cons, List.drop_zero]
      exact List.take_of_length_le (by omega))
    have hT0 : T.get! 0 = b := by rw [HT.out]; rfl
    clear hT hne hs
    go_enter Tryz.func140, Tryz.ntmps140
    go_wp2_with fail
    have e0 : T[0] = b := by have := HT.out; subst this; rfl
    rw [e0, HEX.out]
    obtain ⟨kd, hkd⟩ : ∃ x : Int, x = (b.toNat : Int) := ⟨_, rfl⟩
    rw [← hkd]
    have hk0 : 0 ≤ kd := by omega
    have hk1 : kd ≤ 255 := by omega
    have HKD := Lib.hid hkd
    refine (split_at r _ HR.out).mono ?_
    rintro e w1 ⟨rfl, hb1⟩
    have HBX := Lib.hid (Bx.on (w0 := w) (cs := [.int .u8 kd, .string ⟨#[]⟩, .string ⟨#[]⟩, .int .u64 0]) ⟨(Has.new w _ _).alloc _, by have := Has.new (w.alloc (.cells #[.int .u8 0, .string ⟨#[]⟩, .string ⟨#[]⟩, .int .u64 0] 67)) [.int .u8 kd, .string ⟨#[]⟩, .string ⟨#[]⟩, .int .u64 0] 67; rwa [World.size_alloc] at this, below_nw (below_new _ _) _⟩ hb1)
    clear hb1 hkd e0 hT0 hb255 hsz hp0 hp1
    have r0 := HBX.out.res.cell 0
    have r1 := HBX.out.res.cell 1
    have r2 := HBX.out.res.cell 2
    have r3 := HBX.out.res.cell 3
    have q0 := HBX.out.res.frozen 0
    have q1 := HBX.out.res.frozen 1
    have q2 := HBX.out.res.frozen 2
    have q3 := HBX.out.res.frozen 3
    simp only [List.getElem?_cons_zero, List.getElem?_cons_succ] at r0 r1 r2 r3
    cases hs1 : Lend.splB r with
    | false =>
      have HN := Lib.hid (par1_no (b := b) hs1)
      clear hs1
      go_wp2_with fail
      refine bodyPost_ret (v := .tuple #[.agg #[.int .u8 0, .string ⟨#[]⟩, .string ⟨#[]⟩, .int .u64 0], .string ⟨#[]⟩, .bool false]) (by simp [results, Tryz.results140, go_sem, r0, r1, r2, r3]) rfl (PuP.no HN.out rfl ?_)
      exact bel_res (bel_res (bel_res (bel_res HBX.out.bel _ _) _ _) _ _) _ _
    | true =>
      have HS1 := Lib.hid hs1
      have HL2 := Lib.hid (show (splR r).length ≤ 1000000 by have := splR_le r; have := HR.out; omega)
      obtain ⟨w2, hw2⟩ : ∃ x, x = w1.setCell ⟨w.heap.size + 1, 1, none⟩ (.string (Lend.strOf (splT r))) := ⟨_, rfl⟩
      have HB2 := Lib.hid (show Bx w [.int .u8 kd, .string (Lend.strOf (splT r)), .string ⟨#[]⟩, .int .u64 0] w2 by rw [hw2]; exact HBX.out.set 1 _)
      have y0 := HBX.out.u.cell 0
      have y1 := HBX.out.u.cell 1
      have y2 := HBX.out.u.cell 2
      have y3 := HBX.out.u.cell 3
      have z1 := HBX.out.u.frozen 1
      simp only [List.getElem?_cons_zero, List.getElem?_cons_succ] at y0 y1 y2 y3
      clear hs1
      by_cases hA : b = 1
      · subst hA
        have HPR := Lib.hid (par1_put HS1.out)
        obtain rfl : kd = 1 := HKD.out
        go_wp2_with fail
        rw [← hw2]
        refine (split_at _ _ HL2.out).mono ?_
        rintro e w3 ⟨rfl, hb3⟩
        have HB3 := Lib.hid (HB2.out.on hb3)
        clear hb3 hw2 z1 y0 y1 y2 y3 r0 r1 r2 r3 q0 q1 q2 q3
        have y0 := HB3.out.u.cell 0
        have y1 := HB3.out.u.cell 1
        have y2 := HB3.out.u.cell 2
        have y3 := HB3.out.u.cell 3
        have r0 := HB3.out.res.cell 0
        have q0 := HB3.out.res.frozen 0
        have r1 := HB3.out.res.cell 1
        have q1 := HB3.out.res.frozen 1
        have r2 := HB3.out.res.cell 2
        have q2 := HB3.out.res.frozen 2
        have r3 := HB3.out.res.cell 3
        have q3 := HB3.out.res.frozen 3
        simp only [List.getElem?_cons_zero, List.getElem?_cons_succ] at y0 y1 y2 y3 r0 r1 r2 r3
        have z2 := HB3.out.u.frozen 2
        cases hs2 : Lend.splB (splR r) with
        | false =>
          have HT2 := Lib.hid (show splT (splR r) = [] from (spl_no hs2).1)
          have HPN := Lib.hid (show par1 (1 :: r) = none by rw [HPR.out, if_neg (by rw [hs2]; decide)])
          have HBQ := Lib.hid (HB3.out.set 2 (.string (Lend.strOf [])))
          rw [HT2.out]
          clear hs2
          go_wp2_with fail
          refine bodyPost_ret (v := .tuple #[.agg #[.int .u8 0, .string ⟨#[]⟩, .string ⟨#[]⟩, .int .u64 0], .string ⟨#[]⟩, .bool false]) (by simp [results, Tryz.results140, go_sem, r0, r1, r2, r3]) rfl (PuP.no HPN.out rfl ?_)
          exact bel_res (bel_res (bel_res (bel_res HBQ.out.bel _ _) _ _) _ _) _ _
        | true =>
          have HPR := Lib.hid (show par1 (1 :: r) = fin1 ⟨1, splT r, splT (splR r), 0⟩ (splR (splR r)) by rw [HPR.out, if_pos hs2])
          clear hs2
          obtain ⟨w4, hw4⟩ : ∃ x, x = w3.setCell ⟨w.heap.size + 1, 2, none⟩ (.string (Lend.strOf (splT (splR r)))) := ⟨_, rfl⟩
          have HB4 := Lib.hid (show Bx w [.int .u8 1, .string (Lend.strOf (splT r)), .string (Lend.strOf (splT (splR r))), .int .u64 0] w4 by rw [hw4]; exact HB3.out.set 2 _)
          obtain ⟨u, hu⟩ : ∃ u : Up, u = ⟨1, splT r, splT (splR r), 0⟩ := ⟨_, rfl⟩
          have HCK := Lib.hid (show ∀ W, Calls Tryz.prog 69 #[.agg #[.int .u8 1, .string (Lend.strOf (splT r)), .string (Lend.strOf (splT (splR r))), .int .u64 0]] W fun e w' => e = .returned (.int .i64 (chkU u)) ∧ Below W.heap.size W w' from fun W => by subst hu; exact check_any _ W (by simp only; omega) (by simp only; omega))
          rw [← hu] at HPR
          have HU := Lib.hid hu
          clear hu
          go_wp2_with fail
          rw [← hw4]
          refine (HCK.out _).mono ?_
          rintro e w9 ⟨rfl, hb9⟩
          have HB9 := Lib.hid (HB4.out.on hb9)
          clear hb9 hw4 y0 y1 y2 y3 r0 r1 r2 r3 q0 q1 q2 q3
          have y0 := HB9.out.u.cell 0
          have y1 := HB9.out.u.cell 1
          have y2 := HB9.out.u.cell 2
          have y3 := HB9.out.u.cell 3
          have r0 := HB9.out.res.cell 0
          have q0 := HB9.out.res.frozen 0
          have r1 := HB9.out.res.cell 1
          have q1 := HB9.out.res.frozen 1
          have r2 := HB9.out.res.cell 2
          have q2 := HB9.out.res.frozen 2
          have r3 := HB9.out.res.cell 3
          have q3 := HB9.out.res.frozen 3
          simp only [List.getElem?_cons_zero, List.getElem?_cons_succ] at y0 y1 y2 y3 r0 r1 r2 r3
          by_cases hck : chkU u = 0
          · rw [hck]
            have HP := Lib.hid (show par1 (_ :: r) = some (u, splR (splR r)) by rw [HPR.out]; unfold fin1; rw [if_pos hck])
            clear hck
            go_wp2_with fail
            refine bodyPost_ret (v := .tuple #[.agg #[.int .u8 u.kind, .string (Lend.strOf u.key), .string (Lend.strOf u.val), .int .u64 u.delta], .string (Lend.strOf (splR (splR r))), .bool true]) (by simp [results, Tryz.results140, go_sem, r0, r1, r2, r3, HU.out]) rfl (PuP.yes HP.out rfl ?_)
            exact bel_res (bel_res (bel_res (bel_res HB9.out.bel _ _) _ _) _ _) _ _
          · have hne : (chkU u == 0) = false := by simpa using hck
            have HP := Lib.hid (show par1 (_ :: r) = none by rw [HPR.out]; unfold fin1; rw [if_neg hck])
            clear hck
            go_wp2_with fail
            refine bodyPost_ret (v := .tuple #[.agg #[.int .u8 0, .string ⟨#[]⟩, .string ⟨#[]⟩, .int .u64 0], .string ⟨#[]⟩, .bool false]) (by simp [results, Tryz.results140, go_sem, r0, r1, r2, r3]) rfl (PuP.no HP.out rfl ?_)
            exact bel_res (bel_res (bel_res (bel_res HB9.out.bel _ _) _ _) _ _) _ _
      · by_cases hC : b = 3
        · subst hC
          have HPR := Lib.hid (par1_add HS1.out)
          obtain rfl : kd = 3 := HKD.out
          go_wp2_with fail
          rw [← hw2]
          refine (parseDelta_any _ _ HL2.out).mono ?_
          rintro e w3 ⟨rfl, hb3⟩
          have HB3 := Lib.hid (HB2.out.on hb3)
          clear hb3 hw2 z1 y0 y1 y2 y3 r0 r1 r2 r3 q0 q1 q2 q3
          have y0 := HB3.out.u.cell 0
          have y1 := HB3.out.u.cell 1
          have y2 := HB3.out.u.cell 2
          have y3 := HB3.out.u.cell 3
          have r0 := HB3.out.res.cell 0
          have q0 := HB3.out.res.frozen 0
          have r1 := HB3.out.res.cell 1
          have q1 := HB3.out.res.frozen 1
          have r2 := HB3.out.res.cell 2
          have q2 := HB3.out.res.frozen 2
          have r3 := HB3.out.res.cell 3
          have q3 := HB3.out.res.frozen 3
          simp only [List.getElem?_cons_zero, List.getElem?_cons_succ] at y0 y1 y2 y3 r0 r1 r2 r3
          have z3 := HB3.out.u.frozen 3
          cases hs2 : dlB (splR r) with
          | false =>
            have HPN := Lib.hid (show par1 (3 :: r) = none by rw [HPR.out, if_neg (by rw [hs2]; decide)])
            have HBQ := Lib.hid (HB3.out.set 3 (.int .u64 (dlN (splR r))))
            clear hs2
            go_wp2_with fail
            refine bodyPost_ret (v := .tuple #[.agg #[.int .u8 0, .string ⟨#[]⟩, .string ⟨#[]⟩, .int .u64 0], .string ⟨#[]⟩, .bool false]) (by simp [results, Tryz.results140, go_sem, r0, r1, r2, r3]) rfl (PuP.no HPN.out rfl ?_)
            exact bel_res (bel_res (bel_res (bel_res HBQ.out.bel _ _) _ _) _ _) _ _
          | true =>
            have HPR := Lib.hid (show par1 (3 :: r) = fin1 ⟨3, splT r, [], dlN (splR r)⟩ (dlR (splR r)) by rw [HPR.out, if_pos hs2])
            clear hs2
            obtain ⟨w4, hw4⟩ : ∃ x, x = w3.setCell ⟨w.heap.size + 1, 3, none⟩ (.int .u64 (dlN (splR r))) := ⟨_, rfl⟩
            have HB4 := Lib.hid (show Bx w [.int .u8 3, .string (Lend.strOf (splT r)), .string ⟨#[]⟩, .int .u64 (dlN (splR r))] w4 by rw [hw4]; exact HB3.out.set 3 _)
            obtain ⟨u, hu⟩ : ∃ u : Up, u = ⟨3, splT r, [], dlN (splR r)⟩ := ⟨_, rfl⟩
            have HCK := Lib.hid (show ∀ W, Calls Tryz.prog 69 #[.agg #[.int .u8 3, .string (Lend.strOf (splT r)), .string ⟨#[]⟩, .int .u64 (dlN (splR r))]] W fun e w' => e = .returned (.int .i64 (chkU u)) ∧ Below W.heap.size W w' from fun W => by subst hu; exact check_any _ W (by simp only; omega) (by simp only; omega))
            rw [← hu] at HPR
            have HU := Lib.hid hu
            clear hu
            go_wp2_with fail
            rw [← hw4]
            refine (HCK.out _).mono ?_
            rintro e w9 ⟨rfl, hb9⟩
            have HB9 := Lib.hid (HB4.out.on hb9)
            clear hb9 hw4 y0 y1 y2 y3 r0 r1 r2 r3 q0 q1 q2 q3
            have y0 := HB9.out.u.cell 0
            have y1 := HB9.out.u.cell 1
            have y2 := HB9.out.u.cell 2
            have y3 := HB9.out.u.cell 3
            have r0 := HB9.out.res.cell 0
            have q0 := HB9.out.res.frozen 0
            have r1 := HB9.out.res.cell 1
            have q1 := HB9.out.res.frozen 1
            have r2 := HB9.out.res.cell 2
            have q2 := HB9.out.res.frozen 2
            have r3 := HB9.out.res.cell 3
            have q3 := HB9.out.res.frozen 3
            simp only [List.getElem?_cons_zero, List.getElem?_cons_succ] at y0 y1 y2 y3 r0 r1 r2 r3
            by_cases hck : chkU u = 0
            · rw [hck]
              have HP := Lib.hid (show par1 (_ :: r) = some (u, dlR (splR r)) by rw [HPR.out]; unfold fin1; rw [if_pos hck])
              clear hck
              go_wp2_with fail
              refine bodyPost_ret (v := .tuple #[.agg #[.int .u8 u.kind, .string (Lend.strOf u.key), .string (Lend.strOf u.val), .int .u64 u.delta], .string (Lend.strOf (dlR (splR r))), .bool true]) (by simp [results, Tryz.results140, go_sem, r0, r1, r2, r3, HU.out, strOf0]) rfl (PuP.yes HP.out rfl ?_)
              exact bel_res (bel_res (bel_res (bel_res HB9.out.bel _ _) _ _) _ _) _ _
            · have hne : (chkU u == 0) = false := by simpa using hck
              have HP := Lib.hid (show par1 (_ :: r) = none by rw [HPR.out]; unfold fin1; rw [if_neg hck])
              clear hck
              go_wp2_with fail
              refine bodyPost_ret (v := .tuple #[.agg #[.int .u8 0, .string ⟨#[]⟩, .string ⟨#[]⟩, .int .u64 0], .string ⟨#[]⟩, .bool false]) (by simp [results, Tryz.results140, go_sem, r0, r1, r2, r3]) rfl (PuP.no HP.out rfl ?_)
              exact bel_res (bel_res (bel_res (bel_res HB9.out.bel _ _) _ _) _ _) _ _
        · have HPR := Lib.hid (show par1 (b :: r) = fin1 ⟨kd, splT r, [], 0⟩ (splR r) by rw [par1_oth HS1.out hA hC, HKD.out])
          have hn1 : (kd == 1) = false := by
            have : ¬ kd = 1 := fun e => hA (UInt8.toNat_inj.1 (by have := HKD.out; show b.toNat = 1; omega))
            simpa using this
          have hn3 : (kd == 3) = false := by
            have : ¬ kd = 3 := fun e => hC (UInt8.toNat_inj.1 (by have := HKD.out; show b.toNat = 3; omega))
            simpa using this
          clear hA hC
          obtain ⟨u, hu⟩ : ∃ u : Up, u = ⟨kd, splT r, [], 0⟩ := ⟨_, rfl⟩
          have HCK := Lib.hid (show ∀ W, Calls Tryz.prog 69 #[.agg #[.int .u8 kd, .string (Lend.strOf (splT r)), .string ⟨#[]⟩, .int .u64 0]] W fun e w' => e = .returned (.int .i64 (chkU u)) ∧ Below W.heap.size W w' from fun W => by subst hu; exact check_any _ W (by simp only; omega) (by simp only; omega))
          rw [← hu] at HPR
          have HU := Lib.hid hu
          clear hu
          go_wp2_with fail
          rw [← hw2]
          refine (HCK.out _).mono ?_
          rintro e w9 ⟨rfl, hb9⟩
          have HB9 := Lib.hid (HB2.out.on hb9)
          clear hb9 hw2 y0 y1 y2 y3 r0 r1 r2 r3 q0 q1 q2 q3
          have y0 := HB9.out.u.cell 0
          have y1 := HB9.out.u.cell 1
          have y2 := HB9.out.u.cell 2
          have y3 := HB9.out.u.cell 3
          have r0 := HB9.out.res.cell 0
          have q0 := HB9.out.res.frozen 0
          have r1 := HB9.out.res.cell 1
          have q1 := HB9.out.res.frozen 1
          have r2 := HB9.out.res.cell 2
          have q2 := HB9.out.res.frozen 2
          have r3 := HB9.out.res.cell 3
          have q3 := HB9.out.res.frozen 3
          simp only [List.getElem?_cons_zero, List.getElem?_cons_succ] at y0 y1 y2 y3 r0 r1 r2 r3
          by_cases hck : chkU u = 0
          · rw [hck]
            have HP := Lib.hid (show par1 (_ :: r) = some (u, splR r) by rw [HPR.out]; unfold fin1; rw [if_pos hck])
            clear hck
            go_wp2_with fail
            refine bodyPost_ret (v := .tuple #[.agg #[.int .u8 u.kind, .string (Lend.strOf u.key), .string (Lend.strOf u.val), .int .u64 u.delta], .string (Lend.strOf (splR r)), .bool true]) (by simp [results, Tryz.results140, go_sem, r0, r1, r2, r3, HU.out, strOf0]) rfl (PuP.yes HP.out rfl ?_)
            exact bel_res (bel_res (bel_res (bel_res HB9.out.bel _ _) _ _) _ _) _ _
          · have hne : (chkU u == 0) = false := by simpa using hck
            have HP := Lib.hid (show par1 (_ :: r) = none by rw [HPR.out]; unfold fin1; rw [if_neg hck])
            clear hck
            go_wp2_with fail
            refine bodyPost_ret (v := .tuple #[.agg #[.int .u8 0, .string ⟨#[]⟩, .string ⟨#[]⟩, .int .u64 0], .string ⟨#[]⟩, .bool false]) (by simp [results, Tryz.results140, go_sem, r0, r1, r2, r3]) rfl (PuP.no HP.out rfl ?_)
            exact bel_res (bel_res (bel_res (bel_res HB9.out.bel _ _) _ _) _ _) _ _
end Go.Proofs.YtflanjcfkdjpjaaGreatDoor.Rec

/- Layer 12 (rec): Parse. -/
namespace Go.Proofs.YtflanjcfkdjpjaaGreatDoor.Rec
open Go Go.RowKit Go.Proofs.YtflanjcfkdjpjaaGreatDoor Go.Proofs.YtflanjcfkdjpjaaGreatDoor.Lend
set_option linter.unusedVariables false

def flatU (l : List Up) : List Value := l.flatMap encU
theorem flatU_length (l : List Up) : (flatU l).length = l.length * 4 := by
  unfold flatU
  induction l with
  | nil => rfl
  | cons u l ih => rw [List.flatMap_cons, List.length_append, ih]; simp [encU]; omega
theorem flatU_snoc (l : List Up) (u : Up) : flatU (l ++ [u]) = flatU l ++ encU u := by unfold flatU; simp
/-- a row of the program's updates -/
abbrev RA (w : World) (base : Nat) (v : Value) (l : List Up) : Prop := w.ownsRow base 67 4 v l.length (flatU l)
def lenOf : Value → Nat
  | .string b => b.size
  | _ => 0
theorem flatU_get : ∀ (l : List Up) (i : Nat) (hi : i < l.length) (j : Nat), j < 4 → (flatU l)[i * 4 + j]? = (encU l[i])[j]?
  | [], i, hi, _, _ => by cases hi
  | u :: l, 0, _, j, hj => by
    unfold flatU
    rw [List.flatMap_cons, List.getElem?_append_left (by simp [encU]; omega)]
    simp
  | u :: l, i + 1, hi, j, hj => by
    have e : flatU (u :: l) = encU u ++ flatU l := by unfold flatU; simp
    rw [e, List.getElem?_append_right (by simp [encU]; omega), show (i + 1) * 4 + j - (encU u).length = i * 4 + j by simp [encU]; omega]
    exact flatU_get l i (by simpa using hi) j hj
theorem UR.of_own {w : World} {base : Nat} {e : TypeId} {v : Value} {l : List Up} (h : w.ownsRow base e 4 v l.length (flatU l)) : UR w v l := by
  rcases h.2 with ⟨hv, h0⟩ | ⟨g, cap, cur, hv, hb, hg, hn, hm, hs, ht⟩
  · exact ⟨none, 0, by rw [hv, h0], fun hp => by omega⟩
  · refine ⟨some ⟨g, 0, none⟩, cap, hv, fun _ => ⟨g, 0, rfl, fun i hi j hj => ?_⟩⟩
    rw [← flatU_get l i hi j hj, ← ht, List.getElem?_take, if_pos (by omega)]
    unfold World.cell?
    simp only [hg]
    simp
/-- what Parse answers -/
def PaQ (w : World) (s : List UInt8) (e : Ending) (w' : World) : Prop :=
  (∃ l v', parL s = some l ∧ e = .returned (.tuple #[v', .int .i64 0]) ∧ RA w' w.heap.size v' l ∧ Below w.heap.size w w') ∨
  (parL s = none ∧ e = .returned (.tuple #[.slice none 0 0, .int .i64 4]) ∧ Below w.heap.size w w')
theorem PaQ.yes {w w' : World} {s : List UInt8} {e : Ending} (l : List Up) (v' : Value) (h : parL s = some l) (he : e = .returned (.tuple #[v', .int .i64 0])) (h1 : RA w' w.heap.size v' l) (h2 : Below w.heap.size w w') : PaQ w s e w' := .inl ⟨l, v', h, he, h1, h2⟩
theorem PaQ.no {w w' : World} {s : List UInt8} {e : Ending} (h : parL s = none) (he : e = .returned (.tuple #[.slice none 0 0, .int .i64 4])) (h2 : Below w.heap.size w w') : PaQ w s e w' := .inr ⟨h, he, h2⟩
theorem info_up : (Tryz.prog.info? 67).map (fun i => (i.zero, i.size, i.bytes)) = some (some (.agg #[.int .u8 0, .string ⟨#[]⟩, .string ⟨#[]⟩, .int .u64 0]), 4, 48) := by kernel_rfl
theorem enc_one (u : Up) : ∀ x ∈ encU u, x.oneCell' = true := by
  intro x hx
  simp only [encU, List.mem_cons, List.mem_nil_iff, or_false] at hx
  rcases hx with rfl | rfl | rfl | rfl <;> rfl
theorem has_news {w : World} {b : Nat} {t : TypeId} {cs : List Value} (h : Has w b t cs) : ∀ j u, cs[j]? = some u → w.cell? ((⟨b, 0, none⟩ : Addr).add j) = some u := fun j u hu => by rw [Addr.add_lit, Nat.zero_add, h.cell]; exact hu
set_option maxRecDepth 100000 in
set_option maxHeartbeats 4000000 in
theorem Parse_any (s : List UInt8) (w : World) (hs : s.length ≤ 100000) : Calls Tryz.prog 123 #[.string (Lend.strOf s)] w (PaQ w s) := by
  obtain ⟨i0, hi, hz0, hz1, hz2⟩ := info_parts info_up
  go_enter Tryz.func123, Tryz.ntmps123
  go_wp2_with fail
  go_loopw [0, 4] (fun sv ov wr => ∃ (r : List UInt8) (m : List Up) (v : Value), v = ov ∧ sv = .string (Lend.strOf r) ∧ RA wr w.heap.size v m ∧ parL s = (parL r).map (m ++ ·) ∧ m.length + r.length ≤ s.length ∧ Below w.heap.size w wr) (fun sv _ _ => lenOf sv)
  case atStart => exact ⟨s, [], _, rfl, rfl, World.ownsRow_nil _ _ _ _, by cases parL s <;> rfl, by simp, Below.refl _ _⟩
  case round =>
    obtain ⟨r, m, v, rfl, rfl, hrow, hpl, hln, hb⟩ := hrel
    cases r with
    | nil =>
      have HP := Lib.hid (show parL s = some m by rw [hpl, parL_nil]; simp)
      have HR := Lib.hid hrow
      have HB := Lib.hid hb
      clear hrow hpl hln hb
      rw [strOf0]
      go_wp2_with fail
      go_ret2
      exact PaQ.yes m _ HP.out rfl HR.out HB.out
    | cons b r =>
      have ha0 := str_ne (l := b :: r) (by simp)
      have ha1 := str_ne' (l := b :: r) (by simp)
      have HROW := Lib.hid hrow
      have HPL := Lib.hid hpl
      have HLN := Lib.hid hln
      have HB := Lib.hid hb
      have HPA := Lib.hid (parse_any (b :: r) wr (by omega) (by simp))
      have HSZ := Lib.hid (ssize (b :: r))
      obtain ⟨T, hT⟩ : ∃ T, T = Lend.strOf (b :: r) := ⟨_, rfl⟩
      rw [← hT] at ha0 ha1 HPA HSZ ⊢
      clear hrow hpl hln hb hT
      go_wp2_with fail
      refine HPA.out.mono ?_
      rintro e w1 (⟨u, r', hpu, rfl, hb1⟩ | ⟨hpu, rfl, hb1⟩)
      · have HPU := Lib.hid hpu
        have HB1 := Lib.hid (below_on HB.out hb1)
        have HR1 := Lib.hid (own_bel HROW.out hb1)
        have HNW := Lib.hid (show ∀ j x, (encU u)[j]? = some x → ((w1.alloc (.cells #[.int .u8 u.kind, .string (Lend.strOf u.key), .string (Lend.strOf u.val), .int .u64 u.delta] 67)).alloc (.cells #[.int .u8 u.kind, .string (Lend.strOf u.key), .string (Lend.strOf u.val), .int .u64 u.delta] 67)).cell? ((⟨w1.heap.size + 1, 0, none⟩ : Addr).add j) = some x from by
          have h := Has.new (w1.alloc (.cells #[.int .u8 u.kind, .string (Lend.strOf u.key), .string (Lend.strOf u.val), .int .u64 u.delta] 67)) (encU u) 67
          rw [World.size_alloc] at h
          exact has_news h)
        have HB2 := Lib.hid (below_nw (below_nw HB1.out (.cells #[.int .u8 u.kind, .string (Lend.strOf u.key), .string (Lend.strOf u.val), .int .u64 u.delta] 67)) (.cells #[.int .u8 u.kind, .string (Lend.strOf u.key), .string (Lend.strOf u.val), .int .u64 u.delta] 67))
        clear hpu hb1
        go_wp2_with (at_builtin; refine wpList_append_own _ rfl _ _ 39 rfl w.heap.size 67 i0 _ 4 48 Tryz.underlying39 hi hz0 hz1 hz2 rfl (by decide) _ m.length (flatU m) rfl ((HR1.out.alloc _).alloc _) ⟨w1.heap.size + 1, 0, none⟩ 1 1 (encU u) rfl rfl HNW.out (enc_one u) ?c1 ?c2 ?c3 ?_)
        case c1 => unfold maxLen; have := HLN.out; rw [List.length_cons] at this; omega
        case c2 => have := HLN.out; rw [List.length_cons] at this; omega
        case c3 => exact HB2.out.size
        intro v' w4 hown4 hgr _
        have HB4 := Lib.hid (HB2.out.grown hgr HB2.out.size (fun q hq => (HROW.out.lt q hq).1))
        have HOW4 := Lib.hid (show RA w4 w.heap.size v' (m ++ [u]) by unfold RA; rw [flatU_snoc, List.length_append]; exact hown4)
        have HPL2 := Lib.hid (show parL s = (parL r').map ((m ++ [u]) ++ ·) by
          rw [HPL.out, parL_some HPU.out]
          cases parL r' <;> simp)
        have HLN2 := Lib.hid (show (m ++ [u]).length + r'.length ≤ s.length ∧ r'.length < (b :: r).length by
          have h1 := (par1_some HPU.out).1
          have h2 := HLN.out
          rw [List.length_append]
          rw [List.length_cons] at h1 h2
          simp only [List.length_cons, List.length_nil]
          omega)
        clear hown4 hgr
        go_wp2_with fail
        go_roundw
        case rel => exact ⟨r', m ++ [u], _, rfl, rfl, HOW4.out, HPL2.out, HLN2.out.1, HB4.out⟩
        case measure => simp only [lenOf]; rw [HSZ.out, ssize]; exact HLN2.out.2
      · have HN := Lib.hid (show parL s = none by rw [HPL.out, parL_none (by simp) hpu]; rfl)
        have HB1 := Lib.hid (below_on HB.out hb1)
        clear hpu hb1
        go_wp2_with fail
        go_ret2
        exact PaQ.no HN.out rfl (below_nw HB1.out _)
end Go.Proofs.YtflanjcfkdjpjaaGreatDoor.Rec

/- Contracts for layer 2's laws: wakes. -/
namespace Go.Proofs.YtflanjcfkdjpjaaGreatDoor.Sum
open Go.RowKit Go.Proofs.YtflanjcfkdjpjaaGreatDoor
set_option linter.unusedVariables false

theorem wake1 : chk 0 (cat [⟨#[49, 50, 51, 52]⟩, ⟨#[53, 54, 55, 56, 57]⟩]) = 3808858755 := by decide +kernel

end Go.Proofs.YtflanjcfkdjpjaaGreatDoor.Sum

/- Layer 12 (rec): Payload, Link. -/
namespace Go.Proofs.YtflanjcfkdjpjaaGreatDoor.Rec
open Go Go.RowKit Go.Proofs.YtflanjcfkdjpjaaGreatDoor Go.Proofs.YtflanjcfkdjpjaaGreatDoor.Lend
set_option linter.unusedVariables false

/-- a record's first bytes -/
def hd3 (s c : Int) (n : Nat) : List UInt8 := encL [8, 4, 2] [s, c, (n : Int)]
theorem hd3_length (s c : Int) (n : Nat) : (hd3 s c n).length = 14 := by simp [hd3, encL, encN_length]
/-- a record's bytes -/
def pyT (s c : Int) (l : List Up) : List UInt8 := if errL l = 0 then hd3 s c l.length ++ txL l else []
structure Wf3 (s c : Int) (n : Nat) : Prop where
  s0 : 0 ≤ s
  s1 : s < 18446744073709551616
  c0 : 0 ≤ c
  c1 : c < 4294967296
  n1 : n ≤ 1000
theorem Wf3.wr {s c : Int} {n : Nat} (h : Wf3 s c n) : wrS [8, 4, 2] [s, c, (n : Int)] = Lend.strOf (hd3 s c n) ∧ wrB [8, 4, 2] [s, c, (n : Int)] = true := by
  have h4 : fitsB c 4 = true := by unfold fitsB; rw [decide_eq_true_eq]; exact h.c1
  have h2 : fitsB (n : Int) 2 = true := by unfold fitsB; rw [decide_eq_true_eq]; have := h.n1; show (n : Int) < 65536; omega
  have h := wr_ok (ws := [8, 4, 2]) (ns := [s, c, (n : Int)]) rfl rfl (by simp [fitsL, fitsB_8 s h.s1, h4, h2])
  exact ⟨h.2, h.1⟩
theorem Wf3.ns {s c : Int} {n : Nat} (h : Wf3 s c n) : ∀ x ∈ [s, c, (n : Int)], 0 ≤ x ∧ x < 18446744073709551616 := by
  have := h.s0; have := h.s1; have := h.c0; have := h.c1; have := h.n1
  intro x hx
  simp only [List.mem_cons, List.mem_nil_iff, or_false] at hx
  omega
theorem txL_le : ∀ (l : List Up), errL l = 0 → (txL l).length ≤ 51 * l.length
  | [], _ => by unfold txL; simp
  | u :: l, h => by
    have e : txL (u :: l) = txU u ++ txL l := by unfold txL; rfl
    rw [e, List.length_append, List.length_cons]
    have h : (if chkU u = 0 then errL l else chkU u) = 0 := h
    by_cases hc : chkU u = 0
    · rw [if_pos hc] at h
      have := txL_le l h
      have := txU_le hc
      omega
    · rw [if_neg hc] at h; exact absurd h hc
theorem txT_le (l : List Up) : (txT l).length ≤ 51 * l.length := by
  unfold txT
  split
  · rename_i h; exact txL_le l h
  · simp
theorem UR.slice {w : World} {v : Value} {l : List Up} (h : UR w v l) : ∃ a cap, v = .slice a l.length cap := by obtain ⟨a, cap, hv, _⟩ := h.form; exact ⟨a, cap, hv⟩
set_option maxHeartbeats 4000000 in
set_option maxRecDepth 100000 in
theorem Payload_any {v : Value} {l : List Up} {w : World} (s c : Int) (h : UR w v l) (hf : Wf3 s c l.length) (hwf : ∀ u ∈ l, WfU u) :
    Calls Tryz.prog 39 #[.agg #[.int .u64 s, .int .u32 c, v]] w fun e w' => e = .returned (.tuple #[.string (Lend.strOf (pyT s c l)), .int .i64 (errL l)]) ∧ Below w.heap.size w w' := by
  obtain ⟨a, cap, rfl⟩ := h.slice
  obtain ⟨n, hn⟩ : ∃ n, n = l.length := ⟨_, rfl⟩
  have HN := Lib.hid hf.ns
  have HW := Lib.hid hf.wr
  have HLE := Lib.hid (txT_le l)
  have hs0 := hf.s0; have hs1 : s ≤ 18446744073709551615 := by have := hf.s1; omega
  have hc0 := hf.c0; have hc1 : c ≤ 4294967295 := by have := hf.c1; omega
  have hn1 := hf.n1
  have HTX := Lib.hid (fun W (hb : Below w.heap.size w W) => Text_any (h.below hb) hf.n1 hwf)
  have HPY : Hid (pyT s c l = if errL l = 0 then hd3 s c n ++ txL l else []) := Lib.hid (by rw [hn]; rfl)
  have HTT : Hid (txT l = if errL l = 0 then txL l else []) := Lib.hid rfl
  rw [← hn] at HN HW HTX HLE hn1 ⊢
  clear hf h hwf hn
  have wc : IntKind.u64.wrap c = c := by rw [wrap_u64]; omega
  have wn : IntKind.u64.wrap (n : Int) = (n : Int) := by rw [wrap_u64]; omega
  obtain ⟨T, hT⟩ : ∃ x, x = Lend.strOf (txT l) := ⟨_, rfl⟩
  have hts : T.size ≤ 51000 := by rw [hT, ssize]; have := HLE.out; omega
  rw [← hT] at HTX
  obtain ⟨er, her⟩ : ∃ x, x = errL l := ⟨_, rfl⟩
  rw [← her] at HTX HPY HTT ⊢
  obtain ⟨P, hP⟩ : ∃ x, x = pyT s c l := ⟨_, rfl⟩
  rw [← hP] at HPY ⊢
  have HT := Lib.hid hT
  obtain ⟨H, hH⟩ : ∃ x, x = Lend.strOf (hd3 s c n) := ⟨_, rfl⟩
  rw [← hH] at HW
  have hhs : H.size ≤ 14 := by rw [hH, ssize, hd3_length]; exact Nat.le_refl _
  have HH := Lib.hid hH
  clear hT her hP hH
  obtain ⟨w0, hw0⟩ : ∃ x, x = w.alloc (.cells #[.int .u64 s, .int .u32 c, .slice a n cap] 59) := ⟨_, rfl⟩
  have HB0 := Lib.hid (show Below w.heap.size w w0 by rw [hw0]; exact below_new _ _)
  have HX := Lib.hid (show Has w0 w.heap.size 59 [.int .u64 s, .int .u32 c, .slice a n cap] by rw [hw0]; exact Has.new _ _ _)
  have HT0 := Lib.hid (HTX.out w0 HB0.out)
  clear HTX
  go_enter Tryz.func39, Tryz.ntmps39
  go_wp2_with fail
  rw [← hw0]
  refine HT0.out.mono ?_
  rintro e w1 ⟨rfl, hb1⟩
  have HB1 := Lib.hid (below_on HB0.out hb1)
  have hx1 := HX.out.below hb1 HX.out.lt
  have hxl := hx1.lt
  have y0 := hx1.cell 0
  have y1 := hx1.cell 1
  have y2 := hx1.cell 2
  simp only [List.getElem?_cons_zero, List.getElem?_cons_succ] at y0 y1 y2
  clear hx1 hb1 hw0
  by_cases hz : er = 0
  · subst hz
    have HPY := Lib.hid (show P = hd3 s c n ++ txL l by rw [HPY.out]; rfl)
    have HTT := Lib.hid (show txT l = txL l by rw [HTT.out]; rfl)
    go_wp2_with fail
    go_region_held3 (fun W => W.cell? ⟨w.heap.size, 0, none⟩ = some (.int .u64 s) ∧ W.cell? ⟨w.heap.size, 1, none⟩ = some (.int .u32 c) ∧ W.cell? ⟨w.heap.size, 2, none⟩ = some (.slice a n cap))
      (first
        | with_reducible exact keep3 (by assumption) (by assumption)
        | with_reducible exact keep3 (by assumption) (below_new _ _)
        | go_keep)
      (first
        | (go_at_call 72; refine (recW_any _).mono ?_; rintro e wm ⟨bm, rfl, hrow, hbel⟩)
        | (go_at_call 71
           refine (write_any _ _ 3 3 3 3 [8, 4, 2] [s, c, (n : Int)] _ ?_ ?_ (by decide) (by decide) HN.out).mono ?_
           · repeat (first | assumption | apply Row.drw | apply Row.new | refine Row.later ?_ (by assumption))
           · repeat (first | (refine Row.threeAt _ _ _ _ _ _ _ ?_; first | rfl | (simp; done)) | apply Row.drw | apply Row.new | refine Row.later ?_ (by assumption))
           rintro e wo ⟨rfl, hbel2⟩
           rw [HW.out.1, HW.out.2]))
    all_goals
      rename_i hend
      clear hend wc wn y0 y1 y2
      go_wp2_with fail
      go_ret2
      refine ⟨ret_te (by rw [HPY.out, HH.out, HT.out, HTT.out, sapp]; simp) rfl, ?_⟩
      repeat (first | exact HB1.out | apply below_nw | apply below_dr | refine below_on ?_ (by assumption))
  · have hne : (er == 0) = false := by simpa using hz
    have HPY := Lib.hid (show P = [] by rw [HPY.out, if_neg hz])
    clear wc wn
    go_wp2_with fail
    go_ret2
    exact ⟨ret_te (by rw [HPY.out]; rfl) rfl, HB1.out⟩
end Go.Proofs.YtflanjcfkdjpjaaGreatDoor.Rec

/- Layer 12 (rec): Link, Open. -/
namespace Go.Proofs.YtflanjcfkdjpjaaGreatDoor.Rec
open Go Go.RowKit Go.Proofs.YtflanjcfkdjpjaaGreatDoor Go.Proofs.YtflanjcfkdjpjaaGreatDoor.Lend
set_option linter.unusedVariables false

/-- what a record links by -/
def lkN (s c : Int) (l : List Up) : Nat := if errL l = 0 then Sum.chk 0 (pyT s c l) else 0
theorem ret_ue {a b c d : Int} (h : a = b) (h' : c = d) : Ending.returned (.tuple #[.int .u32 a, .int .i64 c]) = .returned (.tuple #[.int .u32 b, .int .i64 d]) := by rw [h, h']
theorem pyT_le {s c : Int} {l : List Up} (h : l.length ≤ 1000) : (pyT s c l).length ≤ 60000 := by
  unfold pyT
  split
  · rename_i he; rw [List.length_append, hd3_length]; have := txL_le l he; omega
  · simp
set_option maxHeartbeats 4000000 in
set_option maxRecDepth 100000 in
theorem Link_any {v : Value} {l : List Up} {w : World} (s c : Int) (tb : Nat) (h : UR w v l) (hf : Wf3 s c l.length) (hwf : ∀ u ∈ l, WfU u) (ht : Sum.IsTab w tb) :
    Calls Tryz.prog 19 #[.agg #[.int .u64 s, .int .u32 c, v], .pointer (some ⟨tb, 0, none⟩)] w fun e w' => e = .returned (.tuple #[.int .u32 (lkN s c l : Nat), .int .i64 (errL l)]) ∧ Below w.heap.size w w' := by
  obtain ⟨a, cap, hv⟩ := h.slice
  have HPY := Lib.hid (fun W (hb : Below w.heap.size w W) => Payload_any s c (h.below hb) hf hwf)
  have HLK : Hid (lkN s c l = if errL l = 0 then Sum.chk 0 (pyT s c l) else 0) := Lib.hid rfl
  have HSZ := Lib.hid (pyT_le (s := s) (c := c) hf.n1)
  obtain ⟨w0, hw0⟩ : ∃ x, x = w.alloc (.cells #[.int .u64 s, .int .u32 c, v] 59) := ⟨_, rfl⟩
  have HB0 := Lib.hid (show Below w.heap.size w w0 by rw [hw0]; exact below_new _ _)
  have HX := Lib.hid (show Has w0 w.heap.size 59 [.int .u64 s, .int .u32 c, v] by rw [hw0]; exact Has.new _ _ _)
  have HP0 := Lib.hid (HPY.out w0 HB0.out)
  have HT0 := Lib.hid (ht.below HB0.out (Nat.le_refl _))
  obtain ⟨P, hP⟩ : ∃ x, x = Lend.strOf (pyT s c l) := ⟨_, rfl⟩
  rw [← hP] at HP0
  have HPS := Lib.hid (show P.size ≤ 1000000 by rw [hP, ssize]; have := HSZ.out; omega)
  have HPD := Lib.hid (show P.data.toList = pyT s c l by rw [hP]; rfl)
  obtain ⟨er, her⟩ : ∃ x, x = errL l := ⟨_, rfl⟩
  rw [← her] at HP0 HLK ⊢
  obtain ⟨k, hk⟩ : ∃ x, x = lkN s c l := ⟨_, rfl⟩
  rw [← hk] at HLK ⊢
  subst hv
  clear hf h hwf ht HPY hP her hk HSZ
  have y0 := HX.out.cell 0
  have y1 := HX.out.cell 1
  have y2 := HX.out.cell 2
  simp only [List.getElem?_cons_zero, List.getElem?_cons_succ] at y0 y1 y2
  go_enter Tryz.func19, Tryz.ntmps19
  go_wp2_with fail
  rw [← hw0]
  refine HP0.out.mono ?_
  rintro e w1 ⟨rfl, hb1⟩
  have HB1 := Lib.hid (below_on HB0.out hb1)
  have HT1 := Lib.hid (HT0.out.below hb1 (Nat.le_refl _))
  clear hb1 hw0 y0 y1 y2
  by_cases hz : er = 0
  · subst hz
    have HK := Lib.hid (show k = Sum.chk 0 (pyT s c l) by rw [HLK.out]; rfl)
    go_wp2_with fail
    refine (Sum.of1_any tb P _ HT1.out HPS.out).mono ?_
    rintro e w2 ⟨rfl, ht2, hb2⟩
    have HB2 := Lib.hid (below_on HB1.out hb2)
    clear ht2 hb2
    go_wp2_with fail
    go_ret2
    exact ⟨ret_ue (by rw [HK.out, HPD.out]) rfl, HB2.out⟩
  · have hne : (er == 0) = false := by simpa using hz
    have HK := Lib.hid (show k = 0 by rw [HLK.out, if_neg hz])
    go_wp2_with fail
    go_ret2
    exact ⟨ret_ue (by rw [HK.out]; rfl) rfl, HB1.out⟩
theorem Link_nil (s c : Int) (v : Value) (w : World) :
    Calls Tryz.prog 19 #[.agg #[.int .u64 s, .int .u32 c, v], .pointer none] w fun e w' => e = .returned (.tuple #[.int .u32 0, .int .i64 1]) ∧ Below w.heap.size w w' := by
  go_enter Tryz.func19, Tryz.ntmps19
  go_wp2_with fail
  go_ret2
  exact ⟨rfl, below_new _ _⟩
/-! ### Open -/
/-- the record of bytes -/
def opR (s : List UInt8) : Option (Int × Int × List Up) :=
  if s.length < 14 then none
  else match parL (s.drop 14) with
    | none => none
    | some l => if l.length = getL ((s.drop 12).take 2) then some ((getL (s.take 8) : Int), (getL ((s.drop 8).take 4) : Int), l) else none
/-- what Open answers -/
def OpP (w : World) (s : List UInt8) (e : Ending) (w' : World) : Prop :=
  (∃ a c l v', opR s = some (a, c, l) ∧ e = .returned (.tuple #[.agg #[.int .u64 a, .int .u32 c, v'], .int .i64 0]) ∧ RA w' w.heap.size v' l ∧ Below w.heap.size w w') ∨
  (opR s = none ∧ e = .returned (.tuple #[.agg #[.int .u64 0, .int .u32 0, .slice none 0 0], .int .i64 4]) ∧ Below w.heap.size w w')
theorem OpP.yes {w w' : World} {s : List UInt8} {e : Ending} {a c : Int} {l : List Up} {v' : Value} (h : opR s = some (a, c, l)) (he : e = .returned (.tuple #[.agg #[.int .u64 a, .int .u32 c, v'], .int .i64 0])) (h1 : RA w' w.heap.size v' l) (h2 : Below w.heap.size w w') : OpP w s e w' := .inl ⟨a, c, l, v', h, he, h1, h2⟩
theorem OpP.no {w w' : World} {s : List UInt8} {e : Ending} (h : opR s = none) (he : e = .returned (.tuple #[.agg #[.int .u64 0, .int .u32 0, .slice none 0 0], .int .i64 4])) (h2 : Below w.heap.size w w') : OpP w s e w' := .inr ⟨h, he, h2⟩
theorem rd3 {s : List UInt8} (h : 14 ≤ s.length) : rdB [8, 4, 2] s = true ∧ rdN [8, 4, 2] s = [(getL (s.take 8) : Int), (getL ((s.drop 8).take 4) : Int), (getL ((s.drop 12).take 2) : Int)] ∧ rdS [8, 4, 2] s = s.drop 14 := by
  have hr := rd_ok (ws := [8, 4, 2]) (l := s) rfl (by show (14 : Int) ≤ _; omega)
  refine ⟨hr.1, ?_, by rw [hr.2.2]; rfl⟩
  rw [hr.2.1]
  simp [rdL]
theorem rd3_no {s : List UInt8} (h : s.length < 14) : rdB [8, 4, 2] s = false ∧ rdN [8, 4, 2] s = [] ∧ rdS [8, 4, 2] s = [] := rd_no (.inr (by show ¬ (14 : Int) ≤ _; omega))
theorem getL_4 (s : List UInt8) : getL ((s.drop 8).take 4) < 4294967296 := by
  have hb := getL_bd ((s.drop 8).take 4)
  have hl : ((s.drop 8).take 4).length ≤ 4 := by rw [List.length_take]; omega
  exact Nat.lt_of_lt_of_le hb (Nat.pow_le_pow_right (by decide) (by omega : 8 * _ ≤ 32))
theorem wrap_u32 (n : Int) : IntKind.u32.wrap n = n % 4294967296 := by simp [IntKind.wrap, IntKind.bits, IntKind.signed]
theorem own_base {w : World} {base base' : Nat} {e : TypeId} {size : Nat} {v : Value} {n : Nat} {xs : List Value} (h : w.ownsRow base e size v n xs) (hb : base' ≤ base) : w.ownsRow base' e size v n xs := by
  refine ⟨h.1, ?_⟩
  rcases h.2 with h | ⟨g, cap, cur, a, b, rest⟩
  · exact .inl h
  · exact .inr ⟨g, cap, cur, a, Nat.le_trans hb b, rest⟩
theorem own_drew {w : World} {base : Nat} {e : TypeId} {size : Nat} {v : Value} {n : Nat} {xs : List Value} (h : w.ownsRow base e size v n xs) : w.drew.ownsRow base e size v n xs := h
theorem parN_le : ∀ (n : Nat) (s : List UInt8) (l : List Up), parN n s = some l → l.length ≤ s.length
  | n, [], l, h => by
    have : l = [] := by cases n <;> (unfold parN at h; injection h with h; exact h.symm)
    subst this; simp
  | 0, x :: s, l, h => by unfold parN at h; cases h
  | n + 1, x :: s, l, h => by
    rw [parN_cons _ _ (by simp)] at h
    cases e : par1 (x :: s) with
    | none => rw [e] at h; cases h
    | some p =>
      obtain ⟨u, r⟩ := p
      rw [e] at h
      simp only at h
      have h1 := (par1_some e).1
      cases e2 : parN n r with
      | none => rw [e2] at h; cases h
      | some m =>
        rw [e2] at h
        injection h with h
        subst h
        have := parN_le n r m e2
        rw [List.length_cons]; omega
theorem parL_le {s : List UInt8} {l : List Up} (h : parL s = some l) : l.length ≤ s.length := parN_le _ s l h
set_option maxHeartbeats 4000000 in
set_option maxRecDepth 100000 in
theorem Open_any (s : List UInt8) (w : World) (hs : s.length ≤ 100000) : Calls Tryz.prog 95 #[.string (Lend.strOf s)] w (OpP w s) := by
  have HSZ := Lib.hid (show (Lend.strOf s).size ≤ 1000000 by rw [ssize]; omega)
  obtain ⟨T, hT⟩ : ∃ x, x = Lend.strOf s := ⟨_, rfl⟩
  have HTD := Lib.hid (show T.data.toList = s by rw [hT]; rfl)
  rw [← hT] at HSZ ⊢
  clear hT
  obtain ⟨w0, hw0⟩ : ∃ x, x = w.alloc (.cells #[.int .u64 0, .int .u32 0, .slice none 0 0] 59) := ⟨_, rfl⟩
  have HB0 := Lib.hid (show Below w.heap.size w w0 by rw [hw0]; exact below_new _ _)
  have HX := Lib.hid (show Has w0 w.heap.size 59 [.int .u64 0, .int .u32 0, .slice none 0 0] by rw [hw0]; exact Has.new _ _ _)
  by_cases h : 14 ≤ s.length
  · have HR := Lib.hid (rd3 h)
    have HPA := Lib.hid (fun W => Parse_any (s.drop 14) W (by rw [List.length_drop]; omega))
    have HOP := Lib.hid (show ∀ l, parL (s.drop 14) = some l → opR s = if l.length = getL ((s.drop 12).take 2) then some ((getL (s.take 8) : Int), (getL ((s.drop 8).take 4) : Int), l) else none from fun l hl => by unfold opR; rw [if_neg (by omega), hl])
    have HON := Lib.hid (show parL (s.drop 14) = none → opR s = none from fun hl => by unfold opR; rw [if_neg (by omega), hl])
    have HPL := Lib.hid (show (s.drop 14).length ≤ 100000 by rw [List.length_drop]; omega)
    have hy := getL_4 s
    obtain ⟨x, hx⟩ : ∃ x : Int, x = (getL (s.take 8) : Int) := ⟨_, rfl⟩
    obtain ⟨y, hyy⟩ : ∃ x : Int, x = (getL ((s.drop 8).take 4) : Int) := ⟨_, rfl⟩
    obtain ⟨z, hz⟩ : ∃ x, x = getL ((s.drop 12).take 2) := ⟨_, rfl⟩
    rw [← hx, ← hyy, ← hz] at HR HOP
    have hy0 : 0 ≤ y := by omega
    have hy1 : y ≤ 4294967295 := by omega
    clear hx hyy hz hy h hs
    go_enter Tryz.func95, Tryz.ntmps95
    go_wp2_with fail
    rw [← hw0]
    refine (recW_any _).mono ?_
    rintro e w1 ⟨b, rfl, hrow, hb1⟩
    have HROW := Lib.hid hrow
    have HB1 := Lib.hid (below_on HB0.out hb1)
    have HX1 := Lib.hid (HX.out.below hb1 HX.out.lt)
    clear hrow hb1 hw0
    go_wp2_with fail
    refine (read_any _ 3 3 [8, 4, 2] _ _ HROW.out (by decide) HSZ.out).mono ?_
    rintro e w2 ⟨bo, n, cap, rfl, hown, hb2⟩
    have HB2 := Lib.hid (below_on HB1.out hb2)
    have HX2 := Lib.hid (HX1.out.below hb2 HX1.out.lt)
    have hr := Row.own hown
    rw [HTD.out, HR.out.2.1] at hr
    obtain rfl : 3 = n := hr.len_eq
    rw [HTD.out, HR.out.1, HR.out.2.2]
    have HR2 := Lib.hid hr
    clear hown hr hb2
    go_wp2_with fail
    refine (HPA.out _).mono ?_
    rintro e w3 (⟨l, v', hpl, rfl, hra, hb3⟩ | ⟨hpl, rfl, hb3⟩)
    · have HB3 := Lib.hid (below_on HB2.out hb3)
      have HX3 := Lib.hid (HX2.out.below hb3 HX2.out.lt)
      obtain ⟨g, off, rfl, hc⟩ := (HR2.out.later hb3).at_ (by decide)
      have c0 : w3.cell? ⟨g, off, none⟩ = some (.int .u64 x) := hc 0 (by decide)
      have c1 : w3.cell? ⟨g, off + 1, none⟩ = some (.int .u64 y) := hc 1 (by decide)
      have c2 : w3.cell? ⟨g, off + 2, none⟩ = some (.int .u64 (z : Nat)) := hc 2 (by decide)
      have r0 := HX3.out.cell 0
      have r1 := HX3.out.cell 1
      have r2 := HX3.out.cell 2
      have q0 := HX3.out.frozen 0
      have q1 := HX3.out.frozen 1
      have q2 := HX3.out.frozen 2
      simp only [List.getElem?_cons_zero, List.getElem?_cons_succ] at r0 r1 r2
      obtain ⟨vo, vc, rfl, hvc⟩ := own_shape hra
      have HRA := Lib.hid hra
      have HOL := Lib.hid (HOP.out l hpl)
      have hll : l.length ≤ 100000 := by
        have := parL_le hpl
        have := HPL.out
        omega
      have wl : IntKind.u64.wrap (l.length : Int) = (l.length : Int) := by rw [wrap_u64]; omega
      clear hc hb3 hra hvc hpl
      obtain ⟨n, hn⟩ : ∃ n, n = l.length := ⟨_, rfl⟩
      rw [← hn] at hll wl HRA HOL ⊢
      clear hn
      by_cases hz : n = z
      · subst hz
        have wy : IntKind.u32.wrap y = y := by rw [wrap_u32]; omega
        have k0 : w3.drew.cell? ⟨g, off, none⟩ = some (.int .u64 x) := c0
        have k1 : w3.drew.cell? ⟨g, off + 1, none⟩ = some (.int .u64 y) := c1
        have p0 : w3.drew.cell? ⟨w.heap.size, 0, none⟩ = some (.int .u64 0) := r0
        have p1 : w3.drew.cell? ⟨w.heap.size, 1, none⟩ = some (.int .u32 0) := r1
        have p2 : w3.drew.cell? ⟨w.heap.size, 2, none⟩ = some (.slice none 0 0) := r2
        have p3 : w3.drew.frozen? ⟨w.heap.size, 0, none⟩ = false := q0
        have p4 : w3.drew.frozen? ⟨w.heap.size, 1, none⟩ = false := q1
        have p5 : w3.drew.frozen? ⟨w.heap.size, 2, none⟩ = false := q2
        have HY := Lib.hid (show opR s = some (x, y, l) by rw [HOL.out, if_pos rfl])
        clear HOP HON
        go_wp2_with fail
        refine Reg.still_tail 9 (by kernel_rfl) (by kernel_rfl) ?_
        simp only [List.take_succ_cons, List.take_zero, List.drop_succ_cons, List.drop_zero]
        repeat still_step
        try refine wpStill_nil ?_
        go_wp2_with fail
        refine bodyPost_ret (v := .tuple #[.agg #[.int .u64 x, .int .u32 y, .slice vo n vc], .int .i64 0]) (by simp [results, Tryz.results95, go_sem, r0, r1, r2]) rfl (OpP.yes HY.out rfl (l := l) ?_ ?_)
        · exact own_base (own_drew (ownsRow_setCell_below (ownsRow_setCell_below (ownsRow_setCell_below HRA.out (show w.heap.size < w2.heap.size by have := HX2.out.lt; omega) _) (show w.heap.size < w2.heap.size by have := HX2.out.lt; omega) _) (show w.heap.size < w2.heap.size by have := HX2.out.lt; omega) _)) HB2.out.size
        · exact bel_res (bel_res (bel_res HB3.out.drew _ _) _ _) _ _
      · have hne : ((n : Int) == (z : Int)) = false := by
          have : ¬ (n : Int) = (z : Int) := by omega
          simpa using this
        have HN := Lib.hid (show opR s = none by rw [HOL.out, if_neg hz])
        clear HOP HON hz
        go_wp2_with fail
        refine bodyPost_ret (v := .tuple #[.agg #[.int .u64 0, .int .u32 0, .slice none 0 0], .int .i64 4]) (by simp [results, Tryz.results95, go_sem, r0, r1, r2]) rfl (OpP.no HN.out rfl ?_)
        exact bel_res (bel_res (bel_res HB3.out _ _) _ _) _ _
    · have HB3 := Lib.hid (below_on HB2.out hb3)
      have HX3 := Lib.hid (HX2.out.below hb3 HX2.out.lt)
      have r0 := HX3.out.cell 0
      have r1 := HX3.out.cell 1
      have r2 := HX3.out.cell 2
      have q0 := HX3.out.frozen 0
      have q1 := HX3.out.frozen 1
      have q2 := HX3.out.frozen 2
      simp only [List.getElem?_cons_zero, List.getElem?_cons_succ] at r0 r1 r2
      have HN := Lib.hid (HON.out hpl)
      clear hb3 hpl
      go_wp2_with fail
      refine bodyPost_ret (v := .tuple #[.agg #[.int .u64 0, .int .u32 0, .slice none 0 0], .int .i64 4]) (by simp [results, Tryz.results95, go_sem, r0, r1, r2]) rfl (OpP.no HN.out rfl ?_)
      exact bel_res (bel_res (bel_res HB3.out _ _) _ _) _ _
  · have HR := Lib.hid (rd3_no (s := s) (by omega))
    have HN := Lib.hid (show opR s = none by unfold opR; rw [if_pos (by omega)])
    clear h hs
    go_enter Tryz.func95, Tryz.ntmps95
    go_wp2_with fail
    rw [← hw0]
    refine (recW_any _).mono ?_
    rintro e w1 ⟨b, rfl, hrow, hb1⟩
    have HROW := Lib.hid hrow
    have HB1 := Lib.hid (below_on HB0.out hb1)
    have HX1 := Lib.hid (HX.out.below hb1 HX.out.lt)
    clear hrow hb1 hw0
    go_wp2_with fail
    refine (read_any _ 3 3 [8, 4, 2] _ _ HROW.out (by decide) HSZ.out).mono ?_
    rintro e w2 ⟨bo, n, cap, rfl, hown, hb2⟩
    have HB2 := Lib.hid (below_on HB1.out hb2)
    have HX2 := Lib.hid (HX1.out.below hb2 HX1.out.lt)
    rw [HTD.out, HR.out.1, HR.out.2.2]
    clear hown hb2
    have r0 := HX2.out.cell 0
    have r1 := HX2.out.cell 1
    have r2 := HX2.out.cell 2
    have q0 := HX2.out.frozen 0
    have q1 := HX2.out.frozen 1
    have q2 := HX2.out.frozen 2
    simp only [List.getElem?_cons_zero, List.getElem?_cons_succ] at r0 r1 r2
    go_wp2_with fail
    refine bodyPost_ret (v := .tuple #[.agg #[.int .u64 0, .int .u32 0, .slice none 0 0], .int .i64 4]) (by simp [results, Tryz.results95, go_sem, r0, r1, r2]) rfl (OpP.no HN.out rfl ?_)
    exact bel_res (bel_res (bel_res HB2.out _ _) _ _) _ _
end Go.Proofs.YtflanjcfkdjpjaaGreatDoor.Rec

/- Layer 12 (rec): what Open tells of Payload's bytes. -/
namespace Go.Proofs.YtflanjcfkdjpjaaGreatDoor.Rec
open Go Go.RowKit Go.Proofs.YtflanjcfkdjpjaaGreatDoor Go.Proofs.YtflanjcfkdjpjaaGreatDoor.Lend
set_option linter.unusedVariables false

theorem hd3_eq (s c : Int) (n : Nat) : hd3 s c n = encN s 8 ++ (encN c 4 ++ encN (n : Int) 2) := by simp [hd3, encL]
theorem errL_ok : ∀ {l : List Up}, (∀ u ∈ l, chkU u = 0) → errL l = 0
  | [], _ => rfl
  | u :: l, h => by
    show (if chkU u = 0 then errL l else chkU u) = 0
    rw [if_pos (h u (List.mem_cons_self ..))]
    exact errL_ok fun x hx => h x (List.mem_cons_of_mem _ hx)
theorem okL_of {l : List Up} (h : ∀ u ∈ l, chkU u = 0) (hw : ∀ u ∈ l, WfU u) : OkL l := fun u hu => ⟨h u hu, (hw u hu).2.2.1, (hw u hu).2.2.2⟩
theorem pyT_ok {s c : Int} {l : List Up} (h : ∀ u ∈ l, chkU u = 0) : pyT s c l = hd3 s c l.length ++ txL l := by unfold pyT; rw [if_pos (errL_ok h)]
theorem txT_ok {l : List Up} (h : ∀ u ∈ l, chkU u = 0) : txT l = txL l := by unfold txT; rw [if_pos (errL_ok h)]
theorem hd3_8 {s c : Int} {n : Nat} (hf : Wf3 s c n) (r : List UInt8) : (getL ((hd3 s c n ++ r).take 8) : Int) = s := by
  rw [hd3_eq, List.append_assoc, List.take_left' (encN_length s 8)]
  exact getL_encN s 8 hf.s0 hf.s1
theorem hd3_4 {s c : Int} {n : Nat} (hf : Wf3 s c n) (r : List UInt8) : (getL (((hd3 s c n ++ r).drop 8).take 4) : Int) = c := by
  rw [hd3_eq, List.append_assoc, List.drop_left' (encN_length s 8), List.append_assoc, List.take_left' (encN_length c 4)]
  exact getL_encN c 4 hf.c0 hf.c1
theorem hd3_2 {s c : Int} {n : Nat} (hf : Wf3 s c n) (r : List UInt8) : getL (((hd3 s c n ++ r).drop 12).take 2) = n := by
  have e : (hd3 s c n ++ r).drop 12 = encN (n : Int) 2 ++ r := by
    rw [show (12 : Nat) = 8 + 4 from rfl, ← List.drop_drop, hd3_eq, List.append_assoc, List.drop_left' (encN_length s 8), List.append_assoc, List.drop_left' (encN_length c 4)]
  rw [e, List.take_left' (encN_length _ 2)]
  have h := getL_encN (n : Int) 2 (by omega) (by have := hf.n1; show (n : Int) < 65536; omega)
  omega
/-- what Open tells of a record's bytes -/
theorem op_py {s c : Int} {l : List Up} (hf : Wf3 s c l.length) (h : ∀ u ∈ l, chkU u = 0) (hw : ∀ u ∈ l, WfU u) : opR (pyT s c l) = some (s, c, l) := by
  rw [pyT_ok h]
  unfold opR
  rw [if_neg (by rw [List.length_append, hd3_length]; omega), List.drop_left' (hd3_length ..), parL_tx (okL_of h hw)]
  simp only
  rw [if_pos (hd3_2 hf _).symm, hd3_8 hf, hd3_4 hf]
/-- of a beginning there is none -/
theorem op_cut {s c : Int} {l : List Up} (hf : Wf3 s c l.length) (h : ∀ u ∈ l, chkU u = 0) (hw : ∀ u ∈ l, WfU u) {k : Nat} (hk : k < (pyT s c l).length) : opR ((pyT s c l).take k) = none := by
  rw [pyT_ok h] at hk ⊢
  rw [List.length_append, hd3_length] at hk
  unfold opR
  by_cases h14 : k < 14
  · rw [if_pos (by rw [List.length_take]; omega)]
  · have e : (hd3 s c l.length ++ txL l).take k = hd3 s c l.length ++ (txL l).take (k - 14) := by
      rw [List.take_append, hd3_length, List.take_of_length_le (by rw [hd3_length]; omega)]
    rw [e, if_neg (by rw [List.length_append, hd3_length]; omega), List.drop_left' (hd3_length ..)]
    cases e2 : parL ((txL l).take (k - 14)) with
    | none => rfl
    | some m =>
      have := parL_cut (okL_of h hw) (c := k - 14) (by omega) e2
      simp only
      rw [if_neg (by rw [hd3_2 hf]; omega)]
end Go.Proofs.YtflanjcfkdjpjaaGreatDoor.Rec

/- Layer 13 (wal): rings of records, as contents of blocks. -/
namespace Go.Proofs.YtflanjcfkdjpjaaGreatDoor.Wal
open Go Go.RowKit Go.Proofs.YtflanjcfkdjpjaaGreatDoor Rem Mir Rec
set_option linter.unusedVariables false

/-- a record's image, at block b of blocks of Z bytes -/
def imR (Z b n c : Int) (l : List Up) : ByteArray := Env.sealS Z 3 b n (pyT n c l)
/-- what the record that a text is an image of has; none, if it isn't record n's, of block b, that links by c -/
def rcO (b n c : Int) (t : List UInt8) : Option (List Up) :=
  if Env.opE t = 0 ∧ Env.F t 0 = 3 ∧ Env.F t 3 = b ∧ Env.F t 4 = n then match opR (Env.opP t) with
    | some (a, d, l) => if a = n ∧ d = c then some l else none
    | none => none
  else none
/-- updates that a record may have -/
structure OkR (Z : Int) (l : List Up) : Prop where
  ch : ∀ u ∈ l, chkU u = 0
  wf : ∀ u ∈ l, WfU u
  len : l.length ≤ 1000
  room : ((txL l).length : Int) ≤ Z - 38
/-- numbers that an image may have -/
structure OkN (Z b n c : Int) : Prop where
  z0 : 128 ≤ Z
  z1 : Z ≤ 1024
  b0 : 0 ≤ b
  b1 : b ≤ 100000
  n0 : 0 ≤ n
  n1 : n < 18446744073709551616
  c0 : 0 ≤ c
  c1 : c < 4294967296
section
variable {Z b n c : Int} {l : List Up}
theorem OkR.f3 (h : OkR Z l) (k : OkN Z b n c) : Wf3 n c l.length := ⟨k.n0, k.n1, k.c0, k.c1, h.len⟩
theorem OkR.py (h : OkR Z l) : ((pyT n c l).length : Int) ≤ Z - 24 := by
  rw [pyT_ok h.ch, List.length_append, hd3_length]; have := h.room; omega
theorem OkN.hd (k : OkN Z b n c) : Env.hdB 3 b = true := by
  have := k.b0; have := k.b1
  simp [Env.hdB, Env.adB]; omega
theorem OkN.sz (k : OkN Z b n c) : Env.szB Z = true := by
  have := k.z0; have := k.z1
  simp [Env.szB]; omega
theorem seal_ok (h : OkR Z l) (k : OkN Z b n c) : Env.sealE Z 3 b (pyT n c l) = 0 := Env.sealE_ok k.sz k.hd h.py
theorem imR_eq (h : OkR Z l) (k : OkN Z b n c) : imR Z b n c l = Lend.strOf (Env.imgL 3 b n (Z - 24).toNat (pyT n c l)) := by unfold imR Env.sealS; rw [if_pos (seal_ok h k)]
theorem imR_size (h : OkR Z l) (k : OkN Z b n c) : ((imR Z b n c l).size : Int) = Z := by
  rw [imR_eq h k, ssize, Env.imgL_length _ _ _ _ _ (by have := h.py (n := n) (c := c); omega)]
  have := k.z0; omega
theorem OkR.fit (h : OkR Z l) (k : OkN Z b n c) : Env.Fit 3 ((pyT n c l).length : Int) b n 0 := by
  have h1 := h.py (n := n) (c := c)
  have := k.z1; have := k.b0; have := k.b1; have := k.n0; have := k.n1
  exact ⟨by omega, by omega, by omega, by omega, by omega, by omega, by omega, by omega, by omega, by omega⟩
/-- a record's image is its own -/
theorem rcO_im (h : OkR Z l) (k : OkN Z b n c) : rcO b n c (imR Z b n c l).data.toList = some l := by
  have hf := h.fit k
  have hlen : (pyT n c l).length ≤ (Z - 24).toNat := by have := h.py (n := n) (c := c); omega
  obtain ⟨_, o2, o3⟩ := Env.img_open hf k.hd hlen (by have := k.z0; omega) (by have := k.z1; omega)
  obtain ⟨f0, f1, f2, f3, f4, f5⟩ := Env.img_F (m := (Z - 24).toNat) hf
  rw [imR_eq h k, Lend.strOf_data]
  unfold rcO
  rw [if_pos ⟨o2, f0, f3, f4⟩, o3, op_py (h.f3 k) h.ch h.wf]
  simp
/-- what a record's image tells a reader of other numbers -/
theorem rcO_no {b' n' c' : Int} (h : OkR Z l) (k : OkN Z b n c) (hne : ¬ (b' = b ∧ n' = n ∧ c' = c)) : rcO b' n' c' (imR Z b n c l).data.toList = none := by
  have hf := h.fit k
  have hlen : (pyT n c l).length ≤ (Z - 24).toNat := by have := h.py (n := n) (c := c); omega
  obtain ⟨_, o2, o3⟩ := Env.img_open hf k.hd hlen (by have := k.z0; omega) (by have := k.z1; omega)
  obtain ⟨f0, f1, f2, f3, f4, f5⟩ := Env.img_F (m := (Z - 24).toNat) hf
  rw [imR_eq h k, Lend.strOf_data]
  unfold rcO
  rw [f3, f4]
  by_cases e : b = b' ∧ n = n'
  · rw [if_pos ⟨o2, f0, e.1, e.2⟩, o3, op_py (h.f3 k) h.ch h.wf]
    simp only
    rw [if_neg fun e2 => hne ⟨e.1.symm, e.2.symm, e2.2.symm⟩]
  · rw [if_neg fun e2 => e ⟨e2.2.2.1, e2.2.2.2⟩]
/-- noughts are no record -/
theorem rcO_zero (m : Nat) : rcO b n c (List.replicate m 0) = none := by
  unfold rcO
  have : Env.opE (List.replicate m (0 : UInt8)) ≠ 0 := by
    unfold Env.opE
    have : Env.opB (List.replicate m (0 : UInt8)) = false := by
      have e : Env.mkB (List.replicate m (0 : UInt8)) = false := by
        unfold Env.mkB
        cases m with
        | zero => rfl
        | succ m => simp [List.replicate_succ, Env.markL]
      unfold Env.opB; rw [e]; simp
    rw [this]; simp
  rw [if_neg fun e => this e.1]
/-! ### rings of records -/
/-- number n's block, in a ring of C blocks from F on -/
def bk (F C n : Int) : Int := F + n % C
/-- the checks that records link by -/
def chL : Int → Int → List (List Up) → Int
  | _, c, [] => c
  | n, c, l :: r => chL (n + 1) (lkN n c l : Nat) r
theorem chL_snoc : ∀ (r : List (List Up)) (n c : Int) (l : List Up), chL n c (r ++ [l]) = (lkN (n + r.length) (chL n c r) l : Nat)
  | [], n, c, l => by simp [chL]
  | a :: r, n, c, l => by
    show chL (n + 1) _ (r ++ [l]) = _
    rw [chL_snoc r (n + 1) _ l]
    show _ = ((lkN (n + ((r.length + 1 : Nat) : Int)) (chL (n + 1) (lkN n c a : Nat) r) l : Nat) : Int)
    rw [show n + 1 + (r.length : Int) = n + ((r.length + 1 : Nat) : Int) by omega]
theorem lkN_bd (n c : Int) (l : List Up) : lkN n c l < 4294967296 := by
  unfold lkN; split
  · exact Sum.chk_lt _ _
  · omega
theorem chL_bd {c : Int} (h0 : 0 ≤ c) (h1 : c < 4294967296) : ∀ (r : List (List Up)) (n : Int), 0 ≤ chL n c r ∧ chL n c r < 4294967296 := by
  intro r
  induction r generalizing c with
  | nil => exact fun _ => ⟨h0, h1⟩
  | cons l r ih => exact fun n => ih (by omega) (by have := lkN_bd n c l; omega) (n + 1)
/-- what both sides' blocks have: of a side and a block -/
abbrev F2 := Nat → Int → ByteArray
/-- the record of a block, and the image that it is told by -/
def rc2 (f : F2) (b n c : Int) : Option (List Up × ByteArray) := match rcO b n c (f 0 b).data.toList with
  | some l => some (l, f 0 b)
  | none => (rcO b n c (f 1 b).data.toList).map fun l => (l, f 1 b)
/-- a block that has an image on both sides -/
def heal (f : F2) (b : Int) (t : ByteArray) : F2 := fun s b' => if b' = b then t else f s b'
/-- how many sides of a block are healed -/
def rep (f : F2) (b : Int) (t : ByteArray) : Nat := (if f 0 b = t then 0 else 1) + (if f 1 b = t then 0 else 1)
theorem heal_eq {f : F2} {b : Int} {t : ByteArray} (h0 : f 0 b = t) (h1 : f 1 b = t) {s : Nat} (hs : s < 2) (b' : Int) : heal f b t s b' = f s b' := by
  unfold heal; split
  · rename_i e; subst e
    rcases (show s = 0 ∨ s = 1 by omega) with rfl | rfl
    · exact h0.symm
    · exact h1.symm
  · rfl
/-- from number n on, by the check c, records are told: these; what the blocks have then; how many sides were healed -/
inductive Tells (F C : Int) (f : F2) (n c : Int) : List (List Up) → F2 → Nat → Prop
  | nil : Tells F C f n c [] f 0
  | snoc {r g R l t} (h : Tells F C f n c r g R) (e : rc2 g (bk F C (n + r.length)) (n + r.length) (chL n c r) = some (l, t)) :
    Tells F C f n c (r ++ [l]) (heal g (bk F C (n + r.length)) t) (R + rep g (bk F C (n + r.length)) t)
/-- all that is there was told -/
def Done (F C : Int) (g : F2) (n c : Int) (r : List (List Up)) : Prop := (r.length : Int) = C ∨ rc2 g (bk F C (n + r.length)) (n + r.length) (chL n c r) = none
/-- record j of a log is there: on one side at least; on the other one it is, or nothing is -/
def There (Z F C : Int) (f : F2) (n c : Int) (r : List (List Up)) : Prop := ∀ j (hj : j < r.length),
  OkR Z r[j] ∧ OkN Z (bk F C (n + j)) (n + j) (chL n c (r.take j)) ∧
  (f 0 (bk F C (n + j)) = imR Z (bk F C (n + j)) (n + j) (chL n c (r.take j)) r[j] ∨
    rcO (bk F C (n + j)) (n + j) (chL n c (r.take j)) (f 0 (bk F C (n + j))).data.toList = none ∧ f 1 (bk F C (n + j)) = imR Z (bk F C (n + j)) (n + j) (chL n c (r.take j)) r[j])
/-- two numbers of one lap have other blocks -/
theorem bk_ne {F C n : Int} {i j : Nat} (hC : 0 < C) (hi : (i : Int) < C) (hj : (j : Int) < C) (h : i ≠ j) : bk F C (n + i) ≠ bk F C (n + j) := by
  intro e
  unfold bk at e
  have e2 : (n + i) % C = (n + j) % C := by omega
  have h1 : ((n + i) - (n + j)) % C = 0 := Int.emod_eq_emod_iff_emod_sub_eq_zero.1 e2
  obtain ⟨k, hk⟩ := Int.dvd_of_emod_eq_zero h1
  have hk0 : k = 0 := by
    rcases Int.lt_trichotomy k 0 with h' | h' | h'
    · have := Int.mul_le_mul_of_nonneg_left (show k ≤ -1 by omega) (show 0 ≤ C by omega); omega
    · exact h'
    · have := Int.mul_le_mul_of_nonneg_left (show 1 ≤ k by omega) (show 0 ≤ C by omega); omega
  subst hk0
  omega
theorem bk_bd {F C n : Int} (hC : 0 < C) : F ≤ bk F C n ∧ bk F C n < F + C := by
  unfold bk
  have := Int.emod_nonneg n (show C ≠ 0 by omega)
  have := Int.emod_lt_of_pos n hC
  omega
section
variable {F C : Int} {f g : F2} {known r : List (List Up)} {R : Nat}
/-- what is told of a ring whose records are there -/
theorem Tells.play (hC : 0 < C) (hlen : (known.length : Int) ≤ C) (hT : There Z F C f n c known) (hE : (known.length : Int) < C → ∀ g : F2, (∀ s, s < 2 → g s (bk F C (n + known.length)) = f s (bk F C (n + known.length))) → rc2 g (bk F C (n + known.length)) (n + known.length) (chL n c known) = none) (h : Tells F C f n c r g R) :
    (r.length : Int) ≤ C → r = known.take r.length ∧ r.length ≤ known.length ∧ (∀ s, s < 2 → ∀ j, j < r.length → (hj : j < known.length) → g s (bk F C (n + j)) = imR Z (bk F C (n + j)) (n + j) (chL n c (known.take j)) known[j]) ∧
      (∀ s, s < 2 → ∀ b, (∀ j, j < r.length → b ≠ bk F C (n + j)) → g s b = f s b) ∧
      R = ((List.range r.length).map fun j => (if f 0 (bk F C (n + (j : Nat))) = imR Z (bk F C (n + (j : Nat))) (n + (j : Nat)) (chL n c (known.take j)) (known[j]?.getD []) then 0 else 1) + (if f 1 (bk F C (n + (j : Nat))) = imR Z (bk F C (n + (j : Nat))) (n + (j : Nat)) (chL n c (known.take j)) (known[j]?.getD []) then 0 else 1)).sum := by
  induction h with
  | nil => exact fun _ => ⟨rfl, Nat.zero_le _, fun _ _ j hj => absurd hj (Nat.not_lt_zero j), fun _ _ _ _ => rfl, rfl⟩
  | @snoc r g R l t h e ih =>
    intro hl
    rw [List.length_append, List.length_singleton] at hl
    obtain ⟨i1, i2, i3, i4, i5⟩ := ih (by omega)
    have hg : ∀ s, s < 2 → g s (bk F C (n + r.length)) = f s (bk F C (n + r.length)) := fun s hs => i4 s hs _ fun j hj => bk_ne hC (by omega) (by omega) (by omega)
    have hlt : r.length < known.length := by
      rcases Nat.lt_or_ge r.length known.length with h | h
      · exact h
      · have e1 : r.length = known.length := by omega
        have e2 : r = known := by rw [i1, e1, List.take_length]
        rw [e2] at e hl hg
        rw [hE (by omega) g hg] at e
        cases e
    obtain ⟨t1, t2, t3⟩ := hT r.length hlt
    rw [← i1] at t2 t3
    have him := rcO_im t1 t2
    have hlt2 : l = known[r.length] ∧ t = imR Z (bk F C (n + r.length)) (n + r.length) (chL n c r) known[r.length] := by
      unfold rc2 at e
      rw [hg 0 (by omega), hg 1 (by omega)] at e
      rcases t3 with t3 | ⟨t3, t4⟩
      · rw [t3, him] at e
        simp only [Option.some.injEq, Prod.mk.injEq] at e
        exact ⟨e.1.symm, e.2.symm⟩
      · rw [t3, t4, him] at e
        simp only [Option.map_some, Option.some.injEq, Prod.mk.injEq] at e
        exact ⟨e.1.symm, e.2.symm⟩
    obtain ⟨rfl, rfl⟩ := hlt2
    rw [List.length_append, List.length_singleton]
    refine ⟨?_, hlt, fun s hs j hj hj2 => ?_, fun s hs b hb => ?_, ?_⟩
    · rw [← List.take_append_getElem hlt, ← i1]
    · unfold heal
      by_cases ej : j = r.length
      · subst ej; rw [if_pos rfl, ← i1]
      · rw [if_neg (bk_ne hC (by omega) (by omega) ej)]; exact i3 s hs j (by omega) hj2
    · unfold heal
      rw [if_neg (hb r.length (by omega))]
      exact i4 s hs b fun j hj => hb j (by omega)
    · rw [List.range_succ, List.map_append, List.sum_append, ← i5]
      simp only [List.map_cons, List.map_nil, List.sum_cons, List.sum_nil, Nat.add_zero]
      unfold rep
      rw [hg 0 (by omega), hg 1 (by omega), ← i1, List.getElem?_eq_getElem hlt, Option.getD_some]
end
end
end Go.Proofs.YtflanjcfkdjpjaaGreatDoor.Wal

/- Layer 13's laws: what is done to a device, where no side is gone and nothing was moved; fresh, again. -/
namespace Go.Proofs.YtflanjcfkdjpjaaGreatDoor.Wal
open Go Go.RowKit Go.Proofs.YtflanjcfkdjpjaaGreatDoor Dev Tab Rem Go.Maps Go.WideMaps Mir
set_option linter.unusedVariables false
section
variable {w0 w w' : World} {X Y Z : List Nat} {q c mm tb bb R s b : Nat} {pd : Nat → Nat} {S : Nat → Sd} {G : Nat → Bool}
theorem mg_chg (h : MG w0 Y mm tb bb q pd S G c R w) (hc : Chg (fun k => k ∈ Y) w w') : MG w0 Y mm tb bb q pd S G c R w' := by
  have hblk : ∀ k, k ∉ Y → k < w.heap.size → w'.heap[k]? = w.heap[k]? := fun k h1 h2 => hc.block k h2 h1
  obtain ⟨n, D, h1, h2, h3⟩ := h.map
  exact ⟨h.cg.chg (hc.mono (fun k _ hk => by simp [hk])), h.fit, Has.same h.row (hblk mm h.my.1 h.lt), Mir.tab_same h.tab (hblk tb h.my.2.1 (h.cg.x tb (by simp)).2), h.mt, h.my, n, D, h1, mapB_same h2 (hblk bb h.my.2.2 (h.cg.x bb (by simp)).2), h3⟩
end
/-! ### what is done to a device, where no side is gone and nothing was moved -/
/-- nothing was moved, and no sector is bad -/
structure Pl (S : Nat → Sd) : Prop where
  nb : NoBad S
  m : ∀ t, t < 2 → (S t).m = []
theorem Pl.pl {S : Nat → Sd} (h : Pl S) {t b : Nat} (ht : t < 2) : pl (S t) b = 4 + b := by
  unfold Rem.pl
  rw [h.m t ht]
  have : plc 16 [] (b : Int) = b := rfl
  rw [this]; omega
theorem Pl.st {S S' : Nat → Sd} {G : Nat → Bool} {b : Nat} {d : ByteArray} {P : Nat → Prop} (h : Pl S) (k : St S S' G b d P) : Pl S' := ⟨k.nb h.nb, fun t ht => (k.m0 h.nb t ht).trans (h.m t ht)⟩
theorem Pl.new {S : Nat → Sd} (h0 : New (S 0)) (h1 : New (S 1)) : Pl S := by
  refine ⟨fun t ht i hi hi2 => ?_, fun t ht => ?_⟩
  · rcases (show t = 0 ∨ t = 1 by omega) with rfl | rfl
    · exact (h0.2 i hi hi2).2
    · exact (h1.2 i hi hi2).2
  · rcases (show t = 0 ∨ t = 1 by omega) with rfl | rfl
    · exact h0.1
    · exact h1.1
/-- a sector has other bytes -/
def setV (S : Nat → Sd) (s i : Nat) (t : ByteArray) : Nat → Sd := setS S s (upd (S s).V i t) (S s).B
theorem setV_m (S : Nat → Sd) (s i : Nat) (t : ByteArray) (u : Nat) : (setV S s i t u).m = (S u).m := setS_m _ _ _ _ _
theorem setV_B (S : Nat → Sd) (s i : Nat) (t : ByteArray) (u : Nat) : (setV S s i t u).B = (S u).B := by
  unfold setV
  by_cases e : u = s
  · subst e; rw [setS_same]
  · rw [setS_ne _ _ _ e]
theorem Pl.setV {S : Nat → Sd} (h : Pl S) (s i : Nat) (t : ByteArray) : Pl (setV S s i t) := ⟨fun u hu j h1 h2 => by rw [setV_B]; exact h.nb u hu j h1 h2, fun u hu => by rw [setV_m]; exact h.m u hu⟩
theorem setV_cont {S : Nat → Sd} {G : Nat → Bool} (h : Pl S) {s u b b' : Nat} {t : ByteArray} (hu : u < 2) (hb : b' < 16) (hG : G u = false) : cont (setV S s (4 + b) t) G u b' = if u = s ∧ b' = b then some t else cont S G u b' := by
  have hp := (h.setV s (4 + b) t).pl (b := b') hu
  have hp' := h.pl (b := b') hu
  have hB := h.nb u hu (4 + b') (by omega) (by omega)
  unfold cont
  rw [hp, hp', setV_B, hB, hG]
  simp only [Bool.false_eq_true, or_self, if_false]
  by_cases e : u = s
  · subst e
    unfold Wal.setV
    rw [setS_same]
    show some (upd (S u).V (4 + b) t (4 + b')) = _
    by_cases eb : b' = b
    · subst eb; rw [upd_same, if_pos ⟨rfl, rfl⟩]
    · rw [upd_ne _ _ (by omega), if_neg (fun h => eb h.2)]
  · unfold Wal.setV
    rw [setS_ne _ _ _ e, if_neg (fun h => e h.1)]
theorem setV_fit {S : Nat → Sd} {G : Nat → Bool} (h : Fit S G) (s i : Nat) (t : ByteArray) : Fit (setV S s i t) G := by
  refine ⟨fun u hu j h1 h2 => ?_, ?_⟩
  · rw [setV_B]; rw [setV_m] at h1; exact h.1 u hu j h1 h2
  · rcases h.2 with h | h
    · exact .inl h
    · exact .inr (fun u hu j h1 h2 => by rw [setV_B]; exact h u hu j h1 h2)
section
variable {w0 w w' : World} {X Y Z : List Nat} {q c mm tb bb R s b : Nat} {pd : Nat → Nat} {S : Nat → Sd} {G : Nat → Bool}
theorem garble_g (h : CG w0 X q pd S G c w) (hs : s < 2) (hG : G s = false) {i : Nat} (hi4 : 4 ≤ i) (hi : i < 24) (hc : c ≤ 1000000) (a : Nat) (y : UInt8) (p : Nat) (hp : p = pd s) (v : Int) (hv : v = i) (u : Int) (hu : u = a) :
    Calls Tryz.prog 23 #[.pointer (some ⟨p, 0, none⟩), .int .i64 v, .int .i64 u, .int .u8 y.toNat] w fun e w' => e = .returned (.tuple #[]) ∧ CG w0 X q pd (setV S s i (turnB ((S s).V i) (a % 192) y)) G c w' ∧ Same X w w' := by
  subst hp; subst hv; subst hu
  obtain ⟨⟨D, h1, h2⟩, h3⟩ := h
  have hcd := h2 s hs
  refine (h1.dev (R := fun e => e = .returned (.tuple #[])) (G := fun E => E = (D s).garbleD (i : Nat) (a : Nat) y) hs fun sb cv hd => (garble_any (i : Nat) (a : Nat) y w hd (by have := hcd.cache; omega)).mono ?_).mono ?_
  · rintro e w' ⟨rfl, hch, hd⟩
    exact ⟨rfl, _, rfl, .same hch hd⟩
  · rintro e w' ⟨rfl, E, rfl, hc', hsm⟩
    rw [hG] at hcd
    have hcd : Cd (D s) 24 192 (S s).V (S s).B c := hcd
    have hE : SideG ((D s).garbleD (i : Nat) (a : Nat) y) ⟨upd (S s).V i (turnB ((S s).V i) (a % 192) y), (S s).B, (S s).m⟩ false c := Rem.Cd.garble hcd hi a y
    have := CPe.setG hc' h2 hE (Nat.le_refl _)
    rw [show upd G s false = G from by rw [← hG]; exact upd_self _ _] at this
    exact ⟨rfl, ⟨this, h3.setS (fun j hj => upd_ne _ _ (by omega)) (fun j hj => h3.2.1 s hs j hj)⟩, fun k hk => hsm k (by simp [hk])⟩
theorem garble_m (h : MG w0 Y mm tb bb q pd S G c R w) (hs : s < 2) (hG : G s = false) {i : Nat} (hi4 : 4 ≤ i) (hi : i < 24) (hc : c ≤ 1000000) (a : Nat) (y : UInt8) (p : Nat) (hp : p = pd s) (v : Int) (hv : v = i) (u : Int) (hu : u = a) :
    Calls Tryz.prog 23 #[.pointer (some ⟨p, 0, none⟩), .int .i64 v, .int .i64 u, .int .u8 y.toNat] w fun e w' => e = .returned (.tuple #[]) ∧ MG w0 Y mm tb bb q pd (setV S s i (turnB ((S s).V i) (a % 192) y)) G c R w' ∧ Same Y w w' :=
  (garble_g h.cg hs hG hi4 hi hc a y p hp v hv u hu).mono fun e w' ⟨h1, h2, h3⟩ => ⟨h1, h.go h2 h3 (setV_fit h.fit _ _ _) (fun t ht => by rw [setV_m]; omega) (Nat.le_refl _), same_y h3⟩
end
/-! ### fresh, again -/
theorem format_x {w0 w : World} {X : List Nat} {pa pb : Nat} (h : Dvs w0 X (pdOf pa pb) (fun _ => Dv.fresh 24 192) w) : Calls Tryz.prog 27 #[.pointer (some ⟨pa, 0, none⟩), .pointer (some ⟨pb, 0, none⟩), .int .i64 4] w fun e w' => ∃ q S, e = .returned (.tuple #[.pointer (some ⟨q, 0, none⟩), .int .i64 0]) ∧ CP w0 X q (pdOf pa pb) S 4 w' ∧ New (S 0) ∧ New (S 1) ∧ Same X w w' := by
  refine (format_e h (both00.sz (by omega))).mono ?_
  rintro e w' ⟨q, rfl, hq, hc, hsm⟩
  obtain ⟨k0, k1⟩ := both00.keepBoth (m := fun _ => []) (fun _ _ => good0)
  obtain ⟨s1, s2⟩ := slots2 (S := S00) (m := fun _ => []) (fun _ _ => good0) (fun _ _ _ _ => rfl) (fun t ht => Below_.fresh (fun _ _ _ _ => rfl) ht)
  rw [k0]
  have hmm : (fun _ => ([] : List Int)) = mOf (kept (kept S00 0 []) 1 []) := by rw [mOf_kept, mOf_kept]; funext t; unfold upd mOf S00; split <;> (try split) <;> rfl
  refine ⟨q, kept (kept S00 0 []) 1 [], rfl, (k1.cp (by rw [← hmm]; exact hc) s1).mono (by omega), ⟨s2 0 (by omega), fun i h1 h2 => ?_⟩, ⟨s2 1 (by omega), fun i h1 h2 => ?_⟩, hsm⟩
  · refine ⟨?_, ?_⟩
    · rw [(kept_far (s := 1) (by omega) (by omega)).1 i h1, (kept_far (s := 0) (by omega) (by omega)).1 i h1]; rfl
    · rw [(kept_far (s := 1) (by omega) (by omega)).2.1, (kept_far (s := 0) (by omega) (by omega)).2.1]; rfl
  · refine ⟨?_, ?_⟩
    · rw [(kept_far (s := 1) (by omega) (by omega)).1 i h1, (kept_far (s := 0) (by omega) (by omega)).1 i h1]; rfl
    · rw [(kept_far (s := 1) (by omega) (by omega)).2.1, (kept_far (s := 0) (by omega) (by omega)).2.1]; rfl
set_option maxHeartbeats 2000000 in
set_option maxRecDepth 100000 in
theorem fresh_any (w : World) : Calls Tryz.prog 7 #[] w fun e w' => ∃ pa pb mm tb bb q S, e = .returned (.tuple #[.agg #[.pointer (some ⟨pa, 0, none⟩), .pointer (some ⟨pb, 0, none⟩)], .pointer (some ⟨mm, 0, none⟩), .bool true]) ∧ MG w [] mm tb bb q (pdOf pa pb) S noG 4 0 w' ∧ New (S 0) ∧ New (S 1) := by
  have HB0 := Lib.hid (b_new w (.cells #[.pointer none, .pointer none] 26))
  have HH0 := Lib.hid (Has.new w [.pointer none, .pointer none] 26)
  go_enter Tryz.func7, Tryz.ntmps7
  go_wp2_with fail
  refine (new_yes 24 192 _ rfl).mono ?_
  rintro e w1 ⟨pa, sa, hpa, hsa, rfl, hd, hb⟩
  have HD := Lib.hid hd
  have HB := Lib.hid hb
  have HPA := Lib.hid (And.intro hpa hsa)
  clear hd hb hpa hsa
  go_wp2_with fail
  refine (new_yes 24 192 w1 rfl).mono ?_
  rintro e w2 ⟨pb, sb, hpb, hsb, rfl, hd, hb⟩
  obtain ⟨p, hp⟩ : ∃ p, p = w.heap.size := ⟨_, rfl⟩
  have hszp : p < w1.heap.size := by have := HB.out.size; simp at this; omega
  have HT := Lib.hid (show Dvs w [p] (pdOf pa pb) (fun _ => Dv.fresh 24 192) w2 from by
    have h0 := HB0.out.size
    have h1 := HB.out.size
    have h2 := hb.size
    have hs0 : (w.alloc (.cells #[.pointer none, .pointer none] 26)).heap.size = p + 1 := by simp [hp]
    rw [hs0] at h1
    obtain ⟨ha, hsa⟩ := HPA.out
    rw [hs0] at ha hsa
    refine ⟨⟨pdOf sa sb, fun _ => .slice none 0 0, fun s hs => ?_, fun s hs k hk => ?_, fun k hk hk2 => ?_⟩, fun k hk => ?_, HB0.out.trans ((HB.out.trans (hb.mono (by rw [hs0]; exact h1))).mono h0)⟩
    · rcases (show s = 0 ∨ s = 1 by omega) with rfl | rfl
      · exact HD.out.below hb (Nat.le_refl _)
      · exact hd
    · rw [List.mem_singleton]
      rcases (show s = 0 ∨ s = 1 by omega) with rfl | rfl
      · have hk : foot pa sa (.slice none 0 0) k := hk
        rcases hk with rfl | rfl | h
        · omega
        · omega
        · cases h
      · have hk : foot pb sb (.slice none 0 0) k := hk
        rcases hk with rfl | rfl | h
        · omega
        · omega
        · cases h
    · have hk : foot pa sa (.slice none 0 0) k := hk
      have hk2 : foot pb sb (.slice none 0 0) k := hk2
      have hlt := HD.out.lt k hk
      rcases hk2 with rfl | rfl | h
      · omega
      · omega
      · cases h
    · rw [List.mem_singleton] at hk; subst hk; omega)
  have HH2 := Lib.hid ((HH0.out.below HB.out (by simp)).below hb (by rw [← hp]; exact hszp))
  rw [← hp] at HH2
  clear hd hb HD HB HPA HB0 HH0 hpb hsb
  go_wp2_with fail
  refine (format_x HT.out).mono ?_
  rintro e w3 ⟨q, S, rfl, hc, h0, h1, hsm⟩
  have HC := Lib.hid hc
  have HH3 := Lib.hid (Has.same HH2.out (hsm p (by simp)))
  have H0 := Lib.hid h0
  have H1 := Lib.hid h1
  clear hc h0 h1 hsm HT HH2
  go_wp2_with fail
  refine (New_m HC.out (fun t ht => by
    rcases (show t = 0 ∨ t = 1 by omega) with rfl | rfl
    · exact H0.out.spare
    · exact H1.out.spare)).mono ?_
  rintro e w4 ⟨mm, tb, bb, rfl, hm, hsm⟩
  have HM := Lib.hid hm
  have HH4 := Lib.hid (Has.same HH3.out (hsm p (by simp)))
  have e0 := HH4.out.cell 0
  have e1 := HH4.out.cell 1
  simp only [List.getElem?_cons_zero, List.getElem?_cons_succ] at e0 e1
  have f0 := Has.frozen HH4.out 0
  have f1 := Has.frozen HH4.out 1
  have h2 := (HH4.out.set 0 (.pointer (some ⟨pa, 0, none⟩))).set 1 (.pointer (some ⟨pb, 0, none⟩))
  have r0 := h2.cell 0
  have r1 := h2.cell 1
  simp only [List.set_cons_zero, List.set_cons_succ, List.getElem?_cons_zero, List.getElem?_cons_succ] at r0 r1
  have HM5 := Lib.hid ((mg_chg HM.out (((Chg.refl _ w4).setCell (p := ⟨p, 0, none⟩) (fun _ => by simp) (.pointer (some ⟨pa, 0, none⟩))).setCell (p := ⟨p, 1, none⟩) (fun _ => by simp) (.pointer (some ⟨pb, 0, none⟩)))).sub (Z := []) (by simp))
  rw [hp] at e0 e1 f0 f1 r0 r1 HM5
  clear h2 hm hsm hszp
  go_wp2
  refine bodyPost_ret (v := .tuple #[.agg #[.pointer (some ⟨pa, 0, none⟩), .pointer (some ⟨pb, 0, none⟩)], .pointer (some ⟨mm, 0, none⟩), .bool true]) (by simp [results, Tryz.results7, go_sem, r0, r1]) rfl ⟨pa, pb, mm, tb, bb, q, S, rfl, HM5.out, H0.out, H1.out⟩
set_option maxHeartbeats 2000000 in
set_option maxRecDepth 100000 in
/-- the devices' mirror anew: what it reads is what it was -/
theorem again_any {w0 w : World} {X : List Nat} {q c pa pb : Nat} {S : Nat → Sd} (h : CP w0 X q (pdOf pa pb) S c w) (hS : ∀ t, t < 2 → Spare (S t)) (hc : c ≤ 700000) : Calls Tryz.prog 13 #[.agg #[.pointer (some ⟨pa, 0, none⟩), .pointer (some ⟨pb, 0, none⟩)]] w fun e w' => ∃ mm tb bb q', e = .returned (.tuple #[.pointer (some ⟨mm, 0, none⟩), .bool true]) ∧ MG w0 X mm tb bb q' (pdOf pa pb) S noG c 0 w' ∧ Same X w w' := by
  have HC := Lib.hid h
  have HS := Lib.hid hS
  have HB0 := Lib.hid (b_new w (.cells #[.pointer (some ⟨pa, 0, none⟩), .pointer (some ⟨pb, 0, none⟩)] 26))
  have HC1 := Lib.hid (h.later HB0.out)
  have HS1 := Lib.hid (Same.of_below h HB0.out)
  have HL := Lib.hid hc
  have HH0 := Has.new w [.pointer (some ⟨pa, 0, none⟩), .pointer (some ⟨pb, 0, none⟩)] 26
  have e0 := HH0.cell 0
  have e1 := HH0.cell 1
  simp only [List.getElem?_cons_zero, List.getElem?_cons_succ] at e0 e1
  clear h hS hc HH0
  go_enter Tryz.func13, Tryz.ntmps13
  go_wp2_with fail
  refine (open_c HC1.out (by have := HL.out; omega)).mono ?_
  rintro e w2 ⟨q', P, rfl, hc2, hp, hsm⟩
  have HC2 := Lib.hid (hc2.sub (Y := X) (fun k hk => List.mem_append_right _ hk))
  have HS2 := Lib.hid (HS1.out.trans hsm)
  clear hc2 hp hsm e0 e1
  go_wp2_with fail
  refine (New_m HC2.out HS.out).mono ?_
  rintro e w3 ⟨mm, tb, bb, rfl, hm, hsm⟩
  have HM := Lib.hid hm
  have HS3 := Lib.hid (HS2.out.trans hsm)
  clear hm hsm
  go_wp2
  refine bodyPost_ret (v := .tuple #[.pointer (some ⟨mm, 0, none⟩), .bool true]) (by simp [results, Tryz.results13, go_sem]) rfl ⟨mm, tb, bb, q', rfl, HM.out, HS3.out⟩
end Go.Proofs.YtflanjcfkdjpjaaGreatDoor.Wal

/- Layer 13's laws: updates. -/
namespace Go.Proofs.YtflanjcfkdjpjaaGreatDoor.Wal
open Go Go.RowKit Go.Proofs.YtflanjcfkdjpjaaGreatDoor Go.Proofs.YtflanjcfkdjpjaaGreatDoor.Lend Rec
set_option linter.unusedVariables false
/-- a row of the document's updates -/
abbrev RU (w : World) (base : Nat) (v : Value) (l : List Up) : Prop := w.ownsRow base 101 4 v l.length (flatU l)
theorem info_ur : (Tryz.prog.info? 101).map (fun i => (i.zero, i.size, i.bytes)) = some (some (.agg #[.int .u8 0, .string ⟨#[]⟩, .string ⟨#[]⟩, .int .u64 0]), 4, 48) := by kernel_rfl
/-- an update, cut off -/
def ctU (u : Up) : Up := ⟨u.kind, u.key.take 20, u.val.take 36, u.delta⟩
def ofL (l : List Up) : List Up := (l.take 5).map ctU
theorem ofL_length (l : List Up) : (ofL l).length = min 5 l.length := by simp [ofL]
theorem ofL_wf {l : List Up} (h : ∀ u ∈ l, WfU u) : ∀ u ∈ ofL l, WfU u := by
  intro u hu
  obtain ⟨x, hx, rfl⟩ := List.mem_map.1 hu
  exact h x (List.mem_of_mem_take hx)
/-- texts that a machine can hold -/
def SzU (u : Up) : Prop := u.key.length ≤ 9223372036854775807 ∧ u.val.length ≤ 9223372036854775807
/-- what updates answers -/
def lenP (m : List Up) : Int := if m = [] then 0 else ((txT m).length : Int)
def errP (m : List Up) : Int := if m = [] then 2 else errL m
def UpsP (w : World) (m : List Up) (e : Ending) (w' : World) : Prop := ∃ a, e = .returned (.tuple #[a, .int .i64 (lenP m), .int .i64 (errP m)]) ∧ RA w' w.heap.size a m ∧ Below w.heap.size w w'
theorem ra_ru {w : World} {B B' : Nat} {v v' : Value} {l l' : List Up} (h : RA w B v l) (h' : RU w B' v' l') : ∀ k, v.ownBlock = some k → v'.ownBlock ≠ some k := by
  intro k hk hk'
  rcases h.2 with ⟨rfl, _⟩ | ⟨g, cap, cur, rfl, _, hg, _⟩
  · cases hk
  · rcases h'.2 with ⟨rfl, _⟩ | ⟨g', cap', cur', rfl, _, hg', _⟩
    · cases hk'
    · have e1 : g = k := by simpa [Value.ownBlock] using hk
      have e2 : g' = k := by simpa [Value.ownBlock] using hk'
      subst e1 e2
      rw [hg] at hg'
      simp at hg'
/-- both rows, and the update's block -/
structure Ox (w0 : World) (av bv : Value) (m : List Up) (w : World) : Prop where
  ra : RA w w0.heap.size av m
  ru : RU w w0.heap.size bv m
  bel : Below w0.heap.size w0 w
theorem Ox.on {w0 w w' : World} {av bv : Value} {m : List Up} (h : Ox w0 av bv m w) (hb : Below w.heap.size w w') : Ox w0 av bv m w' := ⟨own_bel h.ra hb, own_bel h.ru hb, below_on h.bel hb⟩
theorem Ox.set {w0 w : World} {av bv : Value} {m : List Up} (h : Ox w0 av bv m w) {X : Nat} (hX : w0.heap.size ≤ X) (ha : ∀ k, av.ownBlock = some k → k < X) (hb : ∀ k, bv.ownBlock = some k → k < X) (i : Nat) (x : Value) : Ox w0 av bv m (w.setCell ⟨X, i, none⟩ x) :=
  ⟨owns_same h.ra fun k e => Below.heap_setCell _ _ _ _ (fun e2 => by have h1 := ha k e; subst e2; exact Nat.lt_irrefl _ h1), owns_same h.ru fun k e => Below.heap_setCell _ _ _ _ (fun e2 => by have h1 := hb k e; subst e2; exact Nat.lt_irrefl _ h1), h.bel.setCell hX x⟩
theorem ofL_snoc {l : List Up} {k : Nat} (hk : k < l.length) (h : k < 5) : ofL (l.take (k + 1)) = ofL (l.take k) ++ [ctU l[k]] := by
  unfold ofL
  rw [List.take_take, List.take_take, Nat.min_eq_right (by omega), Nat.min_eq_right (by omega), List.take_succ_eq_append_getElem hk, List.map_append]
  rfl
/-- what holds while the update is cut off -/
def Hx (w0 : World) (av bv : Value) (m : List Up) (X : Nat) (kd : Int) (K V : ByteArray) (dl : Int) (w : World) : Prop := Has w X 100 [.int .u8 kd, .string K, .string V, .int .u64 dl] ∧ Ox w0 av bv m w
theorem below_drw (w : World) : Below w.heap.size w w.drew := (Below.refl _ _).drew
theorem takeN (n : Nat) (x : List UInt8) : (Lend.strOf x).extract 0 (min (Lend.strOf x).size n) = Lend.strOf (x.take n) := by
  apply Lend.strOf_ext
  rw [Lib.extract_data, Lend.strOf_data, List.drop_zero, Nat.sub_zero, ssize, List.take_eq_take_iff]; omega
end Go.Proofs.YtflanjcfkdjpjaaGreatDoor.Wal

