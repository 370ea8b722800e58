/-
  The law DevPlays holds: whatever is written, flushed and read, whatever faults there are, and wherever the power fails, the answers, what lasts, and what was counted, are the document's. Conditions: none but the row's own.
-/
import Derived.Test.YtlnocdmechidfaaRows
import Derived.Test.YtlnocdmechidfaaRefDevP
import Derived.Deep.DeepCutAuto
import Derived.BigQuiet
import Derived.Deep.QuietTactic
import Derived.Test.YtlnocdmechidfaaRegionV
import Derived.Test.YtlnocdmechidfaaStructs
import Derived.WalkKit
import Derived.ProofKit
import Derived.OpenShut
import Derived.ShutString
import Derived.ChangeOld
import Derived.Below
import Derived.Carry
namespace Go.Proofs.Ytlnocdmechidfaa.devPlays
open Go.ChangeShapes Go.WideShapes Go.ChangeAt Go.RowKit
open Go.Proofs.Ytlnocdmechidfaa
open Go.ChangeMaps (open_string shut_string)
set_option linter.unusedVariables false

theorem own : ownKnob Try.prog.godebug = none := by kernel_rfl
theorem laidOut : laidOutB Try.prog = true := by kernel_rfl

/-- the elements of argument 0 -/
def AR0 (w : World) (a : Option Addr) (len : Nat) : Prop := 0 < len → ∃ b off, a = some ⟨b, off, none⟩ ∧ ∀ i, i < len → ∃ (x0 : Int) (x1 : Int) (x2 : Int) (x3 : ByteArray) (x4 : Option Addr) (x4l x4c : Nat) (x4z : List Int), w.cell? ⟨b, off + (i * 5 + 0), none⟩ = some (.int .i64 x0) ∧ (Lit.int .i64 x0).wf = true ∧ w.cell? ⟨b, off + (i * 5 + 1), none⟩ = some (.int .i64 x1) ∧ (Lit.int .i64 x1).wf = true ∧ w.cell? ⟨b, off + (i * 5 + 2), none⟩ = some (.int .i64 x2) ∧ (Lit.int .i64 x2).wf = true ∧ w.cell? ⟨b, off + (i * 5 + 3), none⟩ = some (.string x3) ∧ x3.size ≤ maxLen ∧ w.cell? ⟨b, off + (i * 5 + 4), none⟩ = some (.slice x4 x4l x4c) ∧ (Row .i64 w x4 x4l x4z ∧ x4l ≤ x4c ∧ x4c ≤ maxLen ∧ ∀ n ∈ x4z, (Lit.int .i64 n).wf = true)
theorem open_AR0 {H : Type} {enc : TypeId × Value → H} {w : World} {held : Bool} {c : Value} (h : ∃ m y, DataW.trod enc Try.prog w 0 (fun _ => true) held m 22 [c] = some y) :
    ∃ a len cap, c = .slice a len cap ∧ AR0 w a len ∧ len ≤ cap ∧ cap ≤ maxLen := by
  obtain ⟨a, len, cap, hc, hl, hm, hx⟩ := open_structs Try.underlying22 Try.underlying34 (by kernel_rfl) (by kernel_rfl) (by decide) h
  refine ⟨a, len, cap, hc, fun hpos => ?_, hl, hm⟩
  obtain ⟨b, off, ha, hf⟩ := hx hpos
  refine ⟨b, off, ha, fun i hi => ?_⟩
  obtain ⟨v0, hc0, ht0⟩ := hf i hi 0 _ rfl
  obtain ⟨x0, rfl, hw0⟩ := open_int_cell Try.underlying3 ht0
  obtain ⟨v1, hc1, ht1⟩ := hf i hi 1 _ rfl
  obtain ⟨x1, rfl, hw1⟩ := open_int_cell Try.underlying3 ht1
  obtain ⟨v2, hc2, ht2⟩ := hf i hi 2 _ rfl
  obtain ⟨x2, rfl, hw2⟩ := open_int_cell Try.underlying3 ht2
  obtain ⟨v3, hc3, ht3⟩ := hf i hi 3 _ rfl
  obtain ⟨x3, rfl, hw3⟩ := open_str_cell Try.underlying9 ht3
  obtain ⟨v4, hc4, ht4⟩ := hf i hi 4 _ rfl
  obtain ⟨x4, x4l, x4c, x4z, rfl, hw4⟩ := open_ints_cell Try.underlying32 Try.underlying3 (by kernel_rfl) ht4
  exact ⟨x0, x1, x2, x3, x4, x4l, x4c, x4z, hc0, hw0, hc1, hw1, hc2, hw2, hc3, hw3, hc4, hw4⟩

open Go.Proofs.Ytlnocdmechidfaa.Dev
theorem run_minc (P : Program) (w : World) (t : TypeId) (ts : Array TypeId) (a c : Nat) : (Builtin.min_ ts t #[.int .i64 (a : Nat), .int .i64 (c : Nat)]).run P w = .ok (.int .i64 ((min a c : Nat) : Int)) w := by
  have e : ∀ a b : Nat, (if (b : Int) < a then (b : Int) else a) = ((min a b : Nat) : Int) := by intro a b; split <;> omega
  simp only [Builtin.min_, Builtin.min2, List.foldlM, Sem.run_bind, Sem.run_pure, Result.andThen]
  rw [e]
def DuetB (ab : Nat) (cs : List Value) (w0 : World) (p m : Nat) (D D' : Dv) (b c : Bool) (w : World) : Prop := Duet ab cs w0 p m (if b then D' else D) (if c then D' else D) w
theorem DuetB.later {ab : Nat} {cs : List Value} {w0 w w' : World} {p m : Nat} {D D' : Dv} {b c : Bool} (h : DuetB ab cs w0 p m D D' b c w) (hb : Below w.heap.size w w') : DuetB ab cs w0 p m D D' b c w' := Duet.later h hb
theorem DuetB.cell {ab : Nat} {cs : List Value} {w0 w : World} {p m : Nat} {D D' : Dv} {b c : Bool} (h : DuetB ab cs w0 p m D D' b c w) (i : Nat) : w.cell? ⟨ab, i, none⟩ = cs[i]? := h.2.cell i
theorem write_bd {ab : Nat} {cs : List Value} {w0 w : World} {p m : Nat} {D : Dv} {i : Int} {s : ByteArray} {c : Bool} (h : DuetB ab cs w0 p m D (D.writeD i s) false c w) (hl : D.cache.length ≤ 60) (hs : s.size ≤ 1000000000) :
    Calls Try.prog 7 #[.pointer (some ⟨p, 0, none⟩), .int .i64 i, .string s] w fun e w' => e = .returned (.int .i64 (D.writeE i s)) ∧ DuetB ab cs w0 p m D (D.writeD i s) true c w' :=
  write_d (D := D) h (by omega) hs
theorem write_br {ab : Nat} {cs : List Value} {w0 w : World} {p m : Nat} {D : Dv} {i : Int} {s : ByteArray} {b : Bool} (h : DuetB ab cs w0 p m D (D.writeD i s) b false w) (hl : D.cache.length ≤ 60) (hs : s.size ≤ 1000000000) :
    Calls Try.prog 9 #[.pointer (some ⟨m, 0, none⟩), .int .i64 i, .string s] w fun e w' => e = .returned (.int .i64 (D.writeE i s)) ∧ DuetB ab cs w0 p m D (D.writeD i s) b true w' :=
  write_r (E := D) h (by omega) hs
def StrayB (ab : Nat) (cs : List Value) (w0 : World) (p m : Nat) (D : Dv) (ln : Nat) (x : Int) (b c : Bool) (w : World) : Prop := Duet ab cs w0 p m { D with stray := ln, tgt := x } { D with stray := if b then ln else D.stray, tgt := if c then x else D.tgt } w
theorem StrayB.six {ab : Nat} {cs : List Value} {w0 w : World} {p m : Nat} {D : Dv} {ln : Nat} {x : Int} {c : Bool} (h : StrayB ab cs w0 p m D ln x false c w) (hl : ln ≤ 9223372036854775807) : StrayB ab cs w0 p m D ln x true c (w.setCell ⟨m, 6, none⟩ (.int .i64 (ln : Int))) :=
  Duet.set h 6 _ (fun B rv => rfl) rfl rfl (fun ok => ⟨ok.n8, ok.n4096, ok.s128, ok.s1024, ok.media, ok.text, ok.sector, ok.fuse, ok.lose, hl⟩)
theorem StrayB.seven {ab : Nat} {cs : List Value} {w0 w : World} {p m : Nat} {D : Dv} {ln : Nat} {x : Int} {b : Bool} (h : StrayB ab cs w0 p m D ln x b false w) : StrayB ab cs w0 p m D ln x b true (w.setCell ⟨m, 7, none⟩ (.int .i64 x)) :=
  Duet.set h 7 _ (fun B rv => rfl) rfl rfl (fun ok => ⟨ok.n8, ok.n4096, ok.s128, ok.s1024, ok.media, ok.text, ok.sector, ok.fuse, ok.lose, ok.stray⟩)

/-! ### STEP 1: THE WALK -/
set_option maxHeartbeats 8000000 in
set_option maxRecDepth 100000 in
theorem walk (a0 : Option Addr) (a0l a0c : Nat) (w : World) (w0 : AR0 w a0 a0l) (w0l : a0l ≤ a0c) (w0m : a0c ≤ maxLen) :
    Calls Try.prog 3 #[.slice a0 a0l a0c] w fun e w' => e = .returned (.bool true) ∧ Below w.heap.size w w' := by
  have HZ := Lib.hid (by decide : shapeR 9 128 = true)
  go_enter Try.func3, Try.ntmps3
  go_wp2_with fail
  refine (new_yes 9 128 _ HZ.out).mono ?_
  rintro e w1 ⟨p, sb, hp, hsb, rfl, hd1, hb1⟩
  have HP := Lib.hid hp
  have HSB := Lib.hid hsb
  have HD1 := Lib.hid hd1
  have HB1 := Lib.hid hb1
  clear hp hsb hd1 hb1
  go_wp2_with fail
  refine (refnew_any _).mono ?_
  rintro e w2 ⟨m, B, hm, hmb, hbb, rfl, hr2, hb2⟩
  have HP2 := Lib.hid (Pair.start HP.out HSB.out rfl HD1.out HB1.out hm hmb hbb rfl hr2 hb2)
  clear hm hmb hbb hr2 hb2 HP HSB HD1 HB1
  go_wp2_with fail
  refine (wakes_any _).mono ?_
  rintro e w3 ⟨rfl, hb3⟩
  have HP3 := Lib.hid (HP2.out.later hb3)
  clear hb3 HP2
  obtain ⟨n, hn⟩ : ∃ n, n = min a0l 60 := ⟨_, rfl⟩
  have hmin : ∀ W ts, (Builtin.min_ ts 3 #[.int .i64 (a0l : Nat), .int .i64 60]).run Try.prog W = .ok (.int .i64 (n : Int)) W := by
    intro W ts; rw [hn]; exact run_minc _ _ _ _ a0l 60
  have hnl : n ≤ a0l := by omega
  have hnl' : n ≤ a0c := by omega
  have hn60 : n ≤ 60 := by omega
  clear hn
  go_wp2_with fail
  clear hmin
  have hfresh : (Dv.fresh 9 128).n = 9 := rfl
  go_loopw [37] (fun i wr => ∃ (t : Nat) (D : Dv), t ≤ n ∧ i = .int .i64 t ∧ D.n = 9 ∧ D.cache.length ≤ t ∧ Pair (fun _ => False) w p m D D wr) (fun i _ => n - (intOf i).toNat)
  case atStart => exact ⟨0, _, Nat.zero_le _, rfl, hfresh, Nat.zero_le _, HP3.out⟩
  case round =>
    obtain ⟨t, D, ht, rfl, h9, hlen, hpair⟩ := hrel
    clear HP3 hfresh
    by_cases hlt : t < n
    · have hti : (t : Int) < (n : Int) := by omega
      obtain ⟨ab, off, rfl, hel⟩ := w0 (by omega)
      obtain ⟨x0, x1, x2, x3, x4, x4l, x4c, x4z, d0, f0, d1, f1, d2, f2, d3, f3, d4, f4⟩ := hel t (by omega)
      have hbel := hpair.below
      have c0 : wr.cell? ⟨ab, off + t * 5, none⟩ = some (.int .i64 x0) := (hbel.cell (World.block_lt_of_cell? _ _ d0)).trans d0
      have c1 : wr.cell? ⟨ab, off + t * 5 + 1, none⟩ = some (.int .i64 x1) := by rw [Nat.add_assoc, hbel.cell (World.block_lt_of_cell? _ _ d1)]; exact d1
      have c2 : wr.cell? ⟨ab, off + t * 5 + 2, none⟩ = some (.int .i64 x2) := by rw [Nat.add_assoc, hbel.cell (World.block_lt_of_cell? _ _ d2)]; exact d2
      have c3 : wr.cell? ⟨ab, off + t * 5 + 3, none⟩ = some (.string x3) := by rw [Nat.add_assoc, hbel.cell (World.block_lt_of_cell? _ _ d3)]; exact d3
      have c4 : wr.cell? ⟨ab, off + t * 5 + 4, none⟩ = some (.slice x4 x4l x4c) := by rw [Nat.add_assoc, hbel.cell (World.block_lt_of_cell? _ _ d4)]; exact d4
      obtain ⟨hrow, hxl, hxm, hxw⟩ := f4
      have HROW := Lib.hid hrow
      have HXW := Lib.hid hxw
      have HF2 := Lib.hid (bounds_i64 f2)
      clear d0 d1 d2 d3 d4 f0 f1 f2 hel hbel hrow hxw
      obtain ⟨dl, hdl⟩ : ∃ x, x = min x3.size 140 := ⟨_, rfl⟩
      have hmin3 : min (x3.size : Int) 140 = (dl : Int) := by omega
      have hdl1 : dl ≤ x3.size := by omega
      have hdl2 : dl ≤ 140 := by omega
      have hdl3 : (dl : Int) ≤ (x3.size : Int) := by omega
      obtain ⟨M, hM⟩ : ∃ M : Nat, M = (max 0 x0).toNat := ⟨_, rfl⟩
      have hmax : max (0 : Int) x0 = (M : Int) := by omega
      obtain ⟨q, hq⟩ : ∃ q : Nat, q = M % 12 := ⟨_, rfl⟩
      have hq12 : q < 12 := by omega
      have hmod : Int.tmod (M : Int) 12 = (q : Int) := by rw [hq]; rfl
      have HDU := Lib.hid (⟨hpair.new _, Has.new wr [.int .i64 x0, .int .i64 x1, .int .i64 x2, .string x3, .slice x4 x4l x4c] 34⟩ : Duet wr.heap.size [.int .i64 x0, .int .i64 x1, .int .i64 x2, .string x3, .slice x4 x4l x4c] w p m D D (wr.alloc (.cells #[.int .i64 x0, .int .i64 x1, .int .i64 x2, .string x3, .slice x4 x4l x4c] 34)))
      clear hM hq hdl hpair
      obtain ⟨data, hdata⟩ : ∃ x, x = x3.extract 0 dl := ⟨_, rfl⟩
      have hds : data.size ≤ 140 := by rw [hdata]; simp; omega
      have HDATA := Lib.hid hdata
      clear hdata
      obtain ⟨cs, hcs⟩ : ∃ cs : List Value, cs = [.int .i64 x0, .int .i64 x1, .int .i64 x2, .string x3, .slice x4 x4l x4c] := ⟨_, rfl⟩
      obtain ⟨b2, hb2⟩ : ∃ b2, b2 = wr.heap.size := ⟨_, rfl⟩
      obtain ⟨W, hW⟩ : ∃ W, W = wr.alloc (.cells #[.int .i64 x0, .int .i64 x1, .int .i64 x2, .string x3, .slice x4 x4l x4c] 34) := ⟨_, rfl⟩
      rw [← hb2, ← hW, ← hcs] at HDU
      have HCS := Lib.hid hcs
      have HB2 := Lib.hid hb2
      have HWW := Lib.hid hW
      clear hcs hb2 hW
      go_upto_block 2 with fail
      rw [← HDATA.out, ← HWW.out, ← HB2.out]
      clear c0 c1 c2 c3 c4
      go_cut [9] (fun x wx => x = .bool true ∧ ∃ D', D'.n = 9 ∧ D'.cache.length ≤ D.cache.length + 1 ∧ Pair (fun k => k = b2) w p m D' D' wx)
      case first =>
        have hlen2 : D.cache.length ≤ 60 := by omega
        have c0 : W.cell? ⟨b2, 0, none⟩ = some (.int .i64 x0) := by rw [HDU.out.2.cell, HCS.out]; rfl
        have c1 : W.cell? ⟨b2, 1, none⟩ = some (.int .i64 x1) := by rw [HDU.out.2.cell, HCS.out]; rfl
        have c2 : W.cell? ⟨b2, 2, none⟩ = some (.int .i64 x2) := by rw [HDU.out.2.cell, HCS.out]; rfl
        have c4 : W.cell? ⟨b2, 4, none⟩ = some (.slice x4 x4l x4c) := by rw [HDU.out.2.cell, HCS.out]; rfl
        have HC1 := Lib.hid (show ∀ X E F, Duet b2 cs w p m E F X → X.cell? ⟨b2, 1, none⟩ = some (.int .i64 x1) from fun X E F h => by rw [h.2.cell, HCS.out]; rfl)
        have HC2 := Lib.hid (show ∀ X E F, Duet b2 cs w p m E F X → X.cell? ⟨b2, 2, none⟩ = some (.int .i64 x2) from fun X E F h => by rw [h.2.cell, HCS.out]; rfl)
        have HH9 := Lib.hid h9
        have hq' : q = 0 ∨ q = 1 ∨ q = 2 ∨ q = 3 ∨ q = 4 ∨ q = 5 ∨ q = 6 ∨ q = 7 ∨ q = 8 ∨ q = 9 ∨ q = 10 ∨ q = 11 := by omega
        clear hq12 h9
        rcases hq' with rfl | rfl | rfl | rfl | rfl | rfl | rfl | rfl | rfl | rfl | rfl | rfl
        · -- 0: Write
          replace hmod : Int.tmod (M : Int) 12 = 0 := hmod
          obtain ⟨fd, hfd⟩ : ∃ fd, fd = fullN data := ⟨_, rfl⟩
          have hfs : fd.size ≤ 1000000000 := by rw [hfd, fullN_size]; omega
          have HFD := Lib.hid hfd
          clear hfd
          obtain ⟨E, hE⟩ : ∃ E, E = D.writeE x1 fd := ⟨_, rfl⟩
          have HE := Lib.hid hE
          have H0 := Lib.hid (show DuetB b2 cs w p m D (D.writeD x1 fd) false false W.drew from Duet.later HDU.out ⟨rfl, rfl, rfl, Nat.le_refl _, fun _ _ => rfl⟩)
          have HC1' := Lib.hid (show cs[1]? = some (.int .i64 x1) by rw [HCS.out]; rfl)
          clear hE
          go_wp2_with fail
          refine Reg.region_vals (by kernel_rfl) [(55, .pointer (some ⟨p, 0, none⟩)), (56, .pointer (some ⟨b2, 1, none⟩)), (57, .int .i64 x1), (58, .string data), (59, .string fd), (60, .int .i64 E), (61, .pointer (some ⟨m, 0, none⟩)), (62, .pointer (some ⟨b2, 1, none⟩)), (63, .int .i64 x1), (64, .string data), (65, .string fd), (66, .int .i64 E), (67, .bool true), (9, .bool true)] (fun l wx => DuetB b2 cs w p m D (D.writeD x1 fd) (l 5) (l 11) wx) (by kernel_rfl) (by kernel_rfl) (by kernel_rfl) (H0.out) ⟨?_, ?_, ?_, ?_, ?_, ?_, ?_, ?_, ?_, ?_, ?_, ?_, ?_, ?_, trivial⟩ ?hend
          · -- 0: 55 := Op.move t3
            intro aq wq lq hI hl hdone hlater hold hd ho
            have h3 : aq.tmps.getD 3 undef = .pointer (some ⟨p, 0, none⟩) := ho 3 (by kernel_rfl)
            clear hd ho hdone hlater hold
            exact Reg.step2_move (.tmp 3) rfl h3 hI trivial
          · -- 1: 56 := Op.fieldAddr 34 t7 1
            intro aq wq lq hI hl hdone hlater hold hd ho
            have h7 : aq.tmps.getD 7 undef = .pointer (some ⟨b2, 0, none⟩) := ho 7 (by kernel_rfl)
            clear hd ho hdone hlater hold
            rw [Array.getD_eq_getD_getElem?] at h7
            refine Reg.step2_val (.pointer (some ⟨b2, 1, none⟩)) ?_ rfl hI trivial
            go_simp
          · -- 2: 57 := Op.load 3 t56
            intro aq wq lq hI hl hdone hlater hold hd ho
            have h56 : aq.tmps.getD 56 undef = .pointer (some ⟨b2, 1, none⟩) := hd 56 (by kernel_rfl)
            clear hd ho hdone hlater hold
            rw [Array.getD_eq_getD_getElem?] at h56
            have e0 := hI.cell 1
            rw [HC1'.out] at e0
            refine Reg.step2_val (.int .i64 x1) ?_ rfl hI trivial
            go_simp
          · -- 3: 58 := Op.move t8
            intro aq wq lq hI hl hdone hlater hold hd ho
            have h8 : aq.tmps.getD 8 undef = .string data := ho 8 (by kernel_rfl)
            clear hd ho hdone hlater hold
            exact Reg.step2_move (.tmp 8) rfl h8 hI trivial
          · -- 4: 59 := Op.call ( value (Operand.func 8), args := #(t58), argTypes :
            intro aq wq lq hI hl hdone hlater hold hd ho
            have h58 : aq.tmps.getD 58 undef = .string data := hd 58 (by kernel_rfl)
            clear hd ho hdone hlater hold
            rw [Array.getD_eq_getD_getElem?] at h58
            refine Reg.step2_call 8 #[.string data] ?_ ((full_any data wq (by omega)).mono ?_)
            · simp [execOp]
              go_simp
            · rintro e w' ⟨rfl, hb⟩
              exact ⟨_, rfl, by rw [← HFD.out]; rfl, hI.later hb, trivial⟩
          · -- 5: 60 := Op.call ( value (Operand.func 7), args := #(t55, t57, t59), 
            intro aq wq lq hI hl hdone hlater hold hd ho
            have h55 : aq.tmps.getD 55 undef = .pointer (some ⟨p, 0, none⟩) := hd 55 (by kernel_rfl)
            have h57 : aq.tmps.getD 57 undef = .int .i64 x1 := hd 57 (by kernel_rfl)
            have h59 : aq.tmps.getD 59 undef = .string fd := hd 59 (by kernel_rfl)
            clear hd ho hdone hlater hold
            rw [Array.getD_eq_getD_getElem?] at h55 h57 h59
            have hJ := hI
            clear hI
            rw [show lq 5 = false from hl] at hJ
            refine Reg.step2_call 7 #[.pointer (some ⟨p, 0, none⟩), .int .i64 x1, .string fd] ?_ ((write_bd hJ hlen2 hfs).mono ?_)
            · clear hJ
              simp [execOp]
              go_simp
            · rintro e w' ⟨rfl, hb⟩
              exact ⟨_, rfl, by rw [← HE.out]; rfl, hb, trivial⟩
          · -- 6: 61 := Op.move t5
            intro aq wq lq hI hl hdone hlater hold hd ho
            have h5 : aq.tmps.getD 5 undef = .pointer (some ⟨m, 0, none⟩) := ho 5 (by kernel_rfl)
            clear hd ho hdone hlater hold
            exact Reg.step2_move (.tmp 5) rfl h5 hI trivial
          · -- 7: 62 := Op.fieldAddr 34 t7 1
            intro aq wq lq hI hl hdone hlater hold hd ho
            have h7 : aq.tmps.getD 7 undef = .pointer (some ⟨b2, 0, none⟩) := ho 7 (by kernel_rfl)
            clear hd ho hdone hlater hold
            rw [Array.getD_eq_getD_getElem?] at h7
            refine Reg.step2_val (.pointer (some ⟨b2, 1, none⟩)) ?_ rfl hI trivial
            go_simp
          · -- 8: 63 := Op.load 3 t62
            intro aq wq lq hI hl hdone hlater hold hd ho
            have h62 : aq.tmps.getD 62 undef = .pointer (some ⟨b2, 1, none⟩) := hd 62 (by kernel_rfl)
            clear hd ho hdone hlater hold
            rw [Array.getD_eq_getD_getElem?] at h62
            have e0 := hI.cell 1
            rw [HC1'.out] at e0
            refine Reg.step2_val (.int .i64 x1) ?_ rfl hI trivial
            go_simp
          · -- 9: 64 := Op.move t8
            intro aq wq lq hI hl hdone hlater hold hd ho
            have h8 : aq.tmps.getD 8 undef = .string data := ho 8 (by kernel_rfl)
            clear hd ho hdone hlater hold
            exact Reg.step2_move (.tmp 8) rfl h8 hI trivial
          · -- 10: 65 := Op.call ( value (Operand.func 8), args := #(t64), argTypes :
            intro aq wq lq hI hl hdone hlater hold hd ho
            have h64 : aq.tmps.getD 64 undef = .string data := hd 64 (by kernel_rfl)
            clear hd ho hdone hlater hold
            rw [Array.getD_eq_getD_getElem?] at h64
            refine Reg.step2_call 8 #[.string data] ?_ ((full_any data wq (by omega)).mono ?_)
            · simp [execOp]
              go_simp
            · rintro e w' ⟨rfl, hb⟩
              exact ⟨_, rfl, by rw [← HFD.out]; rfl, hI.later hb, trivial⟩
          · -- 11: 66 := Op.call ( value (Operand.func 9), args := #(t61, t63, t65), 
            intro aq wq lq hI hl hdone hlater hold hd ho
            have h61 : aq.tmps.getD 61 undef = .pointer (some ⟨m, 0, none⟩) := hd 61 (by kernel_rfl)
            have h63 : aq.tmps.getD 63 undef = .int .i64 x1 := hd 63 (by kernel_rfl)
            have h65 : aq.tmps.getD 65 undef = .string fd := hd 65 (by kernel_rfl)
            clear hd ho hdone hlater hold
            rw [Array.getD_eq_getD_getElem?] at h61 h63 h65
            have hJ := hI
            clear hI
            rw [show lq 11 = false from hl] at hJ
            refine Reg.step2_call 9 #[.pointer (some ⟨m, 0, none⟩), .int .i64 x1, .string fd] ?_ ((write_br hJ hlen2 hfs).mono ?_)
            · clear hJ
              simp [execOp]
              go_simp
            · rintro e w' ⟨rfl, hb⟩
              exact ⟨_, rfl, by rw [← HE.out]; rfl, hb, trivial⟩
          · -- 12: 67 := Op.binOp BinOp.eql 3 t60 t66 3
            intro aq wq lq hI hl hdone hlater hold hd ho
            have h60 : aq.tmps.getD 60 undef = .int .i64 E := hd 60 (by kernel_rfl)
            have h66 : aq.tmps.getD 66 undef = .int .i64 E := hd 66 (by kernel_rfl)
            clear hd ho hdone hlater hold
            rw [Array.getD_eq_getD_getElem?] at h60 h66
            refine Reg.step2_val (.bool true) ?_ rfl hI trivial
            simp [execOp, Act.eval, h60, h66]
            try go_simp
          · -- 13: 9 := Op.assign t67
            intro aq wq lq hI hl hdone hlater hold hd ho
            have h67 : aq.tmps.getD 67 undef = .bool true := hd 67 (by kernel_rfl)
            clear hd ho hdone hlater hold
            exact Reg.step2_assign (.tmp 67) rfl h67 hI trivial
          case hend =>
          intro wx hI
          simp only [Reg.fill, List.foldl_cons, List.foldl_nil, List.setIfInBounds_toArray, List.set_cons_zero, List.set_cons_succ]
          have HI := Lib.hid (show Duet b2 cs w p m (D.writeD x1 fd) (D.writeD x1 fd) wx from hI)
          clear hI
          go_wp2_with fail
          go_meet
          exact ⟨rfl, _, (len_write D x1 fd).2.trans HH9.out, (len_write D x1 fd).1, HI.out.1⟩
        · -- 1: Write
          replace hmod : Int.tmod (M : Int) 12 = 1 := hmod
          obtain ⟨fd, hfd⟩ : ∃ fd, fd = fullN data := ⟨_, rfl⟩
          have hfs : fd.size ≤ 1000000000 := by rw [hfd, fullN_size]; omega
          have HFD := Lib.hid hfd
          clear hfd
          obtain ⟨E, hE⟩ : ∃ E, E = D.writeE x1 fd := ⟨_, rfl⟩
          have HE := Lib.hid hE
          have H0 := Lib.hid (show DuetB b2 cs w p m D (D.writeD x1 fd) false false W.drew from Duet.later HDU.out ⟨rfl, rfl, rfl, Nat.le_refl _, fun _ _ => rfl⟩)
          have HC1' := Lib.hid (show cs[1]? = some (.int .i64 x1) by rw [HCS.out]; rfl)
          clear hE
          go_wp2_with fail
          refine Reg.region_vals (by kernel_rfl) [(55, .pointer (some ⟨p, 0, none⟩)), (56, .pointer (some ⟨b2, 1, none⟩)), (57, .int .i64 x1), (58, .string data), (59, .string fd), (60, .int .i64 E), (61, .pointer (some ⟨m, 0, none⟩)), (62, .pointer (some ⟨b2, 1, none⟩)), (63, .int .i64 x1), (64, .string data), (65, .string fd), (66, .int .i64 E), (67, .bool true), (9, .bool true)] (fun l wx => DuetB b2 cs w p m D (D.writeD x1 fd) (l 5) (l 11) wx) (by kernel_rfl) (by kernel_rfl) (by kernel_rfl) (H0.out) ⟨?_, ?_, ?_, ?_, ?_, ?_, ?_, ?_, ?_, ?_, ?_, ?_, ?_, ?_, trivial⟩ ?hend
          · -- 0: 55 := Op.move t3
            intro aq wq lq hI hl hdone hlater hold hd ho
            have h3 : aq.tmps.getD 3 undef = .pointer (some ⟨p, 0, none⟩) := ho 3 (by kernel_rfl)
            clear hd ho hdone hlater hold
            exact Reg.step2_move (.tmp 3) rfl h3 hI trivial
          · -- 1: 56 := Op.fieldAddr 34 t7 1
            intro aq wq lq hI hl hdone hlater hold hd ho
            have h7 : aq.tmps.getD 7 undef = .pointer (some ⟨b2, 0, none⟩) := ho 7 (by kernel_rfl)
            clear hd ho hdone hlater hold
            rw [Array.getD_eq_getD_getElem?] at h7
            refine Reg.step2_val (.pointer (some ⟨b2, 1, none⟩)) ?_ rfl hI trivial
            go_simp
          · -- 2: 57 := Op.load 3 t56
            intro aq wq lq hI hl hdone hlater hold hd ho
            have h56 : aq.tmps.getD 56 undef = .pointer (some ⟨b2, 1, none⟩) := hd 56 (by kernel_rfl)
            clear hd ho hdone hlater hold
            rw [Array.getD_eq_getD_getElem?] at h56
            have e0 := hI.cell 1
            rw [HC1'.out] at e0
            refine Reg.step2_val (.int .i64 x1) ?_ rfl hI trivial
            go_simp
          · -- 3: 58 := Op.move t8
            intro aq wq lq hI hl hdone hlater hold hd ho
            have h8 : aq.tmps.getD 8 undef = .string data := ho 8 (by kernel_rfl)
            clear hd ho hdone hlater hold
            exact Reg.step2_move (.tmp 8) rfl h8 hI trivial
          · -- 4: 59 := Op.call ( value (Operand.func 8), args := #(t58), argTypes :
            intro aq wq lq hI hl hdone hlater hold hd ho
            have h58 : aq.tmps.getD 58 undef = .string data := hd 58 (by kernel_rfl)
            clear hd ho hdone hlater hold
            rw [Array.getD_eq_getD_getElem?] at h58
            refine Reg.step2_call 8 #[.string data] ?_ ((full_any data wq (by omega)).mono ?_)
            · simp [execOp]
              go_simp
            · rintro e w' ⟨rfl, hb⟩
              exact ⟨_, rfl, by rw [← HFD.out]; rfl, hI.later hb, trivial⟩
          · -- 5: 60 := Op.call ( value (Operand.func 7), args := #(t55, t57, t59), 
            intro aq wq lq hI hl hdone hlater hold hd ho
            have h55 : aq.tmps.getD 55 undef = .pointer (some ⟨p, 0, none⟩) := hd 55 (by kernel_rfl)
            have h57 : aq.tmps.getD 57 undef = .int .i64 x1 := hd 57 (by kernel_rfl)
            have h59 : aq.tmps.getD 59 undef = .string fd := hd 59 (by kernel_rfl)
            clear hd ho hdone hlater hold
            rw [Array.getD_eq_getD_getElem?] at h55 h57 h59
            have hJ := hI
            clear hI
            rw [show lq 5 = false from hl] at hJ
            refine Reg.step2_call 7 #[.pointer (some ⟨p, 0, none⟩), .int .i64 x1, .string fd] ?_ ((write_bd hJ hlen2 hfs).mono ?_)
            · clear hJ
              simp [execOp]
              go_simp
            · rintro e w' ⟨rfl, hb⟩
              exact ⟨_, rfl, by rw [← HE.out]; rfl, hb, trivial⟩
          · -- 6: 61 := Op.move t5
            intro aq wq lq hI hl hdone hlater hold hd ho
            have h5 : aq.tmps.getD 5 undef = .pointer (some ⟨m, 0, none⟩) := ho 5 (by kernel_rfl)
            clear hd ho hdone hlater hold
            exact Reg.step2_move (.tmp 5) rfl h5 hI trivial
          · -- 7: 62 := Op.fieldAddr 34 t7 1
            intro aq wq lq hI hl hdone hlater hold hd ho
            have h7 : aq.tmps.getD 7 undef = .pointer (some ⟨b2, 0, none⟩) := ho 7 (by kernel_rfl)
            clear hd ho hdone hlater hold
            rw [Array.getD_eq_getD_getElem?] at h7
            refine Reg.step2_val (.pointer (some ⟨b2, 1, none⟩)) ?_ rfl hI trivial
            go_simp
          · -- 8: 63 := Op.load 3 t62
            intro aq wq lq hI hl hdone hlater hold hd ho
            have h62 : aq.tmps.getD 62 undef = .pointer (some ⟨b2, 1, none⟩) := hd 62 (by kernel_rfl)
            clear hd ho hdone hlater hold
            rw [Array.getD_eq_getD_getElem?] at h62
            have e0 := hI.cell 1
            rw [HC1'.out] at e0
            refine Reg.step2_val (.int .i64 x1) ?_ rfl hI trivial
            go_simp
          · -- 9: 64 := Op.move t8
            intro aq wq lq hI hl hdone hlater hold hd ho
            have h8 : aq.tmps.getD 8 undef = .string data := ho 8 (by kernel_rfl)
            clear hd ho hdone hlater hold
            exact Reg.step2_move (.tmp 8) rfl h8 hI trivial
          · -- 10: 65 := Op.call ( value (Operand.func 8), args := #(t64), argTypes :
            intro aq wq lq hI hl hdone hlater hold hd ho
            have h64 : aq.tmps.getD 64 undef = .string data := hd 64 (by kernel_rfl)
            clear hd ho hdone hlater hold
            rw [Array.getD_eq_getD_getElem?] at h64
            refine Reg.step2_call 8 #[.string data] ?_ ((full_any data wq (by omega)).mono ?_)
            · simp [execOp]
              go_simp
            · rintro e w' ⟨rfl, hb⟩
              exact ⟨_, rfl, by rw [← HFD.out]; rfl, hI.later hb, trivial⟩
          · -- 11: 66 := Op.call ( value (Operand.func 9), args := #(t61, t63, t65), 
            intro aq wq lq hI hl hdone hlater hold hd ho
            have h61 : aq.tmps.getD 61 undef = .pointer (some ⟨m, 0, none⟩) := hd 61 (by kernel_rfl)
            have h63 : aq.tmps.getD 63 undef = .int .i64 x1 := hd 63 (by kernel_rfl)
            have h65 : aq.tmps.getD 65 undef = .string fd := hd 65 (by kernel_rfl)
            clear hd ho hdone hlater hold
            rw [Array.getD_eq_getD_getElem?] at h61 h63 h65
            have hJ := hI
            clear hI
            rw [show lq 11 = false from hl] at hJ
            refine Reg.step2_call 9 #[.pointer (some ⟨m, 0, none⟩), .int .i64 x1, .string fd] ?_ ((write_br hJ hlen2 hfs).mono ?_)
            · clear hJ
              simp [execOp]
              go_simp
            · rintro e w' ⟨rfl, hb⟩
              exact ⟨_, rfl, by rw [← HE.out]; rfl, hb, trivial⟩
          · -- 12: 67 := Op.binOp BinOp.eql 3 t60 t66 3
            intro aq wq lq hI hl hdone hlater hold hd ho
            have h60 : aq.tmps.getD 60 undef = .int .i64 E := hd 60 (by kernel_rfl)
            have h66 : aq.tmps.getD 66 undef = .int .i64 E := hd 66 (by kernel_rfl)
            clear hd ho hdone hlater hold
            rw [Array.getD_eq_getD_getElem?] at h60 h66
            refine Reg.step2_val (.bool true) ?_ rfl hI trivial
            simp [execOp, Act.eval, h60, h66]
            try go_simp
          · -- 13: 9 := Op.assign t67
            intro aq wq lq hI hl hdone hlater hold hd ho
            have h67 : aq.tmps.getD 67 undef = .bool true := hd 67 (by kernel_rfl)
            clear hd ho hdone hlater hold
            exact Reg.step2_assign (.tmp 67) rfl h67 hI trivial
          case hend =>
          intro wx hI
          simp only [Reg.fill, List.foldl_cons, List.foldl_nil, List.setIfInBounds_toArray, List.set_cons_zero, List.set_cons_succ]
          have HI := Lib.hid (show Duet b2 cs w p m (D.writeD x1 fd) (D.writeD x1 fd) wx from hI)
          clear hI
          go_wp2_with fail
          go_meet
          exact ⟨rfl, _, (len_write D x1 fd).2.trans HH9.out, (len_write D x1 fd).1, HI.out.1⟩
        · -- 2: Write
          replace hmod : Int.tmod (M : Int) 12 = 2 := hmod
          have hfs : data.size ≤ 1000000000 := by omega
          obtain ⟨E, hE⟩ : ∃ E, E = D.writeE x1 data := ⟨_, rfl⟩
          have HE := Lib.hid hE
          have H0 := Lib.hid (show DuetB b2 cs w p m D (D.writeD x1 data) false false W.drew from Duet.later HDU.out ⟨rfl, rfl, rfl, Nat.le_refl _, fun _ _ => rfl⟩)
          have HC1' := Lib.hid (show cs[1]? = some (.int .i64 x1) by rw [HCS.out]; rfl)
          clear hE
          go_wp2_with fail
          refine Reg.region_vals (by kernel_rfl) [(70, .pointer (some ⟨p, 0, none⟩)), (71, .pointer (some ⟨b2, 1, none⟩)), (72, .int .i64 x1), (73, .string data), (74, .int .i64 E), (75, .pointer (some ⟨m, 0, none⟩)), (76, .pointer (some ⟨b2, 1, none⟩)), (77, .int .i64 x1), (78, .string data), (79, .int .i64 E), (80, .bool true), (9, .bool true)] (fun l wx => DuetB b2 cs w p m D (D.writeD x1 data) (l 4) (l 9) wx) (by kernel_rfl) (by kernel_rfl) (by kernel_rfl) (H0.out) ⟨?_, ?_, ?_, ?_, ?_, ?_, ?_, ?_, ?_, ?_, ?_, ?_, trivial⟩ ?hend
          · -- 0: 70 := Op.move t3
            intro aq wq lq hI hl hdone hlater hold hd ho
            have h3 : aq.tmps.getD 3 undef = .pointer (some ⟨p, 0, none⟩) := ho 3 (by kernel_rfl)
            clear hd ho hdone hlater hold
            exact Reg.step2_move (.tmp 3) rfl h3 hI trivial
          · -- 1: 71 := Op.fieldAddr 34 t7 1
            intro aq wq lq hI hl hdone hlater hold hd ho
            have h7 : aq.tmps.getD 7 undef = .pointer (some ⟨b2, 0, none⟩) := ho 7 (by kernel_rfl)
            clear hd ho hdone hlater hold
            rw [Array.getD_eq_getD_getElem?] at h7
            refine Reg.step2_val (.pointer (some ⟨b2, 1, none⟩)) ?_ rfl hI trivial
            go_simp
          · -- 2: 72 := Op.load 3 t71
            intro aq wq lq hI hl hdone hlater hold hd ho
            have h71 : aq.tmps.getD 71 undef = .pointer (some ⟨b2, 1, none⟩) := hd 71 (by kernel_rfl)
            clear hd ho hdone hlater hold
            rw [Array.getD_eq_getD_getElem?] at h71
            have e0 := hI.cell 1
            rw [HC1'.out] at e0
            refine Reg.step2_val (.int .i64 x1) ?_ rfl hI trivial
            go_simp
          · -- 3: 73 := Op.move t8
            intro aq wq lq hI hl hdone hlater hold hd ho
            have h8 : aq.tmps.getD 8 undef = .string data := ho 8 (by kernel_rfl)
            clear hd ho hdone hlater hold
            exact Reg.step2_move (.tmp 8) rfl h8 hI trivial
          · -- 4: 74 := Op.call ( value (Operand.func 7), args := #(t70, t72, t73), 
            intro aq wq lq hI hl hdone hlater hold hd ho
            have h70 : aq.tmps.getD 70 undef = .pointer (some ⟨p, 0, none⟩) := hd 70 (by kernel_rfl)
            have h72 : aq.tmps.getD 72 undef = .int .i64 x1 := hd 72 (by kernel_rfl)
            have h73 : aq.tmps.getD 73 undef = .string data := hd 73 (by kernel_rfl)
            clear hd ho hdone hlater hold
            rw [Array.getD_eq_getD_getElem?] at h70 h72 h73
            have hJ := hI
            clear hI
            rw [show lq 4 = false from hl] at hJ
            refine Reg.step2_call 7 #[.pointer (some ⟨p, 0, none⟩), .int .i64 x1, .string data] ?_ ((write_bd hJ hlen2 hfs).mono ?_)
            · clear hJ
              simp [execOp]
              go_simp
            · rintro e w' ⟨rfl, hb⟩
              exact ⟨_, rfl, by rw [← HE.out]; rfl, hb, trivial⟩
          · -- 5: 75 := Op.move t5
            intro aq wq lq hI hl hdone hlater hold hd ho
            have h5 : aq.tmps.getD 5 undef = .pointer (some ⟨m, 0, none⟩) := ho 5 (by kernel_rfl)
            clear hd ho hdone hlater hold
            exact Reg.step2_move (.tmp 5) rfl h5 hI trivial
          · -- 6: 76 := Op.fieldAddr 34 t7 1
            intro aq wq lq hI hl hdone hlater hold hd ho
            have h7 : aq.tmps.getD 7 undef = .pointer (some ⟨b2, 0, none⟩) := ho 7 (by kernel_rfl)
            clear hd ho hdone hlater hold
            rw [Array.getD_eq_getD_getElem?] at h7
            refine Reg.step2_val (.pointer (some ⟨b2, 1, none⟩)) ?_ rfl hI trivial
            go_simp
          · -- 7: 77 := Op.load 3 t76
            intro aq wq lq hI hl hdone hlater hold hd ho
            have h76 : aq.tmps.getD 76 undef = .pointer (some ⟨b2, 1, none⟩) := hd 76 (by kernel_rfl)
            clear hd ho hdone hlater hold
            rw [Array.getD_eq_getD_getElem?] at h76
            have e0 := hI.cell 1
            rw [HC1'.out] at e0
            refine Reg.step2_val (.int .i64 x1) ?_ rfl hI trivial
            go_simp
          · -- 8: 78 := Op.move t8
            intro aq wq lq hI hl hdone hlater hold hd ho
            have h8 : aq.tmps.getD 8 undef = .string data := ho 8 (by kernel_rfl)
            clear hd ho hdone hlater hold
            exact Reg.step2_move (.tmp 8) rfl h8 hI trivial
          · -- 9: 79 := Op.call ( value (Operand.func 9), args := #(t75, t77, t78), 
            intro aq wq lq hI hl hdone hlater hold hd ho
            have h75 : aq.tmps.getD 75 undef = .pointer (some ⟨m, 0, none⟩) := hd 75 (by kernel_rfl)
            have h77 : aq.tmps.getD 77 undef = .int .i64 x1 := hd 77 (by kernel_rfl)
            have h78 : aq.tmps.getD 78 undef = .string data := hd 78 (by kernel_rfl)
            clear hd ho hdone hlater hold
            rw [Array.getD_eq_getD_getElem?] at h75 h77 h78
            have hJ := hI
            clear hI
            rw [show lq 9 = false from hl] at hJ
            refine Reg.step2_call 9 #[.pointer (some ⟨m, 0, none⟩), .int .i64 x1, .string data] ?_ ((write_br hJ hlen2 hfs).mono ?_)
            · clear hJ
              simp [execOp]
              go_simp
            · rintro e w' ⟨rfl, hb⟩
              exact ⟨_, rfl, by rw [← HE.out]; rfl, hb, trivial⟩
          · -- 10: 80 := Op.binOp BinOp.eql 3 t74 t79 3
            intro aq wq lq hI hl hdone hlater hold hd ho
            have h74 : aq.tmps.getD 74 undef = .int .i64 E := hd 74 (by kernel_rfl)
            have h79 : aq.tmps.getD 79 undef = .int .i64 E := hd 79 (by kernel_rfl)
            clear hd ho hdone hlater hold
            rw [Array.getD_eq_getD_getElem?] at h74 h79
            refine Reg.step2_val (.bool true) ?_ rfl hI trivial
            simp [execOp, Act.eval, h74, h79]
            try go_simp
          · -- 11: 9 := Op.assign t80
            intro aq wq lq hI hl hdone hlater hold hd ho
            have h80 : aq.tmps.getD 80 undef = .bool true := hd 80 (by kernel_rfl)
            clear hd ho hdone hlater hold
            exact Reg.step2_assign (.tmp 80) rfl h80 hI trivial
          case hend =>
          intro wx hI
          simp only [Reg.fill, List.foldl_cons, List.foldl_nil, List.setIfInBounds_toArray, List.set_cons_zero, List.set_cons_succ]
          have HI := Lib.hid (show Duet b2 cs w p m (D.writeD x1 data) (D.writeD x1 data) wx from hI)
          clear hI
          go_wp2_with fail
          go_meet
          exact ⟨rfl, _, (len_write D x1 data).2.trans HH9.out, (len_write D x1 data).1, HI.out.1⟩
        · -- 3: Flush
          replace hmod : Int.tmod (M : Int) 12 = 3 := hmod
          obtain ⟨E, hE⟩ : ∃ E, E = D.flushE := ⟨_, rfl⟩
          go_wp2_with fail
          refine (flush_d HDU.out (by omega)).mono ?_
          rintro e wa ⟨rfl, hA⟩
          have HA := Lib.hid hA
          rw [← hE]
          clear hA
          go_wp2_with fail
          refine (flush_r HA.out (by omega)).mono ?_
          rintro e wb ⟨rfl, hA2⟩
          have HA2 := Lib.hid hA2
          rw [← hE]
          clear hA2 hE
          go_wp2_with fail
          go_meet
          exact ⟨rfl, _, (len_flush D).2.trans HH9.out, Nat.le_succ_of_le (len_flush D).1, HA2.out.1⟩
        · -- 4: Read
          replace hmod : Int.tmod (M : Int) 12 = 4 := hmod
          obtain ⟨E, hE⟩ : ∃ E, E = D.readE x1 := ⟨_, rfl⟩
          obtain ⟨T, hT⟩ : ∃ T, T = D.readT x1 := ⟨_, rfl⟩
          go_wp2_with fail
          refine (read_d HDU.out (by omega)).mono ?_
          rintro e wa ⟨rfl, hA⟩
          have e1 := HC1.out _ _ _ hA
          have HA := Lib.hid hA
          rw [← hE, ← hT]
          clear hA
          go_wp2_with fail
          refine (read_r HA.out (by omega)).mono ?_
          rintro e wb ⟨rfl, hA2⟩
          have HA2 := Lib.hid hA2
          rw [← hE, ← hT]
          clear hA2 hE hT e1
          go_wp2_with fail
          go_meet
          exact ⟨rfl, _, (len_read D x1).2.trans HH9.out, Nat.le_succ_of_le (len_read D x1).1, HA2.out.1⟩
        · -- 5: Stick
          replace hmod : Int.tmod (M : Int) 12 = 5 := hmod
          go_wp2_with fail
          refine (stick_d HDU.out (by omega)).mono ?_
          rintro e wa ⟨rfl, hA⟩
          have e1 := HC1.out _ _ _ hA
          have HA := Lib.hid hA
          clear hA
          go_wp2_with fail
          refine (stick_r HA.out (by omega)).mono ?_
          rintro e wb ⟨rfl, hA2⟩
          have HA2 := Lib.hid hA2
          clear hA2 e1
          go_wp2_with fail
          go_meet
          exact ⟨rfl, _, (len_stick D x1).2.trans HH9.out, Nat.le_succ_of_le (len_stick D x1).1, HA2.out.1⟩
        · -- 6: Garble
          replace hmod : Int.tmod (M : Int) 12 = 6 := hmod
          obtain ⟨b, hb⟩ : ∃ b : UInt8, b = UInt8.ofNat data.size := ⟨_, rfl⟩
          have hbw : IntKind.u8.wrap (data.size : Int) = (b.toNat : Int) := by rw [IntKind.wrap_u8', hb, UInt8.toNat_ofNat']; omega
          have hbw2 : (data.size : Int) % 256 = (b.toNat : Int) := by rw [hb, UInt8.toNat_ofNat']; omega
          clear hb
          go_wp2_with fail
          refine (garble_d (b := b) HDU.out (by omega)).mono ?_
          rintro e wa ⟨rfl, hA⟩
          have e1 := HC1.out _ _ _ hA
          have e2 := HC2.out _ _ _ hA
          have HA := Lib.hid hA
          clear hA
          go_wp2_with fail
          refine (garble_r (b := b) HA.out (by omega)).mono ?_
          rintro e wb ⟨rfl, hA2⟩
          have HA2 := Lib.hid hA2
          clear hA2 e1 e2
          go_wp2_with fail
          go_meet
          exact ⟨rfl, _, (len_garble D x1 x2 b).2.trans HH9.out, Nat.le_succ_of_le (len_garble D x1 x2 b).1, HA2.out.1⟩
        · -- 7: Lose
          replace hmod : Int.tmod (M : Int) 12 = 7 := hmod
          obtain ⟨ln, hln⟩ : ∃ ln : Nat, ln = x2.toNat := ⟨_, rfl⟩
          have hmx : max x2 (0 : Int) = (ln : Int) := by omega
          go_wp2_with fail
          refine (lose_d HDU.out HF2.out.2).mono ?_
          rintro e wa ⟨rfl, hA⟩
          rw [← hln] at hA
          have e2 := HC2.out _ _ _ hA
          obtain ⟨_, e5, _, _, _, hfz⟩ := hA.1.rcell
          have f5 := hfz 5
          have HA := Lib.hid hA
          have HLN := Lib.hid (show ln ≤ 9223372036854775807 by have := HF2.out.2; omega)
          clear hA hfz hln
          go_wp2_with fail
          go_meet
          exact ⟨rfl, { D with lose := ln }, HH9.out, Nat.le_succ _, (HA.out.set 5 (.int .i64 (ln : Int)) (E' := { D with lose := ln }) (fun B rv => rfl) rfl rfl (fun ok => ⟨ok.n8, ok.n4096, ok.s128, ok.s1024, ok.media, ok.text, ok.sector, ok.fuse, HLN.out, ok.stray⟩)).1⟩
        · -- 8: Stray
          replace hmod : Int.tmod (M : Int) 12 = 8 := hmod
          obtain ⟨ln, hln⟩ : ∃ ln : Nat, ln = x2.toNat := ⟨_, rfl⟩
          have hmx : max x2 (0 : Int) = (ln : Int) := by omega
          go_wp2_with fail
          refine (stray_d HDU.out HF2.out.2).mono ?_
          rintro e wa ⟨rfl, hA⟩
          rw [← hln] at hA
          have HLN := Lib.hid (show ln ≤ 9223372036854775807 by have := HF2.out.2; omega)
          have H0 := Lib.hid (show StrayB b2 cs w p m D ln x1 false false wa.drew from Duet.later hA ⟨rfl, rfl, rfl, Nat.le_refl _, fun _ _ => rfl⟩)
          have HC1' := Lib.hid (show cs[1]? = some (.int .i64 x1) by rw [HCS.out]; rfl)
          have HC2' := Lib.hid (show cs[2]? = some (.int .i64 x2) by rw [HCS.out]; rfl)
          clear hA hln
          go_wp2_with fail
          refine Reg.region_vals (by kernel_rfl) [(162, .pointer (some ⟨m, 0, none⟩)), (163, .pointer (some ⟨m, 0, none⟩)), (164, .pointer (some ⟨b2, 2, none⟩)), (165, .int .i64 x2), (166, .int .i64 (ln : Int)), (167, .pointer (some ⟨b2, 1, none⟩)), (168, .int .i64 x1), (169, .pointer (some ⟨m, 0, none⟩)), (170, .pointer (some ⟨m, 6, none⟩)), (171, .pointer (some ⟨m, 0, none⟩)), (172, .pointer (some ⟨m, 7, none⟩))] (fun l wx => StrayB b2 cs w p m D ln x1 (l 9) (l 12) wx) (by kernel_rfl) (by kernel_rfl) (by kernel_rfl) (H0.out) ⟨?_, ?_, ?_, ?_, ?_, ?_, ?_, ?_, ?_, ?_, ?_, ?_, ?_, trivial⟩ ?hend
          · -- 0: 162 := Op.move t5
            intro aq wq lq hI hl hdone hlater hold hd ho
            have h5 : aq.tmps.getD 5 undef = .pointer (some ⟨m, 0, none⟩) := ho 5 (by kernel_rfl)
            clear hd ho hdone hlater hold
            exact Reg.step2_move (.tmp 5) rfl h5 hI trivial
          · -- 1: 163 := Op.move t5
            intro aq wq lq hI hl hdone hlater hold hd ho
            have h5 : aq.tmps.getD 5 undef = .pointer (some ⟨m, 0, none⟩) := ho 5 (by kernel_rfl)
            clear hd ho hdone hlater hold
            exact Reg.step2_move (.tmp 5) rfl h5 hI trivial
          · -- 2: 164 := Op.fieldAddr 34 t7 2
            intro aq wq lq hI hl hdone hlater hold hd ho
            have h7 : aq.tmps.getD 7 undef = .pointer (some ⟨b2, 0, none⟩) := ho 7 (by kernel_rfl)
            clear hd ho hdone hlater hold
            rw [Array.getD_eq_getD_getElem?] at h7
            refine Reg.step2_val (.pointer (some ⟨b2, 2, none⟩)) ?_ rfl hI trivial
            go_simp
          · -- 3: 165 := Op.load 3 t164
            intro aq wq lq hI hl hdone hlater hold hd ho
            have h164 : aq.tmps.getD 164 undef = .pointer (some ⟨b2, 2, none⟩) := hd 164 (by kernel_rfl)
            clear hd ho hdone hlater hold
            rw [Array.getD_eq_getD_getElem?] at h164
            have e0 := Has.cell hI.2 2
            rw [HC2'.out] at e0
            refine Reg.step2_val (.int .i64 x2) ?_ rfl hI trivial
            go_simp
          · -- 4: 166 := Op.call ( builtin max, args := #(t165, const (0:i64)), argTy
            intro aq wq lq hI hl hdone hlater hold hd ho
            have h165 : aq.tmps.getD 165 undef = .int .i64 x2 := hd 165 (by kernel_rfl)
            clear hd ho hdone hlater hold
            rw [Array.getD_eq_getD_getElem?] at h165
            refine Reg.step2_val (.int .i64 (ln : Int)) ?_ rfl hI trivial
            simp [execOp, Act.eval, h165]
            try go_simp
          · -- 5: 167 := Op.fieldAddr 34 t7 1
            intro aq wq lq hI hl hdone hlater hold hd ho
            have h7 : aq.tmps.getD 7 undef = .pointer (some ⟨b2, 0, none⟩) := ho 7 (by kernel_rfl)
            clear hd ho hdone hlater hold
            rw [Array.getD_eq_getD_getElem?] at h7
            refine Reg.step2_val (.pointer (some ⟨b2, 1, none⟩)) ?_ rfl hI trivial
            go_simp
          · -- 6: 168 := Op.load 3 t167
            intro aq wq lq hI hl hdone hlater hold hd ho
            have h167 : aq.tmps.getD 167 undef = .pointer (some ⟨b2, 1, none⟩) := hd 167 (by kernel_rfl)
            clear hd ho hdone hlater hold
            rw [Array.getD_eq_getD_getElem?] at h167
            have e0 := Has.cell hI.2 1
            rw [HC1'.out] at e0
            refine Reg.step2_val (.int .i64 x1) ?_ rfl hI trivial
            go_simp
          · -- 7: 169 := Op.nilCheck t162
            intro aq wq lq hI hl hdone hlater hold hd ho
            have h162 : aq.tmps.getD 162 undef = .pointer (some ⟨m, 0, none⟩) := hd 162 (by kernel_rfl)
            clear hd ho hdone hlater hold
            rw [Array.getD_eq_getD_getElem?] at h162
            refine Reg.step2_val (.pointer (some ⟨m, 0, none⟩)) ?_ rfl hI trivial
            go_simp
          · -- 8: 170 := Op.fieldAddr 52 t169 6
            intro aq wq lq hI hl hdone hlater hold hd ho
            have h169 : aq.tmps.getD 169 undef = .pointer (some ⟨m, 0, none⟩) := hd 169 (by kernel_rfl)
            clear hd ho hdone hlater hold
            rw [Array.getD_eq_getD_getElem?] at h169
            refine Reg.step2_val (.pointer (some ⟨m, 6, none⟩)) ?_ rfl hI trivial
            go_simp
          · -- 9: None := Op.store 3 t170 t166
            intro aq wq lq hI hl hdone hlater hold hd ho
            have h170 : aq.tmps.getD 170 undef = .pointer (some ⟨m, 6, none⟩) := hd 170 (by kernel_rfl)
            have h166 : aq.tmps.getD 166 undef = .int .i64 (ln : Int) := hd 166 (by kernel_rfl)
            clear hd ho hdone hlater hold
            rw [Array.getD_eq_getD_getElem?] at h170 h166
            have hJ := hI
            clear hI
            rw [show lq 9 = false from hl] at hJ
            obtain ⟨_, _, e6, _, _, hfz⟩ := hJ.1.rcell
            have f6 := hfz 6
            have hN := hJ.six HLN.out
            clear hJ hfz
            refine Reg.step2_skip (wq.setCell ⟨m, 6, none⟩ (.int .i64 (ln : Int))) rfl ?_ hN trivial
            clear hN
            simp [execOp]
            go_simp
          · -- 10: 171 := Op.nilCheck t163
            intro aq wq lq hI hl hdone hlater hold hd ho
            have h163 : aq.tmps.getD 163 undef = .pointer (some ⟨m, 0, none⟩) := hd 163 (by kernel_rfl)
            clear hd ho hdone hlater hold
            rw [Array.getD_eq_getD_getElem?] at h163
            refine Reg.step2_val (.pointer (some ⟨m, 0, none⟩)) ?_ rfl hI trivial
            go_simp
          · -- 11: 172 := Op.fieldAddr 52 t171 7
            intro aq wq lq hI hl hdone hlater hold hd ho
            have h171 : aq.tmps.getD 171 undef = .pointer (some ⟨m, 0, none⟩) := hd 171 (by kernel_rfl)
            clear hd ho hdone hlater hold
            rw [Array.getD_eq_getD_getElem?] at h171
            refine Reg.step2_val (.pointer (some ⟨m, 7, none⟩)) ?_ rfl hI trivial
            go_simp
          · -- 12: None := Op.store 3 t172 t168
            intro aq wq lq hI hl hdone hlater hold hd ho
            have h172 : aq.tmps.getD 172 undef = .pointer (some ⟨m, 7, none⟩) := hd 172 (by kernel_rfl)
            have h168 : aq.tmps.getD 168 undef = .int .i64 x1 := hd 168 (by kernel_rfl)
            clear hd ho hdone hlater hold
            rw [Array.getD_eq_getD_getElem?] at h172 h168
            have hJ := hI
            clear hI
            rw [show lq 12 = false from hl] at hJ
            obtain ⟨_, _, _, e7, _, hfz⟩ := hJ.1.rcell
            have f7 := hfz 7
            have hN := hJ.seven
            clear hJ hfz
            refine Reg.step2_skip (wq.setCell ⟨m, 7, none⟩ (.int .i64 x1)) rfl ?_ hN trivial
            clear hN
            simp [execOp]
            go_simp
          case hend =>
          intro wx hI
          simp only [Reg.fill, List.foldl_cons, List.foldl_nil, List.setIfInBounds_toArray, List.set_cons_zero, List.set_cons_succ]
          have HI := Lib.hid (show Duet b2 cs w p m { D with stray := ln, tgt := x1 } { D with stray := ln, tgt := x1 } wx from hI)
          clear hI
          go_wp2_with fail
          go_meet
          exact ⟨rfl, { D with stray := ln, tgt := x1 }, HH9.out, Nat.le_succ _, HI.out.1⟩
        · -- 9: Fuse
          replace hmod : Int.tmod (M : Int) 12 = 9 := hmod
          obtain ⟨ln, hln⟩ : ∃ ln : Nat, ln = x2.toNat := ⟨_, rfl⟩
          have hmx : max x2 (0 : Int) = (ln : Int) := by omega
          go_wp2_with fail
          refine (fuse_d HDU.out HF2.out.2).mono ?_
          rintro e wa ⟨rfl, hA⟩
          rw [← hln] at hA
          have e2 := HC2.out _ _ _ hA
          obtain ⟨e4, _, _, _, _, hfz⟩ := hA.1.rcell
          have f4 := hfz 4
          have HA := Lib.hid hA
          have HLN := Lib.hid (show ln ≤ 9223372036854775807 by have := HF2.out.2; omega)
          clear hA hfz hln
          go_wp2_with fail
          go_meet
          exact ⟨rfl, { D with fuse := ln }, HH9.out, Nat.le_succ _, (HA.out.set 4 (.int .i64 (ln : Int)) (E' := { D with fuse := ln }) (fun B rv => rfl) rfl rfl (fun ok => ⟨ok.n8, ok.n4096, ok.s128, ok.s1024, ok.media, ok.text, ok.sector, HLN.out, ok.lose, ok.stray⟩)).1⟩
        · -- 10: Crash
          replace hmod : Int.tmod (M : Int) 12 = 10 := hmod
          obtain ⟨fl, hfl⟩ : ∃ x, x = min x4l 30 := ⟨_, rfl⟩
          have hmin4 : min (x4l : Int) 30 = (fl : Int) := by omega
          have hmin5 : ∀ W ts, (Builtin.min_ ts 3 #[.int .i64 (x4l : Nat), .int .i64 30]).run Try.prog W = .ok (.int .i64 (fl : Int)) W := by
            intro W ts; rw [hfl]; exact run_minc _ _ _ _ x4l 30
          have hfl1 : fl ≤ x4l := by omega
          have hfl2 : fl ≤ x4c := by omega
          have hfl3 : fl ≤ 30 := by omega
          have HRT := Lib.hid (HROW.out.take fl hfl1)
          have HFB := Lib.hid (show ∀ f ∈ x4z.take fl, f ≤ 9223372036854775807 from fun f hf => (bounds_i64 (HXW.out f (List.mem_of_mem_take hf))).2)
          have HAB := Lib.hid (show 0 < fl → ∀ x, x4 = some x → x.block < w.heap.size from fun hpos x hx => by
            obtain ⟨bb, oo, he, hcell⟩ := HRT.out.at_ hpos
            rw [he] at hx; cases hx
            exact World.block_lt_of_cell? w _ (hcell 0 hpos))
          clear hfl
          go_wp2_with fail
          refine (fates_any x4 fl x4c (x4z.take fl) _ ?_ (by omega)).mono ?_
          · exact HRT.out.below (HDU.out.1.below) (Nat.le_refl _)
          rintro e wf ⟨v, rfl, hown, hbf⟩
          have HOWN := Lib.hid hown
          have HBF := Lib.hid hbf
          clear hown hbf
          go_wp2_with fail
          refine (crash_d HDU.out HBF.out HOWN.out (by omega) (by omega) HFB.out).mono ?_
          rintro e wa ⟨rfl, hA⟩
          have HA := Lib.hid hA
          clear hA
          go_wp2_with fail
          refine (crash_r HA.out (HRT.out.below HA.out.1.below (Nat.le_refl _)) HAB.out (by omega) ?_ HFB.out).mono ?_
          · exact Nat.le_trans hlen2 (by omega)
          rintro e wb ⟨rfl, hA2⟩
          have HA2 := Lib.hid hA2
          clear hA2
          go_wp2_with fail
          go_meet
          exact ⟨rfl, _, (len_crash D (x4z.take fl)).2.trans HH9.out, Nat.le_succ_of_le (len_crash D (x4z.take fl)).1, HA2.out.1⟩
        · -- 11: Kill
          replace hmod : Int.tmod (M : Int) 12 = 11 := hmod
          by_cases h5 : Int.tmod x2 5 = 0
          · go_wp2_with fail
            refine (kill_d HDU.out).mono ?_
            rintro e wa ⟨rfl, hA⟩
            obtain ⟨_, _, _, _, e9, hfz⟩ := hA.1.rcell
            have f9 := hfz 9
            have HA := Lib.hid hA
            clear hA hfz
            go_wp2_with fail
            go_meet
            exact ⟨rfl, { D with dead := true }, HH9.out, Nat.le_succ _, (HA.out.set 9 (.bool true) (E' := { D with dead := true }) (fun B rv => rfl) rfl rfl (fun ok => ⟨ok.n8, ok.n4096, ok.s128, ok.s1024, ok.media, ok.text, ok.sector, ok.fuse, ok.lose, ok.stray⟩)).1⟩
          · go_wp2_with fail
            go_meet
            exact ⟨rfl, D, HH9.out, Nat.le_succ _, HDU.out.1⟩
      case rest =>
        obtain ⟨rfl, D', h9', hl', hp'⟩ := hcut
        have HP' := Lib.hid hp'
        clear hp' h9
        go_wp2_with fail
        refine (same_p HP'.out h9').mono ?_
        rintro e ws ⟨rfl, n1, rfl⟩
        have HP2 := Lib.hid (show Pair (fun _ => False) w p m D' D' (wc.drewN n1) from Pair.sub (HP'.out.later ⟨rfl, rfl, rfl, Nat.le_refl _, fun _ _ => rfl⟩) (fun k (hk : False) => hk.elim))
        clear HP'
        go_wp2_with fail
        go_roundw
        case rel => exact ⟨t + 1, D', by omega, by go_num, h9', by omega, HP2.out⟩
        case measure => simp [intOf]; omega
    · obtain rfl : t = n := by omega
      have m1 : mediaN D (-1) = ⟨#[]⟩ := by unfold mediaN hasB; simp
      have m2 : mediaN D 9 = ⟨#[]⟩ := by unfold mediaN hasB; rw [h9]; simp
      have M1 := Lib.hid m1
      have M2 := Lib.hid m2
      have HPP := Lib.hid hpair
      clear m1 m2 hpair
      go_wp2_with fail
      refine (media_p HPP.out).mono ?_
      rintro e w' ⟨rfl, rfl⟩
      rw [M1.out]
      go_wp2_with fail
      refine (media_p HPP.out).mono ?_
      rintro e w' ⟨rfl, rfl⟩
      rw [M2.out]
      go_wp2_with fail
      go_ret
      exact ⟨rfl, HPP.out.below⟩

/-! ### THE ROW's STEP -/
set_option maxRecDepth 100000 in
theorem lifted (os : Os) (started : os.Started) (H : Type) (enc : TypeId × Value → H) :
    ReturnsInHanded {} Try.checked os 3 .any (Rows.devPlaysSpec.pre6 enc Try.prog Try.f3 Rows.devPlaysRow.domain false) (Rows.devPlaysSpec.post enc Try.prog Try.f3 false true false false) := by
  refine returnsInHanded_of_change (C := Try.checked) own started (by kernel_rfl) Try.func3
    (ChangeSpec.witness6 (enc := enc) (C := Try.checked) false ⟨#[], #[.slice none 0 0], []⟩ 8 (by kernel_rfl) (by kernel_rfl) (by kernel_rfl) (by kernel_rfl)) ?_
  intro W base args ds gs before hval0 hW hcnd _
  have hval : ∀ (j : Nat) t v, Try.f3.params[j]? = some t → args[j]? = some v → Value.okWide Try.prog W .any base t v := hval0
  have hW' := hW
  obtain ⟨p, q, hA0, hV, rfl, hfz, hnd⟩ := hW
  have hA : DataW.TrodAll enc Try.prog W 0 (fun _ => true) true Try.f3.params.toList args.toList ds p := hA0
  rw [Try.params3] at hA hval
  obtain ⟨v0, vs0, d0, ds0, p0, q0, hargs, rfl, rfl, h0, r0⟩ := trodAll_cons hA
  obtain ⟨rfl, rfl, rfl⟩ := trodAll_nil r0
  obtain rfl : args = #[v0] := by cases args; simp_all
  obtain ⟨rfl, rfl⟩ := trodVars_none hV
  have k0 := h0
  have lt0 : ∀ x ∈ p0, x.block < W.heap.size := by obtain ⟨m, hm⟩ := k0; exact DataW.trod_lt m _ _ _ hm
  obtain ⟨a0', l0', c0', rfl⟩ := okWide_slice Try.underlying22 (hval 0 22 v0 rfl rfl)
  obtain ⟨a0, a0l, a0c, he0, w0, w0l, w0m⟩ := open_AR0 (c := .slice a0' l0' c0') (by obtain ⟨m, hm⟩ := h0; exact ⟨m, _, hm⟩)
  simp only [Value.slice.injEq] at he0
  obtain ⟨rfl, rfl, rfl⟩ := he0
  clear hA0 hval0
  refine (walk a0' l0' c0' W w0 w0l w0m).mono fun e W' ⟨he, bel⟩ => ?_
  subst he
  exact ⟨_, rfl, _, _, _, [], _, [], hW', trodAll_mk1 (shut_bool Try.underlying4 _), (trodAll_cons_mk (Below.trod laidOut (by kernel_rfl) (of_decide_eq_true (by kernel_rfl)) k0 bel lt0) trodAll_mk0), rfl, bel.frame _, fun h => by cases h⟩

theorem over : Rows.devPlaysRow.holds Try.pinned (OpenSpec.ofChange Rows.devPlaysSpec) :=
  OpenClaim.holds_of_wide 3 Try.f3 rfl rfl rfl rfl rfl rfl rfl ⟨rfl, rfl, rfl, rfl, rfl⟩ rfl rfl rfl rfl rfl (by kernel_rfl) Try.func3 (by kernel_rfl)
    (of_decide_eq_true (by kernel_rfl)) (by unfold Func.isWrapper; first | (rw [if_pos (by decide +kernel)]; kernel_rfl) | (rw [if_neg (by decide +kernel)]; exact ⟨rfl, rfl⟩))
    (fun os started H enc _ => lifted os started H enc)

/-- THE STATEMENT -/
theorem proved : Rows.DevPlaysSaid := over
#print axioms proved
end Go.Proofs.Ytlnocdmechidfaa.devPlays
