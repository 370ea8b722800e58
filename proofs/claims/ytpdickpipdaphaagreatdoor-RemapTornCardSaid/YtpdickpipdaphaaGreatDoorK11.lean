/- Layers' contracts, bundled: RemJ, RemR, RemP, DevG, DevW, DevO. -/
import Derived.Test.YtpdickpipdaphaaGreatDoorK10
import Derived.Test.YtpdickpipdaphaaGreatDoorK02
import Derived.Test.YtpdickpipdaphaaGreatDoorK06
import Derived.Test.YtpdickpipdaphaaGreatDoorK01
/- Layer 7 (remap): Replace. -/
namespace Go.Proofs.YtpdickpipdaphaaGreatDoor.Rem
open Go Go.RowKit Go.Proofs.YtpdickpipdaphaaGreatDoor Dev Tab
set_option linter.unusedVariables false

/-- where the first of two that are equal is -/
def ixV (x y : Bool) : Int := if x = true then 0 else if y = true then 1 else -1
section
variable {w0 w wa : World} {X : List Nat} {q : Nat} {pd : Nat → Nat} {m : Nat → List Int} {D : Nat → Dv} {s : Nat}
theorem index_dev (h : PB w q pd m) (p : Nat) (x y : Bool) (h0 : (binOp .eql 23 (.pointer (some ⟨p, 0, none⟩)) (.pointer (some ⟨pd 0, 0, none⟩))).run Tryz.prog w = .ok (.bool x) w) (h1 : (binOp .eql 23 (.pointer (some ⟨p, 0, none⟩)) (.pointer (some ⟨pd 1, 0, none⟩))).run Tryz.prog w = .ok (.bool y) w) :
    Calls Tryz.prog 91 #[.slice (some ⟨q, 0, none⟩) 2 2, .pointer (some ⟨p, 0, none⟩)] w fun e w' => e = .returned (.int .i64 (ixV x y)) ∧ w = w' := by
  have c0 := h.dev (s := 0) (by omega)
  have c1 := h.dev (s := 1) (by omega)
  have HX := Lib.hid (show ixV true y = 0 ∧ ixV false true = 1 ∧ ixV false false = -1 from ⟨rfl, rfl, rfl⟩)
  clear h
  go_enter Tryz.func91, Tryz.ntmps91
  go_wp2_with fail
  go_loopw [8] (fun i wr => wr = w ∧ ∃ r : Nat, r ≤ 2 ∧ i = .int .i64 r ∧ (1 ≤ r → x = false) ∧ (r = 2 → y = false)) (fun i _ => 2 - (intOf i).toNat)
  case atStart => exact ⟨rfl, 0, by omega, rfl, fun h => by omega, fun h => by omega⟩
  case round =>
    obtain ⟨rfl, r, hr, rfl, hx, hy⟩ := hrel
    rcases (show r = 0 ∨ r = 1 ∨ r = 2 by omega) with rfl | rfl | rfl
    · clear hx hy hr
      cases x with
      | true =>
        go_wp2
        go_ret
        exact ⟨by rw [HX.out.1]; rfl, rfl⟩
      | false =>
        go_wp2_with fail
        go_roundw
        case rel => exact ⟨by trivial, 0 + 1, by omega, by go_num, fun _ => by trivial, fun h => by omega⟩
        case measure => simp [intOf]
    · obtain rfl := hx (by omega)
      clear hx hy hr
      cases y with
      | true =>
        go_wp2
        go_ret
        exact ⟨by rw [HX.out.2.1]; rfl, rfl⟩
      | false =>
        go_wp2_with fail
        go_roundw
        case rel => exact ⟨by trivial, 1 + 1, by omega, by go_num, fun _ => by trivial, fun _ => by trivial⟩
        case measure => simp [intOf]
    · obtain rfl := hx (by omega)
      obtain rfl := hy rfl
      go_wp2
      go_ret
      exact ⟨by rw [HX.out.2.2]; rfl, rfl⟩
theorem contains_dev (h : PB w q pd m) (p : Nat) (x y : Bool) (h0 : (binOp .eql 23 (.pointer (some ⟨p, 0, none⟩)) (.pointer (some ⟨pd 0, 0, none⟩))).run Tryz.prog w = .ok (.bool x) w) (h1 : (binOp .eql 23 (.pointer (some ⟨p, 0, none⟩)) (.pointer (some ⟨pd 1, 0, none⟩))).run Tryz.prog w = .ok (.bool y) w) :
    Calls Tryz.prog 63 #[.slice (some ⟨q, 0, none⟩) 2 2, .pointer (some ⟨p, 0, none⟩)] w fun e w' => e = .returned (.bool (x || y)) ∧ w = w' := by
  have HI := Lib.hid (index_dev h p x y h0 h1)
  clear h h0 h1
  go_enter Tryz.func63, Tryz.ntmps63
  go_wp2_with fail
  refine HI.out.mono ?_
  rintro e w' ⟨rfl, rfl⟩
  cases x <;> cases y
  all_goals
    rw [show ixV _ _ = _ from rfl]
    go_wp2
    go_ret
    exact ⟨rfl, rfl⟩
theorem replace_nil (v : Option Addr) (s : Int) (w : World) : Calls Tryz.prog 30 #[.pointer none, .int .i64 s, .pointer v] w fun e w' => e = .returned (.int .i64 1) ∧ w = w' := by
  go_enter Tryz.func30, Tryz.ntmps30
  go_wp2
  go_ret
  exact ⟨rfl, rfl⟩
theorem replace_none (q : Nat) (s : Int) (w : World) : Calls Tryz.prog 30 #[.pointer (some ⟨q, 0, none⟩), .int .i64 s, .pointer none] w fun e w' => e = .returned (.int .i64 1) ∧ w = w' := by
  go_enter Tryz.func30, Tryz.ntmps30
  go_wp2
  go_ret
  exact ⟨rfl, rfl⟩
set_option maxHeartbeats 1000000 in
set_option maxRecDepth 100000 in
theorem replace_unlike {d sd : Nat} {cd : Value} {Dd : Dv} (h : CPe w0 X q pd m D w) (hz : Sz D) (hd : DevAt w d sd cd Dd) (nd : (Dd.n : Int) = 21) (zd : (Dd.size : Int) = 128) :
    Calls Tryz.prog 30 #[.pointer (some ⟨q, 0, none⟩), .int .i64 0, .pointer (some ⟨d, 0, none⟩)] w fun e w' => e = .returned (.int .i64 2) ∧ Below w.heap.size w w' := by
  have HP := Lib.hid h.pb
  obtain ⟨sb, cv, hdv, -, -⟩ := h.some_
  have HV := Lib.hid (hdv 0 (by omega))
  have HD := Lib.hid hd
  have HZ := Lib.hid (And.intro (hz 0 (by omega)).1 (And.intro (hz 0 (by omega)).2.1 (And.intro nd zd)))
  clear h hdv hd hz nd zd
  go_enter Tryz.func30, Tryz.ntmps30
  go_wp2_with fail
  refine Reg.region_valsG (by kernel_rfl) [(15, .int .i64 0), (16, .bool true), (17, .bool false), (18, .bool false), (19, .pointer (some ⟨d, 0, none⟩)), (20, .agg #[.int .i64 21, .int .i64 128]), (21, .pointer (some ⟨q, 0, none⟩)), (22, .int .i64 0), (23, .pointer (some ⟨q, 0, none⟩)), (24, .pointer (some ⟨q, 0, none⟩)), (25, .pointer (some ⟨q, 0, none⟩)), (26, .pointer (some ⟨pd 0, 0, none⟩)), (27, .agg #[.int .i64 20, .int .i64 128]), (28, .bool true), (29, .bool true), (30, .bool true), (31, undef), (32, undef), (33, undef), (34, undef), (35, undef), (36, undef), (37, .bool true)] (fun _ wy => Below w.heap.size w wy) (by kernel_rfl) (by kernel_rfl) [16, 17, 18, 19, 20, 21] (by kernel_rfl) ((Below.refl _ _).drew) ⟨?_, ?_, ?_, ?_, ?_, ?_, ?_, ?_, ?_, ?_, ?_, ?_, ?_, ?_, ?_, ?_, ?_, ?_, ?_, ?_, ?_, ?_, ?_, trivial⟩ ?hend
  · skip
    intro aq wq lq hI hl hdone hlater hold hd ho
    have h1 : aq.tmps.getD 1 undef = .int .i64 0 := ho 1 (by kernel_rfl)
    clear hd ho hdone hlater hold
    exact Reg.step2_move (.tmp 1) rfl h1 hI trivial
  · skip
    intro aq wq lq hI hl hdone hlater hold hd ho
    have h15 : aq.tmps.getD 15 undef = .int .i64 0 := hd 15 (by kernel_rfl)
    clear hd ho hdone hlater hold
    rw [Array.getD_eq_getD_getElem?] at h15
    refine Reg.step2_call 61 #[.int .i64 0] ?_ ((hasR_any 0 wq).mono ?_)
    · clear hI
      simp [execOp]
      go_simp
    · rintro e w2 ⟨rfl, rfl⟩
      exact ⟨_, rfl, rfl, hI, trivial⟩
  · skip
    intro aq wq lq hI hl hdone hlater hold hd ho
    have h16 : aq.tmps.getD 16 undef = .bool true := hd 16 (by kernel_rfl)
    clear hd ho hdone hlater hold
    rw [Array.getD_eq_getD_getElem?] at h16
    refine Reg.step2_val (.bool false) ?_ rfl hI trivial
    simp [execOp, Act.eval, h16]
    try go_simp
  · skip
    intro aq wq lq hI hl hdone hlater hold hd ho
    have h17 : aq.tmps.getD 17 undef = .bool false := hd 17 (by kernel_rfl)
    clear hd ho hdone hlater hold
    exact Reg.step2_move (.tmp 17) rfl h17 hI trivial
  · skip
    intro aq wq lq hI hl hdone hlater hold hd ho
    have h2 : aq.tmps.getD 2 undef = .pointer (some ⟨d, 0, none⟩) := ho 2 (by kernel_rfl)
    clear hd ho hdone hlater hold
    exact Reg.step2_move (.tmp 2) rfl h2 hI trivial
  · skip
    intro aq wq lq hI hl hdone hlater hold hd ho
    have h19 : aq.tmps.getD 19 undef = .pointer (some ⟨d, 0, none⟩) := hd 19 (by kernel_rfl)
    clear hd ho hdone hlater hold
    rw [Array.getD_eq_getD_getElem?] at h19
    refine Reg.step2_call 62 #[.pointer (some ⟨d, 0, none⟩)] ?_ ((shape_l wq (HD.out.below hI (Nat.le_refl _)) 21 128 HZ.out.2.2.1 HZ.out.2.2.2).mono ?_)
    · clear hI
      simp [execOp]
      go_simp
    · rintro e w2 ⟨rfl, hb⟩
      exact ⟨_, rfl, rfl, b_on hI hb, trivial⟩
  · skip
    intro aq wq lq hI hl hdone hlater hold hd ho
    have h0 : aq.tmps.getD 0 undef = .pointer (some ⟨q, 0, none⟩) := ho 0 (by kernel_rfl)
    clear hd ho hdone hlater hold
    exact Reg.step2_move (.tmp 0) rfl h0 hI trivial
  · skip
    intro aq wq lq hI hl hdone hlater hold hd ho
    have h1 : aq.tmps.getD 1 undef = .int .i64 0 := ho 1 (by kernel_rfl)
    clear hd ho hdone hlater hold
    exact Reg.step2_move (.tmp 1) rfl h1 hI trivial
  · skip
    intro aq wq lq hI hl hdone hlater hold hd ho
    have h21 : aq.tmps.getD 21 undef = .pointer (some ⟨q, 0, none⟩) := hd 21 (by kernel_rfl)
    clear hd ho hdone hlater hold
    rw [Array.getD_eq_getD_getElem?] at h21
    refine Reg.step2_val (.pointer (some ⟨q, 0, none⟩)) ?_ rfl hI trivial
    go_simp
  · skip
    intro aq wq lq hI hl hdone hlater hold hd ho
    have h23 : aq.tmps.getD 23 undef = .pointer (some ⟨q, 0, none⟩) := hd 23 (by kernel_rfl)
    clear hd ho hdone hlater hold
    rw [Array.getD_eq_getD_getElem?] at h23
    refine Reg.step2_val (.pointer (some ⟨q, 0, none⟩)) ?_ rfl hI trivial
    go_simp
  · skip
    intro aq wq lq hI hl hdone hlater hold hd ho
    have h24 : aq.tmps.getD 24 undef = .pointer (some ⟨q, 0, none⟩) := hd 24 (by kernel_rfl)
    have h22 : aq.tmps.getD 22 undef = .int .i64 0 := hd 22 (by kernel_rfl)
    clear hd ho hdone hlater hold
    rw [Array.getD_eq_getD_getElem?] at h24 h22
    refine Reg.step2_val (.pointer (some ⟨q, 0, none⟩)) ?_ rfl hI trivial
    go_simp
  · skip
    intro aq wq lq hI hl hdone hlater hold hd ho
    have h25 : aq.tmps.getD 25 undef = .pointer (some ⟨q, 0, none⟩) := hd 25 (by kernel_rfl)
    clear hd ho hdone hlater hold
    rw [Array.getD_eq_getD_getElem?] at h25
    have c0 := (HP.out.later hI).dev (s := 0) (by omega)
    refine Reg.step2_val (.pointer (some ⟨pd 0, 0, none⟩)) ?_ rfl hI trivial
    go_simp
  · skip
    intro aq wq lq hI hl hdone hlater hold hd ho
    have h26 : aq.tmps.getD 26 undef = .pointer (some ⟨pd 0, 0, none⟩) := hd 26 (by kernel_rfl)
    clear hd ho hdone hlater hold
    rw [Array.getD_eq_getD_getElem?] at h26
    refine Reg.step2_call 62 #[.pointer (some ⟨pd 0, 0, none⟩)] ?_ ((shape_l wq (HV.out.below hI (Nat.le_refl _)) 20 128 HZ.out.1 HZ.out.2.1).mono ?_)
    · clear hI
      simp [execOp]
      go_simp
    · rintro e w2 ⟨rfl, hb⟩
      exact ⟨_, rfl, rfl, b_on hI hb, trivial⟩
  · skip
    intro aq wq lq hI hl hdone hlater hold hd ho
    have h20 : aq.tmps.getD 20 undef = .agg #[.int .i64 21, .int .i64 128] := hd 20 (by kernel_rfl)
    have h27 : aq.tmps.getD 27 undef = .agg #[.int .i64 20, .int .i64 128] := hd 27 (by kernel_rfl)
    clear hd ho hdone hlater hold
    rw [Array.getD_eq_getD_getElem?] at h20 h27
    refine Reg.step2_val (.bool true) ?_ rfl hI trivial
    simp [execOp, Act.eval, h20, h27]
    try go_simp
  · skip
    intro aq wq lq hI hl hdone hlater hold hd ho
    have h18 : aq.tmps.getD 18 undef = .bool false := hd 18 (by kernel_rfl)
    have h28 : aq.tmps.getD 28 undef = .bool true := hd 28 (by kernel_rfl)
    clear hd ho hdone hlater hold
    rw [Array.getD_eq_getD_getElem?] at h18 h28
    refine Reg.step2_val (.bool true) ?_ rfl hI trivial
    simp [execOp, Act.eval, h18, h28]
    try go_simp
  · skip
    intro aq wq lq hI hl hdone hlater hold hd ho
    have h29 : aq.tmps.getD 29 undef = .bool true := hd 29 (by kernel_rfl)
    clear hd ho hdone hlater hold
    exact Reg.step2_move (.tmp 29) rfl h29 hI trivial
  · skip
    intro aq wq lq hI hl hdone hlater hold hd ho
    exact Reg.stepG_skip rfl hI trivial
  · skip
    intro aq wq lq hI hl hdone hlater hold hd ho
    exact Reg.stepG_skip rfl hI trivial
  · skip
    intro aq wq lq hI hl hdone hlater hold hd ho
    exact Reg.stepG_skip rfl hI trivial
  · skip
    intro aq wq lq hI hl hdone hlater hold hd ho
    exact Reg.stepG_skip rfl hI trivial
  · skip
    intro aq wq lq hI hl hdone hlater hold hd ho
    exact Reg.stepG_skip rfl hI trivial
  · skip
    intro aq wq lq hI hl hdone hlater hold hd ho
    exact Reg.stepG_skip rfl hI trivial
  · skip
    intro aq wq lq hI hl hdone hlater hold hd ho
    have h30 : aq.tmps.getD 30 undef = .bool true := hd 30 (by kernel_rfl)
    have h36 : aq.tmps.getD 36 undef = undef := hd 36 (by kernel_rfl)
    clear hd ho hdone hlater hold
    rw [Array.getD_eq_getD_getElem?] at h30 h36
    refine Reg.step2_val (.bool true) ?_ rfl hI trivial
    simp [execOp, Act.eval, h30, h36]
    try go_simp
  case hend =>
    intro wz hI
    simp only [Reg.fill, List.foldl_cons, List.foldl_nil, List.setIfInBounds_toArray, List.set_cons_zero, List.set_cons_succ]
    have HI := Lib.hid hI
    clear hI
    go_wp2
    go_ret
    exact ⟨rfl, HI.out⟩
set_option maxHeartbeats 1000000 in
set_option maxRecDepth 100000 in
theorem replace_same (h : CPe w0 X q pd m D w) (hz : Sz D) :
    Calls Tryz.prog 30 #[.pointer (some ⟨q, 0, none⟩), .int .i64 0, .pointer (some ⟨pd 1, 0, none⟩)] w fun e w' => e = .returned (.int .i64 2) ∧ Below w.heap.size w w' := by
  have HP := Lib.hid h.pb
  have hne : pd 1 ≠ pd 0 := fun e => h.dvs.ne e.symm
  obtain ⟨sb, cv, hdv, -, -⟩ := h.some_
  have HV := Lib.hid (hdv 0 (by omega))
  have HD := Lib.hid (hdv 1 (by omega))
  have HNE := Lib.hid hne
  have HZ := Lib.hid (And.intro (hz 0 (by omega)).1 (And.intro (hz 0 (by omega)).2.1 (And.intro (hz 1 (by omega)).1 (hz 1 (by omega)).2.1)))
  obtain ⟨d, hd⟩ : ∃ d, d = pd 1 := ⟨_, rfl⟩
  have HDD := Lib.hid hd
  rw [← hd] at HD HNE ⊢
  clear h hdv hz hne hd
  go_enter Tryz.func30, Tryz.ntmps30
  go_wp2_with fail
  refine Reg.region_valsG (by kernel_rfl) [(15, .int .i64 0), (16, .bool true), (17, .bool false), (18, .bool false), (19, .pointer (some ⟨d, 0, none⟩)), (20, .agg #[.int .i64 20, .int .i64 128]), (21, .pointer (some ⟨q, 0, none⟩)), (22, .int .i64 0), (23, .pointer (some ⟨q, 0, none⟩)), (24, .pointer (some ⟨q, 0, none⟩)), (25, .pointer (some ⟨q, 0, none⟩)), (26, .pointer (some ⟨pd 0, 0, none⟩)), (27, .agg #[.int .i64 20, .int .i64 128]), (28, .bool false), (29, .bool false), (30, .bool false), (31, .pointer (some ⟨q, 0, none⟩)), (32, .pointer (some ⟨q, 0, none⟩)), (33, .pointer (some ⟨q, 0, none⟩)), (34, .slice (some ⟨q, 0, none⟩) 2 2), (35, .pointer (some ⟨d, 0, none⟩)), (36, .bool true), (37, .bool true)] (fun _ wy => Below w.heap.size w wy) (by kernel_rfl) (by kernel_rfl) [] (by kernel_rfl) ((Below.refl _ _).drew) ⟨?_, ?_, ?_, ?_, ?_, ?_, ?_, ?_, ?_, ?_, ?_, ?_, ?_, ?_, ?_, ?_, ?_, ?_, ?_, ?_, ?_, ?_, ?_, trivial⟩ ?hend
  · skip
    intro aq wq lq hI hl hdone hlater hold hd ho
    have h1 : aq.tmps.getD 1 undef = .int .i64 0 := ho 1 (by kernel_rfl)
    clear hd ho hdone hlater hold
    exact Reg.step2_move (.tmp 1) rfl h1 hI trivial
  · skip
    intro aq wq lq hI hl hdone hlater hold hd ho
    have h15 : aq.tmps.getD 15 undef = .int .i64 0 := hd 15 (by kernel_rfl)
    clear hd ho hdone hlater hold
    rw [Array.getD_eq_getD_getElem?] at h15
    refine Reg.step2_call 61 #[.int .i64 0] ?_ ((hasR_any 0 wq).mono ?_)
    · clear hI
      simp [execOp]
      go_simp
    · rintro e w2 ⟨rfl, rfl⟩
      exact ⟨_, rfl, rfl, hI, trivial⟩
  · skip
    intro aq wq lq hI hl hdone hlater hold hd ho
    have h16 : aq.tmps.getD 16 undef = .bool true := hd 16 (by kernel_rfl)
    clear hd ho hdone hlater hold
    rw [Array.getD_eq_getD_getElem?] at h16
    refine Reg.step2_val (.bool false) ?_ rfl hI trivial
    simp [execOp, Act.eval, h16]
    try go_simp
  · skip
    intro aq wq lq hI hl hdone hlater hold hd ho
    have h17 : aq.tmps.getD 17 undef = .bool false := hd 17 (by kernel_rfl)
    clear hd ho hdone hlater hold
    exact Reg.step2_move (.tmp 17) rfl h17 hI trivial
  · skip
    intro aq wq lq hI hl hdone hlater hold hd ho
    have h2 : aq.tmps.getD 2 undef = .pointer (some ⟨d, 0, none⟩) := ho 2 (by kernel_rfl)
    clear hd ho hdone hlater hold
    exact Reg.step2_move (.tmp 2) rfl h2 hI trivial
  · skip
    intro aq wq lq hI hl hdone hlater hold hd ho
    have h19 : aq.tmps.getD 19 undef = .pointer (some ⟨d, 0, none⟩) := hd 19 (by kernel_rfl)
    clear hd ho hdone hlater hold
    rw [Array.getD_eq_getD_getElem?] at h19
    refine Reg.step2_call 62 #[.pointer (some ⟨d, 0, none⟩)] ?_ ((shape_l wq (HD.out.below hI (Nat.le_refl _)) 20 128 HZ.out.2.2.1 HZ.out.2.2.2).mono ?_)
    · clear hI
      simp [execOp]
      go_simp
    · rintro e w2 ⟨rfl, hb⟩
      exact ⟨_, rfl, rfl, b_on hI hb, trivial⟩
  · skip
    intro aq wq lq hI hl hdone hlater hold hd ho
    have h0 : aq.tmps.getD 0 undef = .pointer (some ⟨q, 0, none⟩) := ho 0 (by kernel_rfl)
    clear hd ho hdone hlater hold
    exact Reg.step2_move (.tmp 0) rfl h0 hI trivial
  · skip
    intro aq wq lq hI hl hdone hlater hold hd ho
    have h1 : aq.tmps.getD 1 undef = .int .i64 0 := ho 1 (by kernel_rfl)
    clear hd ho hdone hlater hold
    exact Reg.step2_move (.tmp 1) rfl h1 hI trivial
  · skip
    intro aq wq lq hI hl hdone hlater hold hd ho
    have h21 : aq.tmps.getD 21 undef = .pointer (some ⟨q, 0, none⟩) := hd 21 (by kernel_rfl)
    clear hd ho hdone hlater hold
    rw [Array.getD_eq_getD_getElem?] at h21
    refine Reg.step2_val (.pointer (some ⟨q, 0, none⟩)) ?_ rfl hI trivial
    go_simp
  · skip
    intro aq wq lq hI hl hdone hlater hold hd ho
    have h23 : aq.tmps.getD 23 undef = .pointer (some ⟨q, 0, none⟩) := hd 23 (by kernel_rfl)
    clear hd ho hdone hlater hold
    rw [Array.getD_eq_getD_getElem?] at h23
    refine Reg.step2_val (.pointer (some ⟨q, 0, none⟩)) ?_ rfl hI trivial
    go_simp
  · skip
    intro aq wq lq hI hl hdone hlater hold hd ho
    have h24 : aq.tmps.getD 24 undef = .pointer (some ⟨q, 0, none⟩) := hd 24 (by kernel_rfl)
    have h22 : aq.tmps.getD 22 undef = .int .i64 0 := hd 22 (by kernel_rfl)
    clear hd ho hdone hlater hold
    rw [Array.getD_eq_getD_getElem?] at h24 h22
    refine Reg.step2_val (.pointer (some ⟨q, 0, none⟩)) ?_ rfl hI trivial
    go_simp
  · skip
    intro aq wq lq hI hl hdone hlater hold hd ho
    have h25 : aq.tmps.getD 25 undef = .pointer (some ⟨q, 0, none⟩) := hd 25 (by kernel_rfl)
    clear hd ho hdone hlater hold
    rw [Array.getD_eq_getD_getElem?] at h25
    have c0 := (HP.out.later hI).dev (s := 0) (by omega)
    refine Reg.step2_val (.pointer (some ⟨pd 0, 0, none⟩)) ?_ rfl hI trivial
    go_simp
  · skip
    intro aq wq lq hI hl hdone hlater hold hd ho
    have h26 : aq.tmps.getD 26 undef = .pointer (some ⟨pd 0, 0, none⟩) := hd 26 (by kernel_rfl)
    clear hd ho hdone hlater hold
    rw [Array.getD_eq_getD_getElem?] at h26
    refine Reg.step2_call 62 #[.pointer (some ⟨pd 0, 0, none⟩)] ?_ ((shape_l wq (HV.out.below hI (Nat.le_refl _)) 20 128 HZ.out.1 HZ.out.2.1).mono ?_)
    · clear hI
      simp [execOp]
      go_simp
    · rintro e w2 ⟨rfl, hb⟩
      exact ⟨_, rfl, rfl, b_on hI hb, trivial⟩
  · skip
    intro aq wq lq hI hl hdone hlater hold hd ho
    have h20 : aq.tmps.getD 20 undef = .agg #[.int .i64 20, .int .i64 128] := hd 20 (by kernel_rfl)
    have h27 : aq.tmps.getD 27 undef = .agg #[.int .i64 20, .int .i64 128] := hd 27 (by kernel_rfl)
    clear hd ho hdone hlater hold
    rw [Array.getD_eq_getD_getElem?] at h20 h27
    refine Reg.step2_val (.bool false) ?_ rfl hI trivial
    simp [execOp, Act.eval, h20, h27]
    try go_simp
  · skip
    intro aq wq lq hI hl hdone hlater hold hd ho
    have h18 : aq.tmps.getD 18 undef = .bool false := hd 18 (by kernel_rfl)
    have h28 : aq.tmps.getD 28 undef = .bool false := hd 28 (by kernel_rfl)
    clear hd ho hdone hlater hold
    rw [Array.getD_eq_getD_getElem?] at h18 h28
    refine Reg.step2_val (.bool false) ?_ rfl hI trivial
    simp [execOp, Act.eval, h18, h28]
    try go_simp
  · skip
    intro aq wq lq hI hl hdone hlater hold hd ho
    have h29 : aq.tmps.getD 29 undef = .bool false := hd 29 (by kernel_rfl)
    clear hd ho hdone hlater hold
    exact Reg.step2_move (.tmp 29) rfl h29 hI trivial
  · skip
    intro aq wq lq hI hl hdone hlater hold hd ho
    have h0 : aq.tmps.getD 0 undef = .pointer (some ⟨q, 0, none⟩) := ho 0 (by kernel_rfl)
    clear hd ho hdone hlater hold
    exact Reg.step2_move (.tmp 0) rfl h0 hI trivial
  · skip
    intro aq wq lq hI hl hdone hlater hold hd ho
    have h31 : aq.tmps.getD 31 undef = .pointer (some ⟨q, 0, none⟩) := hd 31 (by kernel_rfl)
    clear hd ho hdone hlater hold
    rw [Array.getD_eq_getD_getElem?] at h31
    refine Reg.step2_val (.pointer (some ⟨q, 0, none⟩)) ?_ rfl hI trivial
    go_simp
  · skip
    intro aq wq lq hI hl hdone hlater hold hd ho
    have h32 : aq.tmps.getD 32 undef = .pointer (some ⟨q, 0, none⟩) := hd 32 (by kernel_rfl)
    clear hd ho hdone hlater hold
    rw [Array.getD_eq_getD_getElem?] at h32
    refine Reg.step2_val (.pointer (some ⟨q, 0, none⟩)) ?_ rfl hI trivial
    go_simp
  · skip
    intro aq wq lq hI hl hdone hlater hold hd ho
    have h33 : aq.tmps.getD 33 undef = .pointer (some ⟨q, 0, none⟩) := hd 33 (by kernel_rfl)
    clear hd ho hdone hlater hold
    rw [Array.getD_eq_getD_getElem?] at h33
    refine Reg.step2_val (.slice (some ⟨q, 0, none⟩) 2 2) ?_ rfl hI trivial
    simp [execOp, Act.eval, h33]
    try go_simp
  · skip
    intro aq wq lq hI hl hdone hlater hold hd ho
    have h2 : aq.tmps.getD 2 undef = .pointer (some ⟨d, 0, none⟩) := ho 2 (by kernel_rfl)
    clear hd ho hdone hlater hold
    exact Reg.step2_move (.tmp 2) rfl h2 hI trivial
  · skip
    intro aq wq lq hI hl hdone hlater hold hd ho
    have h34 : aq.tmps.getD 34 undef = .slice (some ⟨q, 0, none⟩) 2 2 := hd 34 (by kernel_rfl)
    have h35 : aq.tmps.getD 35 undef = .pointer (some ⟨d, 0, none⟩) := hd 35 (by kernel_rfl)
    clear hd ho hdone hlater hold
    rw [Array.getD_eq_getD_getElem?] at h34 h35
    refine Reg.step2_call 63 #[.slice (some ⟨q, 0, none⟩) 2 2, .pointer (some ⟨d, 0, none⟩)] ?_ ((contains_dev (HP.out.later hI) d false true (eq_dev (HD.out.below hI (Nat.le_refl _)) (HV.out.below hI (Nat.le_refl _)) HNE.out) (by rw [← HDD.out]; exact same_dev wq d)).mono ?_)
    · clear hI
      simp [execOp]
      go_simp
    · rintro e w2 ⟨rfl, rfl⟩
      exact ⟨_, rfl, rfl, hI, trivial⟩
  · skip
    intro aq wq lq hI hl hdone hlater hold hd ho
    have h30 : aq.tmps.getD 30 undef = .bool false := hd 30 (by kernel_rfl)
    have h36 : aq.tmps.getD 36 undef = .bool true := hd 36 (by kernel_rfl)
    clear hd ho hdone hlater hold
    rw [Array.getD_eq_getD_getElem?] at h30 h36
    refine Reg.step2_val (.bool true) ?_ rfl hI trivial
    simp [execOp, Act.eval, h30, h36]
    try go_simp
  case hend =>
    intro wz hI
    simp only [Reg.fill, List.foldl_cons, List.foldl_nil, List.setIfInBounds_toArray, List.set_cons_zero, List.set_cons_succ]
    have HI := Lib.hid hI
    clear hI
    go_wp2
    go_ret
    exact ⟨rfl, HI.out⟩
end
end Go.Proofs.YtpdickpipdaphaaGreatDoor.Rem

/- Layer 7 (remap): Replace, where it is done. -/
namespace Go.Proofs.YtpdickpipdaphaaGreatDoor.Rem
open Go Go.RowKit Go.Proofs.YtpdickpipdaphaaGreatDoor Dev Tab
set_option linter.unusedVariables false

def ldP (a : Addr) : Sem (Array Value) := loadCells a 72
@[simp ↓ high, go_sem ↓ high] theorem load_from72 (a : Addr) : loadCellsFrom a 0 72 #[] = ldP a := rfl
@[simp] theorem prow_size (pd : Nat → Nat) (m : Nat → List Int) : (prow pd m).size = 72 := by simp [prow, tl_length]
@[simp] theorem prow_ne (pd : Nat → Nat) (m : Nat → List Int) : prow pd m ≠ #[] := by intro h; have := congrArg Array.size h; simp at this
/-- the zero pair's cells -/
def p0 : Array Value := ([Value.pointer none, Value.pointer none] ++ tl 0 0 [] ++ tl 0 0 []).toArray
@[simp] theorem p0_size : p0.size = 72 := by simp [p0, tl_length]
theorem prow_one (pd : Nat → Nat) (m : Nat → List Int) : ∀ v ∈ (prow pd m).toList, v.oneCell' = true := by
  intro v hv
  have hone : ∀ l : List Int, ∀ v ∈ tl 12 4 l, v.oneCell' = true := fun l v hv => by
    have := ta_one 12 4 l
    rw [Array.all_eq_true] at this
    obtain ⟨i, hi, rfl⟩ := List.mem_iff_getElem.1 hv
    have := this i (by simpa [ta] using hi)
    simpa [ta] using this
  have hv' : v ∈ [Value.pointer (some ⟨pd 0, 0, none⟩), Value.pointer (some ⟨pd 1, 0, none⟩)] ++ tl 12 4 (m 0) ++ tl 12 4 (m 1) := hv
  rw [List.mem_append, List.mem_append] at hv'
  rcases hv' with (h | h) | h
  · simp at h
    rcases h with rfl | rfl <;> rfl
  · exact hone _ v h
  · exact hone _ v h
theorem zc80 : p0 = Tryz.zeroCells80 := by kernel_rfl
theorem wl_alloc80 {ops : Array Oper} {rest : List Oper} {dst : Option Tmp} {ty : TypeId} {pos : String} {after : Array Edge} {a : Act} {w : World} {Q : Exit → Act → World → Prop}
    (h : wpList Tryz.prog ops Q rest (a.put dst (.pointer (some ⟨w.heap.size, 0, none⟩))) (w.alloc (.cells p0 80))) : wpList Tryz.prog ops Q (⟨dst, .alloc 80, ty, pos, after, none⟩ :: rest) a w := by
  refine wpList_plain rfl fun K' hK' => ?_
  unfold Oper.wp
  simp [execOp, Instr.alloc, Result.andThen]
  rw [zc80] at h
  exact hK' _ _ h
theorem prow_set (pd : Nat → Nat) (m : Nat → List Int) {s : Nat} (hs : s < 2) (d : Nat) : (prow pd m).setIfInBounds s (.pointer (some ⟨d, 0, none⟩)) = prow (upd pd s d) m := by
  rcases (show s = 0 ∨ s = 1 by omega) with rfl | rfl
  · unfold prow; rw [upd_same, upd_ne _ _ (by omega)]; simp
  · unfold prow; rw [upd_same, upd_ne _ _ (by omega)]; simp
section
variable {w0 w wa : World} {X : List Nat} {q : Nat} {pd : Nat → Nat} {m : Nat → List Int} {D : Nat → Dv} {s : Nat}
theorem PB.ldp (h : PB w q pd m) : (ldP ⟨q, 0, none⟩).run Tryz.prog w = .ok (prow pd m) w := by
  have := run_loadCells_list (P := Tryz.prog) w ⟨q, 0, none⟩ (prow pd m).toList (fun j v hv => by
    have hadd : (⟨q, 0, none⟩ : Addr).add j = ⟨q, j, none⟩ := by unfold Addr.add; split <;> simp_all
    rw [hadd]; exact (Has.cell h j).trans hv)
  rw [show (prow pd m).toList.length = 72 by simp] at this
  exact this
theorem row_st (w : World) (q : Nat) (cs : Array Value) (hc : w.heap[q]? = some (.cells cs 80 (0, 0))) (hz : cs.size = 72) (pd : Nat → Nat) (m : Nat → List Int) : (storeCells ⟨q, 0, none⟩ (prow pd m).toList 0).run Tryz.prog w = .ok () (w.setRow q (prow pd m)) := by
  have := run_storeCells_at (P := Tryz.prog) q 0 80 (prow pd m).toList 0 cs w hc (by simp [hz]) (prow_one pd m)
  rw [this]
  congr 2
  have h1 : (prow pd m).toList.length = 72 := by simp
  rw [h1]
  simp [List.drop_of_length_le (show cs.toList.length ≤ 72 by simp [hz])]
theorem Dvs.chg (h : Dvs w0 X pd D w) {w' : World} (hc : Chg (fun k => k ∈ X) w w') : Dvs w0 X pd D w' := by
  obtain ⟨⟨sb, cv, hd, hf, hff⟩, hx, hb⟩ := h
  exact ⟨⟨sb, cv, fun s h2 => (hd s h2).chg hc fun k hk => (hf s h2 k hk).2, hf, hff⟩, fun k hk => ⟨(hx k hk).1, Nat.lt_of_lt_of_le (hx k hk).2 hc.size⟩, hb.trans (hc.below hb.size fun k hk => (hx k hk).1)⟩
theorem Dvs.own {X' : List Nat} (h : Dvs w0 X' pd D w) (hq : q ∈ X') (hqX : q ∉ X) (hs : ∀ k ∈ X, k ∈ X') (hp : PB w q pd m) : CPe w0 X q pd m D w := by
  obtain ⟨⟨sb, cv, hd, hf, hff⟩, hx, hb⟩ := h
  exact ⟨⟨sb, cv, hd, fun s hs2 k hk => ⟨(hf s hs2 k hk).1, fun e => (hf s hs2 k hk).2 (hs k e), fun e => (hf s hs2 k hk).2 (e ▸ hq)⟩, hff⟩, hp, ⟨(hx q hq).1, hqX⟩, fun k hk => hx k (hs k hk), hb⟩
/-- another device stands there -/
theorem CPe.other (h : CPe w0 X q pd m D wa) (hs : s < 2) (hb : Below wa.heap.size wa w) {d sd : Nat} {cd : Value} {Dd : Dv} (hd : DevAt w d sd cd Dd) (hf : ∀ k, foot d sd cd k → wa.heap.size ≤ k) : Dvs w0 (q :: X) (upd pd s d) (upd D s Dd) w := by
  have hl := h.lt
  obtain ⟨⟨sb, cv, hdv, hfv, hff⟩, hp, hq, hx, hb0⟩ := h
  have hxs : ∀ k ∈ q :: X, w0.heap.size ≤ k ∧ k < wa.heap.size := fun k hk => by
    rcases List.mem_cons.1 hk with rfl | hk
    · exact ⟨hq.1, hl⟩
    · exact hx k hk
  refine ⟨⟨upd sb s sd, upd cv s cd, fun t ht => ?_, fun t ht k hk => ?_, fun k hk hk2 => ?_⟩, fun k hk => ⟨(hxs k hk).1, Nat.lt_of_lt_of_le (hxs k hk).2 hb.size⟩, hb0.trans (hb.mono hb0.size)⟩
  · by_cases e : t = s
    · subst e; simp only [upd_same]; exact hd
    · simp only [upd_ne _ _ e]; exact (hdv t ht).below hb (Nat.le_refl _)
  · by_cases e : t = s
    · subst e; simp only [upd_same] at hk
      exact ⟨Nat.le_trans hb0.size (hf k hk), fun hm => by have := hf k hk; have := (hxs k hm).2; omega⟩
    · simp only [upd_ne _ _ e] at hk
      refine ⟨(hfv t ht k hk).1, fun hm => ?_⟩
      rcases List.mem_cons.1 hm with rfl | hm
      · exact (hfv t ht _ hk).2.2 rfl
      · exact (hfv t ht k hk).2.1 hm
  · rcases (show s = 0 ∨ s = 1 by omega) with rfl | rfl
    · rw [upd_same, upd_same, upd_same] at hk
      rw [upd_ne _ _ (by omega), upd_ne _ _ (by omega), upd_ne _ _ (by omega)] at hk2
      have := hf k hk; have := (hdv 1 (by omega)).lt k hk2; omega
    · rw [upd_same, upd_same, upd_same] at hk2
      rw [upd_ne _ _ (by omega), upd_ne _ _ (by omega), upd_ne _ _ (by omega)] at hk
      have := hf k hk2; have := (hdv 0 (by omega)).lt k hk; omega
theorem PB.dvset (h : PB w q pd m) (hs : s < 2) (d : Nat) : PB (w.setCell ⟨q, s, none⟩ (.pointer (some ⟨d, 0, none⟩))) q (upd pd s d) m := by
  have := Has.set h s (.pointer (some ⟨d, 0, none⟩))
  rcases (show s = 0 ∨ s = 1 by omega) with rfl | rfl
  · unfold PB; rw [upd_same, upd_ne _ _ (by omega)]; exact this
  · unfold PB; rw [upd_same, upd_ne _ _ (by omega)]; exact this
set_option maxHeartbeats 1000000 in
set_option maxRecDepth 100000 in
theorem replace_e (h : CPe w0 X q pd m D wa) (hs : s < 2) (hz : Sz D) (hg : ∀ t, t < 2 → Tab.Good 12 4 (m t)) (hb : Below wa.heap.size wa w) {d sd : Nat} {cd : Value} {Dd : Dv} (hd : DevAt w d sd cd Dd) (hf : ∀ k, foot d sd cd k → wa.heap.size ≤ k) (hzd : (Dd.n : Int) = 20 ∧ (Dd.size : Int) = 128 ∧ Dd.cache.length ≤ 1000000) (hok : kbE (upd D s Dd) m = 0) :
    Calls Tryz.prog 30 #[.pointer (some ⟨q, 0, none⟩), .int .i64 (s : Nat), .pointer (some ⟨d, 0, none⟩)] w fun e w' => e = .returned (.int .i64 0) ∧ CPe w0 X q (upd pd s d) m (kbD (upd D s Dd) m) w' ∧ Same X wa w' := by
  have hne : ∀ t, t < 2 → d ≠ pd t := fun t ht e => by
    obtain ⟨sb, cv, hdv, -, -⟩ := h.some_
    have h1 := (hdv t ht).lt (pd t) (.inl rfl)
    have h2 := hf d (.inl rfl)
    omega
  have HNE := Lib.hid hne
  have HO := Lib.hid (h.other hs hb hd hf)
  have HPW := Lib.hid (h.pb.later hb)
  have hsw : Same X wa w := fun k hk => hb.block k (h.x k hk).2
  have HSW := Lib.hid hsw
  have HQX := Lib.hid h.q_.2
  obtain ⟨sb, cv, hdv, -, -⟩ := (h.later hb).some_
  have HV := Lib.hid hdv
  have HD := Lib.hid hd
  have HZ := Lib.hid (And.intro (hz s hs).1 (And.intro (hz s hs).2.1 (And.intro hzd.1 hzd.2.1)))
  have HG := Lib.hid hg
  have HZ2 := Lib.hid (show ∀ t, t < 2 → (upd D s Dd t).size = 128 ∧ (upd D s Dd t).cache.length ≤ 1000000 from fun t ht => by
    by_cases e : t = s
    · subst e; rw [upd_same]; have := hzd.2.1; exact ⟨by omega, hzd.2.2⟩
    · rw [upd_ne _ _ e]; have := (hz t ht).2.1; exact ⟨by omega, (hz t ht).2.2⟩)
  have HOK := Lib.hid hok
  have HS := Lib.hid hs
  have hs0 : 0 ≤ (s : Int) := by omega
  have hs2 : (s : Int) < 2 := by omega
  have hside : sideB (s : Int) = true := by unfold sideB; simp; omega
  have HSD := Lib.hid hside
  obtain ⟨p, hp⟩ : ∃ p, p = pd s := ⟨_, rfl⟩
  have HP := Lib.hid hp
  clear h hne hz hg hd hf hzd hok hdv hs hside hb hsw hp
  go_enter Tryz.func30, Tryz.ntmps30
  go_wp2_with fail
  refine Reg.region_valsG (by kernel_rfl) [(15, .int .i64 (s : Nat)), (16, .bool true), (17, .bool false), (18, .bool false), (19, .pointer (some ⟨d, 0, none⟩)), (20, .agg #[.int .i64 20, .int .i64 128]), (21, .pointer (some ⟨q, 0, none⟩)), (22, .int .i64 (s : Nat)), (23, .pointer (some ⟨q, 0, none⟩)), (24, .pointer (some ⟨q, 0, none⟩)), (25, .pointer (some ⟨q, s, none⟩)), (26, .pointer (some ⟨p, 0, none⟩)), (27, .agg #[.int .i64 20, .int .i64 128]), (28, .bool false), (29, .bool false), (30, .bool false), (31, .pointer (some ⟨q, 0, none⟩)), (32, .pointer (some ⟨q, 0, none⟩)), (33, .pointer (some ⟨q, 0, none⟩)), (34, .slice (some ⟨q, 0, none⟩) 2 2), (35, .pointer (some ⟨d, 0, none⟩)), (36, .bool false), (37, .bool false)] (fun _ wy => Below w.heap.size w wy) (by kernel_rfl) (by kernel_rfl) [] (by kernel_rfl) ((Below.refl _ _).drew) ⟨?_, ?_, ?_, ?_, ?_, ?_, ?_, ?_, ?_, ?_, ?_, ?_, ?_, ?_, ?_, ?_, ?_, ?_, ?_, ?_, ?_, ?_, ?_, trivial⟩ ?hend
  · skip
    intro aq wq lq hI hl hdone hlater hold hd ho
    have h1 : aq.tmps.getD 1 undef = .int .i64 (s : Nat) := ho 1 (by kernel_rfl)
    clear hd ho hdone hlater hold
    exact Reg.step2_move (.tmp 1) rfl h1 hI trivial
  · skip
    intro aq wq lq hI hl hdone hlater hold hd ho
    have h15 : aq.tmps.getD 15 undef = .int .i64 (s : Nat) := hd 15 (by kernel_rfl)
    clear hd ho hdone hlater hold
    rw [Array.getD_eq_getD_getElem?] at h15
    refine Reg.step2_call 61 #[.int .i64 (s : Nat)] ?_ ((hasR_any s wq).mono ?_)
    · clear hI
      simp [execOp]
      go_simp
    · rintro e w2 ⟨rfl, rfl⟩
      exact ⟨_, rfl, by rw [HSD.out]; exact rfl, hI, trivial⟩
  · skip
    intro aq wq lq hI hl hdone hlater hold hd ho
    have h16 : aq.tmps.getD 16 undef = .bool true := hd 16 (by kernel_rfl)
    clear hd ho hdone hlater hold
    rw [Array.getD_eq_getD_getElem?] at h16
    refine Reg.step2_val (.bool false) ?_ rfl hI trivial
    simp [execOp, Act.eval, h16]
    try go_simp
  · skip
    intro aq wq lq hI hl hdone hlater hold hd ho
    have h17 : aq.tmps.getD 17 undef = .bool false := hd 17 (by kernel_rfl)
    clear hd ho hdone hlater hold
    exact Reg.step2_move (.tmp 17) rfl h17 hI trivial
  · skip
    intro aq wq lq hI hl hdone hlater hold hd ho
    have h2 : aq.tmps.getD 2 undef = .pointer (some ⟨d, 0, none⟩) := ho 2 (by kernel_rfl)
    clear hd ho hdone hlater hold
    exact Reg.step2_move (.tmp 2) rfl h2 hI trivial
  · skip
    intro aq wq lq hI hl hdone hlater hold hd ho
    have h19 : aq.tmps.getD 19 undef = .pointer (some ⟨d, 0, none⟩) := hd 19 (by kernel_rfl)
    clear hd ho hdone hlater hold
    rw [Array.getD_eq_getD_getElem?] at h19
    refine Reg.step2_call 62 #[.pointer (some ⟨d, 0, none⟩)] ?_ ((shape_l wq (HD.out.below hI (Nat.le_refl _)) 20 128 HZ.out.2.2.1 HZ.out.2.2.2).mono ?_)
    · clear hI
      simp [execOp]
      go_simp
    · rintro e w2 ⟨rfl, hb⟩
      exact ⟨_, rfl, rfl, b_on hI hb, trivial⟩
  · skip
    intro aq wq lq hI hl hdone hlater hold hd ho
    have h0 : aq.tmps.getD 0 undef = .pointer (some ⟨q, 0, none⟩) := ho 0 (by kernel_rfl)
    clear hd ho hdone hlater hold
    exact Reg.step2_move (.tmp 0) rfl h0 hI trivial
  · skip
    intro aq wq lq hI hl hdone hlater hold hd ho
    have h1 : aq.tmps.getD 1 undef = .int .i64 (s : Nat) := ho 1 (by kernel_rfl)
    clear hd ho hdone hlater hold
    exact Reg.step2_move (.tmp 1) rfl h1 hI trivial
  · skip
    intro aq wq lq hI hl hdone hlater hold hd ho
    have h21 : aq.tmps.getD 21 undef = .pointer (some ⟨q, 0, none⟩) := hd 21 (by kernel_rfl)
    clear hd ho hdone hlater hold
    rw [Array.getD_eq_getD_getElem?] at h21
    refine Reg.step2_val (.pointer (some ⟨q, 0, none⟩)) ?_ rfl hI trivial
    go_simp
  · skip
    intro aq wq lq hI hl hdone hlater hold hd ho
    have h23 : aq.tmps.getD 23 undef = .pointer (some ⟨q, 0, none⟩) := hd 23 (by kernel_rfl)
    clear hd ho hdone hlater hold
    rw [Array.getD_eq_getD_getElem?] at h23
    refine Reg.step2_val (.pointer (some ⟨q, 0, none⟩)) ?_ rfl hI trivial
    go_simp
  · skip
    intro aq wq lq hI hl hdone hlater hold hd ho
    have h24 : aq.tmps.getD 24 undef = .pointer (some ⟨q, 0, none⟩) := hd 24 (by kernel_rfl)
    have h22 : aq.tmps.getD 22 undef = .int .i64 (s : Nat) := hd 22 (by kernel_rfl)
    clear hd ho hdone hlater hold
    rw [Array.getD_eq_getD_getElem?] at h24 h22
    refine Reg.step2_val (.pointer (some ⟨q, s, none⟩)) ?_ rfl hI trivial
    go_simp
  · skip
    intro aq wq lq hI hl hdone hlater hold hd ho
    have h25 : aq.tmps.getD 25 undef = .pointer (some ⟨q, s, none⟩) := hd 25 (by kernel_rfl)
    clear hd ho hdone hlater hold
    rw [Array.getD_eq_getD_getElem?] at h25
    have c0 := (HPW.out.later hI).dev HS.out
    rw [← HP.out] at c0
    refine Reg.step2_val (.pointer (some ⟨p, 0, none⟩)) ?_ rfl hI trivial
    go_simp
  · skip
    intro aq wq lq hI hl hdone hlater hold hd ho
    have h26 : aq.tmps.getD 26 undef = .pointer (some ⟨p, 0, none⟩) := hd 26 (by kernel_rfl)
    clear hd ho hdone hlater hold
    rw [Array.getD_eq_getD_getElem?] at h26
    refine Reg.step2_call 62 #[.pointer (some ⟨p, 0, none⟩)] ?_ ((shape_l wq (by rw [HP.out]; exact (HV.out s HS.out).below hI (Nat.le_refl _)) 20 128 HZ.out.1 HZ.out.2.1).mono ?_)
    · clear hI
      simp [execOp]
      go_simp
    · rintro e w2 ⟨rfl, hb⟩
      exact ⟨_, rfl, rfl, b_on hI hb, trivial⟩
  · skip
    intro aq wq lq hI hl hdone hlater hold hd ho
    have h20 : aq.tmps.getD 20 undef = .agg #[.int .i64 20, .int .i64 128] := hd 20 (by kernel_rfl)
    have h27 : aq.tmps.getD 27 undef = .agg #[.int .i64 20, .int .i64 128] := hd 27 (by kernel_rfl)
    clear hd ho hdone hlater hold
    rw [Array.getD_eq_getD_getElem?] at h20 h27
    refine Reg.step2_val (.bool false) ?_ rfl hI trivial
    simp [execOp, Act.eval, h20, h27]
    try go_simp
  · skip
    intro aq wq lq hI hl hdone hlater hold hd ho
    have h18 : aq.tmps.getD 18 undef = .bool false := hd 18 (by kernel_rfl)
    have h28 : aq.tmps.getD 28 undef = .bool false := hd 28 (by kernel_rfl)
    clear hd ho hdone hlater hold
    rw [Array.getD_eq_getD_getElem?] at h18 h28
    refine Reg.step2_val (.bool false) ?_ rfl hI trivial
    simp [execOp, Act.eval, h18, h28]
    try go_simp
  · skip
    intro aq wq lq hI hl hdone hlater hold hd ho
    have h29 : aq.tmps.getD 29 undef = .bool false := hd 29 (by kernel_rfl)
    clear hd ho hdone hlater hold
    exact Reg.step2_move (.tmp 29) rfl h29 hI trivial
  · skip
    intro aq wq lq hI hl hdone hlater hold hd ho
    have h0 : aq.tmps.getD 0 undef = .pointer (some ⟨q, 0, none⟩) := ho 0 (by kernel_rfl)
    clear hd ho hdone hlater hold
    exact Reg.step2_move (.tmp 0) rfl h0 hI trivial
  · skip
    intro aq wq lq hI hl hdone hlater hold hd ho
    have h31 : aq.tmps.getD 31 undef = .pointer (some ⟨q, 0, none⟩) := hd 31 (by kernel_rfl)
    clear hd ho hdone hlater hold
    rw [Array.getD_eq_getD_getElem?] at h31
    refine Reg.step2_val (.pointer (some ⟨q, 0, none⟩)) ?_ rfl hI trivial
    go_simp
  · skip
    intro aq wq lq hI hl hdone hlater hold hd ho
    have h32 : aq.tmps.getD 32 undef = .pointer (some ⟨q, 0, none⟩) := hd 32 (by kernel_rfl)
    clear hd ho hdone hlater hold
    rw [Array.getD_eq_getD_getElem?] at h32
    refine Reg.step2_val (.pointer (some ⟨q, 0, none⟩)) ?_ rfl hI trivial
    go_simp
  · skip
    intro aq wq lq hI hl hdone hlater hold hd ho
    have h33 : aq.tmps.getD 33 undef = .pointer (some ⟨q, 0, none⟩) := hd 33 (by kernel_rfl)
    clear hd ho hdone hlater hold
    rw [Array.getD_eq_getD_getElem?] at h33
    refine Reg.step2_val (.slice (some ⟨q, 0, none⟩) 2 2) ?_ rfl hI trivial
    simp [execOp, Act.eval, h33]
    try go_simp
  · skip
    intro aq wq lq hI hl hdone hlater hold hd ho
    have h2 : aq.tmps.getD 2 undef = .pointer (some ⟨d, 0, none⟩) := ho 2 (by kernel_rfl)
    clear hd ho hdone hlater hold
    exact Reg.step2_move (.tmp 2) rfl h2 hI trivial
  · skip
    intro aq wq lq hI hl hdone hlater hold hd ho
    have h34 : aq.tmps.getD 34 undef = .slice (some ⟨q, 0, none⟩) 2 2 := hd 34 (by kernel_rfl)
    have h35 : aq.tmps.getD 35 undef = .pointer (some ⟨d, 0, none⟩) := hd 35 (by kernel_rfl)
    clear hd ho hdone hlater hold
    rw [Array.getD_eq_getD_getElem?] at h34 h35
    refine Reg.step2_call 63 #[.slice (some ⟨q, 0, none⟩) 2 2, .pointer (some ⟨d, 0, none⟩)] ?_ ((contains_dev (HPW.out.later hI) d false false (eq_dev (HD.out.below hI (Nat.le_refl _)) ((HV.out 0 (by omega)).below hI (Nat.le_refl _)) (HNE.out 0 (by omega))) (eq_dev (HD.out.below hI (Nat.le_refl _)) ((HV.out 1 (by omega)).below hI (Nat.le_refl _)) (HNE.out 1 (by omega)))).mono ?_)
    · clear hI
      simp [execOp]
      go_simp
    · rintro e w2 ⟨rfl, rfl⟩
      exact ⟨_, rfl, rfl, hI, trivial⟩
  · skip
    intro aq wq lq hI hl hdone hlater hold hd ho
    have h30 : aq.tmps.getD 30 undef = .bool false := hd 30 (by kernel_rfl)
    have h36 : aq.tmps.getD 36 undef = .bool false := hd 36 (by kernel_rfl)
    clear hd ho hdone hlater hold
    rw [Array.getD_eq_getD_getElem?] at h30 h36
    refine Reg.step2_val (.bool false) ?_ rfl hI trivial
    simp [execOp, Act.eval, h30, h36]
    try go_simp
  case hend =>
    intro wz hI
    simp only [Reg.fill, List.foldl_cons, List.foldl_nil, List.setIfInBounds_toArray, List.set_cons_zero, List.set_cons_succ]
    have HPZ := Lib.hid (HPW.out.later hI)
    have HI := Lib.hid hI
    have hld := HPZ.out.ldp
    have hst := row_st (wz.alloc (.cells p0 80)) wz.heap.size p0 (heap_alloc_last wz _) p0_size pd m
    rw [World.setRow_alloc_new] at hst
    have hPR : PB (wz.alloc (.cells (prow pd m) 80)) wz.heap.size pd m := Has.new wz (prow pd m).toList 80
    have hcs := hPR.dev HS.out
    have hfs := Has.frozen hPR s
    obtain ⟨r, hr⟩ : ∃ r, r = wz.heap.size := ⟨_, rfl⟩
    clear hI
    go_wp2_with (first | with_reducible refine wl_alloc80 ?_)
    rw [prow_set pd m HS.out, ← hr]
    have HPR2 := Lib.hid (show PB (wz.alloc (.cells (prow (upd pd s d) m) 80)) r (upd pd s d) m from by rw [hr]; exact Has.new wz (prow (upd pd s d) m).toList 80)
    have HDV := Lib.hid (HO.out.later HI.out)
    have HC := Lib.hid (HDV.out.pair (b_new wz (.cells (prow (upd pd s d) m) 80)) (q := r) (by omega) HPR2.out)
    have HSA := Lib.hid (show Same X wa (wz.alloc (.cells (prow (upd pd s d) m) 80)) from fun k hk => (Below.heap_alloc _ _ _ (HDV.out.x k (List.mem_cons_of_mem _ hk)).2).trans ((HO.out.same HI.out k (List.mem_cons_of_mem _ hk)).trans (HSW.out k hk)))
    have HPQ := Lib.hid (HPZ.out.later (b_new wz (.cells (prow (upd pd s d) m) 80)))
    have HRX := Lib.hid (show r ∉ q :: X from fun hm => by have := (HDV.out.x r hm).2; omega)
    clear hld hst hPR hcs hfs hr HO HPW HV HD HPZ HI HDV HPR2
    refine (keepBoth_e HC.out HG.out (fun t ht => (HZ2.out t ht).1) (fun t ht => (HZ2.out t ht).2)).mono ?_
    rintro e w2 ⟨rfl, hc, hsm⟩
    rw [HOK.out]
    have hq2 : PB w2 q pd m := HPQ.out.same (hsm q (by simp))
    have hdv := hc.dvs
    have hld := hc.pb.ldp
    have hst := row_st w2 q (prow pd m) hq2 (by simp) (upd pd s d) m
    have HPF := Lib.hid (show PB (w2.setRow q (prow (upd pd s d) m)) q (upd pd s d) m from setRow_heap w2 q _ _ _ _ hq2)
    have HCF := Lib.hid ((hdv.chg (chg_row w2 q (prow (upd pd s d) m) (by simp))).own (q := q) (X := X) (by simp) HQX.out (fun k hk => by simp [hk]) HPF.out)
    have HSF := Lib.hid (show Same X wa (w2.setRow q (prow (upd pd s d) m)) from fun k hk => (setRow_other w2 q k (prow (upd pd s d) m) (fun e : k = q => HQX.out (e ▸ hk))).trans ((hsm k (by simp [hk])).trans (HSA.out k hk)))
    clear hq2 hdv hc hsm HC HPQ HPF
    go_wp2_with fail
    go_ret
    exact ⟨rfl, HCF.out, HSF.out⟩
end
end Go.Proofs.YtpdickpipdaphaaGreatDoor.Rem

/- Layer 7 (remap): a pair of devices without faults but bad sectors, in memory; contracts of its exported functions there. -/
set_option linter.unusedVariables false
namespace Go.Proofs.YtpdickpipdaphaaGreatDoor.Dev
open Go Go.RowKit Go.Proofs.YtpdickpipdaphaaGreatDoor Rem
/-! ### keep, of devices without faults -/
theorem Dv.puts_ok : ∀ (l : List ((Nat × ByteArray) × Nat)) (D : Dv), D.Ok → (∀ y ∈ l, y.1.1 < D.n ∧ y.1.2.size = D.size ∧ y.2 ≤ D.size) → (D.puts l).Ok
  | [], D, ok, _ => ok
  | x :: l, D, ok, h => by
    have hx := h x (by simp)
    refine puts_ok l (D.put x.1.1 x.1.2 x.2) (D.put_ok ok _ _ _ hx.1 hx.2.1 hx.2.2) fun y hy => ?_
    have := h y (by simp [hy])
    rw [D.put_n, D.put_size]; exact this
section
variable {D : Dv} {V : Nat → ByteArray} {B : Nat → Bool} {c : Nat}
theorem Cd.push_eq (h : Cd D 20 128 V B c) {i : Nat} (hi : i < 20) {s : ByteArray} (hs : s.size = 128) (hb : B i = false) : D.writeD (i : Nat) s = D.counted.push (i : Nat) s := by
  unfold Dv.writeD; rw [h.refuse, h.stk, h.bad i hi, h.has hi, h.blow, h.counted.goes hi hb, h.counted.dest, h.counted.struck, hb]; simp [hs, h.size]
theorem Cd.write_ok (h : Cd D 20 128 V B c) (ok : D.Ok) {i : Nat} (hi : i < 20) {s : ByteArray} (hs : s.size = 128) (hb : B i = false) : (D.writeD (i : Nat) s).Ok := by
  rw [h.push_eq hi hs hb]
  refine ⟨ok.n8, ok.n4096, ok.s128, ok.s1024, ok.media, fun x hx => ?_, fun x hx => ?_, ok.fuse, ok.lose, ok.stray⟩
  · rcases List.mem_append.1 hx with hx | hx
    · exact ok.text x hx
    · rw [List.mem_singleton.1 hx]; exact hs.trans h.size.symm
  · rcases List.mem_append.1 hx with hx | hx
    · exact ok.sector x hx
    · rw [List.mem_singleton.1 hx]; show (i : Int).toNat < D.n; rw [Int.toNat_natCast, h.n]; exact hi
theorem Cd.flush_ok (h : Cd D 20 128 V B c) (ok : D.Ok) : D.flushD.Ok := by
  have h2 : D.flushD = (D.flushed.puts (whole D)).emptied := by unfold Dv.flushD; rw [h.refuse, h.stk, h.blow]; rfl
  have hp := Dv.puts_ok (whole D) D.flushed ⟨ok.n8, ok.n4096, ok.s128, ok.s1024, ok.media, ok.text, ok.sector, ok.fuse, ok.lose, ok.stray⟩ fun y hy => by
    obtain ⟨x, hx, rfl⟩ := List.mem_map.1 hy
    exact ⟨ok.sector x hx, ok.text x hx, Nat.le_refl _⟩
  rw [h2]
  exact ⟨hp.n8, hp.n4096, hp.s128, hp.s1024, hp.media, fun x hx => (by cases hx), fun x hx => (by cases hx), hp.fuse, hp.lose, hp.stray⟩
theorem Cd.put (h : Cd D 20 128 V B c) (ok : D.Ok) {i : Nat} (hi : i < 20) {s : ByteArray} (hs : s.size = 128) (hb : B i = false) : putE D (i : Nat) s = 0 ∧ Cd (putD D (i : Nat) s) 20 128 (upd V i s) B 0 ∧ (putD D (i : Nat) s).Ok := by
  obtain ⟨w1, w2⟩ := h.write hi hs hb
  have w3 := h.write_ok ok hi hs hb
  obtain ⟨f1, f2⟩ := w2.flush w3
  have f3 := w2.flush_ok w3
  unfold putE putD
  rw [if_neg (by rw [h.dead]; decide), if_neg (by omega), if_neg (by rw [h.dead]; decide), if_neg (by omega)]
  exact ⟨f1, f2, f3⟩
end
end Go.Proofs.YtpdickpipdaphaaGreatDoor.Dev
namespace Go.Proofs.YtpdickpipdaphaaGreatDoor.Rem
open Go Go.RowKit Go.Proofs.YtpdickpipdaphaaGreatDoor Dev Tab
/-- both devices are without faults but bad sectors, which are none of the slots -/
structure Both (D : Nat → Dv) (S : Nat → Sd) (c : Nat) : Prop where
  cd : ∀ t, t < 2 → Cd (D t) 20 128 (S t).V (S t).B c
  ok : ∀ t, t < 2 → (D t).Ok
  slot : ∀ t, t < 2 → ∀ i, i < 4 → (S t).B i = false
theorem kpP_cases {s t : Nat} (hs : s < 2) (ht : t < 2) : t = s ∨ (t = 1 - s ∧ t ≠ s) := by omega
theorem Both.keep {D : Nat → Dv} {S : Nat → Sd} {c : Nat} (h : Both D S c) {s : Nat} (hs : s < 2) {l : List Int} (hg : Tab.Good 12 4 l) : kpE D s l = 0 ∧ Both (kpD D s l) (kept S s l) c := by
  have hz := imgT_size s l hg
  have h0 := (h.cd s hs).put (h.ok s hs) (i := l.length % 2) (by omega) hz (h.slot s hs _ (by omega))
  have h1 := (h.cd (1 - s) (by omega)).put (h.ok (1 - s) (by omega)) (i := 2 + l.length % 2) (by omega) hz (h.slot (1 - s) (by omega) _ (by omega))
  have e0 : kpE0 D s l = 0 := h0.1
  have e1 : kpE1 D s l = 0 := h1.1
  have hne : 1 - s ≠ s := by omega
  have hD : ∀ t, t < 2 → kpD D s l t = (if t = s then kpD0 D s l else kpD1 D s l) := fun t ht => by
    unfold kpD
    rw [if_neg (by rw [e0]; decide)]
    rcases kpP_cases hs ht with rfl | ⟨rfl, h2⟩
    · rw [upd_ne _ _ (Ne.symm hne), upd_same, if_pos rfl]
    · rw [upd_same, if_neg h2]
  refine ⟨by unfold kpE; rw [if_neg (by rw [e0]; decide), if_neg (by rw [e1]; decide), if_pos (.inl e0)], fun t ht => ?_, fun t ht => ?_, fun t ht i hi => ?_⟩
  · rw [hD t ht]
    rcases kpP_cases hs ht with rfl | ⟨rfl, h2⟩
    · rw [if_pos rfl, kept_own]; exact h0.2.1.mono (Nat.zero_le _)
    · rw [if_neg h2, kept_oth S hs]; exact h1.2.1.mono (Nat.zero_le _)
  · rw [hD t ht]
    rcases kpP_cases hs ht with rfl | ⟨rfl, h2⟩
    · rw [if_pos rfl]; exact h0.2.2
    · rw [if_neg h2]; exact h1.2.2
  · rw [(kept_far hs ht).2.1]; exact h.slot t ht i hi
theorem Both.keepBoth {D : Nat → Dv} {S : Nat → Sd} {c : Nat} (h : Both D S c) {m : Nat → List Int} (hg : ∀ t, t < 2 → Tab.Good 12 4 (m t)) : kbE D m = 0 ∧ Both (kbD D m) (kept (kept S 0 (m 0)) 1 (m 1)) c := by
  obtain ⟨a1, a2⟩ := h.keep (s := 0) (by omega) (hg 0 (by omega))
  obtain ⟨b1, b2⟩ := a2.keep (s := 1) (by omega) (hg 1 (by omega))
  have x0 : kbX D m 0 = 0 := a1
  have x1 : kbX D m 1 = 0 := b1
  unfold kbE kbD
  rw [if_neg (by omega), if_neg (by omega)]
  exact ⟨x1, b2⟩
theorem Both.rd {D : Nat → Dv} {S : Nat → Sd} {c : Nat} (h : Both D S c) {s : Nat} (hs : s < 2) {k i : Nat} (hk : k < 2) (hi : i < 2) : rdT D s (2 * k + i) = rdS S s k i := by
  have hp : kpP s ((2 * k + i) / 2) = if k = 0 then s else 1 - s := by
    unfold kpP
    rw [show (2 * k + i) / 2 = k by omega]
  have hlt : (if k = 0 then s else 1 - s) < 2 := by split <;> omega
  unfold rdT rdS
  rw [hp]
  generalize (if k = 0 then s else 1 - s) = t at hlt
  obtain ⟨r1, r2, -, -⟩ := (h.cd t hlt).read (i := 2 * k + i) (by omega)
  exact r2 (h.slot t hlt _ (by omega))
/-- newest finds the side's table -/
theorem Both.best {D : Nat → Dv} {S : Nat → Sd} {c : Nat} (h : Both D S c) {s : Nat} (hs : s < 2) (ho : SideOk S s) : bst D s 4 = some (S s).m := by
  obtain ⟨h1, h2⟩ := ho
  have r : ∀ k, k < 2 → ∀ i, i < 2 → opn s (rdT D s (2 * k + i)) = opT s (rdS S s k i).data.toList := fun k hk i hi => by rw [h.rd hs hk hi]; rfl
  have b : ∀ k, k < 2 → ∀ i, i < 2 → ∀ x, opn s (rdT D s (2 * k + i)) = some x → x = (S s).m ∨ x.length < (S s).m.length := fun k hk i hi x hx => h2 k hk i hi x (by rw [← r k hk i hi]; exact hx)
  have b0 := b 0 (by omega) 0 (by omega)
  have b1 := b 0 (by omega) 1 (by omega)
  have b2 := b 1 (by omega) 0 (by omega)
  have b3 := b 1 (by omega) 1 (by omega)
  have hm : opn s (rdT D s 0) = some (S s).m ∨ opn s (rdT D s 1) = some (S s).m := by
    have := h1 0 (by omega)
    rcases (show (S s).m.length % 2 = 0 ∨ (S s).m.length % 2 = 1 by omega) with e | e
    · rw [e] at this; exact .inl ((r 0 (by omega) 0 (by omega)).trans this)
    · rw [e] at this; exact .inr ((r 0 (by omega) 1 (by omega)).trans this)
  obtain ⟨c1, -⟩ := best_ok (m := (S s).m) (a := none) (b := opn s (rdT D s 0)) (fun x hx => by cases hx) b0
  obtain ⟨d1, d2⟩ := best_ok c1 b1
  have e2 : Rem.best (Rem.best none (opn s (rdT D s 0))) (opn s (rdT D s 1)) = some (S s).m := d2 (by
    rcases hm with h | h
    · exact .inl h
    · exact .inr h)
  obtain ⟨f1, f2⟩ := best_ok d1 b2
  have e3 := f2 (.inl e2)
  obtain ⟨g1, g2⟩ := best_ok f1 b3
  exact g2 (.inl e3)

/-! ### a pair of such devices in memory -/
/-- the sector of a block -/
def pl (s : Sd) (b : Nat) : Nat := 4 + (plc 12 s.m b).toNat
theorem pl_bd {s : Sd} (hg : Tab.Good 12 4 s.m) {b : Nat} (hb : b < 12) : 4 ≤ pl s b ∧ pl s b < 16 + s.m.length ∧ (pl s b : Int) = 4 + plc 12 s.m b := by
  have := plc_bd (n := 12) (m := s.m) (b := (b : Int)) (by omega) (by omega)
  unfold pl; omega
def mOf (S : Nat → Sd) : Nat → List Int := fun s => (S s).m
/-- the pair's own blocks -/
def PBs (w : World) (q : Nat) (pd : Nat → Nat) (S : Nat → Sd) (P : List Nat) : Prop := P = [q] ∧ PB w q pd (mOf S)
theorem PBs.same {w w' : World} {q : Nat} {pd : Nat → Nat} {S : Nat → Sd} {P : List Nat} (h : PBs w q pd S P) (hk : ∀ k ∈ P, w'.heap[k]? = w.heap[k]?) : PBs w' q pd S P := ⟨h.1, h.2.same (hk q (by rw [h.1]; simp))⟩
theorem PBs.lt {w : World} {q : Nat} {pd : Nat → Nat} {S : Nat → Sd} {P : List Nat} (h : PBs w q pd S P) : ∀ k ∈ P, k < w.heap.size := by
  intro k hk; rw [h.1, List.mem_singleton] at hk; rw [hk]; exact h.2.lt
theorem PBs.later {w w' : World} {q : Nat} {pd : Nat → Nat} {S : Nat → Sd} {P : List Nat} (h : PBs w q pd S P) (hb : Below w.heap.size w w') : PBs w' q pd S P := h.same fun k hk => hb.block k (h.lt k hk)
/-- what lies in the tables' slots -/
def Slots (S : Nat → Sd) : Prop := (∀ s, s < 2 → Tab.Good 12 4 (S s).m) ∧ (∀ s, s < 2 → ∀ i, i < 4 → (S s).B i = false) ∧ ∀ s, s < 2 → SideOk S s
/-- the pair at q, its devices at pd 0 and pd 1; all that they have lies from w0's end on, and none of it in X; X lies there, too. Nothing is said of what lies in the tables' slots -/
def CPr (w0 : World) (X : List Nat) (q : Nat) (pd : Nat → Nat) (S : Nat → Sd) (c : Nat) (w : World) : Prop := ∃ D, CPe w0 X q pd (mOf S) D w ∧ ∀ s, s < 2 → Cd (D s) 20 128 (S s).V (S s).B c
/-- .. and the tables' slots are right -/
structure CP (w0 : World) (X : List Nat) (q : Nat) (pd : Nat → Nat) (S : Nat → Sd) (c : Nat) (w : World) : Prop where
  raw : CPr w0 X q pd S c w
  slots : Slots S
section
variable {w0 w w' : World} {X Y : List Nat} {q c : Nat} {pd : Nat → Nat} {S S' : Nat → Sd} {s : Nat}
theorem CPr.chg (h : CPr w0 X q pd S c w) (hc : Chg (fun k => k ∈ X) w w') : CPr w0 X q pd S c w' := by
  obtain ⟨D, h1, h2⟩ := h; exact ⟨D, h1.chg hc, h2⟩
theorem CPr.later (h : CPr w0 X q pd S c w) (hb : Below w.heap.size w w') : CPr w0 X q pd S c w' := h.chg (Chg.of_below hb (Nat.le_refl _))
theorem CP.x (h : CP w0 X q pd S c w) : ∀ k ∈ X, w0.heap.size ≤ k ∧ k < w.heap.size := by obtain ⟨D, h1, h2⟩ := h.raw; exact h1.x
theorem CP.below (h : CP w0 X q pd S c w) : Below w0.heap.size w0 w := by obtain ⟨D, h1, h2⟩ := h.raw; exact h1.below
theorem CP.pb (h : CP w0 X q pd S c w) : PB w q pd (mOf S) := by obtain ⟨D, h1, h2⟩ := h.raw; exact h1.pb
theorem CP.good (h : CP w0 X q pd S c w) {s : Nat} (hs : s < 2) : Tab.Good 12 4 (S s).m := h.slots.1 s hs
theorem CP.chg (h : CP w0 X q pd S c w) (hc : Chg (fun k => k ∈ X) w w') : CP w0 X q pd S c w' := ⟨h.raw.chg hc, h.slots⟩
theorem CP.later (h : CP w0 X q pd S c w) (hb : Below w.heap.size w w') : CP w0 X q pd S c w' := h.chg (Chg.of_below hb (Nat.le_refl _))
theorem CP.mono (h : CP w0 X q pd S c w) {d : Nat} (hd : c ≤ d) : CP w0 X q pd S d w := by
  obtain ⟨⟨D, h1, h2⟩, h3⟩ := h; exact ⟨⟨D, h1, fun s hs => (h2 s hs).mono hd⟩, h3⟩
theorem CP.new (h : CP w0 X q pd S c w) (o : Obj) : CP w0 (w.heap.size :: X) q pd S c (w.alloc o) := by
  obtain ⟨⟨D, h1, h2⟩, h3⟩ := h; exact ⟨⟨D, h1.new o, h2⟩, h3⟩
theorem CP.sub (h : CP w0 X q pd S c w) (hY : ∀ k ∈ Y, k ∈ X) : CP w0 Y q pd S c w := by
  obtain ⟨⟨D, h1, h2⟩, h3⟩ := h; exact ⟨⟨D, h1.sub hY, h2⟩, h3⟩
theorem Same.of_below (h : CP w0 X q pd S c w) (hb : Below w.heap.size w w') : Same X w w' := fun k hk => hb.block k (h.x k hk).2
theorem CP.both (h : CP w0 X q pd S c w) : ∃ D, CPe w0 X q pd (mOf S) D w ∧ Both D S c := by
  obtain ⟨⟨D, h1, h2⟩, h3⟩ := h; exact ⟨D, h1, h2, fun t ht => h1.ok ht, h3.2.1⟩
theorem Both.cp {D : Nat → Dv} (h : Both D S c) (h1 : CPe w0 X q pd (mOf S) D w) (h2 : Slots S) : CP w0 X q pd S c w := ⟨⟨D, h1, h.cd⟩, h2⟩
theorem Both.sz {D : Nat → Dv} (h : Both D S c) (hc : c ≤ 1000000) : Sz D := fun s hs => ⟨by rw [(h.cd s hs).n]; rfl, by rw [(h.cd s hs).size]; rfl, Nat.le_trans (h.cd s hs).cache hc⟩
/-- one device is another one; its table stays -/
def setS (S : Nat → Sd) (s : Nat) (V : Nat → ByteArray) (B : Nat → Bool) : Nat → Sd := upd S s ⟨V, B, (S s).m⟩
theorem setS_m (S : Nat → Sd) (s : Nat) (V : Nat → ByteArray) (B : Nat → Bool) (t : Nat) : (setS S s V B t).m = (S t).m := by
  unfold setS upd; by_cases h : t = s
  · subst h; rw [if_pos rfl]
  · rw [if_neg h]
theorem mOf_setS (S : Nat → Sd) (s : Nat) (V : Nat → ByteArray) (B : Nat → Bool) : mOf (setS S s V B) = mOf S := funext fun t => setS_m S s V B t
theorem setS_same (S : Nat → Sd) (s : Nat) (V : Nat → ByteArray) (B : Nat → Bool) : setS S s V B s = ⟨V, B, (S s).m⟩ := upd_same _ _ _
theorem setS_ne (S : Nat → Sd) {s t : Nat} (V : Nat → ByteArray) (B : Nat → Bool) (h : t ≠ s) : setS S s V B t = S t := upd_ne _ _ h
theorem setS_self (S : Nat → Sd) (s : Nat) : setS S s (S s).V (S s).B = S := by
  funext t; by_cases e : t = s
  · subst e; rw [setS_same]
  · rw [setS_ne _ _ _ e]
theorem CPe.set {D : Nat → Dv} {E : Dv} {V : Nat → ByteArray} {B : Nat → Bool} {d : Nat} (h1 : CPe w0 X q pd (mOf S) (upd D s E) w) (h2 : ∀ t, t < 2 → Cd (D t) 20 128 (S t).V (S t).B c) (hE : Cd E 20 128 V B d) (hd : c ≤ d) : CPr w0 X q pd (setS S s V B) d w := by
  refine ⟨upd D s E, by rw [mOf_setS]; exact h1, fun t ht => ?_⟩
  by_cases e : t = s
  · subst e; rw [upd_same, setS_same]; exact hE
  · rw [upd_ne _ _ e, setS_ne _ _ _ e]; exact (h2 t ht).mono hd
end
/-! ### the exported functions -/
theorem mOf_kept (S : Nat → Sd) (s : Nat) (l : List Int) : mOf (kept S s l) = upd (mOf S) s l := by
  funext t
  unfold mOf kept upd
  by_cases e : t = s
  · rw [if_pos e, if_pos e]
  · rw [if_neg e, if_neg e]
    split <;> rfl
/-- two new devices -/
def Two (w0 : World) (pa pb : Nat) (w : World) : Prop := ∃ sa sb, DevAt w pa sa (.slice none 0 0) (Dv.fresh 20 128) ∧ DevAt w pb sb (.slice none 0 0) (Dv.fresh 20 128) ∧
  (∀ k, foot pa sa (.slice none 0 0) k → w0.heap.size ≤ k ∧ ¬ foot pb sb (.slice none 0 0) k) ∧ (∀ k, foot pb sb (.slice none 0 0) k → w0.heap.size ≤ k) ∧ Below w0.heap.size w0 w
theorem Two.later {w0 w w' : World} {pa pb : Nat} (h : Two w0 pa pb w) (hb : Below w.heap.size w w') : Two w0 pa pb w' := by
  obtain ⟨sa, sb, h1, h2, h3, h4, h5⟩ := h
  exact ⟨sa, sb, h1.below hb (Nat.le_refl _), h2.below hb (Nat.le_refl _), h3, h4, h5.trans (hb.mono h5.size)⟩
theorem Two.dvs {w0 w : World} {pa pb : Nat} (h : Two w0 pa pb w) : Dvs w0 [] (pdOf pa pb) (fun _ => Dv.fresh 20 128) w := by
  obtain ⟨sa, sb, h1, h2, h3, h4, h5⟩ := h
  refine ⟨⟨pdOf sa sb, fun _ => .slice none 0 0, fun s hs => ?_, fun s hs k hk => ?_, fun k hk => (h3 k hk).2⟩, fun k hk => (by cases hk), h5⟩
  · rcases (show s = 0 ∨ s = 1 by omega) with rfl | rfl
    · exact h1
    · exact h2
  · rcases (show s = 0 ∨ s = 1 by omega) with rfl | rfl
    · exact ⟨(h3 k hk).1, by simp⟩
    · exact ⟨h4 k hk, by simp⟩
theorem fresh_cd : Cd (Dv.fresh 20 128) 20 128 (fun _ => noughts 128) (fun _ => false) 0 := by
  have hn : (Dv.fresh 20 128).n = 20 := List.length_replicate
  refine ⟨rfl, rfl, rfl, rfl, rfl, hn, rfl, fun i hi => ?_, fun i hi => ?_, Nat.le_refl _⟩
  · show (((List.replicate 20 (noughts 128, false))[i]?).map (·.1)).getD ⟨#[]⟩ = _
    rw [List.getElem?_replicate, if_pos hi]; rfl
  · unfold badB
    rw [Int.toNat_natCast]
    show (((List.replicate 20 (noughts 128, false))[i]?).map (·.2)).getD false = _
    rw [List.getElem?_replicate, if_pos hi]; rfl
/-- a side that nothing was done to -/
def New (s : Sd) : Prop := s.m = [] ∧ ∀ i, 4 ≤ i → i < 20 → s.V i = noughts 128 ∧ s.B i = false
/-- spares that nothing was moved to are good -/
def Spare (s : Sd) : Prop := ∀ j, s.m.length ≤ j → j < 4 → s.B (16 + j) = false
theorem New.spare {s : Sd} (h : New s) : Spare s := fun j _ hj => (h.2 (16 + j) (by omega) (by omega)).2
/-- side s is another one; but for the tables' slots nothing else is -/
def Oth (S S' : Nat → Sd) (s : Nat) : Prop := ∀ t, t < 2 → t ≠ s → (S' t).m = (S t).m ∧ (S' t).B = (S t).B ∧ ∀ i, 4 ≤ i → (S' t).V i = (S t).V i
/-- what Move does -/
def Moved (S S' : Nat → Sd) (s : Nat) (b : Nat) : Prop := Oth S S' s ∧ (S' s).B = (S s).B ∧ (∀ i, 4 ≤ i → (S' s).V i = (S s).V i) ∧ (S' s).m = (S s).m ++ [(b : Int)]
def wrE (s : Sd) (b : Nat) : Int := if s.B (pl s b) = true ∧ 4 ≤ s.m.length then 9 else 0
/-- what Write does -/
structure Wr (S S' : Nat → Sd) (s b : Nat) (d : ByteArray) : Prop where
  oth : Oth S S' s
  bad : (S' s).B = (S s).B
  m : (S' s).m = if (S s).B (pl (S s) b) = true ∧ (S s).m.length < 4 then (S s).m ++ [(b : Int)] else (S s).m
  at_ : wrE (S s) b = 0 → (S' s).V (pl (S' s) b) = d
  rest : ∀ i, 4 ≤ i → i ≠ pl (S' s) b ∨ wrE (S s) b ≠ 0 → (S' s).V i = (S s).V i
theorem good0 : Tab.Good 12 4 [] := Tab.Good.nil (by decide)
/-- both tables are kept -/
theorem slots2 {S : Nat → Sd} {m : Nat → List Int} (hg : ∀ t, t < 2 → Tab.Good 12 4 (m t)) (hB : ∀ t, t < 2 → ∀ i, i < 4 → (S t).B i = false) (hb : ∀ t, t < 2 → Below_ S t (m t)) : Slots (kept (kept S 0 (m 0)) 1 (m 1)) ∧ ∀ t, t < 2 → (kept (kept S 0 (m 0)) 1 (m 1) t).m = m t := by
  have hm : ∀ t, t < 2 → (kept (kept S 0 (m 0)) 1 (m 1) t).m = m t := fun t ht => by
    have h1 := (kept_far (S := kept S 0 (m 0)) (s := 1) (m := m 1) (by omega) ht).2.2
    have h0 := (kept_far (S := S) (s := 0) (m := m 0) (by omega) ht).2.2
    rw [h1]
    rcases (show t = 0 ∨ t = 1 by omega) with rfl | rfl
    · rw [if_neg (by omega), h0, if_pos rfl]
    · rw [if_pos rfl]
  refine ⟨⟨fun t ht => by rw [hm t ht]; exact hg t ht, fun t ht i hi => ?_, fun t ht => ?_⟩, hm⟩
  · rw [(kept_far (by omega) ht).2.1, (kept_far (by omega) ht).2.1]; exact hB t ht i hi
  · rcases (show t = 0 ∨ t = 1 by omega) with rfl | rfl
    · exact SideOk.other (s := 1) (by omega) (SideOk.keep (by omega) (hg 0 (by omega)) (hb 0 (by omega)))
    · exact SideOk.keep (by omega) (hg 1 (by omega)) (Below_.other (s := 0) (by omega) (hb 1 (by omega)))
section
variable {w0 w w' : World} {X : List Nat} {q c : Nat} {pd : Nat → Nat} {S : Nat → Sd} {s : Nat}
def S00 : Nat → Sd := fun _ => ⟨fun _ => noughts 128, fun _ => false, []⟩
theorem both00 : Both (fun _ => Dv.fresh 20 128) S00 0 := ⟨fun _ _ => fresh_cd, fun _ _ => Dv.fresh_ok 20 128 (by omega) (by omega) (by omega) (by omega), fun _ _ _ _ => rfl⟩
theorem format_c {pa pb : Nat} (h : Two w0 pa pb w) : Calls Tryz.prog 28 #[.pointer (some ⟨pa, 0, none⟩), .pointer (some ⟨pb, 0, none⟩), .int .i64 4] w fun e w' => ∃ q S, e = .returned (.tuple #[.pointer (some ⟨q, 0, none⟩), .int .i64 0]) ∧ CP w0 [] q (pdOf pa pb) S 4 w' ∧ New (S 0) ∧ New (S 1) := by
  refine (format_e h.dvs (both00.sz (by omega))).mono ?_
  rintro e w' ⟨q, rfl, hq, hc, -⟩
  obtain ⟨k0, k1⟩ := both00.keepBoth (m := fun _ => []) (fun _ _ => good0)
  obtain ⟨s1, s2⟩ := slots2 (S := S00) (m := fun _ => []) (fun _ _ => good0) (fun _ _ _ _ => rfl) (fun t ht => Below_.fresh (fun _ _ _ _ => rfl) ht)
  rw [k0]
  have hmm : (fun _ => ([] : List Int)) = mOf (kept (kept S00 0 []) 1 []) := by rw [mOf_kept, mOf_kept]; funext t; unfold upd mOf S00; split <;> (try split) <;> rfl
  refine ⟨q, kept (kept S00 0 []) 1 [], rfl, (k1.cp (by rw [← hmm]; exact hc) s1).mono (by omega), ⟨s2 0 (by omega), fun i h1 h2 => ?_⟩, ⟨s2 1 (by omega), fun i h1 h2 => ?_⟩⟩
  · refine ⟨?_, ?_⟩
    · rw [(kept_far (s := 1) (by omega) (by omega)).1 i h1, (kept_far (s := 0) (by omega) (by omega)).1 i h1]; rfl
    · rw [(kept_far (s := 1) (by omega) (by omega)).2.1, (kept_far (s := 0) (by omega) (by omega)).2.1]; rfl
  · refine ⟨?_, ?_⟩
    · rw [(kept_far (s := 1) (by omega) (by omega)).1 i h1, (kept_far (s := 0) (by omega) (by omega)).1 i h1]; rfl
    · rw [(kept_far (s := 1) (by omega) (by omega)).2.1, (kept_far (s := 0) (by omega) (by omega)).2.1]; rfl
theorem pdOf_lt (pd : Nat → Nat) {s : Nat} (hs : s < 2) : pdOf (pd 0) (pd 1) s = pd s := by
  rcases (show s = 0 ∨ s = 1 by omega) with rfl | rfl <;> rfl
theorem CPe.pcong {m : Nat → List Int} {D : Nat → Dv} {pd' : Nat → Nat} (h : CPe w0 X q pd m D w) (hp : ∀ s, s < 2 → pd' s = pd s) : CPe w0 X q pd' m D w := by
  obtain ⟨⟨sb, cv, hd, hf, hff⟩, h1, h2, h3, h4⟩ := h
  refine ⟨⟨sb, cv, fun s hs => by rw [hp s hs]; exact hd s hs, fun s hs k hk => hf s hs k (by rw [← hp s hs]; exact hk), fun k hk => by rw [hp 1 (by omega)]; exact hff k (by rw [← hp 0 (by omega)]; exact hk)⟩, ?_, h2, h3, h4⟩
  unfold PB at h1 ⊢; rw [hp 0 (by omega), hp 1 (by omega)]; exact h1
theorem Dvs.pcong {D : Nat → Dv} {pd' : Nat → Nat} (h : Dvs w0 X pd D w) (hp : ∀ s, s < 2 → pd' s = pd s) : Dvs w0 X pd' D w := by
  obtain ⟨⟨sb, cv, hd, hf, hff⟩, h3, h4⟩ := h
  exact ⟨⟨sb, cv, fun s hs => by rw [hp s hs]; exact hd s hs, fun s hs k hk => hf s hs k (by rw [← hp s hs]; exact hk), fun k hk => by rw [hp 1 (by omega)]; exact hff k (by rw [← hp 0 (by omega)]; exact hk)⟩, h3, h4⟩
theorem EqR.cd {D E : Nat → Dv} (h : EqR D E) {t : Nat} {V : Nat → ByteArray} {B : Nat → Bool} (hc : Cd (D t) 20 128 V B c) : Cd (E t) 20 128 V B c := by
  obtain ⟨n, hn⟩ := h t
  rw [hn]
  exact ⟨hc.dead, hc.off, hc.fuse, hc.lose, hc.stray, hc.n, hc.size, hc.vis, hc.bad, hc.cache⟩
theorem open_c (h : CP w0 X q pd S c w) (hc : c ≤ 1000000) : Calls Tryz.prog 19 #[.pointer (some ⟨pd 0, 0, none⟩), .pointer (some ⟨pd 1, 0, none⟩), .int .i64 4] w fun e w' => ∃ q' P, e = .returned (.tuple #[.pointer (some ⟨q', 0, none⟩), .int .i64 0]) ∧ CP w0 (P ++ X) q' pd S c w' ∧ PBs w' q pd S P ∧ Same X w w' := by
  obtain ⟨D, h1, h2⟩ := h.both
  have hb : ∀ s, s < 2 → bst D s 4 = some (S s).m := fun s hs => h2.best hs (h.slots.2.2 s hs)
  have hE : opE2 D = 0 := by unfold opE2; rw [if_pos ⟨by rw [hb 0 (by omega)]; rfl, by rw [hb 1 (by omega)]; rfl⟩]
  refine (open_e (h1.dvs.pcong fun s hs => pdOf_lt pd hs) (h2.sz hc) (fun s hs => (h2.cd s hs).off)).mono ?_
  rintro e w' ⟨q', E, m, rfl, hm, hq', hq, hc', hsm⟩
  have hm2 : m = opnM D 2 := hm hE
  rw [hE]
  refine ⟨q', [q], rfl, ⟨⟨E, ?_, fun s hs => hq.cd (h2.cd s hs)⟩, h.slots⟩, ⟨rfl, h1.pb.same (hsm q (by simp))⟩, fun k hk => hsm k (by simp [hk])⟩
  refine (hc'.pcong fun s hs => (pdOf_lt pd hs).symm).cong (fun s hs => ?_) (fun _ _ => rfl)
  rw [hm2]
  unfold opnM mOf
  rw [if_pos hs, hb s hs]; rfl
theorem table_p {P : List Nat} (h : PBs w q pd S P) (hs : s < 2) : Calls Tryz.prog 11 #[.pointer (some ⟨q, 0, none⟩), .int .i64 (s : Nat)] w fun e w' => e = .returned (.agg (ta 12 4 (S s).m)) ∧ Below w.heap.size w w' := table_e h.2 hs
theorem table_c (h : CP w0 X q pd S c w) (hs : s < 2) : Calls Tryz.prog 11 #[.pointer (some ⟨q, 0, none⟩), .int .i64 (s : Nat)] w fun e w' => e = .returned (.agg (ta 12 4 (S s).m)) ∧ Below w.heap.size w w' := table_e h.pb hs
theorem device_c (h : CP w0 X q pd S c w) (hs : s < 2) : Calls Tryz.prog 15 #[.pointer (some ⟨q, 0, none⟩), .int .i64 (s : Nat)] w fun e w' => e = .returned (.pointer (some ⟨pd s, 0, none⟩)) ∧ Below w.heap.size w w' :=
  (device_e h.pb hs).mono fun e w' ⟨a, b⟩ => ⟨a, by rw [b]; exact Below.refl _ _⟩
theorem sec_pl {S : Nat → Sd} {s b : Nat} (hg : Tab.Good 12 4 (S s).m) (hb : b < 12) : sec (mOf S) s b = (pl (S s) b : Nat) := (pl_bd hg hb).2.2.symm
theorem read_c (h : CP w0 X q pd S c w) (hs : s < 2) {b : Nat} (hb : b < 12) (hc : c ≤ 1000000) : Calls Tryz.prog 17 #[.pointer (some ⟨q, 0, none⟩), .int .i64 (s : Nat), .int .i64 (b : Nat)] w fun e w' => e = .returned (.tuple #[.string (if (S s).B (pl (S s) b) then ⟨#[]⟩ else (S s).V (pl (S s) b)), .int .i64 (if (S s).B (pl (S s) b) then 7 else 0)]) ∧ CP w0 X q pd S c w' ∧ Same X w w' := by
  obtain ⟨D, h1, h2⟩ := h.both
  have hg := h.good hs
  have hp := pl_bd hg hb
  refine (read_e h1 hs hg (by have := (h2.cd s hs).cache; omega) hb).mono ?_
  rintro e w' ⟨rfl, hc', hsm⟩
  rw [sec_pl hg hb] at hc' ⊢
  obtain ⟨r1, r2, r3, r4⟩ := (h2.cd s hs).read (i := pl (S s) b) (by have := hg.len; omega)
  refine ⟨?_, ⟨by have := hc'.set h2.cd r4 (Nat.le_refl _); rwa [setS_self] at this, h.slots⟩, fun k hk => hsm k (by simp [hk])⟩
  rw [r1]
  cases hb : (S s).B (pl (S s) b) with
  | false => rw [r2 hb]; simp
  | true => rw [r3 hb]; simp
theorem kept_slots (h : Slots S) (hs : s < 2) {b : Nat} (hb : b < 12) (hm : (S s).m.length < 4) : Slots (kept S s ((S s).m ++ [(b : Int)])) ∧ Moved S (kept S s ((S s).m ++ [(b : Int)])) s b := by
  have hE := mv_yes (n := 12) (k := 4) (m := (S s).m) (b := (b : Int)) (by omega) (by omega) (by omega)
  have hg := ((h.1 s hs).push hE).1
  refine ⟨⟨fun t ht => ?_, fun t ht i hi => ?_, fun t ht => ?_⟩, fun t ht hne => ?_, (kept_far hs hs).2.1, (kept_far hs hs).1, ?_⟩
  · rw [(kept_far hs ht).2.2]
    split
    · exact hg
    · exact h.1 t ht
  · rw [(kept_far hs ht).2.1]; exact h.2.1 t ht i hi
  · rcases kpP_cases hs ht with rfl | ⟨rfl, h2⟩
    · exact SideOk.keep hs hg (h.2.2 _ hs).more
    · exact SideOk.other hs (h.2.2 _ ht)
  · obtain ⟨a, b, c⟩ := kept_far (S := S) (m := (S s).m ++ [(b : Int)]) hs ht
    rw [if_neg hne] at c
    exact ⟨c, b, a⟩
  · rw [(kept_far hs hs).2.2, if_pos rfl]
theorem move_c0 (h : CP w0 X q pd S c w) (hs : s < 2) {b : Nat} (hb : b < 12) (hc : c ≤ 1000000) : Calls Tryz.prog 13 #[.pointer (some ⟨q, 0, none⟩), .int .i64 (s : Nat), .int .i64 (b : Nat)] w fun e w' => ∃ S', e = .returned (.int .i64 (if (S s).m.length < 4 then 0 else 9)) ∧ ((S s).m.length < 4 → Moved S S' s b) ∧ (¬ (S s).m.length < 4 → S' = S) ∧ CP w0 X q pd S' c w' ∧ Same X w w' := by
  obtain ⟨D, h1, h2⟩ := h.both
  have hg := h.good hs
  by_cases hm : (S s).m.length < 4
  · refine (move_e h1 hs hg (h2.sz hc) hb hm rfl).mono ?_
    have hE := mv_yes (n := 12) (k := 4) (m := (S s).m) (b := (b : Int)) (by omega) (by omega) (by omega)
    obtain ⟨k1, k2⟩ := h2.keep hs (hg.push hE).1
    obtain ⟨s1, s2⟩ := kept_slots h.slots hs hb hm
    rintro e w' ⟨rfl, ⟨m', m1, m2, hc'⟩, hsm⟩
    have hk : kpE D s (mOf S s ++ [(b : Int)]) = 0 := k1
    rw [hk, if_pos hm]
    refine ⟨kept S s ((S s).m ++ [(b : Int)]), rfl, fun _ => s2, fun h => absurd hm h, k2.cp ?_ s1, hsm⟩
    rw [mOf_kept, ← show m' = upd (mOf S) s ((S s).m ++ [(b : Int)]) from m1 hk]; exact hc'
  · refine (move_full h1.pb hs hg hb hm).mono ?_
    rintro e w' ⟨rfl, hb'⟩
    exact ⟨S, by rw [if_neg hm], fun h => absurd h hm, fun _ => rfl, h.later hb', Same.of_below h hb'⟩
theorem move_c (h : CP w0 X q pd S c w) (hs : s < 2) {b : Nat} (hb : b < 12) (hc : c ≤ 1000000) : Calls Tryz.prog 13 #[.pointer (some ⟨q, 0, none⟩), .int .i64 (s : Nat), .int .i64 (b : Nat)] w fun e w' => ∃ S', e = .returned (.int .i64 (if (S s).m.length < 4 then 0 else 9)) ∧ ((S s).m.length < 4 → Moved S S' s b) ∧ (¬ (S s).m.length < 4 → S' = S) ∧ CP w0 X q pd S' (c + 4) w' ∧ Same X w w' :=
  (move_c0 h hs hb hc).mono fun e w' ⟨S', a, b, c', d, e'⟩ => ⟨S', a, b, c', d.mono (by omega), e'⟩
theorem flush_c (h : CP w0 X q pd S c w) (hs : s < 2) (hc : c ≤ 1000000) : Calls Tryz.prog 18 #[.pointer (some ⟨q, 0, none⟩), .int .i64 (s : Nat)] w fun e w' => e = .returned (.int .i64 0) ∧ CP w0 X q pd S c w' ∧ Same X w w' := by
  obtain ⟨D, h1, h2⟩ := h.both
  refine (flush_e h1 hs (by have := (h2.cd s hs).cache; omega)).mono ?_
  rintro e w' ⟨rfl, hc', hsm⟩
  obtain ⟨r1, r2⟩ := (h2.cd s hs).flush (h2.ok s hs)
  exact ⟨by rw [r1], ⟨by have := hc'.set h2.cd (r2.mono (Nat.zero_le c)) (Nat.le_refl _); rwa [setS_self] at this, h.slots⟩, fun k hk => hsm k (by simp [hk])⟩
end
end Go.Proofs.YtpdickpipdaphaaGreatDoor.Rem

/- Contracts of layer 3 (dev): Crash. -/
namespace Go.Proofs.YtpdickpipdaphaaGreatDoor.Dev
open Go.RowKit Go.Proofs.YtpdickpipdaphaaGreatDoor
set_option linter.unusedVariables false

theorem crash_nil (v : Value) (w : World) :
    Calls Tryz.prog 24 #[.pointer none, v] w fun e w' => e = .returned (.tuple #[]) ∧ w = w' := by
  go_enter Tryz.func24, Tryz.ntmps24
  go_wp2
  refine bodyPost_ret (results_none rfl _ _ _) rfl ?_
  exact ⟨rfl, rfl⟩

theorem run_min2 (P : Program) (w : World) (t : TypeId) (ts : Array TypeId) (a b : Nat) : (Builtin.min_ ts t #[.int .i64 (a : Nat), .int .i64 (b : Nat)]).run P w = .ok (.int .i64 ((min a b : Nat) : Int)) w := by
  have e : ∀ a b : Nat, (if (b : Int) < a then (b : Int) else a) = ((min a b : Nat) : Int) := by intro a b; split <;> omega
  simp only [Builtin.min_, Builtin.min2, List.foldlM, Sem.run_bind, Sem.run_pure, Result.andThen]
  rw [e]

set_option maxRecDepth 100000 in
set_option maxHeartbeats 4000000 in
theorem crash_any {p sb : Nat} {cv : Value} {D : Dv} (fa : Option Addr) (fl fc : Nat) (fs : List Int) (w : World) (h : DevAt w p sb cv D) (hl : D.cache.length ≤ 1000000000) (hfl : fl ≤ 1000000000)
    (hrow : Row .i64 w fa fl fs) (hap : ∀ a, fa = some a → ¬ foot p sb cv a.block) (hfb : ∀ f ∈ fs, f ≤ 9223372036854775807) :
    Calls Tryz.prog 24 #[.pointer (some ⟨p, 0, none⟩), .slice fa fl fc] w fun e w' => e = .returned (.tuple #[]) ∧ Now p sb cv w (D.crashD fs) w' := by
  obtain ⟨sa, cap, hcv, hsa⟩ := h.cv_slice
  subst hcv
  obtain ⟨n, hn⟩ : ∃ n, n = D.cache.length := ⟨_, rfl⟩
  rw [← hn] at h hl hsa hap ⊢
  have HN := Lib.hid hn
  have HFL := Lib.hid hrow.len_eq
  have HAP := Lib.hid hap
  have HFB := Lib.hid hfb
  have HROW := Lib.hid hrow
  have h3 := h.c3
  have HD := Lib.hid h
  obtain ⟨m, hm⟩ : ∃ m, m = min fl n := ⟨_, rfl⟩
  have HM := Lib.hid hm
  have hml : m ≤ fl := by omega
  have hmn : m ≤ n := by omega
  have hmin : ∀ t ts, (Builtin.min_ ts t #[.int .i64 (fl : Nat), .int .i64 (n : Nat)]).run Tryz.prog w = .ok (.int .i64 (m : Int)) w := by
    intro t ts; rw [hm]; exact run_min2 _ _ _ _ _ _
  clear hn hap hrow hfb h hm
  go_enter Tryz.func24, Tryz.ntmps24
  go_wp2_with fail
  clear hmin
  go_loopw [4, 15] (fun j i wr => ∃ k : Nat, k ≤ m ∧ i = .int .i64 k ∧ Chg (foot p sb (.slice sa n cap)) w wr ∧ DevAt wr p sb (.slice sa n cap) (D.puts ((fated D fs).take k))) (fun _ i _ => m - (intOf i).toNat)
  case atStart => exact ⟨0, Nat.zero_le _, rfl, Chg.refl _ _, HD.out⟩
  case round =>
    obtain ⟨k, hk, rfl, hc, hd⟩ := hrel
    clear HD h3
    by_cases hlt : k < m
    · obtain ⟨g, rfl⟩ := hsa (by omega)
      obtain ⟨⟨si, st⟩, hx⟩ : ∃ x, D.cache[k]? = some x := ⟨_, List.getElem?_eq_getElem (by rw [← HN.out]; omega)⟩
      obtain ⟨f, hf⟩ : ∃ f, fs[k]? = some f := ⟨_, List.getElem?_eq_getElem (by rw [HFL.out]; omega)⟩
      obtain ⟨fb, fo, rfl, hcells⟩ := HROW.out.at_ (by omega)
      have hfcw := hcells k (by omega)
      have hfb := HFB.out f (List.mem_of_getElem? hf)
      have hfc : wr.cell? ⟨fb, fo + k, none⟩ = some (.int .i64 f) := by
        rw [World.cell?_of_block (hc.block fb (World.block_lt_of_cell? w _ hfcw) (HAP.out _ rfl)), hfcw, List.getD_eq_getElem?_getD, hf]; rfl
      have hcache : (D.puts ((fated D fs).take k)).cache = D.cache := Dv.puts_cache _ _
      have hkn : (k : Int) < (n : Int) := by omega
      have hkf : (k : Int) < (fl : Int) := by omega
      obtain ⟨hx0, hx1⟩ := hd.cw0x (by rw [hcache]; exact HN.out) k (by rw [hcache]; exact hx)
      simp only at hx0 hx1
      have hsize : (D.puts ((fated D fs).take k)).size = D.size := Dv.puts_size _ _
      have h1 := hd.c1
      have h3 := hd.c3
      rw [hsize] at h1
      have hok := hd.ok.text (si, st) (by rw [hcache]; exact List.mem_of_getElem? hx)
      have hse := hd.ok.sector (si, st) (by rw [hcache]; exact List.mem_of_getElem? hx)
      have hs1 := hd.ok.s128
      have hs2 := hd.ok.s1024
      rw [hsize] at hs1 hs2
      have HPUT := Lib.hid (show D.puts ((fated D fs).take (k + 1)) = (D.puts ((fated D fs).take k)).put si st (keptN f D.size) by rw [fated_take D fs k _ _ hx hf, Dv.puts_snoc])
      have HC := Lib.hid hc
      have HDD := Lib.hid hd
      have HOK := Lib.hid hok
      have HSE := Lib.hid hse
      have HSIZE := Lib.hid hsize
      clear hc hd hok hse hsize hcache hx hf hfcw hcells
      have HKN := Lib.hid (keptN_le f D.size)
      go_wp2
      refine Reg.still_tail 18 (by kernel_rfl) (by kernel_rfl) ?_
      simp only [List.take_succ_cons, List.take_zero, List.drop_succ_cons, List.drop_zero]
      repeat still_step
      try refine wpStill_nil ?_
      refine wpStill_step (fun K hK => ?_)
      go_simp
      refine ⟨_, (kept_any f D.size _ (by omega) hs2 hfb).mono fun e w' ⟨he, hw⟩ => ⟨he, hw.symm⟩, hK _ ?_⟩
      clear hK K
      refine wpStill_nil ?_
      go_wp2_with fail
      refine (lasts_any si (keptN f D.size) st _ HDD.out.drew HSE.out HOK.out (by rw [HSIZE.out]; exact HKN.out)).mono ?_
      rintro e w5 ⟨rfl, hc5, hd5⟩
      have HC6 := Lib.hid (HC.out.trans (((Chg.refl (foot p sb (.slice (some ⟨g, 0, none⟩) n cap)) wr).drew).trans hc5 (fun _ _ h => h)) (fun _ _ h => h))
      have HD6 := Lib.hid hd5
      clear hc5 hd5 hx0 hx1 h1 h3 hfc
      go_wp2_with fail
      go_roundw
      case rel => exact ⟨k + 1, by omega, by go_num, HC6.out, by rw [HPUT.out]; exact HD6.out⟩
      case measure => simp [intOf]; omega
    · obtain rfl : k = m := by omega
      have hwh : (fated D fs).take k = fated D fs := List.take_of_length_le (by unfold fated; rw [List.length_zipWith, ← HN.out, HFL.out, HM.out]; omega)
      rw [hwh] at hd
      have h3 := hd.c3
      have hf3 := hd.fz 3
      have he := hd.empty
      have h5 := he.c5
      have hf5 := he.fz 5
      have he2 := he.set 5 (.bool false) { (D.puts (fated D fs)).emptied with off := false } rfl rfl rfl ⟨he.ok.n8, he.ok.n4096, he.ok.s128, he.ok.s1024, he.ok.media, he.ok.text, he.ok.sector, he.ok.fuse, he.ok.lose, he.ok.stray⟩
      have h6 := he2.c6
      have hf6 := he2.fz 6
      have he3 := he2.set 6 (.int .i64 ((0 : Nat) : Int)) ((D.puts (fated D fs)).emptied.calm) rfl rfl rfl ⟨he.ok.n8, he.ok.n4096, he.ok.s128, he.ok.s1024, he.ok.media, he.ok.text, he.ok.sector, by simp [Dv.calm], he.ok.lose, he.ok.stray⟩
      have HE := Lib.hid he3
      have HC := Lib.hid (((hc.setCell (p := ⟨p, 3, none⟩) (fun _ => .inl rfl) (.slice none 0 0)).setCell (p := ⟨p, 5, none⟩) (fun _ => .inl rfl) (.bool false)).setCell (p := ⟨p, 6, none⟩) (fun _ => .inl rfl) (.int .i64 ((0 : Nat) : Int)))
      clear hc hd hwh he he2 he3
      go_wp2_with fail
      refine (set_any p 6 0 0 _ _ rfl h6 hf6).mono ?_
      rintro e w' ⟨rfl, rfl⟩
      go_wp2
      go_end0
      exact ⟨rfl, Now.empty HC.out HE.out⟩
end Go.Proofs.YtpdickpipdaphaaGreatDoor.Dev

/- Contracts for layer 3's laws: full, wakes. -/
namespace Go.Proofs.YtpdickpipdaphaaGreatDoor.Dev
open Go.RowKit Go.Proofs.YtpdickpipdaphaaGreatDoor
set_option linter.unusedVariables false

def stars : ByteArray := ⟨(Lib.repeatL [42] 128).toArray⟩
theorem stars_size : stars.size = 128 := by
  show (Lib.repeatL [42] 128).toArray.size = 128
  rw [List.size_toArray, Lib.repeatL_length]; simp
def fullN (s : ByteArray) : ByteArray := (s ++ stars).extract 0 128
theorem fullN_size (s : ByteArray) : (fullN s).size = 128 := by
  unfold fullN; rw [ByteArray.size_extract, ByteArray.size_append, stars_size]; omega
theorem fresh_plain (n s : Nat) : (Dv.fresh n s).Plain := ⟨rfl, rfl, rfl, rfl, rfl, fun x hx => by rw [(List.mem_replicate.1 hx).2]⟩
theorem new_9 (w : World) :
    Calls Tryz.prog 27 #[.agg #[.int .i64 9, .int .i64 128]] w fun e w' => ∃ p sb, w.heap.size ≤ p ∧ w.heap.size ≤ sb ∧ e = .returned (.tuple #[.pointer (some ⟨p, 0, none⟩), .int .i64 0]) ∧ DevAt w' p sb (.slice none 0 0) (Dv.fresh 9 128) ∧ Below w.heap.size w w' := new_yes 9 128 w rfl
/-- the last write to a sector is what it reads -/
theorem reads_push (D : Dv) (i : Nat) (s : ByteArray) : (D.push (i : Nat) s).reads i = s := by
  unfold Dv.reads Dv.push
  simp
theorem reads_push_ne (D : Dv) (i j : Nat) (s : ByteArray) (h : j ≠ i) : (D.push (j : Nat) s).reads i = D.reads i := by
  unfold Dv.reads Dv.push
  simp [h]
theorem foot_ge {p sb : Nat} {cv cv' : Value} {w w1 : World} {B : Nat} (hf : ∀ k, foot p sb cv k → B ≤ k) (h : ∀ k, foot p sb cv' k → foot p sb cv k ∨ w1.heap.size ≤ k) (hB : B ≤ w1.heap.size) : ∀ k, foot p sb cv' k → B ≤ k := by
  intro k hk
  rcases h k hk with h | h
  · exact hf k h
  · omega
/-- the device D is at p, all that it has lies from B on; below B nothing is another one -/
def Own9 (w0 : World) (p : Nat) (D : Dv) (w : World) : Prop := ∃ sb cv, DevAt w p sb cv D ∧ (∀ k, foot p sb cv k → w0.heap.size ≤ k) ∧ Below w0.heap.size w0 w
theorem Own9.now {w0 w w' : World} {p sb : Nat} {cv : Value} {D' : Dv} (hf : ∀ k, foot p sb cv k → w0.heap.size ≤ k) (hb : Below w0.heap.size w0 w) (h : Now p sb cv w D' w') : Own9 w0 p D' w' := by
  obtain ⟨cv', hc, hd, hf'⟩ := h
  exact ⟨sb, cv', hd, foot_ge (w := w0) hf hf' hb.size, hb.trans (hc.below hb.size hf)⟩
theorem Own9.later {w0 w w' : World} {p : Nat} {D : Dv} (h : Own9 w0 p D w) (hb : Below w.heap.size w w') : Own9 w0 p D w' := by
  obtain ⟨sb, cv, hd, hf, hbb⟩ := h
  exact ⟨sb, cv, hd.below hb (Nat.le_refl _), hf, hbb.trans (hb.mono hbb.size)⟩
theorem Own9.below {w0 w : World} {p : Nat} {D : Dv} (h : Own9 w0 p D w) : Below w0.heap.size w0 w := by obtain ⟨_, _, _, _, hb⟩ := h; exact hb
theorem new_own (w0 w : World) (hb : Below w0.heap.size w0 w) :
    Calls Tryz.prog 27 #[.agg #[.int .i64 9, .int .i64 128]] w fun e w' => ∃ p, e = .returned (.tuple #[.pointer (some ⟨p, 0, none⟩), .int .i64 0]) ∧ Own9 w0 p (Dv.fresh 9 128) w' :=
  (new_9 w).mono fun e w' ⟨p, sb, hp, hsb, he, hd, hb2⟩ => ⟨p, he, sb, _, hd, fun k hk => (by
    rcases hk with rfl | rfl | h
    · exact Nat.le_trans hb.size hp
    · exact Nat.le_trans hb.size hsb
    · cases h), hb.trans (hb2.mono hb.size)⟩
theorem write_own {w0 w : World} {p : Nat} {D : Dv} (i : Int) (s : ByteArray) (h : Own9 w0 p D w) (hl : D.cache.length ≤ 1000000000) (hsm : s.size ≤ 1000000000) :
    Calls Tryz.prog 52 #[.pointer (some ⟨p, 0, none⟩), .int .i64 i, .string s] w fun e w' => e = .returned (.int .i64 (D.writeE i s)) ∧ Own9 w0 p (D.writeD i s) w' := by
  obtain ⟨sb, cv, hd, hf, hb⟩ := h
  exact (write_any i s w hd hl hsm).mono fun e w' ⟨he, hn⟩ => ⟨he, Own9.now hf hb hn⟩
theorem read_own {w0 w : World} {p : Nat} {D : Dv} (i : Int) (h : Own9 w0 p D w) (hl : D.cache.length ≤ 1000000000) :
    Calls Tryz.prog 45 #[.pointer (some ⟨p, 0, none⟩), .int .i64 i] w fun e w' => e = .returned (.tuple #[.string (D.readT i), .int .i64 (D.readE i)]) ∧ Own9 w0 p (D.readD i) w' := by
  obtain ⟨sb, cv, hd, hf, hb⟩ := h
  exact (read_any i w hd (by omega)).mono fun e w' ⟨he, hc, hd'⟩ => ⟨he, Own9.now hf hb (.same hc hd')⟩
theorem flush_own {w0 w : World} {p : Nat} {D : Dv} (h : Own9 w0 p D w) (hl : D.cache.length ≤ 1000000000) :
    Calls Tryz.prog 46 #[.pointer (some ⟨p, 0, none⟩)] w fun e w' => e = .returned (.int .i64 D.flushE) ∧ Own9 w0 p D.flushD w' := by
  obtain ⟨sb, cv, hd, hf, hb⟩ := h
  exact (flush_any w hd hl).mono fun e w' ⟨he, hn⟩ => ⟨he, Own9.now hf hb hn⟩
theorem crash_own_nil {w0 w : World} {p : Nat} {D : Dv} (h : Own9 w0 p D w) (hl : D.cache.length ≤ 1000000000) :
    Calls Tryz.prog 24 #[.pointer (some ⟨p, 0, none⟩), .slice none 0 0] w fun e w' => e = .returned (.tuple #[]) ∧ Own9 w0 p (D.crashD []) w' := by
  obtain ⟨sb, cv, hd, hf, hb⟩ := h
  exact (crash_any none 0 0 [] w hd hl (by omega) ⟨rfl, fun h => by omega⟩ (fun a e => by cases e) (fun f hf => by cases hf)).mono fun e w' ⟨he, hn⟩ => ⟨he, Own9.now hf hb hn⟩

def txtA : ByteArray := fullN ⟨#[97]⟩
def D1 : Dv := (Dv.fresh 9 128).counted.push ((2 : Nat) : Int) txtA
def D2 : Dv := { D1 with nr := bump 0 }
theorem d1_plain : D1.Plain := (fresh_plain 9 128).counted.push _ _
theorem d1_write : (Dv.fresh 9 128).writeE 2 txtA = 0 ∧ (Dv.fresh 9 128).writeD 2 txtA = D1 :=
  ⟨(fresh_plain 9 128).writeE 2 txtA (by decide) (fullN_size _), (fresh_plain 9 128).writeD 2 txtA (by decide) (fullN_size _)⟩
theorem d1_read : D1.readE 2 = 0 ∧ D1.readT 2 = txtA ∧ D1.readD 2 = D2 :=
  ⟨d1_plain.readE 2 (by decide), (d1_plain.readT 2 (by decide)).trans (reads_push _ _ _), d1_plain.readD 2 (by decide)⟩
theorem d2_crash : (D2.crashD []).readE 2 = 0 ∧ (D2.crashD []).readT 2 = noughts 128 := by
  have h : (D2.crashD []).Plain := (d1_plain.read _).crash []
  refine ⟨h.readE 2 (by decide), (h.readT 2 (by decide)).trans ?_⟩
  rfl
end Go.Proofs.YtpdickpipdaphaaGreatDoor.Dev

/- Contracts for layer 3's laws: the calls of a device that the law itself made. -/
namespace Go.Proofs.YtpdickpipdaphaaGreatDoor.Dev
open Go.RowKit Go.Proofs.YtpdickpipdaphaaGreatDoor
set_option linter.unusedVariables false
theorem stick_own {w0 w : World} {p : Nat} {D : Dv} (i : Int) (h : Own9 w0 p D w) (hl : D.cache.length ≤ 1000000000) :
    Calls Tryz.prog 16 #[.pointer (some ⟨p, 0, none⟩), .int .i64 i] w fun e w' => e = .returned (.tuple #[]) ∧ Own9 w0 p (D.stickD i) w' := by
  obtain ⟨sb, cv, hd, hf, hb⟩ := h
  exact (stick_any i w hd hl).mono fun e w' ⟨he, hn⟩ => ⟨he, Own9.now hf hb hn⟩
theorem fuse_own {w0 w : World} {p : Nat} {D : Dv} (n : Int) (h : Own9 w0 p D w) (hn : n ≤ 9223372036854775807) :
    Calls Tryz.prog 23 #[.pointer (some ⟨p, 0, none⟩), .int .i64 n] w fun e w' => e = .returned (.tuple #[]) ∧ Own9 w0 p { D with fuse := n.toNat } w' := by
  obtain ⟨sb, cv, hd, hf, hb⟩ := h
  exact (fuse_any n w hd hn).mono fun e w' ⟨he, hc, hd'⟩ => ⟨he, Own9.now hf hb (.same hc hd')⟩
theorem kill_own {w0 w : World} {p : Nat} {D : Dv} (h : Own9 w0 p D w) :
    Calls Tryz.prog 33 #[.pointer (some ⟨p, 0, none⟩)] w fun e w' => e = .returned (.tuple #[]) ∧ Own9 w0 p { D with dead := true } w' := by
  obtain ⟨sb, cv, hd, hf, hb⟩ := h
  exact (kill_any w hd).mono fun e w' ⟨he, hc, hd'⟩ => ⟨he, Own9.now hf hb (.same hc hd')⟩
theorem dead_own {w0 w : World} {p : Nat} {D : Dv} (h : Own9 w0 p D w) :
    Calls Tryz.prog 64 #[.pointer (some ⟨p, 0, none⟩)] w fun e w' => e = .returned (.bool D.dead) ∧ w = w' := by
  obtain ⟨sb, cv, hd, hf, hb⟩ := h
  exact dead_any w hd
theorem off_own {w0 w : World} {p : Nat} {D : Dv} (h : Own9 w0 p D w) :
    Calls Tryz.prog 48 #[.pointer (some ⟨p, 0, none⟩)] w fun e w' => e = .returned (.bool D.off) ∧ w = w' := by
  obtain ⟨sb, cv, hd, hf, hb⟩ := h
  exact off_any w hd
/-- a crash whose fates lie in a row that isn't the device's -/
theorem crash_own {w0 w : World} {p : Nat} {D : Dv} (fb fl fc : Nat) (fs : List Int) (h : Own9 w0 p D w) (hl : D.cache.length ≤ 1000000000) (hfl : fl ≤ 1000000000)
    (hrow : Row .i64 w (some ⟨fb, 0, none⟩) fl fs) (hfb : ∀ f ∈ fs, f ≤ 9223372036854775807) (hap : ∀ sb cv, DevAt w p sb cv D → ¬ foot p sb cv fb) :
    Calls Tryz.prog 24 #[.pointer (some ⟨p, 0, none⟩), .slice (some ⟨fb, 0, none⟩) fl fc] w fun e w' => e = .returned (.tuple #[]) ∧ Own9 w0 p (D.crashD fs) w' := by
  obtain ⟨sb, cv, hd, hf, hb⟩ := h
  exact (crash_any (some ⟨fb, 0, none⟩) fl fc fs w hd hl hfl hrow (fun a e => by cases e; exact hap sb cv hd) hfb).mono fun e w' ⟨he, hn⟩ => ⟨he, Own9.now hf hb hn⟩
theorem Own9.drewN {w0 w : World} {p : Nat} {D : Dv} (h : Own9 w0 p D w) (n : Nat) : Own9 w0 p D (w.drewN n) := by
  obtain ⟨sb, cv, hd, hf, hb⟩ := h
  exact ⟨sb, cv, hd.drewN n, hf, ⟨hb.os, hb.tape, hb.output, hb.size, hb.block⟩⟩
/-- a new block is none of the device's -/
theorem Own9.fresh_block {w0 w : World} {p : Nat} {D : Dv} (h : Own9 w0 p D w) (o : Obj) : Own9 w0 p D (w.alloc o) ∧ ∃ sb cv, DevAt (w.alloc o) p sb cv D ∧ (∀ k, foot p sb cv k → w0.heap.size ≤ k) ∧ Below w0.heap.size w0 (w.alloc o) ∧ ¬ foot p sb cv w.heap.size := by
  obtain ⟨sb, cv, hd, hf, hb⟩ := h
  have h1 : DevAt (w.alloc o) p sb cv D := hd.alloc o
  have h2 : Below w0.heap.size w0 (w.alloc o) := hb.alloc hb.size o
  exact ⟨⟨sb, cv, h1, hf, h2⟩, sb, cv, h1, hf, h2, fun hk => by have := hd.lt _ hk; omega⟩
/-- 'd.Crash([]Fate{f})' -/
theorem crash_own_one {w0 w : World} {p : Nat} {D : Dv} (f : Int) (t : TypeId) (h : Own9 w0 p D w) (hl : D.cache.length ≤ 1000000000) (hf : f ≤ 9223372036854775807) :
    Calls Tryz.prog 24 #[.pointer (some ⟨p, 0, none⟩), .slice (some ⟨w.heap.size, 0, none⟩) 1 1] (w.alloc (.cells #[.int .i64 f] t)) fun e w' => e = .returned (.tuple #[]) ∧ Own9 w0 p (D.crashD [f]) w' := by
  obtain ⟨_, sb, cv, hd, hff, hb, hn⟩ := h.fresh_block (.cells #[.int .i64 f] t)
  refine (crash_any (some ⟨w.heap.size, 0, none⟩) 1 1 [f] _ hd hl (by omega) ⟨rfl, fun _ => ⟨_, _, rfl, fun i hi => ?_⟩⟩ (fun a e => by cases e; exact hn) (fun x hx => by rw [List.mem_singleton.1 hx]; exact hf)).mono fun e w' ⟨he, hn⟩ => ⟨he, Own9.now hff hb hn⟩
  match i, hi with
  | 0, _ => simp
end Go.Proofs.YtpdickpipdaphaaGreatDoor.Dev

