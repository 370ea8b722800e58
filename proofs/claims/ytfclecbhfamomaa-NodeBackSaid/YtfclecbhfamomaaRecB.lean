/- Layer 12 (rec): an update's bytes, its size. -/
import Derived.RegionTactic
import Derived.Deep.RegionHeld3
import Derived.Test.YtfclecbhfamomaaRecA
import Derived.Test.YtfclecbhfamomaaRefRecT
import Derived.Test.YtfclecbhfamomaaLendJ
import Derived.Test.YtfclecbhfamomaaRowsM
namespace Go.Proofs.Ytfclecbhfamomaa
open Go.RowKit
theorem Row.oneAt (kd : IntKind) (w : World) (a : Int) (e : TypeId) (n : Nat) (h : n = w.heap.size) : Row kd (w.alloc (.cells #[.int kd a] e)) (some ⟨n, 0, none⟩) 1 [a] := by
  subst h
  refine ⟨rfl, fun _ => ⟨w.heap.size, 0, rfl, fun i hi => ?_⟩⟩
  match i, hi with
  | 0, _ => simp
end Go.Proofs.Ytfclecbhfamomaa
namespace Go.Proofs.Ytfclecbhfamomaa.Rec
open Go Go.RowKit Go.Proofs.Ytfclecbhfamomaa Go.Proofs.Ytfclecbhfamomaa.Lend
set_option linter.unusedVariables false

theorem ret_str {a b : ByteArray} (h : a = b) : Ending.returned (.string a) = .returned (.string b) := by rw [h]
theorem ret_i64 {a b : Int} (h : a = b) : Ending.returned (.int .i64 a) = .returned (.int .i64 b) := by rw [h]
theorem deltaW_any (w : World) : Calls Try.prog 73 #[] w fun e w' => ∃ b, e = .returned (.slice (some ⟨b, 0, none⟩) 1 1) ∧ Row .i64 w' (some ⟨b, 0, none⟩) 1 [8] ∧ Below w.heap.size w w' := by
  go_enter Try.func73, Try.ntmps73
  go_wp2
  go_ret
  exact ⟨_, rfl, Row.oneAt .i64 w 8 _ _ rfl, below_new _ _⟩
theorem wr8 {d : Int} (h0 : 0 ≤ d) (h1 : d < 18446744073709551616) : wrS [8] [d] = Lend.strOf (encN d 8) ∧ wrB [8] [d] = true := by
  have h := wr_ok (ws := [8]) (ns := [d]) rfl rfl (by simp [fitsL, fitsB_8 d h1])
  refine ⟨?_, h.1⟩
  rw [h.2]
  simp [encL]
/-- a text, with its length ahead -/
theorem join_len (l : List UInt8) (w : World) (h : l.length ≤ 255) : Calls Try.prog 46 #[.string (Lend.strOf l)] w fun e w' => e = .returned (.tuple #[.string (Lend.strOf (len8 l)), .bool true]) ∧ Below w.heap.size w w' := by
  refine (join_any (Lend.strOf l) w (by rw [ssize]; omega)).mono ?_
  rintro e w' ⟨rfl, hb⟩
  refine ⟨?_, hb⟩
  rw [Lend.strOf_data, show jnS l = len8 l by unfold jnS len8; rw [if_pos h], show jnB l = true by simp [jnB, h]]
theorem txU_le {u : Up} (h : chkU u = 0) : (txU u).length ≤ 51 := by
  obtain ⟨p1, p2, p3, p4, p5, p6, p7⟩ := chkU_ok h
  rw [txU_length h]
  split <;> split <;> omega
set_option maxRecDepth 100000 in
set_option maxHeartbeats 4000000 in
theorem text_any (u : Up) (w : World) (hc : chkU u = 0) (h0 : 0 ≤ u.delta) (h1 : u.delta < 18446744073709551616) : Calls Try.prog 66 #[.agg #[.int .u8 u.kind, .string (Lend.strOf u.key), .string (Lend.strOf u.val), .int .u64 u.delta]] w fun e w' => e = .returned (.string (Lend.strOf (txU u))) ∧ Below w.heap.size w w' := by
  obtain ⟨p1, p2, p3, p4, p5, p6, p7⟩ := chkU_ok hc
  have HJK := Lib.hid (fun W => join_len u.key W (by omega))
  have HJV := Lib.hid (fun W => join_len u.val W (by omega))
  have HWR := Lib.hid (wr8 h0 h1)
  have HDN := Lib.hid (show ∀ n ∈ [u.delta], 0 ≤ n ∧ n < 18446744073709551616 from fun n hn => by rw [List.mem_singleton] at hn; subst hn; exact ⟨h0, h1⟩)
  have HTX : Hid (txU u = [UInt8.ofNat u.kind.toNat] ++ len8 u.key ++ ((if u.kind = 1 then len8 u.val else []) ++ (if u.kind = 3 then encN u.delta 8 else []))) := Lib.hid (by unfold txU; simp)
  obtain ⟨D, hD⟩ : ∃ D, D = Lend.strOf (encN u.delta 8) := ⟨_, rfl⟩
  have hds : D.size ≤ 8 := by rw [hD, ssize, encN_length]; omega
  rw [← hD] at HWR
  have HD := Lib.hid hD
  obtain ⟨J, hJ⟩ : ∃ D, D = Lend.strOf (len8 u.key) := ⟨_, rfl⟩
  have hjs : J.size ≤ 17 := by rw [hJ, ssize]; simp [len8]; omega
  rw [← hJ] at HJK
  have HJ := Lib.hid hJ
  obtain ⟨V, hV⟩ : ∃ D, D = Lend.strOf (len8 u.val) := ⟨_, rfl⟩
  have hvs : V.size ≤ 33 := by rw [hV, ssize]; simp [len8]; omega
  rw [← hV] at HJV
  have HV := Lib.hid hV
  obtain ⟨kd, hkd⟩ : ∃ x, x = u.kind := ⟨_, rfl⟩
  obtain ⟨dl, hdl⟩ : ∃ x, x = u.delta := ⟨_, rfl⟩
  obtain ⟨k, hk⟩ : ∃ x, x = Lend.strOf u.key := ⟨_, rfl⟩
  obtain ⟨v, hv⟩ : ∃ x, x = Lend.strOf u.val := ⟨_, rfl⟩
  rw [← hk] at HJK
  rw [← hv] at HJV
  rw [← hkd] at p4 p5 HTX
  rw [← hdl] at HWR HDN HTX
  rw [← hkd, ← hdl, ← hk, ← hv]
  have HDL := Lib.hid hdl
  clear hc h0 h1 p1 p2 p3 p6 p7 hD hJ hV hkd hdl hk hv
  obtain ⟨w0, hw0⟩ : ∃ x, x = w.alloc (.cells #[.int .u8 kd, .string k, .string v, .int .u64 dl] 70) := ⟨_, rfl⟩
  have HB0 := Lib.hid (show Below w.heap.size w w0 by rw [hw0]; exact below_new _ _)
  have HX := Lib.hid (show Has w0 w.heap.size 70 [.int .u8 kd, .string k, .string v, .int .u64 dl] by rw [hw0]; exact Has.new _ _ _)
  rcases (show kd = 1 ∨ kd = 2 ∨ kd = 3 by omega) with rfl | rfl | rfl
  all_goals
    clear p4 p5
    go_enter Try.func66, Try.ntmps66
    go_wp2_with fail
    rw [← hw0]
    refine (HJK.out _).mono ?_
    rintro e w1 ⟨rfl, hb1⟩
    have hx1 := HX.out.below hb1 HX.out.lt
    have HB1 := Lib.hid (below_on HB0.out hb1)
    have HX1 := Lib.hid hx1
    have hxl := hx1.lt
    have y0 := hx1.cell 0
    have y1 := hx1.cell 1
    have y2 := hx1.cell 2
    have y3 := hx1.cell 3
    simp only [List.getElem?_cons_zero, List.getElem?_cons_succ] at y0 y1 y2 y3
    clear hx1 hb1 hw0
  · have hcv := conv1 w1 1 (by decide) (by decide)
    obtain ⟨P, hP⟩ : ∃ P, P = Lend.strOf [UInt8.ofNat (1 : Int).toNat] := ⟨_, rfl⟩
    rw [← hP] at hcv
    have hps : P.size ≤ 1 := by rw [hP]; exact Nat.le_refl _
    have HP := Lib.hid hP
    clear hP
    go_wp2_with fail
    refine (HJV.out _).mono ?_
    rintro e w2 ⟨rfl, hb2⟩
    have HB2 := Lib.hid (below_on (below_nw HB1.out (.cells #[.int .u8 1] 5)) hb2)
    clear hb2 y0 y1 y2 y3 hcv
    go_wp2_with fail
    go_ret
    exact ⟨ret_str (by rw [HP.out, HJ.out, HV.out, sapp, sapp, HTX.out]; simp), HB2.out⟩
  · have hcv := conv1 w1 2 (by decide) (by decide)
    obtain ⟨P, hP⟩ : ∃ P, P = Lend.strOf [UInt8.ofNat (2 : Int).toNat] := ⟨_, rfl⟩
    rw [← hP] at hcv
    have hps : P.size ≤ 1 := by rw [hP]; exact Nat.le_refl _
    have HP := Lib.hid hP
    clear hP
    go_wp2_with fail
    go_ret
    exact ⟨ret_str (by rw [HP.out, HJ.out, sapp, HTX.out]; simp), below_nw HB1.out _⟩
  · have hcv := conv1 w1 3 (by decide) (by decide)
    obtain ⟨P, hP⟩ : ∃ P, P = Lend.strOf [UInt8.ofNat (3 : Int).toNat] := ⟨_, rfl⟩
    rw [← hP] at hcv
    have hps : P.size ≤ 1 := by rw [hP]; exact Nat.le_refl _
    have HP := Lib.hid hP
    clear hP
    go_wp2_with fail
    go_upto_region 8 with fail
    go_cut [8] (fun s wx => s = .string D ∧ Below w.heap.size w wx)
    case first =>
      go_region_held3 (fun W => W.cell? ⟨w.heap.size, 3, none⟩ = some (.int .u64 dl))
        (first
          | with_reducible exact keep1 (by assumption) (by assumption)
          | with_reducible exact keep1 (by assumption) (below_new _ _)
          | go_keep)
        (first
          | (go_at_call 73; refine (deltaW_any _).mono ?_; rintro e wm ⟨bm, rfl, hrow, hbel⟩)
          | (go_at_call 24
             refine (write_any _ _ 1 1 1 1 [8] [dl] _ ?_ ?_ (by decide) (by decide) HDN.out).mono ?_
             · repeat (first | assumption | apply Row.drw | apply Row.new | refine Row.later ?_ (by assumption))
             · repeat (first | (refine Row.oneAt _ _ _ _ _ ?_; first | rfl | (simp; done)) | apply Row.drw | apply Row.new | refine Row.later ?_ (by assumption))
             rintro e wo ⟨rfl, hbel2⟩
             rw [HWR.out.1, HWR.out.2]))
      all_goals (go_wp2_with fail; go_meet; exact ⟨rfl, by repeat (first | exact HB1.out | exact Below.refl _ _ | apply below_nw | apply below_dr | refine below_on ?_ (by assumption))⟩)
    case rest =>
      obtain ⟨rfl, hbc⟩ := hcut
      clear y0 y1 y2 y3 hcv
      go_wp2_with fail
      go_ret
      exact ⟨ret_str (by rw [HP.out, HJ.out, HD.out, sapp, sapp, HTX.out]; simp [HDL.out]), hbc⟩
/-- how many bytes an update takes -/
def szU (u : Up) : Int := if chkU u = 0 then ((txU u).length : Int) else 0
theorem szU_yes {u : Up} (h : chkU u = 0) : szU u = ((txU u).length : Int) := if_pos h
theorem szU_no {u : Up} (h : ¬ chkU u = 0) : szU u = 0 := if_neg h
end Go.Proofs.Ytfclecbhfamomaa.Rec
