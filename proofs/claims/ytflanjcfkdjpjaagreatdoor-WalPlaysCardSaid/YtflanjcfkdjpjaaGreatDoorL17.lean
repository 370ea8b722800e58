/- Layers' contracts, bundled: WalT, WalV. -/
import Derived.Test.YtflanjcfkdjpjaaGreatDoorL02
import Derived.Test.YtflanjcfkdjpjaaGreatDoorL03
import Derived.Test.YtflanjcfkdjpjaaGreatDoorL12
import Derived.Test.YtflanjcfkdjpjaaGreatDoorL15
import Derived.Deep.AppendSrc
namespace Go.Proofs.YtflanjcfkdjpjaaGreatDoor.Lend
section
open Go.RowKit
theorem shift_on (n : Int) (x : Nat) : n / 2 ^ (8 * x) / 256 = n / 2 ^ (8 * (x + 1)) := by
  rw [Int.ediv_ediv_of_nonneg (Int.pow_nonneg (by decide))]
  congr 1
  rw [Nat.mul_add, Int.pow_add]; rfl
end
end Go.Proofs.YtflanjcfkdjpjaaGreatDoor.Lend

namespace Go.Proofs.YtflanjcfkdjpjaaGreatDoor.Lend
section
open Go.RowKit Go.Proofs.YtflanjcfkdjpjaaGreatDoor
set_option linter.unusedVariables false
theorem encN_succ (n : Int) (k : Nat) : strOf (encN n (k + 1)) = strOf (encN n k) ++ strOf [UInt8.ofNat (n / 2 ^ (8 * k) % 256).toNat] := by
  have e : encN n (k + 1) = encN n k ++ [UInt8.ofNat (byteAt n k).toNat] := by simp [encN, List.range_succ]
  symm
  apply strOf_ext
  rw [e]
  simp [strOf, byteAt]
end
end Go.Proofs.YtflanjcfkdjpjaaGreatDoor.Lend

namespace Go.Proofs.YtflanjcfkdjpjaaGreatDoor.Lend
section
open Go.RowKit Go.Proofs.YtflanjcfkdjpjaaGreatDoor
set_option linter.unusedVariables false
theorem put_no {n x : Int} (h : ¬ (1 ≤ x ∧ x ≤ 8)) : putB n x = false ∧ putS n x = ⟨#[]⟩ := by
  refine ⟨?_, by rw [putS, if_neg h]⟩
  by_cases h1 : 1 ≤ x
  · have : ¬ x ≤ 8 := fun h8 => h ⟨h1, h8⟩
    simp [putB, this]
  · simp [putB, h1]
end
end Go.Proofs.YtflanjcfkdjpjaaGreatDoor.Lend

namespace Go.Proofs.YtflanjcfkdjpjaaGreatDoor.Lend
section
open Go.RowKit Go.Proofs.YtflanjcfkdjpjaaGreatDoor
set_option linter.unusedVariables false
theorem strOf_self (s : ByteArray) : strOf s.data.toList = s := (strOf_ext rfl).symm
end
end Go.Proofs.YtflanjcfkdjpjaaGreatDoor.Lend

namespace Go.Proofs.YtflanjcfkdjpjaaGreatDoor.Lend
section
open Go.RowKit Go.Proofs.YtflanjcfkdjpjaaGreatDoor
set_option linter.unusedVariables false
set_option maxHeartbeats 1000000 in
set_option maxRecDepth 100000 in
theorem refput_any (n x : Int) (w : World) (h0 : 0 ≤ n) (h1 : n < 18446744073709551616) :
    Calls Tryz.prog 68 #[.int .u64 n, .int .i64 x] w fun e w' => e = .returned (.tuple #[.string (putS n x), .bool (putB n x)]) ∧ Below w.heap.size w w' := by
  by_cases hx : 1 ≤ x ∧ x ≤ 8
  · obtain ⟨hx1, hx8⟩ := hx
    have hy := put_ok (n := n) hx1 hx8
    have HY := Lib.hid hy
    have H1 := Lib.hid h1
    obtain ⟨xn, rfl⟩ := Int.eq_ofNat_of_zero_le (show 0 ≤ x by omega)
    clear hy h1
    go_enter Tryz.func68, Tryz.ntmps68
    go_wp2
    go_loopw [0, 6, 7] (fun m s i wr => ∃ k : Nat, k ≤ xn ∧ i = .int .i64 k ∧ s = .string (strOf (encN n k)) ∧ m = .int .u64 (n / 2 ^ (8 * k)) ∧ Below w.heap.size w wr) (fun _ _ i _ => xn - (intOf i).toNat)
    case atStart => exact ⟨0, Nat.zero_le _, rfl, rfl, by simp, Below.refl _ _⟩
    case round =>
      obtain ⟨k, hk, rfl, rfl, rfl, hb⟩ := hrel
      have hsz := hb.size
      have hq0 : 0 ≤ n / 2 ^ (8 * k) := Int.ediv_nonneg h0 (Int.pow_nonneg (by decide))
      by_cases hlt : k < xn
      · have hq1 : n / 2 ^ (8 * k) < 18446744073709551616 := Int.lt_of_le_of_lt (Int.ediv_le_self _ h0) H1.out
        have hcv := run_string_one wr (n / 2 ^ (8 * k) % 256)
        have hs1 : (strOf (encN n k)).size ≤ 8 := by show (encN n k).length ≤ 8; rw [encN_length]; omega
        have hs2 : (strOf [UInt8.ofNat (n / 2 ^ (8 * k) % 256).toNat]).size ≤ 1 := Nat.le_refl _
        have HS := Lib.hid (encN_succ n k)
        have HSH := Lib.hid (shift_on n k)
        go_wp2
        go_roundw
        case rel => exact ⟨k + 1, by omega, by go_num, by rw [HS.out], by rw [← HSH.out], hb.alloc hsz _⟩
        case measure => simp [intOf]; omega
      · obtain rfl : k = xn := by omega
        have hfit := fitsB_walk n (k : Int) h0
        rw [show (8 * (k : Int)).toNat = 8 * k by omega] at hfit
        have HF := Lib.hid hfit
        clear hfit
        go_wp2
        go_ret2
        exact ⟨ret_wr (by rw [HY.out.2]; simp) (by rw [HY.out.1, ← HF.out]), hb⟩
  · have hn := put_no (n := n) hx
    have HN := Lib.hid hn
    by_cases hx1 : x < 1
    · clear hx hn
      go_enter Tryz.func68, Tryz.ntmps68
      go_wp2
      go_ret2
      exact ⟨ret_wr HN.out.2.symm HN.out.1.symm, Below.refl _ _⟩
    · have hx8 : 8 < x := by omega
      have hx1' : 1 ≤ x := by omega
      clear hx hn hx1
      go_enter Tryz.func68, Tryz.ntmps68
      go_wp2
      go_ret2
      exact ⟨ret_wr HN.out.2.symm HN.out.1.symm, Below.refl _ _⟩

end
end Go.Proofs.YtflanjcfkdjpjaaGreatDoor.Lend

namespace Go.Proofs.YtflanjcfkdjpjaaGreatDoor.Rec
section
open Go Go.RowKit Go.Proofs.YtflanjcfkdjpjaaGreatDoor Go.Proofs.YtflanjcfkdjpjaaGreatDoor.Lend
set_option linter.unusedVariables false
theorem conv2 (w : World) (b1 b2 : Int) (h1 : 0 ≤ b1) (h2 : b1 ≤ 255) (h3 : 0 ≤ b2) (h4 : b2 ≤ 255) : (convert 44 9 (.slice (some ⟨w.heap.size, 0, none⟩) 2 2)).run Tryz.prog (w.alloc (.cells #[.int .u8 b1, .int .u8 b2] 5)) = .ok (.string (Lend.strOf [UInt8.ofNat b1.toNat, UInt8.ofNat b2.toNat])) (w.alloc (.cells #[.int .u8 b1, .int .u8 b2] 5)) := by
  refine run_string_brow _ w.heap.size 2 2 [UInt8.ofNat b1.toNat, UInt8.ofNat b2.toNat] ⟨fun j hj => ?_, fun j hj => ?_⟩ rfl
  · have h := (Has.new w [.int .u8 b1, .int .u8 b2] 5).cell j
    match j, hj with
    | 0, _ => rw [show (([UInt8.ofNat b1.toNat, UInt8.ofNat b2.toNat].getD 0 0).toNat : Int) = b1 from getD_toNat h1 h2]; exact h
    | 1, _ => rw [show (([UInt8.ofNat b1.toNat, UInt8.ofNat b2.toNat].getD 1 0).toNat : Int) = b2 from getD_toNat h3 h4]; exact h
  · exact (Has.new w [.int .u8 b1, .int .u8 b2] 5).frozen j
end
end Go.Proofs.YtflanjcfkdjpjaaGreatDoor.Rec

namespace Go.Proofs.YtflanjcfkdjpjaaGreatDoor.Rec
section
open Go Go.RowKit Go.Proofs.YtflanjcfkdjpjaaGreatDoor Go.Proofs.YtflanjcfkdjpjaaGreatDoor.Lend
set_option linter.unusedVariables false
set_option maxRecDepth 100000 in
set_option maxHeartbeats 2000000 in
theorem refcheck_any (u : Up) (w : World) (hk0 : 0 ≤ u.kind) (hk1 : u.kind ≤ 255) : Calls Tryz.prog 67 #[.agg #[.int .u8 u.kind, .string (Lend.strOf u.key), .string (Lend.strOf u.val), .int .u64 u.delta]] w fun e w' => e = .returned (.int .i64 (chkU u)) ∧ Below w.heap.size w w' := by
  obtain ⟨kind, key, val, delta⟩ := u
  simp only at hk0 hk1 ⊢
  obtain ⟨c, hc⟩ : ∃ c, c = chkU ⟨kind, key, val, delta⟩ := ⟨_, rfl⟩
  rw [← hc]
  unfold chkU at hc
  simp only at hc
  have hks : (Lend.strOf key).size = key.length := by simp [Lend.strOf, ByteArray.size]
  have hvs : (Lend.strOf val).size = val.length := by simp [Lend.strOf, ByteArray.size]
  have HB := Lib.hid (((Chg.refl (fun _ => False) w).alloc (.cells #[.int .u8 kind, .string (Lend.strOf key), .string (Lend.strOf val), .int .u64 delta] 101)).below (Nat.le_refl _) (fun _ h => h.elim))
  by_cases h1 : key.length < 1 ∨ 16 < key.length ∨ 32 < val.length
  · rw [if_pos h1] at hc
    subst hc
    have h1' : key.length < 1 ∨ (¬ key.length < 1 ∧ 16 < key.length) ∨ (¬ key.length < 1 ∧ ¬ 16 < key.length ∧ 32 < val.length) := by omega
    rw [← hks, ← hvs] at h1'
    generalize Lend.strOf key = K at *
    generalize Lend.strOf val = V at *
    clear h1 hks hvs
    rcases h1' with h | ⟨h, h'⟩ | ⟨h, h', h''⟩
    · have a1 : (K.size : Int) < 1 := by omega
      go_enter Tryz.func67, Tryz.ntmps67
      go_wp2
      go_ret
      exact ⟨rfl, HB.out⟩
    · have a1 : ¬ (K.size : Int) < 1 := by omega
      have a2 : 16 < (K.size : Int) := by omega
      go_enter Tryz.func67, Tryz.ntmps67
      go_wp2
      go_ret
      exact ⟨rfl, HB.out⟩
    · have a1 : ¬ (K.size : Int) < 1 := by omega
      have a2 : ¬ 16 < (K.size : Int) := by omega
      have a3 : 32 < (V.size : Int) := by omega
      go_enter Tryz.func67, Tryz.ntmps67
      go_wp2
      go_ret
      exact ⟨rfl, HB.out⟩
  · rw [if_neg h1] at hc
    have a1 : ¬ ((Lend.strOf key).size : Int) < 1 := by omega
    have a2 : ¬ 16 < ((Lend.strOf key).size : Int) := by omega
    have a3 : ¬ 32 < ((Lend.strOf val).size : Int) := by omega
    clear h1 hks hvs
    generalize Lend.strOf key = K at *
    by_cases h4 : kind < 1
    · rw [if_pos (.inl h4)] at hc
      subst hc
      generalize Lend.strOf val = V at *
      go_enter Tryz.func67, Tryz.ntmps67
      go_wp2
      go_ret
      exact ⟨rfl, HB.out⟩
    · by_cases h5 : 3 < kind
      · rw [if_pos (.inr (.inl h5))] at hc
        subst hc
        generalize Lend.strOf val = V at *
        go_enter Tryz.func67, Tryz.ntmps67
        go_wp2
        go_ret
        exact ⟨rfl, HB.out⟩
      · have h6 : kind = 1 ∨ kind = 2 ∨ kind = 3 := by omega
        have hcs : (∃ x, x = (Lend.strOf val) ∧ val = [] ∧ x = ⟨#[]⟩) ∨ (val ≠ [] ∧ ¬ (Lend.strOf val).toList = []) := by
          by_cases e : val = []
          · exact .inl ⟨_, rfl, e, by rw [e]; rfl⟩
          · exact .inr ⟨e, str_ne e⟩
        clear h4 h5 hk0 hk1
        by_cases hd : delta = 0
        · subst hd
          rcases hcs with ⟨x, hx, hv, hx2⟩ | ⟨hv, hx⟩
          · subst hv
            rw [← hx, hx2] at a3 HB ⊢
            clear hx
            rcases h6 with rfl | rfl | rfl
            all_goals
              simp at hc
              subst hc
              go_enter Tryz.func67, Tryz.ntmps67
              go_wp2
              go_ret
              exact ⟨rfl, HB.out⟩
          · generalize Lend.strOf val = V at *
            rcases h6 with rfl | rfl | rfl
            all_goals
              simp [hv] at hc
              subst hc
              go_enter Tryz.func67, Tryz.ntmps67
              go_wp2
              go_ret
              exact ⟨rfl, HB.out⟩
        · rcases hcs with ⟨x, hx, hv, hx2⟩ | ⟨hv, hx⟩
          · subst hv
            rw [← hx, hx2] at a3 HB ⊢
            clear hx
            rcases h6 with rfl | rfl | rfl
            all_goals
              simp [hd] at hc
              subst hc
              go_enter Tryz.func67, Tryz.ntmps67
              go_wp2
              go_ret
              exact ⟨rfl, HB.out⟩
          · generalize Lend.strOf val = V at *
            rcases h6 with rfl | rfl | rfl
            all_goals
              simp [hv, hd] at hc
              subst hc
              go_enter Tryz.func67, Tryz.ntmps67
              go_wp2
              go_ret
              exact ⟨rfl, HB.out⟩
end
end Go.Proofs.YtflanjcfkdjpjaaGreatDoor.Rec

namespace Go.Proofs.YtflanjcfkdjpjaaGreatDoor.Rec
section
open Go Go.RowKit Go.Proofs.YtflanjcfkdjpjaaGreatDoor Go.Proofs.YtflanjcfkdjpjaaGreatDoor.Lend
set_option linter.unusedVariables false
theorem b_on2 {w w' : World} {o : Obj} (h : Below w.heap.size w w') : Below w.heap.size w (w'.alloc o) := h.alloc h.size o
end
end Go.Proofs.YtflanjcfkdjpjaaGreatDoor.Rec

namespace Go.Proofs.YtflanjcfkdjpjaaGreatDoor.Rec
section
open Go Go.RowKit Go.Proofs.YtflanjcfkdjpjaaGreatDoor Go.Proofs.YtflanjcfkdjpjaaGreatDoor.Lend
set_option linter.unusedVariables false
set_option maxRecDepth 100000 in
set_option maxHeartbeats 4000000 in
theorem reftext_any {v : Value} {l : List Up} {w : World} (h : UR w v l) (hl : l.length ≤ 1000) (hwf : ∀ u ∈ l, 0 ≤ u.kind ∧ u.kind ≤ 255 ∧ 0 ≤ u.delta ∧ u.delta < 18446744073709551616) : Calls Tryz.prog 37 #[v] w fun e w' => e = .returned (.tuple #[.string (Lend.strOf (txT l)), .int .i64 (errL l)]) ∧ Below w.heap.size w w' := by
  obtain ⟨a, cap, rfl, hcell⟩ := h.form
  obtain ⟨n, hn⟩ : ∃ n, n = l.length := ⟨_, rfl⟩
  have HN := Lib.hid hn
  have HW := Lib.hid hwf
  have HC := Lib.hid hcell
  rw [← hn] at hl ⊢
  clear hn h hwf hcell
  go_enter Tryz.func37, Tryz.ntmps37
  go_wp2_with fail
  go_loopw [4, 5] (fun s i wr => ∃ k : Nat, k ≤ n ∧ i = .int .i64 k ∧ s = .string (Lend.strOf (txL (l.take k))) ∧ errL (l.take k) = 0 ∧ (txL (l.take k)).length ≤ 51 * k ∧ Below w.heap.size w wr) (fun _ i _ => n - (intOf i).toNat)
  case atStart => exact ⟨0, Nat.zero_le _, rfl, rfl, rfl, Nat.zero_le _, Below.refl _ _⟩
  case round =>
    obtain ⟨k, hk, rfl, rfl, her, hln, hb⟩ := hrel
    by_cases hlt : k < n
    · have hke : k < l.length := by rw [← HN.out]; exact hlt
      have hki : (k : Int) < (n : Int) := by omega
      obtain ⟨g, off, rfl, hc⟩ := HC.out (by omega)
      have hc := fun j hj => hc k hke j hj
      have hmem := List.getElem_mem hke
      have hts := txL_step hke
      have hes := errL_step hke her
      have hat := errL_at hke her
      obtain ⟨u, hu⟩ : ∃ u, u = l[k] := ⟨_, rfl⟩
      rw [← hu] at hc hmem hts hes hat
      have hbc : ∀ j x, j < 4 → (encU u)[j]? = some x → wr.cell? ⟨g, off + k * 4 + j, none⟩ = some x := fun j x hj hx => by
        have h1 := (hc j hj).trans hx
        rw [hb.cell (World.block_lt_of_cell? _ _ h1)]; exact h1
      have c0 : wr.cell? ⟨g, off + k * 4, none⟩ = some (.int .u8 u.kind) := hbc 0 _ (by omega) rfl
      have c1 : wr.cell? ⟨g, off + k * 4 + 1, none⟩ = some (.string (Lend.strOf u.key)) := hbc 1 _ (by omega) rfl
      have c2 : wr.cell? ⟨g, off + k * 4 + 2, none⟩ = some (.string (Lend.strOf u.val)) := hbc 2 _ (by omega) rfl
      have c3 : wr.cell? ⟨g, off + k * 4 + 3, none⟩ = some (.int .u64 u.delta) := hbc 3 _ (by omega) rfl
      obtain ⟨w1, hw1⟩ : ∃ w1, w1 = wr.alloc (.cells #[.int .u8 u.kind, .string (Lend.strOf u.key), .string (Lend.strOf u.val), .int .u64 u.delta] 101) := ⟨_, rfl⟩
      have HX := Lib.hid (show Has w1 wr.heap.size 101 (encU u) by rw [hw1]; exact Has.new wr _ _)
      have HB1 := Lib.hid (show Below w.heap.size w w1 by rw [hw1]; exact hb.alloc hb.size _)
      have HTS := Lib.hid hts
      have HES := Lib.hid hes
      have HAT := Lib.hid hat
      have HU := Lib.hid (HW.out u hmem)
      have y0 := HX.out.cell 0
      have y1 := HX.out.cell 1
      have y2 := HX.out.cell 2
      have y3 := HX.out.cell 3
      simp only [encU, List.getElem?_cons_zero, List.getElem?_cons_succ] at y0 y1 y2 y3
      rw [hw1] at y0 y1 y2 y3
      clear hu hke hc hbc hmem hts hes hat hb
      go_wp2_with fail
      rw [← hw1]
      clear c0 c1 c2 c3
      refine (refcheck_any u w1 HU.out.1 HU.out.2.1).mono ?_
      rintro e w2 ⟨rfl, hb2⟩
      by_cases hck : chkU u = 0
      · rw [hck]
        have hx2 := HX.out.below hb2 HX.out.lt
        obtain ⟨p1, p2, p3, p4, p5, p6, p7⟩ := chkU_ok hck
        have HX2 := Lib.hid hx2
        have HB2 := Lib.hid (HB1.out.trans (hb2.mono HB1.out.size))
        clear y0 y1 y2 y3
        have y0 := hx2.cell 0
        have y1 := hx2.cell 1
        have y2 := hx2.cell 2
        have y3 := hx2.cell 3
        simp only [encU, List.getElem?_cons_zero, List.getElem?_cons_succ] at y0 y1 y2 y3
        have s1 := ssize u.key
        have s2 := ssize u.val
        have s3 := ssize (txL (l.take k))
        have hks : (Lend.strOf u.key).size ≤ 16 := by omega
        have hvs : (Lend.strOf u.val).size ≤ 32 := by omega
        have hts : (Lend.strOf (txL (l.take k))).size ≤ 51000 := by omega
        obtain ⟨K, hK⟩ : ∃ K, K = Lend.strOf u.key := ⟨_, rfl⟩
        obtain ⟨V, hV⟩ : ∃ K, K = Lend.strOf u.val := ⟨_, rfl⟩
        obtain ⟨T, hT⟩ : ∃ K, K = Lend.strOf (txL (l.take k)) := ⟨_, rfl⟩
        rw [← hK] at hks y1 s1
        rw [← hV] at hvs y2 s2
        rw [← hT] at hts
        rw [← hK, ← hV, ← hT]
        have hcv := conv2 w2 u.kind (K.size : Int) (by omega) (by omega) (by omega) (by omega)
        obtain ⟨P, hP⟩ : ∃ P, P = Lend.strOf [UInt8.ofNat u.kind.toNat, UInt8.ofNat (K.size : Int).toNat] := ⟨_, rfl⟩
        rw [← hP] at hcv
        have hps : P.size ≤ 2 := by rw [hP]; exact Nat.le_refl _
        have HLN := Lib.hid hln
        have HER := Lib.hid her
        have HK := Lib.hid hK
        have HV := Lib.hid hV
        have HT := Lib.hid hT
        have HP := Lib.hid (show P = Lend.strOf [UInt8.ofNat u.kind.toNat, UInt8.ofNat u.key.length] by rw [hP, s1, Int.toNat_natCast])
        have HSV := Lib.hid s2
        have HCK := Lib.hid hck
        have H6 := Lib.hid p6
        have H7 := Lib.hid p7
        have HTL := Lib.hid (txU_length hck)
        have HKL := Lib.hid p2
        have HVL := Lib.hid p3
        clear hx2 hb2 HX HB1 HAT hln her hK hV hT hP s1 s2 s3 hck p1 p2 p3 p6 p7
        obtain ⟨kd, hkd⟩ : ∃ x, x = u.kind := ⟨_, rfl⟩
        obtain ⟨dl, hdl⟩ : ∃ x, x = u.delta := ⟨_, rfl⟩
        rw [← hkd] at y0 hcv p4 p5
        rw [← hdl] at y3
        rw [← hkd, ← hdl]
        have HKD := Lib.hid hkd
        have HDL := Lib.hid hdl
        clear hkd hdl
        have hxl := HX2.out.lt
        rcases (show kd = 1 ∨ kd = 2 ∨ kd = 3 by omega) with rfl | rfl | rfl
        · clear p4 p5
          have hcv1 := conv1 (w2.alloc (.cells #[.int .u8 1, .int .u8 (K.size : Int)] 5)) (V.size : Int) (by omega) (by omega)
          rw [World.size_alloc] at hcv1
          obtain ⟨Q, hQ⟩ : ∃ Q, Q = Lend.strOf [UInt8.ofNat (V.size : Int).toNat] := ⟨_, rfl⟩
          rw [← hQ] at hcv1
          have hqs : Q.size ≤ 1 := by rw [hQ]; exact Nat.le_refl _
          have HQ := Lib.hid (show Q = Lend.strOf [UInt8.ofNat u.val.length] by rw [hQ, HSV.out, Int.toNat_natCast])
          clear hQ
          have hxl2 : wr.heap.size < w2.heap.size + 1 := by omega
          have HF := Lib.hid (show T ++ P ++ K ++ Q ++ V = Lend.strOf (txL (l.take (k + 1))) from by
            rw [HT.out, HP.out, HK.out, HQ.out, HV.out, sapp, sapp, sapp, sapp, HTS.out]
            unfold txU len8
            rw [← HKD.out, if_pos rfl, if_neg (by decide)]
            simp)
          have HLN2 := Lib.hid (show (txL (l.take (k + 1))).length ≤ 51 * (k + 1) from by
            rw [HTS.out, List.length_append, HTL.out, ← HKD.out, if_pos rfl, if_neg (by decide)]
            have := HLN.out; have := HKL.out; have := HVL.out; omega)
          go_wp2_with fail
          go_roundw
          case rel => exact ⟨k + 1, by omega, by go_num, by rw [HF.out], by rw [HES.out]; exact HCK.out, HLN2.out, b_on2 (b_on2 HB2.out)⟩
          case measure => simp [intOf]; omega
        · clear p4 p5
          have HF := Lib.hid (show T ++ P ++ K = Lend.strOf (txL (l.take (k + 1))) from by
            rw [HT.out, HP.out, HK.out, sapp, sapp, HTS.out]
            unfold txU len8
            rw [← HKD.out, if_neg (by decide), if_neg (by decide)]
            simp)
          have HLN2 := Lib.hid (show (txL (l.take (k + 1))).length ≤ 51 * (k + 1) from by
            rw [HTS.out, List.length_append, HTL.out, ← HKD.out, if_neg (by decide), if_neg (by decide)]
            have := HLN.out; have := HKL.out; omega)
          go_wp2_with fail
          go_roundw
          case rel => exact ⟨k + 1, by omega, by go_num, by rw [HF.out], by rw [HES.out]; exact HCK.out, HLN2.out, b_on2 HB2.out⟩
          case measure => simp [intOf]; omega
        · clear p4 p5
          have HPU := Lib.hid (fun W => refput_any dl 8 W (by rw [HDL.out]; exact HU.out.2.2.1) (by rw [HDL.out]; exact HU.out.2.2.2))
          obtain ⟨D, hD⟩ : ∃ D, D = putS dl 8 := ⟨_, rfl⟩
          have HD := Lib.hid (show D = Lend.strOf (encN dl 8) by rw [hD]; exact (put_ok (by decide) (by decide)).2)
          have hds : D.size ≤ 8 := by rw [HD.out, ssize, encN_length]; omega
          rw [← hD] at HPU
          clear hD
          have HF := Lib.hid (show T ++ P ++ K ++ D = Lend.strOf (txL (l.take (k + 1))) from by
            rw [HT.out, HP.out, HK.out, HD.out, sapp, sapp, sapp, HTS.out]
            unfold txU len8
            rw [← HKD.out, if_neg (by decide), if_pos rfl, ← HDL.out]
            simp)
          have HLN2 := Lib.hid (show (txL (l.take (k + 1))).length ≤ 51 * (k + 1) from by
            rw [HTS.out, List.length_append, HTL.out, ← HKD.out, if_neg (by decide), if_pos rfl]
            have := HLN.out; have := HKL.out; omega)
          go_wp2_with fail
          refine (HPU.out _).mono ?_
          rintro e w3 ⟨rfl, hb3⟩
          have HB3 := Lib.hid ((b_on2 HB2.out).trans (hb3.mono (b_on2 (o := .cells #[.int .u8 3, .int .u8 (K.size : Int)] 5) HB2.out).size))
          clear hb3 y0 y1 y2 y3 hcv
          go_wp2_with fail
          go_roundw
          case rel => exact ⟨k + 1, by omega, by go_num, by rw [HF.out], by rw [HES.out]; exact HCK.out, HLN2.out, HB3.out⟩
          case measure => simp [intOf]; omega
      · have hne : (chkU u == 0) = false := by simpa using hck
        have HF := Lib.hid (show txT l = [] ∧ errL l = chkU u from ⟨by unfold txT; rw [if_neg (by rw [HAT.out hck]; exact hck)], HAT.out hck⟩)
        have HB2 := Lib.hid (HB1.out.trans (hb2.mono HB1.out.size))
        clear hb2 y0 y1 y2 y3
        go_wp2_with fail
        go_ret2
        exact ⟨by rw [HF.out.1, HF.out.2]; rfl, HB2.out⟩
    · have hkn : k = n := by omega
      subst hkn
      have hki : ¬ (k : Int) < (k : Int) := by omega
      have htk : l.take k = l := List.take_of_length_le (by rw [← HN.out]; exact Nat.le_refl _)
      rw [htk] at her hln ⊢
      have HF := Lib.hid (show txT l = txL l from by unfold txT; rw [if_pos her])
      have HE := Lib.hid her
      have HB := Lib.hid hb
      clear hb her hln htk
      go_wp2
      go_ret2
      exact ⟨by rw [HF.out, HE.out]; rfl, HB.out⟩
end
end Go.Proofs.YtflanjcfkdjpjaaGreatDoor.Rec

/- Layer 13's laws: slices of updates that came in; what is known grows. -/
namespace Go.Proofs.YtflanjcfkdjpjaaGreatDoor.Wal
open Go Go.RowKit Go.Proofs.YtflanjcfkdjpjaaGreatDoor Go.Proofs.YtflanjcfkdjpjaaGreatDoor.Lend Rec Rem
set_option linter.unusedVariables false

theorem list_of (n : Nat) (P : Nat → Up → Prop) (h : ∀ i, i < n → ∃ u, P i u) : ∃ l : List Up, l.length = n ∧ ∀ i (hi : i < l.length), P i l[i] := by
  induction n with
  | zero => exact ⟨[], rfl, fun i hi => by cases hi⟩
  | succ n ih =>
    obtain ⟨l, hl, hp⟩ := ih fun i hi => h i (by omega)
    obtain ⟨u, hu⟩ := h n (by omega)
    refine ⟨l ++ [u], by simp [hl], fun i hi => ?_⟩
    by_cases e : i < l.length
    · rw [List.getElem_append_left e]; exact hp i e
    · have : i = n := by simp at hi; omega
      subst this
      rw [List.getElem_append_right (by omega)]
      simpa [hl] using hu
theorem ur_of {w : World} {a : Option Addr} {len cap : Nat} (Q : Up → Prop) (h : 0 < len → ∃ b off, a = some ⟨b, off, none⟩ ∧ ∀ i, i < len → ∃ u : Up, Q u ∧ ∀ j, j < 4 → w.cell? ⟨b, off + i * 4 + j, none⟩ = (encU u)[j]?) :
    ∃ l, len = l.length ∧ UR w (.slice a len cap) l ∧ ∀ u ∈ l, Q u := by
  by_cases h0 : 0 < len
  · obtain ⟨b, off, rfl, hx⟩ := h h0
    obtain ⟨l, hl, hp⟩ := list_of len _ hx
    subst hl
    refine ⟨l, rfl, ⟨_, cap, rfl, fun _ => ⟨b, off, rfl, fun i hi => (hp i hi).2⟩⟩, fun u hu => ?_⟩
    obtain ⟨i, hi, rfl⟩ := List.mem_iff_getElem.1 hu
    exact (hp i hi).1
  · have : len = 0 := by omega
    subst this
    exact ⟨[], rfl, ⟨a, cap, rfl, fun h => by cases h⟩, fun u hu => by cases hu⟩
theorem u8_bd {x : Int} (h : (Lit.int .u8 x).wf = true) : 0 ≤ x ∧ x ≤ 255 := by
  simp only [Lit.wf, Bool.and_eq_true, decide_eq_true_eq, show IntKind.u8.min = 0 from rfl, show IntKind.u8.max = 255 from rfl] at h
  omega
theorem u64_bd {x : Int} (h : (Lit.int .u64 x).wf = true) : 0 ≤ x ∧ x < 18446744073709551616 := by
  simp only [Lit.wf, Bool.and_eq_true, decide_eq_true_eq, show IntKind.u64.min = 0 from rfl, show IntKind.u64.max = 18446744073709551615 from rfl] at h
  omega
theorem u32_bd {x : Int} (h : (Lit.int .u32 x).wf = true) : 0 ≤ x ∧ x < 4294967296 := by
  simp only [Lit.wf, Bool.and_eq_true, decide_eq_true_eq, show IntKind.u32.min = 0 from rfl, show IntKind.u32.max = 4294967295 from rfl] at h
  omega
/-- an update told by its cells -/
theorem up_cells {w : World} {b off i : Nat} {x0 x3 : Int} {x1 x2 : ByteArray} (c0 : w.cell? ⟨b, off + (i * 4 + 0), none⟩ = some (.int .u8 x0)) (c1 : w.cell? ⟨b, off + (i * 4 + 1), none⟩ = some (.string x1)) (c2 : w.cell? ⟨b, off + (i * 4 + 2), none⟩ = some (.string x2)) (c3 : w.cell? ⟨b, off + (i * 4 + 3), none⟩ = some (.int .u64 x3)) :
    ∀ j, j < 4 → w.cell? ⟨b, off + i * 4 + j, none⟩ = (encU ⟨x0, x1.data.toList, x2.data.toList, x3⟩)[j]? := by
  intro j hj
  have e : ∀ s : ByteArray, Lend.strOf s.data.toList = s := fun s => Lend.strOf_self s
  rw [Nat.add_assoc]
  match j, hj with
  | 0, _ => rw [c0]; rfl
  | 1, _ => rw [c1]; simp [encU, e]
  | 2, _ => rw [c2]; simp [encU, e]
  | 3, _ => rw [c3]; rfl
theorem wpList_append_run {P : Program} {w w' : World} {ops : Array Oper} {rest : List Oper} {o : Oper} {a : Act} {Q : Exit → Act → World → Prop} (hgd : o.guard = none) (sl x : Operand) (t u : TypeId)
    (ho : o.op = .call { callee := .builtin .append, args := #[sl, x], argTypes := #[t, u] }) (v y v' : Value) (hs : a.eval sl = v) (hx : a.eval x = y)
    (hr : (Builtin.append_ #[t, u] o.type #[v, y]).run P w = .ok v' w') (h : wpList P ops Q rest (a.put o.dst v') w') : wpList P ops Q (o :: rest) a w := by
  refine wpList_plain hgd fun K hK => ?_
  unfold Oper.wp execOp
  simp only [ho, resolve, invoke, builtin, Sem.run_bind, Sem.run_pure, Result.andThen_ok, List.map_toArray, List.map_cons, List.map_nil, hs, hx, hr]
  exact hK _ _ h
/-- a row that grew is one of one's own -/
theorem grow_own (w : World) (olds news : List Value) (n m : Nat) (e : TypeId) (size : Nat) (z : Value) (hlo : olds.length = n * size) (hl : news.length = m * size) (hzs : z.cells.size = size) (h63 : n + m ≤ maxLen) :
    (w.drew.alloc (.cells (olds.toArray ++ news.toArray ++ Builtin.zeroCells z.cells (grownCap w (n + m) n e - (n + m))) e)).ownsRow w.heap.size e size (.slice (some ⟨w.heap.size, 0, none⟩) (n + m) (grownCap w (n + m) n e)) (n + m) (olds ++ news) := by
  have hge := grownCap_ge w (n + m) n e
  have hcm : grownCap w (n + m) n e ≤ maxLen := grownCap_le_maxLen w (n + m) n e h63
  have hlen : (olds ++ news).length = (n + m) * size := by rw [List.length_append, hlo, hl, Nat.add_mul]
  refine ⟨hlen, .inr ⟨w.heap.size, _, _, rfl, Nat.le_refl _, heap_alloc_new w.drew _, hge, hcm, ?_, ?_⟩⟩
  · simp only [Array.size_append, List.size_toArray, size_zeroCells, hzs, hlo, hl, ← Nat.add_mul]
    congr 1
    omega
  · simp only [Array.toList_append, List.append_assoc]
    rw [← List.append_assoc, ← hlen]
    exact List.take_left
/-- what is known, with more behind it -/
theorem app_known {w : World} {ao bo : Option Addr} {n ac m bc : Nat} {la lb : List Up} (ha : UR w (.slice ao n ac) la) (hnil : la = [] → ao = none) (hb : UR w (.slice bo m bc) lb) (h0 : lb ≠ []) (hn : n + m ≤ 10000) :
    ∃ v' w', (Builtin.append_ #[39, 39] 39 #[.slice ao n n, .slice bo m bc]).run Tryz.prog w = .ok v' w' ∧ RA w' w.heap.size v' (la ++ lb) ∧ Below w.heap.size w w' := by
  obtain ⟨i0, hi, hz0, hz1, hz2⟩ := info_parts info_up
  obtain ⟨g', off', cap', he, hcb⟩ := Go.Proofs.YtflanjcfkdjpjaaGreatDoor.Wal.UR.news hb h0
  simp only [Value.slice.injEq] at he
  obtain ⟨rfl, rfl, rfl⟩ := he
  by_cases hla : la = []
  · subst hla
    obtain rfl := hnil rfl
    obtain ⟨a0, c0, he0, _⟩ := ha.form
    simp only [Value.slice.injEq, List.length_nil] at he0
    obtain ⟨_, rfl, _⟩ := he0
    obtain ⟨v', w', hr, h2, h3, _⟩ := run_append_own (P := Tryz.prog) w w.heap.size 39 39 67 i0 _ 4 48 Tryz.underlying39 hi hz0 hz1 hz2 rfl (by decide) (.slice none 0 0) 0 [] (World.ownsRow_nil _ _ _ _) ⟨g', off', none⟩ lb.length bc (flatU lb) (flatU_length lb) hcb (fun u hu => flatU_one u hu) (by unfold maxLen; omega) (by omega) (Nat.le_refl _)
    refine ⟨v', w', hr, ?_, ((Below.refl _ w).grown h3 (Nat.le_refl _) (fun q hq => by cases hq))⟩
    show w'.ownsRow _ _ _ _ ([] ++ lb).length (flatU ([] ++ lb))
    rw [List.nil_append]
    rw [Nat.zero_add, List.nil_append] at h2
    exact h2
  · obtain ⟨g, off, cap, he, hca⟩ := Go.Proofs.YtflanjcfkdjpjaaGreatDoor.Wal.UR.news ha hla
    simp only [Value.slice.injEq] at he
    obtain ⟨rfl, rfl, rfl⟩ := he
    have hpos : 0 < lb.length := List.length_pos_iff.2 h0
    refine ⟨_, _, run_append_grow w _ _ 67 i0 _ Tryz.underlying39 hi hz0 ⟨g, off, none⟩ la.length la.length (flatU la) (by rw [flatU_length, hz1]) hca ⟨g', off', none⟩ lb.length bc (flatU lb) (by rw [flatU_length, hz1]) hcb (by omega) (by omega) (by rw [hz2]; exact growslice_fits (by omega) (by omega)), ?_, (Below.refl _ w).drew.alloc (Nat.le_refl _) _⟩
    show World.ownsRow _ _ _ _ _ (la ++ lb).length (flatU (la ++ lb))
    rw [List.length_append, flatU_app]
    exact grow_own w (flatU la) (flatU lb) la.length lb.length 67 4 _ (flatU_length la) (flatU_length lb) rfl (by unfold maxLen; omega)
/-- what the law knows -/
structure KN (Y : List Nat) (w : World) (v : Value) (l : List Up) : Prop where
  ur : URin Y w v l
  nil : l = [] → v = .slice none 0 0
  form : ∃ a c, v = .slice a l.length c ∧ l.length ≤ c ∧ (l = [] → a = none)
theorem KN.start (Y : List Nat) (w : World) : KN Y w (.slice none 0 0) [] := ⟨⟨ur_nil w, fun j hj => by cases hj⟩, fun _ => rfl, none, 0, rfl, Nat.le_refl _, fun _ => rfl⟩
theorem KN.keep {X : List Nat} {w w' : World} {v : Value} {l : List Up} (h : KN X w v l) (hs : Rem.Same X w w') : KN X w' v l := ⟨h.ur.keep hs, h.nil, h.form⟩
theorem KN.mono {X Y : List Nat} {w : World} {v : Value} {l : List Up} (h : KN X w v l) (hX : ∀ j ∈ X, j ∈ Y) : KN Y w v l := ⟨h.ur.mono hX, h.nil, h.form⟩
theorem KN.of_ra {Y : List Nat} {w : World} {base : Nat} {v : Value} {l : List Up} (h : RA w base v l) (h0 : l ≠ []) (hY : ∀ j, v.ownBlock = some j → j ∈ Y) : KN Y w v l := by
  refine ⟨⟨UR.of_own h, hY⟩, fun e => absurd e h0, ?_⟩
  rcases h.2 with ⟨_, h1⟩ | ⟨g, cap, cur, rfl, _, _, hn, _⟩
  · exact absurd (List.length_eq_zero_iff.1 h1) h0
  · exact ⟨_, cap, rfl, hn, fun e => absurd e h0⟩
theorem flatten_le {r : List (List Up)} {m : Nat} (h : ∀ l ∈ r, l.length ≤ m) : r.flatten.length ≤ r.length * m := by
  induction r with
  | nil => simp
  | cons a r ih =>
    rw [List.flatten_cons, List.length_append, List.length_cons, Nat.succ_mul]
    have h1 := h a (List.mem_cons_self ..)
    have h2 := ih fun l hl => h l (List.mem_cons_of_mem _ hl)
    omega
end Go.Proofs.YtflanjcfkdjpjaaGreatDoor.Wal

/- Layer 13's laws: updates. -/

namespace Go.Proofs.YtflanjcfkdjpjaaGreatDoor.Wal
open Go Go.RowKit Go.Proofs.YtflanjcfkdjpjaaGreatDoor Go.Proofs.YtflanjcfkdjpjaaGreatDoor.Lend Rec
set_option linter.unusedVariables false
set_option maxHeartbeats 4000000 in
set_option maxRecDepth 100000 in
theorem updates_any {a : Option Addr} {n cap : Nat} {l : List Up} {w : World} (h : UR w (.slice a n cap) l) (hn : n = l.length) (hc : n ≤ cap) (hcm : cap ≤ maxLen) (hsz : ∀ u ∈ l, SzU u) (hwf : ∀ u ∈ l, WfU u) :
    Calls Tryz.prog 17 #[.slice a n cap] w (UpsP w (ofL l)) := by
  obtain ⟨ia, hia, hza0, hza1, hza2⟩ := info_parts info_up
  obtain ⟨ib, hib, hzb0, hzb1, hzb2⟩ := info_parts info_ur
  have HN := Lib.hid hn
  have HZ := Lib.hid hsz
  have HWF := Lib.hid (ofL_wf hwf)
  have HU := Lib.hid h
  unfold maxLen at hcm
  clear hn hsz hwf h
  go_enter Tryz.func17, Tryz.ntmps17
  obtain ⟨m, hm⟩ : ∃ m, m = min n 5 := ⟨_, rfl⟩
  have HM := Lib.hid hm
  go_upto_region 3 with fail
  go_cut [15, 16, 17] (fun s t i wx => ∃ a' cap', s = .slice a' m cap' ∧ t = .int .i64 m ∧ i = .int .i64 ((0 : Nat) : Int) ∧ (0 < m → a' = a) ∧ wx = w)
  case first =>
    go_wp2_with fail
    go_meet
    have e : m = min n 5 := HM.out
    have e1 : (min (n : Int) 5).toNat = m := by omega
    have e2 : max (min (n : Int) 5) 0 = m := by omega
    exact ⟨a, cap, by rw [e1], by rw [e2], rfl, fun _ => rfl, rfl⟩
  case rest =>
    obtain ⟨a', cap', rfl, rfl, rfl, haa, hww⟩ := hcut
    have hww := hww.symm
    subst hww
    have hml : m ≤ l.length ∧ m ≤ 5 := by have := HM.out; have := HN.out; omega
    obtain ⟨hml, hm5⟩ := hml
    have HAA := Lib.hid haa
    obtain ⟨a1, c1, he, hx⟩ := HU.out.form
    have HX := Lib.hid hx
    have HE := Lib.hid he
    clear hm haa he hx hc hcm
    go_wp2_with fail
    go_loopw [5, 6, 17] (fun av bv i wr => ∃ (k : Nat) (av' bv' : Value), k ≤ m ∧ av' = av ∧ bv' = bv ∧ i = .int .i64 k ∧ Ox w av' bv' (ofL (l.take k)) wr) (fun _ _ i _ => m - (intOf i).toNat)
    case atStart => exact ⟨0, _, _, Nat.zero_le _, rfl, rfl, rfl, World.ownsRow_nil _ _ _ _, World.ownsRow_nil _ _ _ _, Below.refl _ _⟩
    case round =>
      obtain ⟨k, av, bv, hk, rfl, rfl, rfl, hox⟩ := hrel
      by_cases hlt : k < m
      · have hke : k < l.length := by omega
        have hki : (k : Int) < (m : Int) := by omega
        have ea : a1 = a := by have := HE.out; simp at this; exact this.1.symm
        obtain ⟨g, off, hg, hcc⟩ := HX.out (by omega)
        obtain rfl : a' = some ⟨g, off, none⟩ := by rw [HAA.out (by omega), ← ea, hg]
        have hcc := hcc k hke
        have hsu := HZ.out _ (List.getElem_mem hke)
        have HOF := Lib.hid (ofL_snoc hke (by omega))
        obtain ⟨u, hu⟩ : ∃ u, u = l[k] := ⟨_, rfl⟩
        rw [← hu] at hcc hsu HOF
        have hbc : ∀ j x, j < 4 → (encU u)[j]? = some x → wr.cell? ⟨g, off + k * 4 + j, none⟩ = some x := fun j x hj hx => by
          have h1 := (hcc j hj).trans hx
          rw [hox.bel.cell (World.block_lt_of_cell? _ _ h1)]; exact h1
        have c0 : wr.cell? ⟨g, off + k * 4, none⟩ = some (.int .u8 u.kind) := hbc 0 _ (by omega) rfl
        have c1 : wr.cell? ⟨g, off + k * 4 + 1, none⟩ = some (.string (Lend.strOf u.key)) := hbc 1 _ (by omega) rfl
        have c2 : wr.cell? ⟨g, off + k * 4 + 2, none⟩ = some (.string (Lend.strOf u.val)) := hbc 2 _ (by omega) rfl
        have c3 : wr.cell? ⟨g, off + k * 4 + 3, none⟩ = some (.int .u64 u.delta) := hbc 3 _ (by omega) rfl
        have HOX := Lib.hid hox
        have HKT := Lib.hid (takeN 20 u.key)
        have HVT := Lib.hid (takeN 36 u.val)
        have hKs : (Lend.strOf u.key).size ≤ 9223372036854775807 := by rw [ssize]; exact hsu.1
        have hVs : (Lend.strOf u.val).size ≤ 9223372036854775807 := by rw [ssize]; exact hsu.2
        obtain ⟨K, hK⟩ : ∃ x, x = Lend.strOf u.key := ⟨_, rfl⟩
        obtain ⟨V, hV⟩ : ∃ x, x = Lend.strOf u.val := ⟨_, rfl⟩
        obtain ⟨KT, hKT⟩ : ∃ x, x = Lend.strOf (u.key.take 20) := ⟨_, rfl⟩
        obtain ⟨VT, hVT⟩ : ∃ x, x = Lend.strOf (u.val.take 36) := ⟨_, rfl⟩
        have HCT := Lib.hid (show encU (ctU u) = [.int .u8 u.kind, .string KT, .string VT, .int .u64 u.delta] by rw [hKT, hVT]; rfl)
        rw [← hK] at HKT c1 hKs
        rw [← hV] at HVT c2 hVs
        rw [← hKT] at HKT
        rw [← hVT] at HVT
        obtain ⟨kd, hkd⟩ : ∃ x, x = u.kind := ⟨_, rfl⟩
        obtain ⟨dl, hdl⟩ : ∃ x, x = u.delta := ⟨_, rfl⟩
        rw [← hkd] at c0 HCT
        rw [← hdl] at c3 HCT
        obtain ⟨w1, hw1⟩ : ∃ x, x = wr.alloc (.cells #[.int .u8 kd, .string K, .string V, .int .u64 dl] 100) := ⟨_, rfl⟩
        have HB1 := Lib.hid (show Has w1 wr.heap.size 100 [.int .u8 kd, .string K, .string V, .int .u64 dl] by rw [hw1]; exact Has.new _ _ _)
        have HO1 := Lib.hid (show Ox w av bv (ofL (l.take k)) w1 by rw [hw1]; exact hox.on (below_new _ _))
        have HLA := Lib.hid (show ∀ k, av.ownBlock = some k → k < wr.heap.size from fun k e => (hox.ra.lt k e).2)
        have HLB := Lib.hid (show ∀ k, bv.ownBlock = some k → k < wr.heap.size from fun k e => (hox.ru.lt k e).2)
        have HGE := Lib.hid hox.bel.size
        clear hcc hu hbc hK hV hKT hVT hkd hdl hsu hox hke ea hg
        go_upto_region 6 with fail
        rw [← hw1]
        obtain ⟨M, hM⟩ : ∃ x, x = ofL (l.take k) := ⟨_, rfl⟩
        rw [← hM] at HO1 HOF
        obtain ⟨X, hX⟩ : ∃ x, x = wr.heap.size := ⟨_, rfl⟩
        rw [← hX] at HB1 HLA HLB HGE ⊢
        have hMl : M.length ≤ 5 := by rw [hM, ofL_length]; omega
        clear hw1 c0 c1 c2 c3 hM hX
        go_cut [8] (fun s wx => s = .pointer (some ⟨X, 0, none⟩) ∧ Hx w av bv M X kd KT VT dl wx)
        case first =>
          obtain ⟨mK, hmK⟩ : ∃ x, min K.size 20 = x := ⟨_, rfl⟩
          obtain ⟨mV, hmV⟩ : ∃ x, min V.size 36 = x := ⟨_, rfl⟩
          have hke := HKT.out
          have hve := HVT.out
          rw [hmK] at hke
          rw [hmV] at hve
          have hmK1 : mK ≤ K.size := by omega
          have hmV1 : mV ≤ V.size := by omega
          have HMK := Lib.hid (show min (K.size : Int) 20 = (mK : Int) by omega)
          have HMV := Lib.hid (show min (V.size : Int) 36 = (mV : Int) by omega)
          clear hmK hmV
          refine Reg.region_vals (by kernel_rfl) [(21, .pointer (some ⟨X, 1, none⟩)), (22, .string K), (23, .pointer (some ⟨X, 1, none⟩)), (24, .string K), (25, .int .i64 (K.size : Nat)), (26, .int .i64 (mK : Nat)), (27, .string KT), (28, .pointer (some ⟨X, 2, none⟩)), (29, .string V), (30, .pointer (some ⟨X, 2, none⟩)), (31, .string V), (32, .int .i64 (V.size : Nat)), (33, .int .i64 (mV : Nat)), (34, .string VT), (35, .pointer (some ⟨X, 1, none⟩)), (36, .pointer (some ⟨X, 2, none⟩))] (fun l wy => Hx w av bv M X kd (bif l 15 then KT else K) (bif l 17 then VT else V) dl wy) (by kernel_rfl) (by kernel_rfl) (by kernel_rfl) (⟨Has.drew HB1.out, HO1.out.on (below_drw _)⟩) ⟨?_, ?_, ?_, ?_, ?_, ?_, ?_, ?_, ?_, ?_, ?_, ?_, ?_, ?_, ?_, ?_, ?_, ?_, trivial⟩ ?hend
          · skip
            intro aq wq lq hI hl hdone hlater hold hd ho
            have h8 : aq.tmps.getD 8 undef = .pointer (some ⟨X, 0, none⟩) := ho 8 (by kernel_rfl)
            clear hd ho hdone hlater hold
            rw [Array.getD_eq_getD_getElem?] at h8
            refine Reg.step2_val (.pointer (some ⟨X, 1, none⟩)) ?_ rfl hI trivial
            go_simp
          · skip
            intro aq wq lq hI hl hdone hlater hold hd ho
            have h21 : aq.tmps.getD 21 undef = .pointer (some ⟨X, 1, none⟩) := hd 21 (by kernel_rfl)
            have gl15 : lq 15 = false := hlater 15 (by kernel_rfl)
            clear hd ho hdone hlater hold
            rw [Array.getD_eq_getD_getElem?] at h21
            have e0 := hI.1.cell 1
            rw [gl15] at e0
            simp only [cond_false, List.getElem?_cons_zero, List.getElem?_cons_succ] at e0
            refine Reg.step2_val (.string K) ?_ rfl hI trivial
            clear hI
            go_simp
          · skip
            intro aq wq lq hI hl hdone hlater hold hd ho
            have h8 : aq.tmps.getD 8 undef = .pointer (some ⟨X, 0, none⟩) := ho 8 (by kernel_rfl)
            clear hd ho hdone hlater hold
            rw [Array.getD_eq_getD_getElem?] at h8
            refine Reg.step2_val (.pointer (some ⟨X, 1, none⟩)) ?_ rfl hI trivial
            go_simp
          · skip
            intro aq wq lq hI hl hdone hlater hold hd ho
            have h23 : aq.tmps.getD 23 undef = .pointer (some ⟨X, 1, none⟩) := hd 23 (by kernel_rfl)
            have gl15 : lq 15 = false := hlater 15 (by kernel_rfl)
            clear hd ho hdone hlater hold
            rw [Array.getD_eq_getD_getElem?] at h23
            have e0 := hI.1.cell 1
            rw [gl15] at e0
            simp only [cond_false, List.getElem?_cons_zero, List.getElem?_cons_succ] at e0
            refine Reg.step2_val (.string K) ?_ rfl hI trivial
            clear hI
            go_simp
          · skip
            intro aq wq lq hI hl hdone hlater hold hd ho
            have h24 : aq.tmps.getD 24 undef = .string K := hd 24 (by kernel_rfl)
            clear hd ho hdone hlater hold
            rw [Array.getD_eq_getD_getElem?] at h24
            refine Reg.step2_val (.int .i64 (K.size : Nat)) ?_ rfl hI trivial
            simp [execOp]
            go_simp
          · skip
            intro aq wq lq hI hl hdone hlater hold hd ho
            have h25 : aq.tmps.getD 25 undef = .int .i64 (K.size : Nat) := hd 25 (by kernel_rfl)
            clear hd ho hdone hlater hold
            rw [Array.getD_eq_getD_getElem?] at h25
            refine Reg.step2_val (.int .i64 (mK : Nat)) ?_ rfl hI trivial
            simp [execOp]
            go_simp
            exact HMK.out
          · skip
            intro aq wq lq hI hl hdone hlater hold hd ho
            have h22 : aq.tmps.getD 22 undef = .string K := hd 22 (by kernel_rfl)
            have h26 : aq.tmps.getD 26 undef = .int .i64 (mK : Nat) := hd 26 (by kernel_rfl)
            clear hd ho hdone hlater hold
            rw [Array.getD_eq_getD_getElem?] at h22 h26
            refine Reg.step2_val (.string KT) ?_ rfl hI trivial
            simp [execOp, Act.eval, h22, h26]
            try go_simp
          · skip
            intro aq wq lq hI hl hdone hlater hold hd ho
            have h8 : aq.tmps.getD 8 undef = .pointer (some ⟨X, 0, none⟩) := ho 8 (by kernel_rfl)
            clear hd ho hdone hlater hold
            rw [Array.getD_eq_getD_getElem?] at h8
            refine Reg.step2_val (.pointer (some ⟨X, 2, none⟩)) ?_ rfl hI trivial
            go_simp
          · skip
            intro aq wq lq hI hl hdone hlater hold hd ho
            have h28 : aq.tmps.getD 28 undef = .pointer (some ⟨X, 2, none⟩) := hd 28 (by kernel_rfl)
            have gl17 : lq 17 = false := hlater 17 (by kernel_rfl)
            clear hd ho hdone hlater hold
            rw [Array.getD_eq_getD_getElem?] at h28
            have e0 := hI.1.cell 2
            rw [gl17] at e0
            simp only [cond_false, List.getElem?_cons_zero, List.getElem?_cons_succ] at e0
            refine Reg.step2_val (.string V) ?_ rfl hI trivial
            clear hI
            go_simp
          · skip
            intro aq wq lq hI hl hdone hlater hold hd ho
            have h8 : aq.tmps.getD 8 undef = .pointer (some ⟨X, 0, none⟩) := ho 8 (by kernel_rfl)
            clear hd ho hdone hlater hold
            rw [Array.getD_eq_getD_getElem?] at h8
            refine Reg.step2_val (.pointer (some ⟨X, 2, none⟩)) ?_ rfl hI trivial
            go_simp
          · skip
            intro aq wq lq hI hl hdone hlater hold hd ho
            have h30 : aq.tmps.getD 30 undef = .pointer (some ⟨X, 2, none⟩) := hd 30 (by kernel_rfl)
            have gl17 : lq 17 = false := hlater 17 (by kernel_rfl)
            clear hd ho hdone hlater hold
            rw [Array.getD_eq_getD_getElem?] at h30
            have e0 := hI.1.cell 2
            rw [gl17] at e0
            simp only [cond_false, List.getElem?_cons_zero, List.getElem?_cons_succ] at e0
            refine Reg.step2_val (.string V) ?_ rfl hI trivial
            clear hI
            go_simp
          · skip
            intro aq wq lq hI hl hdone hlater hold hd ho
            have h31 : aq.tmps.getD 31 undef = .string V := hd 31 (by kernel_rfl)
            clear hd ho hdone hlater hold
            rw [Array.getD_eq_getD_getElem?] at h31
            refine Reg.step2_val (.int .i64 (V.size : Nat)) ?_ rfl hI trivial
            simp [execOp]
            go_simp
          · skip
            intro aq wq lq hI hl hdone hlater hold hd ho
            have h32 : aq.tmps.getD 32 undef = .int .i64 (V.size : Nat) := hd 32 (by kernel_rfl)
            clear hd ho hdone hlater hold
            rw [Array.getD_eq_getD_getElem?] at h32
            refine Reg.step2_val (.int .i64 (mV : Nat)) ?_ rfl hI trivial
            simp [execOp]
            go_simp
            exact HMV.out
          · skip
            intro aq wq lq hI hl hdone hlater hold hd ho
            have h29 : aq.tmps.getD 29 undef = .string V := hd 29 (by kernel_rfl)
            have h33 : aq.tmps.getD 33 undef = .int .i64 (mV : Nat) := hd 33 (by kernel_rfl)
            clear hd ho hdone hlater hold
            rw [Array.getD_eq_getD_getElem?] at h29 h33
            refine Reg.step2_val (.string VT) ?_ rfl hI trivial
            simp [execOp, Act.eval, h29, h33]
            try go_simp
          · skip
            intro aq wq lq hI hl hdone hlater hold hd ho
            have h8 : aq.tmps.getD 8 undef = .pointer (some ⟨X, 0, none⟩) := ho 8 (by kernel_rfl)
            clear hd ho hdone hlater hold
            rw [Array.getD_eq_getD_getElem?] at h8
            refine Reg.step2_val (.pointer (some ⟨X, 1, none⟩)) ?_ rfl hI trivial
            go_simp
          · skip
            intro aq wq lq hI hl hdone hlater hold hd ho
            have h35 : aq.tmps.getD 35 undef = .pointer (some ⟨X, 1, none⟩) := hd 35 (by kernel_rfl)
            have h27 : aq.tmps.getD 27 undef = .string KT := hd 27 (by kernel_rfl)
            have gl17 : lq 17 = false := hlater 17 (by kernel_rfl)
            clear hd ho hdone hlater hold
            rw [Array.getD_eq_getD_getElem?] at h35 h27
            have e0 := hI.1.cell 1
            have f0 := hI.1.frozen 1
            simp only [List.getElem?_cons_zero, List.getElem?_cons_succ] at e0
            have hJ := hI
            clear hI
            refine Reg.step2_skip (wq.setCell ⟨X, 1, none⟩ (.string KT)) rfl ?_ ⟨hJ.1.set 1 _, hJ.2.set HGE.out HLA.out HLB.out 1 _⟩ trivial
            clear hJ
            simp [execOp]
            go_simp
          · skip
            intro aq wq lq hI hl hdone hlater hold hd ho
            have h8 : aq.tmps.getD 8 undef = .pointer (some ⟨X, 0, none⟩) := ho 8 (by kernel_rfl)
            clear hd ho hdone hlater hold
            rw [Array.getD_eq_getD_getElem?] at h8
            refine Reg.step2_val (.pointer (some ⟨X, 2, none⟩)) ?_ rfl hI trivial
            go_simp
          · skip
            intro aq wq lq hI hl hdone hlater hold hd ho
            have h36 : aq.tmps.getD 36 undef = .pointer (some ⟨X, 2, none⟩) := hd 36 (by kernel_rfl)
            have h34 : aq.tmps.getD 34 undef = .string VT := hd 34 (by kernel_rfl)
            have gd15 : lq 15 = true := hdone 15 (by kernel_rfl)
            clear hd ho hdone hlater hold
            rw [Array.getD_eq_getD_getElem?] at h36 h34
            have e0 := hI.1.cell 2
            have f0 := hI.1.frozen 2
            simp only [List.getElem?_cons_zero, List.getElem?_cons_succ] at e0
            have hJ := hI
            clear hI
            refine Reg.step2_skip (wq.setCell ⟨X, 2, none⟩ (.string VT)) rfl ?_ ⟨hJ.1.set 2 _, hJ.2.set HGE.out HLA.out HLB.out 2 _⟩ trivial
            clear hJ
            simp [execOp]
            go_simp
          case hend =>
          intro wx hI
          simp only [Reg.fill, List.foldl_cons, List.foldl_nil, List.setIfInBounds_toArray, List.set_cons_zero, List.set_cons_succ]
          have hJ : Hx w av bv M X kd KT VT dl wx := hI
          clear hI
          go_wp2_with fail
          go_meet
          exact ⟨rfl, hJ⟩
        case rest =>
          obtain ⟨rfl, hJ⟩ := hcut
          have HH := Lib.hid hJ.1
          have HO := Lib.hid hJ.2
          have y0 := hJ.1.cell 0
          have y1 := hJ.1.cell 1
          have y2 := hJ.1.cell 2
          have y3 := hJ.1.cell 3
          simp only [List.getElem?_cons_zero, List.getElem?_cons_succ] at y0 y1 y2 y3
          clear hJ
          have HNA := Lib.hid (show ∀ j x, (encU (ctU u))[j]? = some x → (wc.alloc (.cells #[.int .u8 kd, .string KT, .string VT, .int .u64 dl] 67)).cell? ((⟨wc.heap.size, 0, none⟩ : Addr).add j) = some x from by rw [HCT.out]; exact has_news (Has.new wc [.int .u8 kd, .string KT, .string VT, .int .u64 dl] _))
          have HO1 := Lib.hid (HO.out.on (below_new wc (.cells #[.int .u8 kd, .string KT, .string VT, .int .u64 dl] 67)))
          go_wp2_with (at_builtin; refine wpList_append_own _ rfl _ _ 39 rfl w.heap.size 67 ia _ 4 48 Tryz.underlying39 hia hza0 hza1 hza2 rfl (by decide) _ M.length (flatU M) rfl HO1.out.ra ⟨wc.heap.size, 0, none⟩ 1 1 (encU (ctU u)) rfl rfl HNA.out (enc_one _) ?c1 ?c2 ?c3 ?_)
          case c1 => unfold maxLen; omega
          case c2 => omega
          case c3 => exact HO1.out.bel.size
          intro av2 w4 hown4 hgr _
          have HA4 := Lib.hid (show RA w4 w.heap.size av2 (M ++ [ctU u]) by unfold RA; rw [flatU_snoc, List.length_append]; exact hown4)
          have HV4 := Lib.hid (show RU w4 w.heap.size bv M from owns_same HO1.out.ru fun k e => hgr.block k (HO1.out.ru.lt k e).2 (fun e2 => ra_ru HO1.out.ra HO1.out.ru k e2.symm e))
          have HE4 := Lib.hid (HO1.out.bel.grown hgr HO1.out.bel.size (fun q hq => (HO1.out.ra.lt q hq).1))
          have hx4 : Has w4 X 100 [.int .u8 kd, .string KT, .string VT, .int .u64 dl] := (HH.out.alloc _).same (hgr.block X (HH.out.alloc _).lt (fun e => Nat.lt_irrefl _ (HLA.out X e.symm)))
          clear y0 y1 y2 y3
          have y0 := hx4.cell 0
          have y1 := hx4.cell 1
          have y2 := hx4.cell 2
          have y3 := hx4.cell 3
          simp only [List.getElem?_cons_zero, List.getElem?_cons_succ] at y0 y1 y2 y3
          clear hown4 hgr hx4
          have HNB := Lib.hid (show ∀ j x, (encU (ctU u))[j]? = some x → (w4.alloc (.cells #[.int .u8 kd, .string KT, .string VT, .int .u64 dl] 101)).cell? ((⟨w4.heap.size, 0, none⟩ : Addr).add j) = some x from by rw [HCT.out]; exact has_news (Has.new w4 [.int .u8 kd, .string KT, .string VT, .int .u64 dl] _))
          have HA5 := Lib.hid (show RA (w4.alloc (.cells #[.int .u8 kd, .string KT, .string VT, .int .u64 dl] 101)) w.heap.size av2 (M ++ [ctU u]) from HA4.out.alloc _)
          have HV5 := Lib.hid (show RU (w4.alloc (.cells #[.int .u8 kd, .string KT, .string VT, .int .u64 dl] 101)) w.heap.size bv M from HV4.out.alloc _)
          have HE5 := Lib.hid (below_nw HE4.out (.cells #[.int .u8 kd, .string KT, .string VT, .int .u64 dl] 101))
          go_wp2_with (at_builtin; refine wpList_append_own _ rfl _ _ 98 rfl w.heap.size 101 ib _ 4 48 Tryz.underlying98 hib hzb0 hzb1 hzb2 rfl (by decide) _ M.length (flatU M) rfl HV5.out ⟨w4.heap.size, 0, none⟩ 1 1 (encU (ctU u)) rfl rfl HNB.out (enc_one _) ?c4 ?c5 ?c6 ?_)
          case c4 => unfold maxLen; omega
          case c5 => omega
          case c6 => exact HE5.out.size
          intro bv2 w6 hown6 hgr _
          have HV6 := Lib.hid (show RU w6 w.heap.size bv2 (M ++ [ctU u]) by unfold RU; rw [flatU_snoc, List.length_append]; exact hown6)
          have HA6 := Lib.hid (show RA w6 w.heap.size av2 (M ++ [ctU u]) from owns_same HA5.out fun k e => hgr.block k (HA5.out.lt k e).2 (fun e2 => ra_ru HA5.out HV5.out k e e2.symm))
          have HE6 := Lib.hid (HE5.out.grown hgr HE5.out.size (fun q hq => (HV5.out.lt q hq).1))
          clear hown6 hgr y0 y1 y2 y3
          go_wp2_with fail
          go_roundw
          case rel => exact ⟨k + 1, _, _, by omega, rfl, rfl, by go_num, by rw [HOF.out]; exact ⟨HA6.out, HV6.out, HE6.out⟩⟩
          case measure => simp [intOf]; omega
      · obtain rfl : k = m := by omega
        have hki : ¬ (k : Int) < (k : Int) := by omega
        have htk : ofL (l.take k) = ofL l := by
          unfold ofL
          rw [List.take_take]
          congr 1
          rw [List.take_eq_take_iff]
          have := HM.out; have := HN.out; omega
        rw [htk] at hox
        have HOX := Lib.hid hox
        have hl5 : (ofL l).length ≤ 5 := by rw [ofL_length]; omega
        obtain ⟨m, hm⟩ : ∃ m, m = ofL l := ⟨_, rfl⟩
        rw [← hm] at HOX HWF hl5
        have HMM := Lib.hid hm
        clear hox htk hm
        go_wp2_with fail
        refine (reftext_any (UR.of_own HOX.out.ru) (by omega) HWF.out).mono ?_
        rintro e w2 ⟨rfl, hb⟩
        have HB := Lib.hid hb
        obtain ⟨ta, tc, rfl⟩ := (UR.of_own HOX.out.ra).slice
        have HTL := Lib.hid (show (Lend.strOf (txT m)).size = (txT m).length from ssize _)
        obtain ⟨T, hT⟩ : ∃ T, T = Lend.strOf (txT m) := ⟨_, rfl⟩
        rw [← hT] at HTL ⊢
        have hTs : T.size ≤ 1000 := by rw [HTL.out]; have := txT_le m; omega
        clear hb hT
        by_cases h0 : m.length = 0
        · obtain rfl : m = [] := List.eq_nil_of_length_eq_zero h0
          go_wp2_with fail
          refine bodyPost_ret (v := .tuple #[.slice none 0 0, .int .i64 0, .int .i64 2]) (by simp [results, Tryz.results17, go_sem]) rfl ?_
          rw [← HMM.out]
          exact ⟨.slice none 0 0, rfl, World.ownsRow_nil _ _ _ _, below_on HOX.out.bel HB.out⟩
        · have HNE := Lib.hid (show ¬ m = [] from fun e => h0 (by rw [e]; rfl))
          have hm0 : ¬ ((m.length : Nat) : Int) = 0 := by omega
          go_wp2_with fail
          refine bodyPost_ret (v := .tuple #[.slice ta m.length tc, .int .i64 (T.size : Nat), .int .i64 (errL m)]) (by simp [results, Tryz.results17, go_sem]) rfl ?_
          rw [← HMM.out]
          exact ⟨_, by unfold lenP errP; rw [if_neg HNE.out, if_neg HNE.out, HTL.out], own_bel HOX.out.ra HB.out, below_on HOX.out.bel HB.out⟩
end Go.Proofs.YtflanjcfkdjpjaaGreatDoor.Wal

