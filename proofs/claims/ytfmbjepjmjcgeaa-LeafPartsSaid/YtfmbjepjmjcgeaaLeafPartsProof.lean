/-
  The law LeafParts holds: a leaf's parts have all its entries, in order, at most so many each, no two differ by more than one, none ahead has less than one behind; there are as few as can be. Conditions: none but the row's own.
-/
import Derived.Test.YtfmbjepjmjcgeaaRows
import Derived.Test.YtfmbjepjmjcgeaaLeK
import Derived.Test.YtfmbjepjmjcgeaaRegionG
import Derived.WalkKit
import Derived.ProofKit
import Derived.OpenShut
import Derived.ShutString
import Derived.ChangeOld
import Derived.Below
namespace Go.Proofs.Ytfmbjepjmjcgeaa.leafParts
open Go.ChangeShapes Go.WideShapes Go.ChangeAt Go.RowKit
open Go.ChangeMaps (open_string shut_string)
set_option linter.unusedVariables false      -- a walk need not use every 'w<i>' (that an integer argument fits its kind)

theorem own : ownKnob Try.prog.godebug = none := by kernel_rfl

set_option linter.unusedSimpArgs false
open Go.Proofs.Ytfmbjepjmjcgeaa.Leaf Go.Proofs.Ytfmbjepjmjcgeaa.Buf Go.Proofs.Ytfmbjepjmjcgeaa.Msg Go.Proofs.Ytfmbjepjmjcgeaa.Rec
theorem i64_bd {x : Int} (h : (Lit.int .i64 x).wf = true) : -9223372036854775808 ≤ x ∧ x ≤ 9223372036854775807 := by
  simp only [Lit.wf, Bool.and_eq_true, decide_eq_true_eq, show IntKind.i64.min = -9223372036854775808 from rfl, show IntKind.i64.max = 9223372036854775807 from rfl] at h
  omega
/-- the law's own leaf -/
structure Lk (w0 : World) (G : Nat) (fv : Value) (k : Nat) (w : World) : Prop where
  b : Has w G 25 [fv]
  ea : EA w (G + 1) fv (kL k)
  bel : Below w0.heap.size w0 w
theorem Lk.on {w0 w w' : World} {G : Nat} {fv : Value} {k : Nat} (h : Lk w0 G fv k w) (hb : Below w.heap.size w w') : Lk w0 G fv k w' := ⟨h.b.below hb h.b.lt, own_bel h.ea hb, below_on h.bel hb⟩
theorem Lk.set {w0 w : World} {G : Nat} {fv cv : Value} {k k' : Nat} (h : Lk w0 G fv k w) (hG : w0.heap.size ≤ G) (hc : EA w (G + 1) cv (kL k')) : Lk w0 G cv k' (w.setCell ⟨G, 0, none⟩ cv) :=
  ⟨h.b.set 0 cv, own_far hc (Nat.lt_succ_self _) _, h.bel.setCell hG _⟩

/-! ### STEP 1: THE WALK: the Go text returns true. 'Grown w w'': the world has at most new blocks (Derived/RowKit3.lean). Part the cases AHEAD of 'go_enter' where a test parts the walk; take each callee by a contract of your own. -/
set_option maxHeartbeats 8000000 in
set_option maxRecDepth 100000 in
theorem walk (a0 : Int) (a1 : Int) (w0 : (Lit.int .u8 a0).wf = true) (w1 : (Lit.int .i64 a1).wf = true) (w : World) :
    Calls Try.prog 5 #[.int .u8 a0, .int .i64 a1] w fun e w' => e = .returned (.bool true) ∧ Below w.heap.size w w' := by
  obtain ⟨hn0, hn1⟩ := u8_bd w0
  obtain ⟨hm0, hm1⟩ := i64_bd w1
  clear w0 w1
  obtain ⟨N, hN⟩ : ∃ N : Nat, a0 % 70 = (N : Int) := ⟨(a0 % 70).toNat, by omega⟩
  have hNb : N < 70 := by omega
  have hw8 : IntKind.u8.wrap (N : Int) = N := by rw [IntKind.wrap_u8]; omega
  have hw64 : IntKind.i64.wrap (N : Int) = N := by rw [IntKind.wrap_i64]; omega
  have htm : a0.tmod 70 = (N : Int) := by rw [Int.tmod_eq_emod_of_nonneg hn0]; exact hN
  obtain ⟨w1, hw1⟩ : ∃ x, x = w.alloc (.cells #[.slice none 0 0] 25) := ⟨_, rfl⟩
  obtain ⟨G, hG⟩ : ∃ G, G = w.heap.size := ⟨_, rfl⟩
  have HG := Lib.hid hG
  have HP1 := Lib.hid (show Lk w G (.slice none 0 0) 0 w1 from ⟨by rw [hw1, hG]; exact Has.new w [.slice none 0 0] _, World.ownsRow_nil _ _ _ _, by rw [hw1]; exact below_new w _⟩)
  clear hn0 hn1
  go_enter Try.func5, Try.ntmps5
  go_upto_region 2 with fail
  rw [← hw1, ← hG]
  clear hw1 hG
  go_wp2_with fail
  go_loopw [19] (fun i wr => ∃ (k : Nat) (fv : Value), k ≤ N ∧ i = .int .i64 k ∧ Lk w G fv k wr) (fun i _ => N - (intOf i).toNat)
  case atStart => exact ⟨0, _, Nat.zero_le _, rfl, HP1.out⟩
  case round =>
    obtain ⟨k, fv, hk, rfl, hlk⟩ := hrel
    rename World => wr
    have HP := Lib.hid hlk
    obtain ⟨fa, fc, hfv, _⟩ := own_shape hlk.ea
    rw [kL_len] at hfv
    subst hfv
    clear hlk
    by_cases hlt : k < N
    · have hki : (k : Int) < (N : Int) := by omega
      have hwk : IntKind.i64.wrap ((k : Int) + 1) = (k : Int) + 1 := by rw [IntKind.wrap_i64]; omega
      have hwk8 : IntKind.u8.wrap ((k : Int) + 1) = (k : Int) + 1 := by rw [IntKind.wrap_u8]; omega
      have z0 : wr.cell? ⟨G, 0, none⟩ = some (.slice fa k fc) := HP.out.b.cell 0
      obtain ⟨w2, hw2⟩ : ∃ z, z = wr.alloc (.cells #[.int .u8 ((k : Int) + 1)] 5) := ⟨_, rfl⟩
      have hh2 : Has w2 wr.heap.size 5 [.int .u8 ((k : Int) + 1)] := by rw [hw2]; exact Has.new wr [.int .u8 ((k : Int) + 1)] _
      have hcv := conv_has (w := w2) (g := wr.heap.size) (n := k + 1) (by omega) (by rw [show ((k + 1 : Nat) : Int) = (k : Int) + 1 by omega]; exact hh2)
      obtain ⟨KS, hKS⟩ : ∃ z, z = Lend.strOf [UInt8.ofNat (k + 1)] := ⟨_, rfl⟩
      rw [← hKS] at hcv
      rw [hw2] at hcv
      obtain ⟨w3, hw3⟩ : ∃ z, z = w2.alloc (.cells #[.int .u8 1, .string KS, .string ⟨#[118]⟩, .int .u64 0] 34) := ⟨_, rfl⟩
      have hs2 : w2.heap.size = wr.heap.size + 1 := by rw [hw2]; simp
      have hx3 : Has w3 (wr.heap.size + 1) 34 (flatU [⟨1, [UInt8.ofNat (k + 1)], [118], 0⟩]) := by
        rw [hw3, ← hs2, hKS]
        exact Has.new w2 (flatU [⟨1, [UInt8.ofNat (k + 1)], [118], 0⟩]) _
      have hb2 : Below wr.heap.size wr w2 := by rw [hw2]; exact below_new _ _
      have hb3 : Below w2.heap.size w2 w3 := by rw [hw3]; exact below_new _ _
      have HP3 := Lib.hid ((HP.out.on hb2).on hb3)
      have hon := leafon_any (w := w3) (m := 70) (ER.of_own HP3.out.ea) (by have h := kL_ge (k := k) (by omega); exact ⟨h.srt, h.ok, by have := h.len; omega⟩) (by omega) (ur_has (c := 1) hx3) (fun u hu => by
        rw [List.mem_singleton] at hu
        subst hu
        exact wf_one (.inl rfl) rfl) (by simp)
      rw [kL_on (by omega)] at hon
      simp only [List.length_cons, List.length_nil] at hon
      have HON := Lib.hid hon
      rw [hw2] at hw3
      clear hh2 hKS hs2 hx3 hb2 hb3 hon hw2
      go_wp2_with fail
      rw [← hw3]
      clear hw3
      refine HON.out.mono ?_
      clear HON z0 hcv
      rintro e w4 ⟨cv, rfl, hcv, hb4⟩
      have HP4 := Lib.hid (HP3.out.on hb4)
      have HC4 := Lib.hid (own_base hcv (show G + 1 ≤ w3.heap.size from HP3.out.b.lt))
      have z4 : w4.cell? ⟨G, 0, none⟩ = some (.slice fa k fc) := HP4.out.b.cell 0
      have f4 := HP4.out.b.frozen 0
      obtain ⟨ca, cc, hcs, _⟩ := own_shape hcv
      subst hcs
      clear hb4 hcv
      go_wp2_with fail
      go_roundw
      case rel => exact ⟨k + 1, _, by omega, by go_num, HP4.out.set (Nat.le_of_eq HG.out.symm) HC4.out⟩
      case measure => simp [intOf]; omega
    · obtain rfl : k = N := by omega
      have hki : ¬ ((k : Int) < (k : Int)) := by omega
      obtain ⟨m2, hm2⟩ : ∃ m2, m2 = 1 + (max 0 a1) % 20 := ⟨_, rfl⟩
      have hm2b : 1 ≤ m2 ∧ m2 ≤ 20 := by omega
      have htm2 : (max 0 a1).tmod 20 = m2 - 1 := by rw [Int.tmod_eq_emod_of_nonneg (by omega)]; omega
      have hwm : IntKind.i64.wrap (m2 - 1) = m2 - 1 := by rw [IntKind.wrap_i64]; omega
      have hwm2 : IntKind.i64.wrap (1 + (m2 - 1)) = m2 := by rw [IntKind.wrap_i64]; omega
      have hemod : max 0 a1 % 20 = m2 - 1 := by omega
      obtain ⟨w2, hw2⟩ : ∃ z, z = wr.alloc (.cells #[.int .i64 a1, .int .i64 m2] 3) := ⟨_, rfl⟩
      have hb2 : Below wr.heap.size wr w2 := by rw [hw2]; exact below_new _ _
      have HMS := Lib.hid (show Has w2 wr.heap.size 3 [.int .i64 a1, .int .i64 m2] by rw [hw2]; exact Has.new wr [.int .i64 a1, .int .i64 m2] _)
      have HP2 := Lib.hid (HP.out.on hb2)
      have HMB := Lib.hid hm2b
      clear hm2 hb2 hm2b
      go_wp2_with fail
      rw [← hw2]
      clear hw2 hwm hwm2 htm2 hemod
      go_loopw [39] (fun i ws => ∃ j : Nat, j ≤ 2 ∧ i = .int .i64 j ∧ Below w2.heap.size w2 ws) (fun i _ => 2 - (intOf i).toNat)
      case atStart => exact ⟨0, by omega, rfl, Below.refl _ _⟩
      case round =>
        obtain ⟨j, hj, rfl, hb⟩ := hrel
        rename World => ws
        have HB := Lib.hid hb
        clear hb
        by_cases hlt2 : j < 2
        · have hji : (j : Int) < 2 := by omega
          obtain ⟨mv, hmc, hmb0, hmb1⟩ : ∃ mv : Int, ws.cell? ⟨wr.heap.size, j, none⟩ = some (.int .i64 mv) ∧ -9223372036854775808 ≤ mv ∧ mv ≤ 9223372036854775807 := by
            have h := HMS.out.below HB.out HMS.out.lt
            rw [h.cell]
            have hbm := HMB.out
            have : j = 0 ∨ j = 1 := by omega
            rcases this with rfl | rfl
            · exact ⟨a1, rfl, hm0, hm1⟩
            · exact ⟨m2, rfl, by omega, by omega⟩
          obtain ⟨W, hW, hW0, hW63, hWt⟩ := max_cases mv hmb0 hmb1
          have hWs : max mv 1 = (W : Int) := by omega
          have HPs := Lib.hid (HP2.out.on HB.out)
          have z0 : ws.cell? ⟨G, 0, none⟩ = some (.slice fa k fc) := HPs.out.b.cell 0
          have hpa := parts_any (w := ws) mv HPs.out.ea (by rw [kL_len]; omega) hmb0 hmb1
          rw [hWt] at hpa
          go_wp2_with fail
          refine hpa.mono ?_
          clear hpa z0 hmc hmb0 hmb1 hWt
          rintro e w3 ⟨pv, rfl, hpr, hb3⟩
          obtain ⟨g, pc, rfl, hcp, hpq⟩ := pr_at hpr
          have HQ3 := Lib.hid hpq
          have hcpos := cntP_pos (kL k).length W
          have hcle := cntP_le (kL k).length W
          have hlnW := fun i => ln_le (n := (kL k).length) (k := i) hW0
          have hlast := stP_last (kL k).length (cntP (kL k).length W) hcpos
          have HST := Lib.hid (fun i (h : i < cntP (kL k).length W) => (⟨stP_succ (kL k).length (cntP (kL k).length W) i, stP_le (kL k).length (cntP (kL k).length W) (i + 1) hcpos h⟩ : stP (kL k).length (cntP (kL k).length W) (i + 1) = stP (kL k).length (cntP (kL k).length W) i + lnP (kL k).length (cntP (kL k).length W) i ∧ stP (kL k).length (cntP (kL k).length W) (i + 1) ≤ (kL k).length))
          have HDN := Lib.hid (fun i => ln_down (kL k).length (cntP (kL k).length W) i)
          have HPT := Lib.hid (fun i jj (h1 : i < cntP (kL k).length W) (h2 : jj < lnP (kL k).length (cntP (kL k).length W) i) => prt_at (L := kL k) h1 h2)
          have HSZ := Lib.hid (stP_zero (kL k).length (cntP (kL k).length W))
          have hce : cntP (kL k).length W = cntP k W := by rw [kL_len]
          obtain ⟨c, hc⟩ : ∃ c, c = cntP (kL k).length W := ⟨_, rfl⟩
          rw [← hc] at hcpos hcle hlnW hlast HST HDN HPT HSZ hce HQ3 hcp ⊢
          have hlk : (kL k).length = k := kL_len k
          rw [hlk] at hcle hlast
          have HLN := Lib.hid hlnW
          have HLA := Lib.hid hlast
          have HCE := Lib.hid hce
          have hB3 := HB.out.trans (hb3.mono HB.out.size)
          have HB3 := Lib.hid hB3
          have HP3 := Lib.hid (HPs.out.on hb3)
          have HLK := Lib.hid hlk
          clear hpr hpq hb3 hc hlnW hlast hce hB3 hlk
          obtain ⟨q, hq, hq0, hq1, hqm⟩ := cnt_div k W (by omega) hW0
          have hwk : IntKind.i64.wrap ((k : Int) - 1) = (k : Int) - 1 := by rw [IntKind.wrap_i64]; omega
          have hwq : IntKind.i64.wrap q = q := by rw [IntKind.wrap_i64]; omega
          have hwq1 : IntKind.i64.wrap (q + 1) = q + 1 := by rw [IntKind.wrap_i64]; omega
          rw [← HCE.out] at hqm
          have hWn : ¬ (W : Int) = 0 := by omega
          clear hq0 hq1
          go_upto_region 12 with fail
          go_cut [76] (fun s wx => s = .bool false ∧ Below w3.heap.size w3 wx)
          case first =>
            go_wp2_with fail
            refine (wakes_any _).mono ?_
            rintro e w4 ⟨rfl, hb4⟩
            have HB4 := Lib.hid hb4
            have HP4 := Lib.hid (HP3.out.on hb4)
            have z0 : w4.cell? ⟨G, 0, none⟩ = some (.slice fa k fc) := HP4.out.b.cell 0
            have hln := elen_any (ER.of_own HP4.out.ea)
            rw [HLK.out] at hln
            clear hb4
            go_wp2_with fail
            refine hln.mono ?_
            clear hln z0
            rintro e w5 ⟨rfl, hb5⟩
            have HB5 := Lib.hid (below_on HB4.out hb5)
            have HP5 := Lib.hid (HP4.out.on hb5)
            have z0 : w5.cell? ⟨G, 0, none⟩ = some (.slice fa k fc) := HP5.out.b.cell 0
            have hln := elen_any (ER.of_own HP5.out.ea)
            rw [HLK.out] at hln
            clear hb5
            by_cases hk0 : k = 0
            · have hc1 : c = 1 := by rw [HCE.out, hk0]; rfl
              have HC1 := Lib.hid (show (c : Int) = 1 by omega)
              have hki0 : ((k : Int) == 0) = true := by simpa using hk0
              have hki2 : decide ((k : Int) = 0) = true := by simpa using hk0
              clear hk0 hc1
              go_wp2_with fail
              refine hln.mono ?_
              clear hln z0
              rintro e w6 ⟨rfl, hb6⟩
              have HB6 := Lib.hid (below_on HB5.out hb6)
              clear hb6
              go_wp2_with fail
              go_meet
              exact ⟨by rw [HC1.out]; rfl, HB6.out⟩
            · have hki0 : ¬ (k : Int) = 0 := by omega
              go_wp2_with fail
              refine hln.mono ?_
              clear hln z0
              rintro e w6 ⟨rfl, hb6⟩
              have HB6 := Lib.hid (below_on HB5.out hb6)
              clear hb6
              go_wp2_with fail
              go_meet
              exact ⟨rfl, HB6.out⟩
          case rest =>
            obtain ⟨rfl, hbx⟩ := hcut
            rename World => wx
            have HX0 := Lib.hid (HB3.out.trans (hbx.mono HB3.out.size))
            have HPX := Lib.hid (HP3.out.on hbx)
            have HQX := Lib.hid (HQ3.out.on hbx)
            clear hbx hq hqm hwk hwq hwq1 hWn HB3 HP3 HQ3
            go_wp2_with fail
            go_loopw [11, 79] (fun at_ i wt => ∃ k3 : Nat, k3 ≤ c ∧ i = .int .i64 k3 ∧ at_ = .int .i64 (stP (kL k).length c k3 : Nat) ∧ Below wx.heap.size wx wt) (fun _ i _ => c - (intOf i).toNat)
            case atStart => exact ⟨0, Nat.zero_le _, rfl, by rw [HSZ.out]; rfl, Below.refl _ _⟩
            case round =>
              obtain ⟨i, hic, rfl, rfl, hbt⟩ := hrel
              rename World => wt
              have HBT := Lib.hid hbt
              clear hbt
              by_cases hlt3 : i < c
              · have hii : (i : Int) < (c : Int) := by omega
                have hii0 : 0 ≤ (i : Int) := by omega
                have HQT := Lib.hid (HQX.out.on HBT.out)
                have HPT' := Lib.hid (HPX.out.on HBT.out)
                obtain ⟨xa, xc, hxc, hxe⟩ := HQT.out i hlt3
                obtain ⟨ln, hln⟩ : ∃ z, z = lnP (kL k).length c i := ⟨_, rfl⟩
                obtain ⟨s0, hs0⟩ : ∃ z, z = stP (kL k).length c i := ⟨_, rfl⟩
                have HST3 := Lib.hid (HST.out i hlt3)
                have HLW := Lib.hid (HLN.out i)
                have HEL := Lib.hid (fun jj h => HPT.out i jj hlt3 h)
                rw [← hln] at hxc hxe HLW
                rw [← hln, ← hs0] at HST3 HEL
                rw [← hs0]
                have HLNE := Lib.hid hln
                have HXE := Lib.hid hxe
                have HXC := Lib.hid hxc
                clear hln hs0 hxe
                obtain ⟨wu, hwu⟩ : ∃ z, z = wt.alloc (.cells #[.slice xa ln xc] 25) := ⟨_, rfl⟩
                have hbu : Below wt.heap.size wt wu := by rw [hwu]; exact below_new _ _
                have HXB := Lib.hid (show Has wu wt.heap.size 25 [.slice xa ln xc] by rw [hwu]; exact Has.new wt _ _)
                have HBU := Lib.hid (below_on HBT.out hbu)
                have HPU := Lib.hid (HPT'.out.on hbu)
                have HQU := Lib.hid (HQT.out.on hbu)
                have HXU := Lib.hid (HXE.out.below hbu)
                clear hbu
                go_upto_region 18 with fail
                rw [← hwu]
                clear hwu hxc
                go_cut [112] (fun s wx2 => s = .bool false ∧ Below wu.heap.size wu wx2)
                case first =>
                  have HXL := Lib.hid (show (prtP (kL k) c i).length = ln by rw [HLNE.out]; exact prtP_len _ _ _ hlt3)
                  by_cases hi0 : i = 0
                  · have hi0' : ¬ 0 < i := by omega
                    have hin : ¬ (0 : Int) < (i : Int) := by omega
                    clear hi0
                    refine Reg.region_valsG (by kernel_rfl) [(84, .agg #[.slice xa ln xc]), (85, .int .i64 (ln : Nat)), (86, .int .i64 (W : Nat)), (87, .bool false), (88, .bool false), (89, .int .i64 (i : Nat)), (90, .bool false), (91, .bool false), (92, undef), (93, undef), (94, undef), (95, undef), (96, undef), (97, undef), (98, undef), (99, undef), (100, undef), (101, undef), (102, undef), (103, undef), (104, undef), (105, undef), (106, undef), (107, undef), (108, undef), (109, undef), (110, undef), (111, .bool false), (112, .bool false)] (fun l wy => Below wu.heap.size wu wy) (by kernel_rfl) (by kernel_rfl) [8, 9, 10, 11, 12, 13, 14, 15, 16, 17, 18, 19, 20, 21, 22, 23, 24, 25, 26] (by kernel_rfl) ((Below.refl _ _).drew) ⟨?_, ?_, ?_, ?_, ?_, ?_, ?_, ?_, ?_, ?_, ?_, ?_, ?_, ?_, ?_, ?_, ?_, ?_, ?_, ?_, ?_, ?_, ?_, ?_, ?_, ?_, ?_, ?_, ?_, trivial⟩ ?hend
                    · -- 0: 84 := Op.load 25 t13
                      intro aq wq lq hI hl hdone hlater hold hd ho
                      have h13 : aq.tmps.getD 13 undef = .pointer (some ⟨wt.heap.size, 0, none⟩) := ho 13 (by kernel_rfl)
                      clear hd ho hdone hlater hold
                      rw [Array.getD_eq_getD_getElem?] at h13
                      have e0 : wq.cell? ⟨wt.heap.size, 0, none⟩ = some (.slice xa ln xc) := keep1 (HXB.out.cell 0) hI
                      refine Reg.step2_val (.agg #[.slice xa ln xc]) ?_ rfl hI trivial
                      go_simp
                    · -- 1: 85 := Op.call ( value (Operand.func 19), args := #(t84), argTypes 
                      intro aq wq lq hI hl hdone hlater hold hd ho
                      have h84 : aq.tmps.getD 84 undef = .agg #[.slice xa ln xc] := hd 84 (by kernel_rfl)
                      clear hd ho hdone hlater hold
                      rw [Array.getD_eq_getD_getElem?] at h84
                      have hla := elen_any (HXU.out.below hI)
                      rw [HXL.out] at hla
                      refine Reg.step2_call 19 #[.agg #[.slice xa ln xc]] ?_ ((hla).mono ?_)
                      · clear hI
                        simp [execOp]
                        go_simp
                      · rintro e w' ⟨rfl, hb⟩
                        exact ⟨_, rfl, rfl, below_on hI hb, trivial⟩
                    · -- 2: 86 := Op.move t10
                      intro aq wq lq hI hl hdone hlater hold hd ho
                      have h10 : aq.tmps.getD 10 undef = .int .i64 (W : Nat) := ho 10 (by kernel_rfl)
                      clear hd ho hdone hlater hold
                      exact Reg.step2_move (.tmp 10) rfl h10 hI trivial
                    · -- 3: 87 := Op.binOp BinOp.gtr 3 t85 t86 3
                      intro aq wq lq hI hl hdone hlater hold hd ho
                      have h85 : aq.tmps.getD 85 undef = .int .i64 (ln : Nat) := hd 85 (by kernel_rfl)
                      have h86 : aq.tmps.getD 86 undef = .int .i64 (W : Nat) := hd 86 (by kernel_rfl)
                      clear hd ho hdone hlater hold
                      rw [Array.getD_eq_getD_getElem?] at h85 h86
                      have hcmp := HLW.out
                      refine Reg.step2_val (.bool false) ?_ rfl hI trivial
                      simp [execOp, Act.eval, h85, h86]
                      try go_simp
                      try omega
                    · -- 4: 88 := Op.move t87
                      intro aq wq lq hI hl hdone hlater hold hd ho
                      have h87 : aq.tmps.getD 87 undef = .bool false := hd 87 (by kernel_rfl)
                      clear hd ho hdone hlater hold
                      exact Reg.step2_move (.tmp 87) rfl h87 hI trivial
                    · -- 5: 89 := Op.move t12
                      intro aq wq lq hI hl hdone hlater hold hd ho
                      have h12 : aq.tmps.getD 12 undef = .int .i64 (i : Nat) := ho 12 (by kernel_rfl)
                      clear hd ho hdone hlater hold
                      exact Reg.step2_move (.tmp 12) rfl h12 hI trivial
                    · -- 6: 90 := Op.binOp BinOp.gtr 3 t89 (const (0:i64)) 3
                      intro aq wq lq hI hl hdone hlater hold hd ho
                      have h89 : aq.tmps.getD 89 undef = .int .i64 (i : Nat) := hd 89 (by kernel_rfl)
                      clear hd ho hdone hlater hold
                      rw [Array.getD_eq_getD_getElem?] at h89
                      refine Reg.step2_val (.bool false) ?_ rfl hI trivial
                      simp [execOp, Act.eval, h89]
                      try go_simp
                    · -- 7: 91 := Op.move t90
                      intro aq wq lq hI hl hdone hlater hold hd ho
                      have h90 : aq.tmps.getD 90 undef = .bool false := hd 90 (by kernel_rfl)
                      clear hd ho hdone hlater hold
                      exact Reg.step2_move (.tmp 90) rfl h90 hI trivial
                    · -- 8: 92 := Op.load 25 t13
                      intro aq wq lq hI hl hdone hlater hold hd ho
                      exact Reg.stepG_skip rfl hI trivial
                    · -- 9: 93 := Op.call ( value (Operand.func 19), args := #(t92), argTypes 
                      intro aq wq lq hI hl hdone hlater hold hd ho
                      exact Reg.stepG_skip rfl hI trivial
                    · -- 10: 94 := Op.move t9
                      intro aq wq lq hI hl hdone hlater hold hd ho
                      exact Reg.stepG_skip rfl hI trivial
                    · -- 11: 95 := Op.move t12
                      intro aq wq lq hI hl hdone hlater hold hd ho
                      exact Reg.stepG_skip rfl hI trivial
                    · -- 12: 96 := Op.binOp BinOp.sub 3 t95 (const (1:i64)) 3
                      intro aq wq lq hI hl hdone hlater hold hd ho
                      exact Reg.stepG_skip rfl hI trivial
                    · -- 13: 97 := Op.indexAddr 65 t94 t96
                      intro aq wq lq hI hl hdone hlater hold hd ho
                      exact Reg.stepG_skip rfl hI trivial
                    · -- 14: 98 := Op.load 25 t97
                      intro aq wq lq hI hl hdone hlater hold hd ho
                      exact Reg.stepG_skip rfl hI trivial
                    · -- 15: 99 := Op.call ( value (Operand.func 19), args := #(t98), argTypes 
                      intro aq wq lq hI hl hdone hlater hold hd ho
                      exact Reg.stepG_skip rfl hI trivial
                    · -- 16: 100 := Op.binOp BinOp.gtr 3 t93 t99 3
                      intro aq wq lq hI hl hdone hlater hold hd ho
                      exact Reg.stepG_skip rfl hI trivial
                    · -- 17: 101 := Op.move t100
                      intro aq wq lq hI hl hdone hlater hold hd ho
                      exact Reg.stepG_skip rfl hI trivial
                    · -- 18: 102 := Op.move t9
                      intro aq wq lq hI hl hdone hlater hold hd ho
                      exact Reg.stepG_skip rfl hI trivial
                    · -- 19: 103 := Op.indexAddr 65 t102 (const (0:i64))
                      intro aq wq lq hI hl hdone hlater hold hd ho
                      exact Reg.stepG_skip rfl hI trivial
                    · -- 20: 104 := Op.load 25 t103
                      intro aq wq lq hI hl hdone hlater hold hd ho
                      exact Reg.stepG_skip rfl hI trivial
                    · -- 21: 105 := Op.call ( value (Operand.func 19), args := #(t104), argTypes
                      intro aq wq lq hI hl hdone hlater hold hd ho
                      exact Reg.stepG_skip rfl hI trivial
                    · -- 22: 106 := Op.load 25 t13
                      intro aq wq lq hI hl hdone hlater hold hd ho
                      exact Reg.stepG_skip rfl hI trivial
                    · -- 23: 107 := Op.call ( value (Operand.func 19), args := #(t106), argTypes
                      intro aq wq lq hI hl hdone hlater hold hd ho
                      exact Reg.stepG_skip rfl hI trivial
                    · -- 24: 108 := Op.binOp BinOp.sub 3 t105 t107 3
                      intro aq wq lq hI hl hdone hlater hold hd ho
                      exact Reg.stepG_skip rfl hI trivial
                    · -- 25: 109 := Op.binOp BinOp.gtr 3 t108 (const (1:i64)) 3
                      intro aq wq lq hI hl hdone hlater hold hd ho
                      exact Reg.stepG_skip rfl hI trivial
                    · -- 26: 110 := Op.pick t101 (const (Value.bool true)) t109
                      intro aq wq lq hI hl hdone hlater hold hd ho
                      exact Reg.stepG_skip rfl hI trivial
                    · -- 27: 111 := Op.pick t91 t110 (const (Value.bool false))
                      intro aq wq lq hI hl hdone hlater hold hd ho
                      have h91 : aq.tmps.getD 91 undef = .bool false := hd 91 (by kernel_rfl)
                      have h110 : aq.tmps.getD 110 undef = undef := hd 110 (by kernel_rfl)
                      clear hd ho hdone hlater hold
                      rw [Array.getD_eq_getD_getElem?] at h91 h110
                      refine Reg.step2_val (.bool false) ?_ rfl hI trivial
                      simp [execOp, Act.eval, h91, h110]
                      try go_simp
                    · -- 28: 112 := Op.pick t88 (const (Value.bool true)) t111
                      intro aq wq lq hI hl hdone hlater hold hd ho
                      have h88 : aq.tmps.getD 88 undef = .bool false := hd 88 (by kernel_rfl)
                      have h111 : aq.tmps.getD 111 undef = .bool false := hd 111 (by kernel_rfl)
                      clear hd ho hdone hlater hold
                      rw [Array.getD_eq_getD_getElem?] at h88 h111
                      refine Reg.step2_val (.bool false) ?_ rfl hI trivial
                      simp [execOp, Act.eval, h88, h111]
                      try go_simp
                    case hend =>
                      intro wy hI
                      have HBY := Lib.hid (show Below wu.heap.size wu wy from hI)
                      clear hI
                      simp only [Reg.fill, List.map_cons, List.map_nil, List.foldl_cons, List.foldl_nil, List.setIfInBounds_toArray, List.set_cons_zero, List.set_cons_succ]
                      go_wp2_with fail
                      go_meet
                      exact ⟨rfl, HBY.out⟩
                  · have hi0' : 0 < i := by omega
                    have hin : (0 : Int) < (i : Int) := by omega
                    obtain ⟨ip, hip⟩ : ∃ ip, i = ip + 1 := ⟨i - 1, by omega⟩
                    obtain ⟨ya, yc, hy0, hyu⟩ := HQU.out ip (by omega)
                    obtain ⟨za, zc, hz0, hzu⟩ := HQU.out 0 (by omega)
                    have hyl := prtP_len (kL k) c ip (by omega)
                    have hzl := prtP_len (kL k) c 0 (by omega)
                    have hd1 := (ln_down (kL k).length c ip).1
                    have hd2 := (ln_down (kL k).length c i).2
                    have hd3 := ln_first (kL k).length c i
                    rw [← hip, ← HLNE.out] at hd1
                    rw [← HLNE.out] at hd2 hd3
                    obtain ⟨yl, hyl2⟩ : ∃ z, z = lnP (kL k).length c ip := ⟨_, rfl⟩
                    obtain ⟨zl, hzl2⟩ : ∃ z, z = lnP (kL k).length c 0 := ⟨_, rfl⟩
                    rw [← hyl2] at hy0 hyu hyl hd1
                    rw [← hzl2] at hz0 hzu hzl hd2 hd3
                    have hzk : zl ≤ 1000000 := by
                      have h1 := stP_succ (kL k).length c 0
                      have h2 := stP_le (kL k).length c 1 (by omega) (by omega)
                      have h3 := HLK.out
                      rw [← hzl2] at h1
                      simp only [Nat.zero_add] at h1
                      omega
                    obtain ⟨dz, hdz⟩ : ∃ dz, zl = ln + dz := ⟨zl - ln, by omega⟩
                    have HY0 := Lib.hid hy0
                    have HZ0 := Lib.hid hz0
                    have HYU := Lib.hid hyu
                    have HZU := Lib.hid hzu
                    have HYL := Lib.hid hyl
                    have HZL := Lib.hid hzl
                    have HYX := Lib.hid hd1
                    have HIW := Lib.hid (show IntKind.i64.wrap ((i : Int) - 1) = (ip : Int) by rw [IntKind.wrap_i64]; omega)
                    have HDW := Lib.hid (show IntKind.i64.wrap ((zl : Int) - (ln : Int)) = (dz : Int) by rw [IntKind.wrap_i64]; omega)
                    have HDZ := Lib.hid (show dz ≤ 1 by omega)
                    have hipc : (ip : Int) < (c : Int) := by omega
                    have hipc' : ip < c := by omega
                    have hcp0 : 0 < c := by omega
                    clear hip hy0 hz0 hyu hzu hyl hzl hd1 hd2 hd3 hyl2 hzl2 hdz hzk hi0
                    refine Reg.region_vals (by kernel_rfl) [(84, .agg #[.slice xa ln xc]), (85, .int .i64 (ln : Nat)), (86, .int .i64 (W : Nat)), (87, .bool false), (88, .bool false), (89, .int .i64 (i : Nat)), (90, .bool true), (91, .bool true), (92, .agg #[.slice xa ln xc]), (93, .int .i64 (ln : Nat)), (94, .slice (some ⟨g, 0, none⟩) c pc), (95, .int .i64 (i : Nat)), (96, .int .i64 (ip : Nat)), (97, .pointer (some ⟨g, ip, none⟩)), (98, .agg #[.slice ya yl yc]), (99, .int .i64 (yl : Nat)), (100, .bool false), (101, .bool false), (102, .slice (some ⟨g, 0, none⟩) c pc), (103, .pointer (some ⟨g, 0, none⟩)), (104, .agg #[.slice za zl zc]), (105, .int .i64 (zl : Nat)), (106, .agg #[.slice xa ln xc]), (107, .int .i64 (ln : Nat)), (108, .int .i64 (dz : Nat)), (109, .bool false), (110, .bool false), (111, .bool false), (112, .bool false)] (fun l wy => Below wu.heap.size wu wy) (by kernel_rfl) (by kernel_rfl) (by kernel_rfl) ((Below.refl _ _).drew) ⟨?_, ?_, ?_, ?_, ?_, ?_, ?_, ?_, ?_, ?_, ?_, ?_, ?_, ?_, ?_, ?_, ?_, ?_, ?_, ?_, ?_, ?_, ?_, ?_, ?_, ?_, ?_, ?_, ?_, trivial⟩ ?hend
                    · -- 0: 84 := Op.load 25 t13
                      intro aq wq lq hI hl hdone hlater hold hd ho
                      have h13 : aq.tmps.getD 13 undef = .pointer (some ⟨wt.heap.size, 0, none⟩) := ho 13 (by kernel_rfl)
                      clear hd ho hdone hlater hold
                      rw [Array.getD_eq_getD_getElem?] at h13
                      have e0 : wq.cell? ⟨wt.heap.size, 0, none⟩ = some (.slice xa ln xc) := keep1 (HXB.out.cell 0) hI
                      refine Reg.step2_val (.agg #[.slice xa ln xc]) ?_ rfl hI trivial
                      go_simp
                    · -- 1: 85 := Op.call ( value (Operand.func 19), args := #(t84), argTypes 
                      intro aq wq lq hI hl hdone hlater hold hd ho
                      have h84 : aq.tmps.getD 84 undef = .agg #[.slice xa ln xc] := hd 84 (by kernel_rfl)
                      clear hd ho hdone hlater hold
                      rw [Array.getD_eq_getD_getElem?] at h84
                      have hla := elen_any (HXU.out.below hI)
                      rw [HXL.out] at hla
                      refine Reg.step2_call 19 #[.agg #[.slice xa ln xc]] ?_ ((hla).mono ?_)
                      · clear hI
                        simp [execOp]
                        go_simp
                      · rintro e w' ⟨rfl, hb⟩
                        exact ⟨_, rfl, rfl, below_on hI hb, trivial⟩
                    · -- 2: 86 := Op.move t10
                      intro aq wq lq hI hl hdone hlater hold hd ho
                      have h10 : aq.tmps.getD 10 undef = .int .i64 (W : Nat) := ho 10 (by kernel_rfl)
                      clear hd ho hdone hlater hold
                      exact Reg.step2_move (.tmp 10) rfl h10 hI trivial
                    · -- 3: 87 := Op.binOp BinOp.gtr 3 t85 t86 3
                      intro aq wq lq hI hl hdone hlater hold hd ho
                      have h85 : aq.tmps.getD 85 undef = .int .i64 (ln : Nat) := hd 85 (by kernel_rfl)
                      have h86 : aq.tmps.getD 86 undef = .int .i64 (W : Nat) := hd 86 (by kernel_rfl)
                      clear hd ho hdone hlater hold
                      rw [Array.getD_eq_getD_getElem?] at h85 h86
                      have hcmp := HLW.out
                      refine Reg.step2_val (.bool false) ?_ rfl hI trivial
                      simp [execOp, Act.eval, h85, h86]
                      try go_simp
                      try omega
                    · -- 4: 88 := Op.move t87
                      intro aq wq lq hI hl hdone hlater hold hd ho
                      have h87 : aq.tmps.getD 87 undef = .bool false := hd 87 (by kernel_rfl)
                      clear hd ho hdone hlater hold
                      exact Reg.step2_move (.tmp 87) rfl h87 hI trivial
                    · -- 5: 89 := Op.move t12
                      intro aq wq lq hI hl hdone hlater hold hd ho
                      have h12 : aq.tmps.getD 12 undef = .int .i64 (i : Nat) := ho 12 (by kernel_rfl)
                      clear hd ho hdone hlater hold
                      exact Reg.step2_move (.tmp 12) rfl h12 hI trivial
                    · -- 6: 90 := Op.binOp BinOp.gtr 3 t89 (const (0:i64)) 3
                      intro aq wq lq hI hl hdone hlater hold hd ho
                      have h89 : aq.tmps.getD 89 undef = .int .i64 (i : Nat) := hd 89 (by kernel_rfl)
                      clear hd ho hdone hlater hold
                      rw [Array.getD_eq_getD_getElem?] at h89
                      refine Reg.step2_val (.bool true) ?_ rfl hI trivial
                      simp [execOp, Act.eval, h89]
                      try go_simp
                    · -- 7: 91 := Op.move t90
                      intro aq wq lq hI hl hdone hlater hold hd ho
                      have h90 : aq.tmps.getD 90 undef = .bool true := hd 90 (by kernel_rfl)
                      clear hd ho hdone hlater hold
                      exact Reg.step2_move (.tmp 90) rfl h90 hI trivial
                    · -- 8: 92 := Op.load 25 t13
                      intro aq wq lq hI hl hdone hlater hold hd ho
                      have h13 : aq.tmps.getD 13 undef = .pointer (some ⟨wt.heap.size, 0, none⟩) := ho 13 (by kernel_rfl)
                      clear hd ho hdone hlater hold
                      rw [Array.getD_eq_getD_getElem?] at h13
                      have e0 : wq.cell? ⟨wt.heap.size, 0, none⟩ = some (.slice xa ln xc) := keep1 (HXB.out.cell 0) hI
                      refine Reg.step2_val (.agg #[.slice xa ln xc]) ?_ rfl hI trivial
                      go_simp
                    · -- 9: 93 := Op.call ( value (Operand.func 19), args := #(t92), argTypes 
                      intro aq wq lq hI hl hdone hlater hold hd ho
                      have h92 : aq.tmps.getD 92 undef = .agg #[.slice xa ln xc] := hd 92 (by kernel_rfl)
                      clear hd ho hdone hlater hold
                      rw [Array.getD_eq_getD_getElem?] at h92
                      have hla := elen_any (HXU.out.below hI)
                      rw [HXL.out] at hla
                      refine Reg.step2_call 19 #[.agg #[.slice xa ln xc]] ?_ ((hla).mono ?_)
                      · clear hI
                        simp [execOp]
                        go_simp
                      · rintro e w' ⟨rfl, hb⟩
                        exact ⟨_, rfl, rfl, below_on hI hb, trivial⟩
                    · -- 10: 94 := Op.move t9
                      intro aq wq lq hI hl hdone hlater hold hd ho
                      have h9 : aq.tmps.getD 9 undef = .slice (some ⟨g, 0, none⟩) c pc := ho 9 (by kernel_rfl)
                      clear hd ho hdone hlater hold
                      exact Reg.step2_move (.tmp 9) rfl h9 hI trivial
                    · -- 11: 95 := Op.move t12
                      intro aq wq lq hI hl hdone hlater hold hd ho
                      have h12 : aq.tmps.getD 12 undef = .int .i64 (i : Nat) := ho 12 (by kernel_rfl)
                      clear hd ho hdone hlater hold
                      exact Reg.step2_move (.tmp 12) rfl h12 hI trivial
                    · -- 12: 96 := Op.binOp BinOp.sub 3 t95 (const (1:i64)) 3
                      intro aq wq lq hI hl hdone hlater hold hd ho
                      have h95 : aq.tmps.getD 95 undef = .int .i64 (i : Nat) := hd 95 (by kernel_rfl)
                      clear hd ho hdone hlater hold
                      rw [Array.getD_eq_getD_getElem?] at h95
                      have hw := HIW.out
                      refine Reg.step2_val (.int .i64 (ip : Nat)) ?_ rfl hI trivial
                      simp [execOp, Act.eval, h95]
                      try go_simp
                    · -- 13: 97 := Op.indexAddr 65 t94 t96
                      intro aq wq lq hI hl hdone hlater hold hd ho
                      have h94 : aq.tmps.getD 94 undef = .slice (some ⟨g, 0, none⟩) c pc := hd 94 (by kernel_rfl)
                      have h96 : aq.tmps.getD 96 undef = .int .i64 (ip : Nat) := hd 96 (by kernel_rfl)
                      clear hd ho hdone hlater hold
                      rw [Array.getD_eq_getD_getElem?] at h94 h96
                      refine Reg.step2_val (.pointer (some ⟨g, ip, none⟩)) ?_ rfl hI trivial
                      go_simp
                    · -- 14: 98 := Op.load 25 t97
                      intro aq wq lq hI hl hdone hlater hold hd ho
                      have h97 : aq.tmps.getD 97 undef = .pointer (some ⟨g, ip, none⟩) := hd 97 (by kernel_rfl)
                      clear hd ho hdone hlater hold
                      rw [Array.getD_eq_getD_getElem?] at h97
                      have e0 : wq.cell? ⟨g, ip, none⟩ = some (.slice ya yl yc) := keep1 HY0.out hI
                      refine Reg.step2_val (.agg #[.slice ya yl yc]) ?_ rfl hI trivial
                      go_simp
                    · -- 15: 99 := Op.call ( value (Operand.func 19), args := #(t98), argTypes 
                      intro aq wq lq hI hl hdone hlater hold hd ho
                      have h98 : aq.tmps.getD 98 undef = .agg #[.slice ya yl yc] := hd 98 (by kernel_rfl)
                      clear hd ho hdone hlater hold
                      rw [Array.getD_eq_getD_getElem?] at h98
                      have hla := elen_any (HYU.out.below hI)
                      rw [HYL.out] at hla
                      refine Reg.step2_call 19 #[.agg #[.slice ya yl yc]] ?_ ((hla).mono ?_)
                      · clear hI
                        simp [execOp]
                        go_simp
                      · rintro e w' ⟨rfl, hb⟩
                        exact ⟨_, rfl, rfl, below_on hI hb, trivial⟩
                    · -- 16: 100 := Op.binOp BinOp.gtr 3 t93 t99 3
                      intro aq wq lq hI hl hdone hlater hold hd ho
                      have h93 : aq.tmps.getD 93 undef = .int .i64 (ln : Nat) := hd 93 (by kernel_rfl)
                      have h99 : aq.tmps.getD 99 undef = .int .i64 (yl : Nat) := hd 99 (by kernel_rfl)
                      clear hd ho hdone hlater hold
                      rw [Array.getD_eq_getD_getElem?] at h93 h99
                      have hcmp := HYX.out
                      refine Reg.step2_val (.bool false) ?_ rfl hI trivial
                      simp [execOp, Act.eval, h93, h99]
                      try go_simp
                      try omega
                    · -- 17: 101 := Op.move t100
                      intro aq wq lq hI hl hdone hlater hold hd ho
                      have h100 : aq.tmps.getD 100 undef = .bool false := hd 100 (by kernel_rfl)
                      clear hd ho hdone hlater hold
                      exact Reg.step2_move (.tmp 100) rfl h100 hI trivial
                    · -- 18: 102 := Op.move t9
                      intro aq wq lq hI hl hdone hlater hold hd ho
                      have h9 : aq.tmps.getD 9 undef = .slice (some ⟨g, 0, none⟩) c pc := ho 9 (by kernel_rfl)
                      clear hd ho hdone hlater hold
                      exact Reg.step2_move (.tmp 9) rfl h9 hI trivial
                    · -- 19: 103 := Op.indexAddr 65 t102 (const (0:i64))
                      intro aq wq lq hI hl hdone hlater hold hd ho
                      have h102 : aq.tmps.getD 102 undef = .slice (some ⟨g, 0, none⟩) c pc := hd 102 (by kernel_rfl)
                      clear hd ho hdone hlater hold
                      rw [Array.getD_eq_getD_getElem?] at h102
                      refine Reg.step2_val (.pointer (some ⟨g, 0, none⟩)) ?_ rfl hI trivial
                      go_simp
                    · -- 20: 104 := Op.load 25 t103
                      intro aq wq lq hI hl hdone hlater hold hd ho
                      have h103 : aq.tmps.getD 103 undef = .pointer (some ⟨g, 0, none⟩) := hd 103 (by kernel_rfl)
                      clear hd ho hdone hlater hold
                      rw [Array.getD_eq_getD_getElem?] at h103
                      have e0 : wq.cell? ⟨g, 0, none⟩ = some (.slice za zl zc) := keep1 HZ0.out hI
                      refine Reg.step2_val (.agg #[.slice za zl zc]) ?_ rfl hI trivial
                      go_simp
                    · -- 21: 105 := Op.call ( value (Operand.func 19), args := #(t104), argTypes
                      intro aq wq lq hI hl hdone hlater hold hd ho
                      have h104 : aq.tmps.getD 104 undef = .agg #[.slice za zl zc] := hd 104 (by kernel_rfl)
                      clear hd ho hdone hlater hold
                      rw [Array.getD_eq_getD_getElem?] at h104
                      have hla := elen_any (HZU.out.below hI)
                      rw [HZL.out] at hla
                      refine Reg.step2_call 19 #[.agg #[.slice za zl zc]] ?_ ((hla).mono ?_)
                      · clear hI
                        simp [execOp]
                        go_simp
                      · rintro e w' ⟨rfl, hb⟩
                        exact ⟨_, rfl, rfl, below_on hI hb, trivial⟩
                    · -- 22: 106 := Op.load 25 t13
                      intro aq wq lq hI hl hdone hlater hold hd ho
                      have h13 : aq.tmps.getD 13 undef = .pointer (some ⟨wt.heap.size, 0, none⟩) := ho 13 (by kernel_rfl)
                      clear hd ho hdone hlater hold
                      rw [Array.getD_eq_getD_getElem?] at h13
                      have e0 : wq.cell? ⟨wt.heap.size, 0, none⟩ = some (.slice xa ln xc) := keep1 (HXB.out.cell 0) hI
                      refine Reg.step2_val (.agg #[.slice xa ln xc]) ?_ rfl hI trivial
                      go_simp
                    · -- 23: 107 := Op.call ( value (Operand.func 19), args := #(t106), argTypes
                      intro aq wq lq hI hl hdone hlater hold hd ho
                      have h106 : aq.tmps.getD 106 undef = .agg #[.slice xa ln xc] := hd 106 (by kernel_rfl)
                      clear hd ho hdone hlater hold
                      rw [Array.getD_eq_getD_getElem?] at h106
                      have hla := elen_any (HXU.out.below hI)
                      rw [HXL.out] at hla
                      refine Reg.step2_call 19 #[.agg #[.slice xa ln xc]] ?_ ((hla).mono ?_)
                      · clear hI
                        simp [execOp]
                        go_simp
                      · rintro e w' ⟨rfl, hb⟩
                        exact ⟨_, rfl, rfl, below_on hI hb, trivial⟩
                    · -- 24: 108 := Op.binOp BinOp.sub 3 t105 t107 3
                      intro aq wq lq hI hl hdone hlater hold hd ho
                      have h105 : aq.tmps.getD 105 undef = .int .i64 (zl : Nat) := hd 105 (by kernel_rfl)
                      have h107 : aq.tmps.getD 107 undef = .int .i64 (ln : Nat) := hd 107 (by kernel_rfl)
                      clear hd ho hdone hlater hold
                      rw [Array.getD_eq_getD_getElem?] at h105 h107
                      have hw := HDW.out
                      refine Reg.step2_val (.int .i64 (dz : Nat)) ?_ rfl hI trivial
                      simp [execOp, Act.eval, h105, h107]
                      try go_simp
                    · -- 25: 109 := Op.binOp BinOp.gtr 3 t108 (const (1:i64)) 3
                      intro aq wq lq hI hl hdone hlater hold hd ho
                      have h108 : aq.tmps.getD 108 undef = .int .i64 (dz : Nat) := hd 108 (by kernel_rfl)
                      clear hd ho hdone hlater hold
                      rw [Array.getD_eq_getD_getElem?] at h108
                      have hcmp := HDZ.out
                      refine Reg.step2_val (.bool false) ?_ rfl hI trivial
                      simp [execOp, Act.eval, h108]
                      try go_simp
                      try omega
                    · -- 26: 110 := Op.pick t101 (const (Value.bool true)) t109
                      intro aq wq lq hI hl hdone hlater hold hd ho
                      have h101 : aq.tmps.getD 101 undef = .bool false := hd 101 (by kernel_rfl)
                      have h109 : aq.tmps.getD 109 undef = .bool false := hd 109 (by kernel_rfl)
                      clear hd ho hdone hlater hold
                      rw [Array.getD_eq_getD_getElem?] at h101 h109
                      refine Reg.step2_val (.bool false) ?_ rfl hI trivial
                      simp [execOp, Act.eval, h101, h109]
                      try go_simp
                    · -- 27: 111 := Op.pick t91 t110 (const (Value.bool false))
                      intro aq wq lq hI hl hdone hlater hold hd ho
                      have h91 : aq.tmps.getD 91 undef = .bool true := hd 91 (by kernel_rfl)
                      have h110 : aq.tmps.getD 110 undef = .bool false := hd 110 (by kernel_rfl)
                      clear hd ho hdone hlater hold
                      rw [Array.getD_eq_getD_getElem?] at h91 h110
                      refine Reg.step2_val (.bool false) ?_ rfl hI trivial
                      simp [execOp, Act.eval, h91, h110]
                      try go_simp
                    · -- 28: 112 := Op.pick t88 (const (Value.bool true)) t111
                      intro aq wq lq hI hl hdone hlater hold hd ho
                      have h88 : aq.tmps.getD 88 undef = .bool false := hd 88 (by kernel_rfl)
                      have h111 : aq.tmps.getD 111 undef = .bool false := hd 111 (by kernel_rfl)
                      clear hd ho hdone hlater hold
                      rw [Array.getD_eq_getD_getElem?] at h88 h111
                      refine Reg.step2_val (.bool false) ?_ rfl hI trivial
                      simp [execOp, Act.eval, h88, h111]
                      try go_simp
                    case hend =>
                      intro wy hI
                      have HBY := Lib.hid (show Below wu.heap.size wu wy from hI)
                      clear hI
                      simp only [Reg.fill, List.map_cons, List.map_nil, List.foldl_cons, List.foldl_nil, List.setIfInBounds_toArray, List.set_cons_zero, List.set_cons_succ]
                      go_wp2_with fail
                      go_meet
                      exact ⟨rfl, HBY.out⟩
                case rest =>
                  obtain ⟨rfl, hbx⟩ := hcut
                  rename World => wy
                  have HBY := Lib.hid (below_on HBU.out hbx)
                  have HPY := Lib.hid (HPU.out.on hbx)
                  have HXY := Lib.hid (HXU.out.below hbx)
                  have z0 : wy.cell? ⟨wt.heap.size, 0, none⟩ = some (.slice xa ln xc) := keep1 (HXB.out.cell 0) hbx
                  have HXL := Lib.hid (show (prtP (kL k) c i).length = ln by rw [HLNE.out]; exact prtP_len _ _ _ hlt3)
                  have hlnk : ln ≤ k := by have := HST3.out.2; have := HST3.out.1; have := HLK.out; omega
                  have hli := elist_any HXY.out (by rw [HXL.out]; omega)
                  clear hbx
                  go_wp2_with fail
                  refine hli.mono ?_
                  clear hli z0
                  rintro e w6 ⟨v6, rfl, hv6, hb6⟩
                  have HB6 := Lib.hid (below_on HBY.out hb6)
                  have HP6 := Lib.hid (HPY.out.on hb6)
                  have HV6 := Lib.hid (ER.of_own hv6)
                  obtain ⟨va, vc, hvs, _⟩ := own_shape hv6
                  rw [HXL.out] at hvs
                  subst hvs
                  clear hb6 hv6
                  go_wp2_with fail
                  go_loopw [11, 116] (fun at_ jv wz => ∃ jj : Nat, jj ≤ ln ∧ jv = .int .i64 jj ∧ at_ = .int .i64 ((s0 + jj : Nat) : Int) ∧ Below w6.heap.size w6 wz) (fun _ jv _ => ln - (intOf jv).toNat)
                  case atStart => exact ⟨0, Nat.zero_le _, rfl, rfl, Below.refl _ _⟩
                  case round =>
                    obtain ⟨jj, hjj, rfl, rfl, hbz⟩ := hrel
                    rename World => wz
                    have HBZ := Lib.hid hbz
                    clear hbz
                    by_cases hlt4 : jj < ln
                    · have hjji : (jj : Int) < (ln : Int) := by omega
                      have HPZ := Lib.hid (HP6.out.on HBZ.out)
                      obtain ⟨h1, h2, h3⟩ := HEL.out jj hlt4
                      obtain ⟨g2, o2, hga, c0, c1⟩ := er_cells (HV6.out.below HBZ.out) jj h1
                      subst hga
                      have hli := fun (W' : World) (hW : Below wz.heap.size wz W') => elist_any (w := W') (ER.of_own (own_bel HPZ.out.ea hW)) (by rw [HLK.out]; omega)
                      rw [h3] at c0 c1
                      obtain ⟨x, hx⟩ : ∃ x, x = (kL k)[s0 + jj]'h2 := ⟨_, rfl⟩
                      rw [← hx] at c0 c1
                      have HAT := Lib.hid (show ∀ (W' : World) (v : Value), ER W' v (kL k) → ∃ g3 o3 c', v = .slice (some ⟨g3, o3, none⟩) k c' ∧ W'.cell? ⟨g3, o3 + (s0 + jj) * 2, none⟩ = some (.string (Lend.strOf x.key)) ∧ W'.cell? ⟨g3, o3 + (s0 + jj) * 2 + 1, none⟩ = some (.string (Lend.strOf x.val)) from fun W' v hv => by
                        obtain ⟨a', c', rfl⟩ := hv.slice
                        obtain ⟨g3, o3, hg3, d0, d1⟩ := er_cells hv (s0 + jj) h2
                        subst hg3
                        rw [← hx] at d0 d1
                        exact ⟨g3, o3, c', by rw [HLK.out], d0, d1⟩)
                      have HLT2 := Lib.hid (show s0 + jj < k by have := HLK.out; omega)
                      obtain ⟨K, hK⟩ : ∃ z, z = Lend.strOf x.key := ⟨_, rfl⟩
                      obtain ⟨V, hV⟩ : ∃ z, z = Lend.strOf x.val := ⟨_, rfl⟩
                      rw [← hK] at c0 HAT
                      rw [← hV] at c1 HAT
                      obtain ⟨pp, hpp⟩ : ∃ z, z = s0 + jj := ⟨_, rfl⟩
                      rw [← hpp] at HAT HLT2
                      have HPPE := Lib.hid hpp
                      have hpk : pp < k := HLT2.out
                      have hpi : (pp : Int) < (k : Int) := by omega
                      have hpn : 0 ≤ (pp : Int) := by omega
                      have HLI := Lib.hid hli
                      clear h1 h2 h3 hK hV hli hx
                      obtain ⟨wa, hwa⟩ : ∃ z, z = wz.alloc (.cells #[.string K, .string V] 53) := ⟨_, rfl⟩
                      have hba : Below wz.heap.size wz wa := by rw [hwa]; exact below_new _ _
                      have HXA := Lib.hid (show Has wa wz.heap.size 53 [.string K, .string V] by rw [hwa]; exact Has.new wz _ _)
                      have HBA := Lib.hid hba
                      have HPA := Lib.hid (HPZ.out.on hba)
                      have x0 : wa.drew.cell? ⟨wz.heap.size, 0, none⟩ = some (.string K) := HXA.out.cell 0
                      have x1 : wa.drew.cell? ⟨wz.heap.size, 1, none⟩ = some (.string V) := HXA.out.cell 1
                      have z0 : wa.drew.cell? ⟨G, 0, none⟩ = some (.slice fa k fc) := HPA.out.b.cell 0
                      clear hba
                      rw [← hpp]
                      clear hpp
                      go_upto_region 23 with fail
                      rw [← hwa]
                      clear hwa c0 c1
                      go_cut [126] (fun s wx3 => s = .bool false ∧ Below wz.heap.size wz wx3)
                      case first =>
                        go_region_with (go_at_call 23; refine (HLI.out wa.drew HBA.out.drew).mono ?_; rintro e wb ⟨vb, rfl, hvb, hbb⟩; have HBB := Lib.hid (HBA.out.drew.trans (hbb.mono HBA.out.size)); obtain ⟨g3, o3, c3, rfl, d0, d1⟩ := HAT.out wb vb (ER.of_own hvb); have x0 := keep1 x0 hbb; have x1 := keep1 x1 hbb; clear hvb hbb z0)
                        all_goals
                          go_wp2_with fail
                          go_meet
                          exact ⟨rfl, HBB.out⟩
                      case rest =>
                        obtain ⟨rfl, hbx⟩ := hcut
                        rename World => wv
                        have HBV := Lib.hid (below_on HBZ.out hbx)
                        have hwp : IntKind.i64.wrap ((pp : Int) + 1) = (pp : Int) + 1 := by rw [IntKind.wrap_i64]; omega
                        clear hbx x0 x1 z0
                        go_wp2_with fail
                        go_roundw
                        case rel => exact ⟨jj + 1, by omega, by go_num, by rw [HPPE.out]; go_num, HBV.out⟩
                        case measure => simp [intOf]; omega
                    · obtain rfl : jj = ln := by omega
                      have hjji : ¬ ((jj : Int) < (jj : Int)) := by omega
                      have HBV := Lib.hid (below_on HB6.out HBZ.out)
                      go_wp2_with fail
                      go_roundw
                      case rel => exact ⟨i + 1, by omega, by go_num, by rw [HST3.out.1], HBV.out⟩
                      case measure => simp [intOf]; omega
              · obtain rfl : i = c := by omega
                have hii : ¬ ((i : Int) < (i : Int)) := by omega
                have HPE := Lib.hid (HPX.out.on HBT.out)
                have hlen := elen_any (ER.of_own HPE.out.ea)
                rw [HLK.out] at hlen
                have z0 : wt.cell? ⟨G, 0, none⟩ = some (.slice fa k fc) := HPE.out.b.cell 0
                have HBE := Lib.hid (HX0.out.trans (HBT.out.mono HX0.out.size))
                rw [HLK.out, HLA.out]
                go_wp2_with fail
                refine hlen.mono ?_
                clear hlen z0
                rintro e w6 ⟨rfl, hb6⟩
                have HB6 := Lib.hid (HBE.out.trans (hb6.mono HBE.out.size))
                clear hb6
                go_wp2_with fail
                go_roundw
                case rel => exact ⟨j + 1, by omega, by go_num, HB6.out⟩
                case measure => simp [intOf]; omega
        · obtain rfl : j = 2 := by omega
          have HPE := Lib.hid (HP2.out.on HB.out)
          go_wp2_with fail
          go_ret
          exact ⟨rfl, HPE.out.bel⟩

/-! ### THE ROW's STEP: WRITTEN OUT: LEAVE IT -/
set_option maxRecDepth 100000 in
theorem lifted (os : Os) (started : os.Started) (H : Type) (enc : TypeId × Value → H) :
    ReturnsInHanded {} Try.checked os 5 .any (Rows.leafPartsSpec.pre6 enc Try.prog Try.f5 Rows.leafPartsRow.domain false) (Rows.leafPartsSpec.post enc Try.prog Try.f5 false true false false) := by
  refine returnsInHanded_of_change (C := Try.checked) own started (by kernel_rfl) Try.func5
    (ChangeSpec.witness6 (enc := enc) (C := Try.checked) false ⟨#[], #[.int .u8 0, .int .i64 0], []⟩ 8 (by kernel_rfl) (by kernel_rfl) (by kernel_rfl) (by kernel_rfl)) ?_
  intro W base args ds gs before hval0 hW hcnd _
  have hval : ∀ (j : Nat) t v, Try.f5.params[j]? = some t → args[j]? = some v → Value.okWide Try.prog W .any base t v := hval0
  have hW' := hW
  obtain ⟨p, q, hA0, hV, rfl, hfz, hnd⟩ := hW
  have hA : DataW.TrodAll enc Try.prog W 0 (fun _ => true) true Try.f5.params.toList args.toList ds p := hA0
  rw [Try.params5] at hA hval
  obtain ⟨v0, vs0, d0, ds0, p0, q0, hargs, rfl, rfl, h0, r0⟩ := trodAll_cons hA
  obtain ⟨v1, vs1, d1, ds1, p1, q1, rfl, rfl, rfl, h1, r1⟩ := trodAll_cons r0
  obtain ⟨rfl, rfl, rfl⟩ := trodAll_nil r1
  obtain rfl : args = #[v0, v1] := by cases args; simp_all
  obtain ⟨rfl, rfl⟩ := trodVars_none hV
  obtain ⟨a0, rfl, rfl, rfl, w0⟩ := open_int Try.underlying5 (hval 0 5 v0 rfl rfl) h0
  obtain ⟨a1, rfl, rfl, rfl, w1⟩ := open_int Try.underlying3 (hval 1 3 v1 rfl rfl) h1
  clear hA0 hval0
  refine (walk a0 a1 w0 w1 W).mono fun e W' ⟨he, hg⟩ => ?_
  subst he
  exact ⟨_, rfl, _, _, _, [], _, [], hW', trodAll_mk1 (shut_bool Try.underlying4 _), (trodAll_cons_mk (shut_int Try.underlying5 w0) (trodAll_cons_mk (shut_int Try.underlying3 w1) trodAll_mk0)), rfl, hg.frame _, fun h => by cases h⟩

theorem over : Rows.leafPartsRow.holds Try.pinned (OpenSpec.ofChange Rows.leafPartsSpec) :=
  OpenClaim.holds_of_wide 5 Try.f5 rfl rfl rfl rfl rfl rfl rfl ⟨rfl, rfl, rfl, rfl, rfl⟩ rfl rfl rfl rfl rfl (by kernel_rfl) Try.func5 (by kernel_rfl)
    (of_decide_eq_true (by kernel_rfl)) (by unfold Func.isWrapper; first | (rw [if_pos (by decide +kernel)]; kernel_rfl) | (rw [if_neg (by decide +kernel)]; exact ⟨rfl, rfl⟩))
    (fun os started H enc _ => lifted os started H enc)

/-- ████ THE STATEMENT ████ -/
theorem proved : Rows.LeafPartsSaid :=
  over
#print axioms proved
end Go.Proofs.Ytfmbjepjmjcgeaa.leafParts
