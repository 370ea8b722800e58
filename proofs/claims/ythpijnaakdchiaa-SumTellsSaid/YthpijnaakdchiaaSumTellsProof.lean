/-
  The law SumTells holds: a text in which up to 32 bits that stand together are others has another check. Conditions: none but the row's own.
-/
import Derived.Test.YthpijnaakdchiaaRows
import Derived.Test.YthpijnaakdchiaaSumW
import Derived.Test.YthpijnaakdchiaaBytes
import Derived.IntWalk
import Derived.RegionTactic
import Derived.Deep.RegionHeld3
import Derived.WalkKit
import Derived.ProofKit
import Derived.OpenShut
import Derived.ShutString
import Derived.ChangeOld
import Derived.Below
namespace Go.Proofs.Ythpijnaakdchiaa.sumTells
open Go.ChangeShapes Go.WideShapes Go.ChangeAt Go.RowKit
open Go.ChangeMaps (open_string shut_string)
set_option linter.unusedVariables false      -- a walk need not use every 'w<i>' (that an integer argument fits its kind)

theorem own : ownKnob Try.prog.godebug = none := by kernel_rfl

open Go.Proofs.Ythpijnaakdchiaa.Sum
/-- what holds of the world through the last statement -/
structure Stays (w : World) (g : Nat) (xs : List UInt8) (W : World) : Prop where
  lt : g < W.heap.size
  row : BRow W g xs
  below : Below w.heap.size w W
theorem Stays.later {w W W' : World} {g cap n : Nat} {xs : List UInt8} (h : Stays w g xs W) (hw : w.heap.size ≤ W.heap.size) (hn : n = xs.length) (hb : Below W.heap.size W W') :
    (convert 32 9 (.slice (some ⟨g, 0, none⟩) n cap)).run Try.prog W' = .ok (.string (strOf xs)) W' ∧ Stays w g xs W' := by
  have hr := h.row.below hb h.lt
  exact ⟨run_string_brow W' g cap n xs hr hn, Nat.lt_of_lt_of_le h.lt hb.size, hr, h.below.trans (hb.mono hw)⟩
theorem stays_later {w W W' : World} {g cap n : Nat} {xs : List UInt8} (h : (convert 32 9 (.slice (some ⟨g, 0, none⟩) n cap)).run Try.prog W = .ok (.string (strOf xs)) W ∧ Stays w g xs W) (hn : Hid (n = xs.length)) (hb : Below W.heap.size W W') :
    (convert 32 9 (.slice (some ⟨g, 0, none⟩) n cap)).run Try.prog W' = .ok (.string (strOf xs)) W' ∧ Stays w g xs W' := h.2.later h.2.below.size hn.out hb
theorem stays_alloc {w W : World} {g cap n : Nat} {xs : List UInt8} (h : (convert 32 9 (.slice (some ⟨g, 0, none⟩) n cap)).run Try.prog W = .ok (.string (strOf xs)) W ∧ Stays w g xs W) (hn : Hid (n = xs.length)) (o : Obj) :
    (convert 32 9 (.slice (some ⟨g, 0, none⟩) n cap)).run Try.prog (W.alloc o) = .ok (.string (strOf xs)) (W.alloc o) ∧ Stays w g xs (W.alloc o) := stays_later h hn ((Below.refl _ _).alloc (Nat.le_refl _) _)
theorem StrRow.oneAt (w : World) (s : ByteArray) (e : TypeId) (n : Nat) (h : n = w.heap.size) : StrRow (w.alloc (.cells #[.string s] e)) (some ⟨n, 0, Option.none⟩) 1 [s] := by subst h; exact StrRow.one w s e
theorem IsTab.drw {w : World} {b : Nat} (h : IsTab w b) : IsTab w.drew b := fun j hj => h j hj
theorem StrRow.drw {w : World} {ao : Option Addr} {len : Nat} {ss : List ByteArray} (h : StrRow w ao len ss) : StrRow w.drew ao len ss := ⟨h.1, h.2⟩
theorem xor_bit (x : UInt8) (i : Nat) (hi : i < 8) : bits .xor .u8 (x.toNat : Int) (2 ^ i % 256) = ((UInt8.ofNat (x.toNat ^^^ 2 ^ i)).toNat : Int) := by
  have h2 : 2 ^ i < 256 := by
    have : 2 ^ i ≤ 2 ^ 7 := Nat.pow_le_pow_right (by decide) (by omega)
    omega
  have h3 : x.toNat ^^^ 2 ^ i < 256 := Nat.xor_lt_two_pow (n := 8) (u8_lt x) h2
  have e : ((2 : Int) ^ i % 256) = ((2 ^ i : Nat) : Int) := by
    have : ((2 : Int) ^ i) = ((2 ^ i : Nat) : Int) := by simp
    rw [this]
    exact Int.emod_eq_of_lt (Int.natCast_nonneg _) (Int.ofNat_lt.2 h2)
  rw [e, u8_xor_nat _ _ (u8_lt x) h2, UInt8.toNat_ofNat', Nat.mod_eq_of_lt h3]
theorem mod_no (x k : Nat) (h1 : ¬ x / 2 ^ k % 2 = 1) : x % 2 ^ (k + 1) = x % 2 ^ k := by
  rw [Nat.pow_succ, Nat.mod_mul, show x / 2 ^ k % 2 = 0 by omega, Nat.mul_zero, Nat.add_zero]
theorem mod_yes (x k : Nat) (h1 : x / 2 ^ k % 2 = 1) : x % 2 ^ (k + 1) = x % 2 ^ k + 2 ^ k := by
  rw [Nat.pow_succ, Nat.mod_mul, h1, Nat.mul_one]
theorem num_bit (xs l : List UInt8) (f k bt j i : Nat) (b : UInt8) (hn : num xs = num l ^^^ 2 ^ f * (bt % 2 ^ k)) (h1 : bt / 2 ^ k % 2 = 1) (hj : j < xs.length) (hfk : 8 * j + i = f + k)
    (hb : b.toNat = (xs.getD j 0).toNat ^^^ 2 ^ i) : num (xs.set j b) = num l ^^^ 2 ^ f * (bt % 2 ^ (k + 1)) := by
  rw [num_set xs j i b hj hb, hn, mod_yes bt k h1, hfk, Nat.xor_assoc]
  congr 1
  have e : bt % 2 ^ k + 2 ^ k = bt % 2 ^ k ^^^ 2 ^ k := by
    apply Nat.eq_of_testBit_eq; intro m
    have := Nat.testBit_two_pow_mul_add 1 (Nat.mod_lt bt (Nat.two_pow_pos k)) m
    rw [Nat.mul_one] at this
    rw [Nat.add_comm, this, Nat.testBit_xor, Nat.testBit_two_pow]
    by_cases h : m < k
    · simp [h, show ¬ k = m by omega]
    · have hz : (bt % 2 ^ k).testBit m = false := by simp [h]
      rw [if_neg h, hz]
      by_cases h' : k = m
      · subst h'; simp
      · rw [show m - k = (m - k - 1) + 1 by omega, Nat.testBit_succ]; simp [h']
  rw [e]
  have := @Nat.shiftLeft_xor_distrib f (bt % 2 ^ k) (2 ^ k)
  rw [Nat.pow_add]
  simpa [Nat.shiftLeft_eq, Nat.mul_comm] using this.symm
theorem div_pow_cast (x k : Nat) : ((x : Int) / 2 ^ k) = ((x / 2 ^ k : Nat) : Int) := by simp
theorem div_pow_reg (x k : Nat) (h : Reg x) : Reg (x / 2 ^ k) := Nat.lt_of_le_of_lt (Nat.div_le_self _ _) h
theorem and_bit_yes (x k : Nat) (h : Reg x) (h1 : x / 2 ^ k % 2 = 1) : (bits .and .u32 ((x : Int) / 2 ^ k) 1 == 1) = true := by
  rw [div_pow_cast, and_one _ (div_pow_reg x k h), h1]; rfl
theorem and_bit_no (x k : Nat) (h : Reg x) (h1 : ¬ x / 2 ^ k % 2 = 1) : (bits .and .u32 ((x : Int) / 2 ^ k) 1 == 1) = false := by
  rw [div_pow_cast, and_one _ (div_pow_reg x k h), show x / 2 ^ k % 2 = 0 by omega]; rfl

/-! ### STEP 1: THE WALK: the Go text returns true. 'Grown w w'': the world has at most new blocks (Derived/RowKit3.lean). Part the cases AHEAD of 'go_enter' where a test parts the walk; take each callee by a contract of your own. -/
set_option maxHeartbeats 4000000 in
set_option maxRecDepth 100000 in
theorem walk (a0 : ByteArray) (a1 : Int) (a2 : Int) (w0 : a0.size ≤ maxLen) (w1 : (Lit.int .u16 a1).wf = true) (w2 : (Lit.int .u32 a2).wf = true) (w : World) :
    Calls Try.prog 6 #[.string a0, .int .u16 a1, .int .u32 a2] w fun e w' => e = .returned (.bool true) ∧ Below w.heap.size w w' := by
  have hb1 := bounds_u16 w1
  have hb2 := bounds_u32 w2
  obtain ⟨at1, rfl⟩ := Int.eq_ofNat_of_zero_le hb1.1
  obtain ⟨bt, rfl⟩ := Int.eq_ofNat_of_zero_le hb2.1
  have hat : at1 < 65536 := by have := hb1.2; omega
  have HBT := Lib.hid (show Reg bt by unfold Reg; have := hb2.2; omega)
  clear w0 w1 w2 hb1 hb2
  go_enter Try.func6, Try.ntmps6
  go_upto_region 1 with fail
  go_cut [0] (fun s wx => ∃ u : ByteArray, s = .string u ∧ u.size ≤ 300 ∧ Below w.heap.size w wx)
  case first =>
    go_wp2
    all_goals (go_meet; exact ⟨_, rfl, by first | omega | (simp; omega), Below.refl _ _⟩)
  case rest =>
    obtain ⟨u, rfl, hu, hb⟩ := hcut
    have hs := hb.size
    go_wp2_with fail
    refine (wakes_any _).mono ?_
    rintro e w2 ⟨rfl, hb2⟩
    have hb2 : Below w.heap.size w w2 := hb.trans (hb2.mono hs)
    have hs2 := hb2.size
    clear hb hs
    by_cases h5 : u.size < 5
    · go_wp2_with fail
      refine (wakes_any _).mono ?_
      rintro e w3 ⟨rfl, hb3⟩
      have HB := Lib.hid (hb2.trans (hb3.mono hs2))
      clear hb2 hs2 hb3
      go_wp2_with fail
      go_ret
      exact ⟨rfl, HB.out⟩
    · by_cases h0 : bt = 0
      · go_wp2_with fail
        refine (wakes_any _).mono ?_
        rintro e w3 ⟨rfl, hb3⟩
        have HB := Lib.hid (hb2.trans (hb3.mono hs2))
        clear hb2 hs2 hb3
        go_wp2_with fail
        go_ret
        exact ⟨rfl, HB.out⟩
      · have hz : ((bt : Int) == 0) = false := by simp; omega
        have hcv := run_bytes_brow w2 u
        have hrow := brow_bytesWorld w2 u 5
        have hb3 := hb2.trans ((below_bytesWorld w2 5 u).mono hs2)
        have hs3 : w2.heap.size < (Lib.bytesWorld w2 5 u).heap.size := by rw [Lib.bytesWorld_size]; omega
        obtain ⟨cap, hcap⟩ : ∃ c, c = grownCap w2 u.size 0 5 := ⟨_, rfl⟩
        obtain ⟨wb, hwb⟩ : ∃ wb, wb = Lib.bytesWorld w2 5 u := ⟨_, rfl⟩
        obtain ⟨g, hg⟩ : ∃ g, g = w2.heap.size := ⟨_, rfl⟩
        have hg0 : w.heap.size ≤ g := by rw [hg]; exact hs2
        rw [← hcap, ← hwb, ← hg] at hcv
        rw [← hwb] at hrow hb3 hs3
        rw [← hg] at hrow hs3
        obtain ⟨f, hf⟩ : ∃ f : Nat, (at1 : Int) % (8 * ((u.size : Int) - 4)) = f := Int.eq_ofNat_of_zero_le (Int.emod_nonneg _ (by omega))
        have hf1 : f + 32 < 8 * u.size := by
          have := Int.emod_lt_of_pos (at1 : Int) (show (0 : Int) < 8 * ((u.size : Int) - 4) by omega)
          omega
        have HROW := Lib.hid hrow
        have HB3 := Lib.hid hb3
        have H0 := Lib.hid h0
        clear hcap hwb hg hrow hb3 hb2 hs2 h0
        go_wp2_with fail
        rw [hf]
        clear hcv hf hz
        go_loopw [36] (fun i wr => ∃ (k : Nat) (xs : List UInt8), k ≤ 32 ∧ i = .int .i64 k ∧ xs.length = u.size ∧ BRow wr g xs ∧ num xs = num u.data.toList ^^^ 2 ^ f * (bt % 2 ^ k) ∧ Below w.heap.size w wr ∧ g < wr.heap.size) (fun i _ => 32 - (intOf i).toNat)
        case atStart => exact ⟨0, u.data.toList, by omega, rfl, by simp, HROW.out, by simp [Nat.mod_one], HB3.out, hs3⟩
        case round =>
          obtain ⟨k, xs, hk, rfl, hxl, hrow, hnum, hb, hgs⟩ := hrel
          have HXL := Lib.hid hxl
          have HR := Lib.hid hrow
          have HN := Lib.hid hnum
          have HB := Lib.hid hb
          clear hxl hrow hnum hb HROW HB3 hs3
          by_cases hlt : k < 32
          · by_cases h1 : bt / 2 ^ k % 2 = 1
            · have ht : (bits .and .u32 ((bt : Int) / 2 ^ k) 1 == 1) = true := and_bit_yes bt k HBT.out h1
              obtain ⟨j, hj⟩ : ∃ j, j = (f + k) / 8 := ⟨_, rfl⟩
              obtain ⟨i, hi⟩ : ∃ i, i = (f + k) % 8 := ⟨_, rfl⟩
              have hju : j < u.size := by omega
              have hi8 : i < 8 := by omega
              have hs1 : IntKind.i64.wrap ((f : Int) + k) = f + k := IntWalk.i64_in _ (by omega)
              have hq : ((f : Int) + k) / 8 = j := by omega
              have hr : ((f : Int) + k) % 8 = i := by omega
              have hcell := HR.out.at_ j (by rw [HXL.out]; exact hju)
              have hfroz := HR.out.froz j (by rw [HXL.out]; exact hju)
              obtain ⟨x, hx⟩ : ∃ x, x = xs.getD j 0 := ⟨_, rfl⟩
              rw [← hx] at hcell
              have HX := Lib.hid hx
              have HJ := Lib.hid hj
              have HI := Lib.hid hi
              have H1 := Lib.hid h1
              clear hx hj hi h1
              go_wp2_with fail
              go_region
              go_wp2_with fail
              have hx8 := xor_bit x i hi8
              go_roundw
              case rel =>
                have hset := HR.out.set j (by rw [HXL.out]; exact hju) (UInt8.ofNat (x.toNat ^^^ 2 ^ i))
                refine ⟨k + 1, xs.set j (UInt8.ofNat (x.toNat ^^^ 2 ^ i)), by omega, by go_num, by rw [List.length_set, HXL.out], ?_, ?_, ?_, ?_⟩
                · rw [hx8]; exact hset.drewN 1
                · refine num_bit xs u.data.toList f k bt j i _ HN.out H1.out (by rw [HXL.out]; exact hju) (by have := HJ.out; have := HI.out; omega) ?_
                  rw [← HX.out, UInt8.toNat_ofNat', Nat.mod_eq_of_lt (Nat.xor_lt_two_pow (n := 8) (u8_lt x) (Nat.pow_lt_pow_right (by decide) hi8))]
                · exact (HB.out.setCell (by exact hg0) _).drew
                · simpa using hgs
              case measure => simp [intOf]; omega
            · have ht : (bits .and .u32 ((bt : Int) / 2 ^ k) 1 == 1) = false := and_bit_no bt k HBT.out h1
              have HM := Lib.hid (mod_no bt k h1)
              clear h1
              go_wp2_with fail
              go_roundw
              case rel => exact ⟨k + 1, xs, by omega, by go_num, HXL.out, HR.out, by rw [HN.out, HM.out], HB.out, hgs⟩
              case measure => simp [intOf]; omega
          · obtain rfl : k = 32 := by omega
            have hbt : bt % 2 ^ 32 = bt := mod_reg bt HBT.out
            have hne := chk_tells u.data.toList xs bt f (by rw [HXL.out]; simp) HBT.out H0.out (by have : u.data.toList.length = u.size := by simp
                                                                                                   omega) (by rw [HN.out, hbt])
            have htest : (((chk 0 (cat [strOf xs]) : Nat) : Int) != ((chk 0 (cat [u]) : Nat) : Int)) = true := by
              rw [cat_one, cat_one, strOf_data]; simp; omega
            have HXN := Lib.hid (show u.size = xs.length from HXL.out.symm)
            have HS0 := Lib.hid ((Stays.mk hgs HR.out HB.out).later (cap := cap) HB.out.size HXN.out ((Below.refl wr.heap.size wr).drew))
            have HU1 := Lib.hid (show ∀ s ∈ [u], s.size ≤ 1000000 by simp; omega)
            have HX1 := Lib.hid (show ∀ s ∈ [strOf xs], s.size ≤ 1000000 by simp [strOf_size]; have := HXL.out; omega)
            clear hbt hne HN HXL HR HB hgs
            go_wp2_with fail
            go_region_held3 (fun W => (convert 32 9 (.slice (some ⟨g, 0, none⟩) u.size cap)).run Try.prog W = .ok (.string (strOf xs)) W ∧ Stays w g xs W)
              (first
                | exact HS0.out
                | exact stays_alloc (by assumption) HXN _
                | exact stays_later (by assumption) HXN (by assumption))
              (first
                | (go_at_call 8; refine (make_any _).mono ?_; rintro e wm ⟨bm, rfl, hbm, htm, hlater⟩)
                | (go_at_call 10
                   refine (of_hold _ _ [strOf xs] _ ?_ ?_ HX1.out).mono ?_
                   · repeat (first | assumption | apply IsTab.drw | apply IsTab.new | refine IsTab.later ?_ (by assumption))
                   · repeat (first | (refine StrRow.oneAt _ _ _ _ ?_; first | rfl | (simp; done)) | apply StrRow.drw | apply StrRow.new | refine StrRow.later ?_ (by assumption))
                   rintro e wo ⟨rfl, hlater⟩)
                | (go_at_call 10
                   refine (of_hold _ _ [u] _ ?_ ?_ HU1.out).mono ?_
                   · repeat (first | assumption | apply IsTab.drw | apply IsTab.new | refine IsTab.later ?_ (by assumption))
                   · repeat (first | (refine StrRow.oneAt _ _ _ _ ?_; first | rfl | (simp; done)) | apply StrRow.drw | apply StrRow.new | refine StrRow.later ?_ (by assumption))
                   rintro e wo ⟨rfl, hlater⟩))
            all_goals
              rename_i hend
              have HF := Lib.hid hend.2.below
              clear hend
              go_wp2_with fail
              go_ret
              exact ⟨rfl, HF.out⟩

/-! ### THE ROW's STEP: WRITTEN OUT: LEAVE IT -/
set_option maxRecDepth 100000 in
theorem lifted (os : Os) (started : os.Started) (H : Type) (enc : TypeId × Value → H) :
    ReturnsInHanded {} Try.checked os 6 .any (Rows.sumTellsSpec.pre6 enc Try.prog Try.f6 Rows.sumTellsRow.domain false) (Rows.sumTellsSpec.post enc Try.prog Try.f6 false true false false) := by
  refine returnsInHanded_of_change (C := Try.checked) own started (by kernel_rfl) Try.func6
    (ChangeSpec.witness6 (enc := enc) (C := Try.checked) false ⟨#[], #[.string ByteArray.empty, .int .u16 0, .int .u32 0], []⟩ 8 (by kernel_rfl) (by kernel_rfl) (by kernel_rfl) (by kernel_rfl)) ?_
  intro W base args ds gs before hval0 hW hcnd _
  have hval : ∀ (j : Nat) t v, Try.f6.params[j]? = some t → args[j]? = some v → Value.okWide Try.prog W .any base t v := hval0
  have hW' := hW
  obtain ⟨p, q, hA0, hV, rfl, hfz, hnd⟩ := hW
  have hA : DataW.TrodAll enc Try.prog W 0 (fun _ => true) true Try.f6.params.toList args.toList ds p := hA0
  rw [Try.params6] at hA hval
  obtain ⟨v0, vs0, d0, ds0, p0, q0, hargs, rfl, rfl, h0, r0⟩ := trodAll_cons hA
  obtain ⟨v1, vs1, d1, ds1, p1, q1, rfl, rfl, rfl, h1, r1⟩ := trodAll_cons r0
  obtain ⟨v2, vs2, d2, ds2, p2, q2, rfl, rfl, rfl, h2, r2⟩ := trodAll_cons r1
  obtain ⟨rfl, rfl, rfl⟩ := trodAll_nil r2
  obtain rfl : args = #[v0, v1, v2] := by cases args; simp_all
  obtain ⟨rfl, rfl⟩ := trodVars_none hV
  obtain ⟨a0, rfl, rfl, rfl, w0⟩ := open_string Try.underlying9 (hval 0 9 v0 rfl rfl) h0
  obtain ⟨a1, rfl, rfl, rfl, w1⟩ := open_int Try.underlying35 (hval 1 35 v1 rfl rfl) h1
  obtain ⟨a2, rfl, rfl, rfl, w2⟩ := open_int Try.underlying26 (hval 2 26 v2 rfl rfl) h2
  clear hA0 hval0
  refine (walk a0 a1 a2 w0 w1 w2 W).mono fun e W' ⟨he, hg⟩ => ?_
  subst he
  exact ⟨_, rfl, _, _, _, [], _, [], hW', trodAll_mk1 (shut_bool Try.underlying4 _), (trodAll_cons_mk (shut_string Try.underlying9 w0) (trodAll_cons_mk (shut_int Try.underlying35 w1) (trodAll_cons_mk (shut_int Try.underlying26 w2) trodAll_mk0))), rfl, hg.frame _, fun h => by cases h⟩

theorem over : Rows.sumTellsRow.holds Try.pinned (OpenSpec.ofChange Rows.sumTellsSpec) :=
  OpenClaim.holds_of_wide 6 Try.f6 rfl rfl rfl rfl rfl rfl rfl ⟨rfl, rfl, rfl, rfl, rfl⟩ rfl rfl rfl rfl rfl (by kernel_rfl) Try.func6 (by kernel_rfl)
    (of_decide_eq_true (by kernel_rfl)) (by unfold Func.isWrapper; first | (rw [if_pos (by decide +kernel)]; kernel_rfl) | (rw [if_neg (by decide +kernel)]; exact ⟨rfl, rfl⟩))
    (fun os started H enc _ => lifted os started H enc)

/-- ████ THE STATEMENT ████ -/
theorem proved : Rows.SumTellsSaid :=
  over
#print axioms proved
end Go.Proofs.Ythpijnaakdchiaa.sumTells
