/-
  The law NodeParses holds: the node of all bytes, also with some turned or left out, is the document's, or its error. Conditions: none but the row's own.
-/
import Derived.Test.YtfclecbhfamomaaRows
import Derived.BigRegion
import Derived.Test.YtfclecbhfamomaaNoW
import Derived.Test.YtfclecbhfamomaaBytes
import Derived.Test.YtfclecbhfamomaaStructsZ
import Derived.WalkKit
import Derived.ProofKit
import Derived.OpenShut
import Derived.ShutString
import Derived.ChangeOld
import Derived.Below
import Derived.Carry
namespace Go.Proofs.Ytfclecbhfamomaa.nodeParses
open Go.ChangeShapes Go.WideShapes Go.ChangeAt Go.RowKit
open Go.Proofs.Ytfclecbhfamomaa
open Go.ChangeMaps (open_string shut_string)
set_option linter.unusedVariables false

theorem own : ownKnob Try.prog.godebug = none := by kernel_rfl
theorem laidOut : laidOutB Try.prog = true := by kernel_rfl

/-- the elements of argument 0 -/
def AR0 (w : World) (a : Option Addr) (len : Nat) : Prop := 0 < len → ∃ b off, a = some ⟨b, off, none⟩ ∧ ∀ i, i < len → ∃ (x0 : ByteArray) (x1 : Int) (x2 : Int) (x3 : Int), w.cell? ⟨b, off + (i * 4 + 0), none⟩ = some (.string x0) ∧ x0.size ≤ 140737488355327 ∧ w.cell? ⟨b, off + (i * 4 + 1), none⟩ = some (.int .i64 x1) ∧ (Lit.int .i64 x1).wf = true ∧ w.cell? ⟨b, off + (i * 4 + 2), none⟩ = some (.int .u64 x2) ∧ (Lit.int .u64 x2).wf = true ∧ w.cell? ⟨b, off + (i * 4 + 3), none⟩ = some (.int .u32 x3) ∧ (Lit.int .u32 x3).wf = true
theorem open_AR0 {H : Type} {enc : TypeId × Value → H} {w : World} {held : Bool} {c : Value} {d : DataW H} {pl : List MemPlace} (h : ∃ m, DataW.trod enc Try.prog w 0 (fun _ => true) held m 22 [c] = some (d, pl)) (hz : ∀ n ∈ d.weights Try.prog 22, n ≤ reachBytes) :
    ∃ a len cap, c = .slice a len cap ∧ AR0 w a len ∧ len ≤ cap ∧ cap ≤ maxLen := by
  obtain ⟨a, len, cap, hc, hl, hm, hx⟩ := open_structs_z Try.underlying22 Try.underlying72 (by kernel_rfl) (by kernel_rfl) (by decide) h hz
  refine ⟨a, len, cap, hc, fun hpos => ?_, hl, hm⟩
  obtain ⟨b, off, ha, hf⟩ := hx hpos
  refine ⟨b, off, ha, fun i hi => ?_⟩
  obtain ⟨v0, hc0, ht0, hz0⟩ := hf i hi 0 _ rfl
  obtain ⟨x0, rfl, hw0'⟩ := open_str_cell Try.underlying9 ht0
  have hw0 := hz0 Try.underlying9 _ rfl
  obtain ⟨v1, hc1, ht1, hz1⟩ := hf i hi 1 _ rfl
  obtain ⟨x1, rfl, hw1⟩ := open_int_cell Try.underlying3 ht1
  obtain ⟨v2, hc2, ht2, hz2⟩ := hf i hi 2 _ rfl
  obtain ⟨x2, rfl, hw2⟩ := open_int_cell Try.underlying47 ht2
  obtain ⟨v3, hc3, ht3, hz3⟩ := hf i hi 3 _ rfl
  obtain ⟨x3, rfl, hw3⟩ := open_int_cell Try.underlying48 ht3
  exact ⟨x0, x1, x2, x3, hc0, hw0, hc1, hw1, hc2, hw2, hc3, hw3⟩
/-- the elements of argument 1 -/
def AR1 (w : World) (a : Option Addr) (len : Nat) : Prop := 0 < len → ∃ b off, a = some ⟨b, off, none⟩ ∧ ∀ i, i < len → ∃ (x0 : Int) (x1 : ByteArray) (x2 : ByteArray) (x3 : Int), w.cell? ⟨b, off + (i * 4 + 0), none⟩ = some (.int .u8 x0) ∧ (Lit.int .u8 x0).wf = true ∧ w.cell? ⟨b, off + (i * 4 + 1), none⟩ = some (.string x1) ∧ x1.size ≤ 140737488355327 ∧ w.cell? ⟨b, off + (i * 4 + 2), none⟩ = some (.string x2) ∧ x2.size ≤ 140737488355327 ∧ w.cell? ⟨b, off + (i * 4 + 3), none⟩ = some (.int .u64 x3) ∧ (Lit.int .u64 x3).wf = true
theorem open_AR1 {H : Type} {enc : TypeId × Value → H} {w : World} {held : Bool} {c : Value} {d : DataW H} {pl : List MemPlace} (h : ∃ m, DataW.trod enc Try.prog w 0 (fun _ => true) held m 23 [c] = some (d, pl)) (hz : ∀ n ∈ d.weights Try.prog 23, n ≤ reachBytes) :
    ∃ a len cap, c = .slice a len cap ∧ AR1 w a len ∧ len ≤ cap ∧ cap ≤ maxLen := by
  obtain ⟨a, len, cap, hc, hl, hm, hx⟩ := open_structs_z Try.underlying23 Try.underlying66 (by kernel_rfl) (by kernel_rfl) (by decide) h hz
  refine ⟨a, len, cap, hc, fun hpos => ?_, hl, hm⟩
  obtain ⟨b, off, ha, hf⟩ := hx hpos
  refine ⟨b, off, ha, fun i hi => ?_⟩
  obtain ⟨v0, hc0, ht0, hz0⟩ := hf i hi 0 _ rfl
  obtain ⟨x0, rfl, hw0⟩ := open_int_cell Try.underlying5 ht0
  obtain ⟨v1, hc1, ht1, hz1⟩ := hf i hi 1 _ rfl
  obtain ⟨x1, rfl, hw1'⟩ := open_str_cell Try.underlying9 ht1
  have hw1 := hz1 Try.underlying9 _ rfl
  obtain ⟨v2, hc2, ht2, hz2⟩ := hf i hi 2 _ rfl
  obtain ⟨x2, rfl, hw2'⟩ := open_str_cell Try.underlying9 ht2
  have hw2 := hz2 Try.underlying9 _ rfl
  obtain ⟨v3, hc3, ht3, hz3⟩ := hf i hi 3 _ rfl
  obtain ⟨x3, rfl, hw3⟩ := open_int_cell Try.underlying47 ht3
  exact ⟨x0, x1, x2, x3, hc0, hw0, hc1, hw1, hc2, hw2, hc3, hw3⟩

set_option linter.unusedSimpArgs false
open Go.Proofs.Ytfclecbhfamomaa.Node Go.Proofs.Ytfclecbhfamomaa.Buf Go.Proofs.Ytfclecbhfamomaa.Msg Go.Proofs.Ytfclecbhfamomaa.Rec Go.Proofs.Ytfclecbhfamomaa.Lend
theorem ttN_len (cs : List Ch) (us : List Up) : (ttN cs us).length ≤ 4000 := by
  unfold ttN
  split
  · rename_i h
    obtain ⟨h1, h2, h3, h4⟩ := nod_parts h
    have hk := ((kidB_iff cs).1 h1).1
    have a := txK_len (l := cs) (fun c hc => by
      obtain ⟨i, hi, rfl⟩ := List.mem_iff_getElem.1 hc
      exact (kid_at h1 hi).2.2)
    have b := txb_le us h3
    unfold txN
    rw [List.length_cons, List.length_append]
    omega
  · exact Nat.zero_le _
theorem str_self (s : ByteArray) : s = Lend.strOf s.data.toList := Lend.strOf_ext rfl

/-! ### STEP 1: THE WALK -/
set_option maxHeartbeats 16000000 in
set_option maxRecDepth 100000 in
theorem walk (a0 : Option Addr) (a0l a0c : Nat) (a1 : Option Addr) (a1l a1c : Nat) (a2 : ByteArray) (w : World) (w0 : AR0 w a0 a0l) (w0l : a0l ≤ a0c) (w0m : a0c ≤ maxLen) (w1 : AR1 w a1 a1l) (w1l : a1l ≤ a1c) (w1m : a1c ≤ maxLen) (w2 : a2.size ≤ maxLen) :
    Calls Try.prog 4 #[.slice a0 a0l a0c, .slice a1 a1l a1c, .string a2] w fun e w' => e = .returned (.bool true) ∧ Below w.heap.size w w' := by
  obtain ⟨cs, hl, hc, hq⟩ := chs_of (cap := a0c) w0
  obtain ⟨ms, hml, hm, hmq⟩ := ups_of (cap := a1c) w1
  subst hl hml
  have HM := Lib.hid hm
  have HQC := Lib.hid hq
  have HQM := Lib.hid hmq
  have HMA := Lib.hid (show ms.length ≤ a1c ∧ a1c ≤ 9223372036854775807 from ⟨w1l, by unfold maxLen at w1m; exact w1m⟩)
  have HTA := Lib.hid (tame_any hc w0l (by unfold maxLen at w0m; exact w0m) (fun c h => (hq c h).2) (fun c h => (hq c h).1))
  unfold maxLen at w2
  clear hc hq hm hmq w0 w0l w0m w1 w1l w1m
  obtain ⟨p, hp⟩ : ∃ z, z = cs.length := ⟨_, rfl⟩
  obtain ⟨q, hqq⟩ : ∃ z, z = ms.length := ⟨_, rfl⟩
  have HQQ := Lib.hid hqq
  rw [← hp] at HTA ⊢
  rw [← hqq] at HM HMA ⊢
  clear hp hqq
  obtain ⟨R, hR⟩ : ∃ R, R = a2.extract 0 (min a2.size 200) := ⟨_, rfl⟩
  have HRE := Lib.hid hR
  have HRS := Lib.hid (show R.size ≤ 200 by rw [hR]; simp; omega)
  have HRA := Lib.hid (show a2.size ≤ 200 → a2 = R from fun h => by
    rw [hR, Nat.min_eq_left h]
    exact (ByteArray.extract_zero_size).symm)
  have HRB := Lib.hid (show 200 ≤ a2.size → a2.extract 0 200 = R from fun h => by rw [hR, Nat.min_eq_right h])
  clear hR
  go_enter Try.func4, Try.ntmps4
  go_upto_region 1 with fail
  go_cut [2] (fun r wx => r = .string R ∧ wx = w)
  case first =>
    go_wp2_with fail
    all_goals go_meet
    all_goals first
    | (rw [HRB.out (by omega)]; exact ⟨rfl, rfl⟩)
    | (rw [← HRA.out (by omega)]; exact ⟨rfl, rfl⟩)
  case rest =>
  obtain ⟨rfl, hww⟩ := hcut
  have hww := hww.symm
  subst hww
  clear w2
  go_wp2_with fail
  refine HTA.out.mono ?_
  clear HTA
  rintro e w1 ⟨tv, rfl, htv, hb1⟩
  obtain ⟨ta, tc, hts, htc⟩ := own_shape htv
  subst hts
  have htm : tc ≤ 9223372036854775807 := by
    rcases htv.2 with ⟨h, _⟩ | ⟨g, cap, cur, h, _, _, _, hm, _⟩
    · simp at h; omega
    · simp at h
      unfold maxLen at hm
      omega
  have HTW := Lib.hid (show ∀ c ∈ tmC cs, Qc c from fun c h => by
    have := tmC_mem (fun x hx => (HQC.out x hx).1) h
    exact ⟨this.1, by have := this.2.1; omega⟩)
  have HOF := Lib.hid (of_any (CR.of_own htv) (by have h := HM.out.below hb1; rw [HQQ.out] at h; exact h) htc htm (by rw [← HQQ.out]; exact HMA.out.1) HMA.out.2 (fun c h => (HTW.out c h).2) (fun u h => (HQM.out u h).1) (fun u h => (HQM.out u h).2))
  rw [← HQQ.out] at HOF
  have HKQ := Lib.hid (kq_of (fun c h => (HTW.out c h).1) (fun u h => (HQM.out u h).1))
  have HB1 := Lib.hid hb1
  clear htv hb1 htc htm
  go_wp2_with fail
  refine HOF.out.mono ?_
  clear HOF
  rintro e w3 ⟨kv, bv, kv', bv', rfl, h1, h2, h3, h4, hb3⟩
  have hnx := Nx.new h1 h2 h3 h4
  obtain ⟨C, hC⟩ : ∃ z, z = ofC (tmC cs) := ⟨_, rfl⟩
  obtain ⟨L, hL⟩ : ∃ z, z = ofM ms := ⟨_, rfl⟩
  rw [← hC, ← hL] at HKQ hnx
  rw [← hC] at h1 h3
  rw [← hL] at h2 h4
  obtain ⟨ka, kc, hk1, _⟩ := own_shape h1
  obtain ⟨ba, bc, hk2, _⟩ := own_shape h2
  obtain ⟨xa, xc, hk3, _⟩ := own_shape h3
  obtain ⟨ya, yc, hk4, _⟩ := own_shape h4
  subst hk1 hk2 hk3 hk4
  have HB3 := Lib.hid (below_on HB1.out hb3)
  clear hC hL h1 h2 h3 h4 hb3
  obtain ⟨w4, hw4⟩ : ∃ z, z = (w3.alloc (.cells #[.slice ka C.length kc, .slice ba L.length bc] 31)).alloc (.cells #[.slice xa C.length xc, .slice ya L.length yc] 35) := ⟨_, rfl⟩
  have HB4 := Lib.hid (show Below w.heap.size w w4 by rw [hw4]; exact below_nw (below_nw HB3.out _) _)
  rw [← hw4] at hnx
  have HTR := Lib.hid (ntext_any hnx.dk hnx.db HKQ.out.wf HKQ.out.wc)
  have x0 : w4.cell? ⟨w3.heap.size + 1, 0, none⟩ = some (.slice xa C.length xc) := hnx.x.cell 0
  have x1 : w4.cell? ⟨w3.heap.size + 1, 1, none⟩ = some (.slice ya L.length yc) := hnx.x.cell 1
  have hsl := ttN_len C L
  obtain ⟨S, hS⟩ : ∃ z, z = Lend.strOf (ttN C L) := ⟨_, rfl⟩
  have hss : S.size ≤ 4000 := by rw [hS, ssize]; exact hsl
  rw [← hS] at HTR
  obtain ⟨E0, hE⟩ : ∃ z, z = teN C L := ⟨_, rfl⟩
  rw [← hE] at HTR
  generalize C.length = cn at *
  generalize L.length = ln at *
  clear hnx hsl hS hE
  go_upto_region 3 with fail
  rw [← hw4]
  clear hw4
  go_wp2_with fail
  refine HTR.out.mono ?_
  clear HTR x0 x1
  rintro e w5 ⟨rfl, hb5⟩
  have HB5 := Lib.hid (below_on HB4.out hb5)
  clear hb5
  have hcv := run_bytes_brow w5 (S ++ ⟨#[120]⟩)
  have hrow := brow_bytesWorld w5 (S ++ ⟨#[120]⟩) 5
  have hb6 := below_bytesWorld w5 5 (S ++ ⟨#[120]⟩)
  have hsx : (S ++ ⟨#[120]⟩ : ByteArray).size = S.size + 1 := by rw [ByteArray.size_append, show (⟨#[120]⟩ : ByteArray).size = 1 from rfl]
  rw [hsx] at hcv
  obtain ⟨cp, hcp⟩ : ∃ c, c = grownCap w5 (S.size + 1) 0 5 := ⟨_, rfl⟩
  obtain ⟨xs, hxs⟩ : ∃ x, x = (S ++ ⟨#[120]⟩ : ByteArray).data.toList := ⟨_, rfl⟩
  obtain ⟨w6, hw6⟩ : ∃ x, x = Lib.bytesWorld w5 5 (S ++ ⟨#[120]⟩) := ⟨_, rfl⟩
  have hxl : xs.length = S.size + 1 := by rw [hxs, Lend.bytes_length, hsx]
  rw [← hcp, ← hw6] at hcv
  rw [← hw6, ← hxs] at hrow
  rw [← hw6] at hb6
  have HROW := Lib.hid hrow
  have HB6 := Lib.hid hb6
  have HXL := Lib.hid hxl
  have hsz : ¬ 9223372036854775807 < S.size + (⟨#[120]⟩ : ByteArray).size := by rw [show (⟨#[120]⟩ : ByteArray).size = 1 from rfl]; omega
  clear hcp hxs hrow hb6 hxl
  go_upto_region 5 with fail
  rw [← hw6]
  clear hcv hsz hsx hw6
  go_wp2_with fail
  have hwn : IntKind.i64.wrap ((S.size : Int) + 1) = (S.size : Int) + 1 := IntWalk.i64_in _ (by omega)
  obtain ⟨g, hg⟩ : ∃ z, z = w5.heap.size := ⟨_, rfl⟩
  have HGE := Lib.hid hg
  rw [← hg] at HROW
  rw [← hg]
  clear hg
  go_loopw [41] (fun i wr => ∃ (j : Nat) (ys : List UInt8), j ≤ R.size ∧ i = .int .i64 j ∧ ys.length = S.size + 1 ∧ BRow wr g ys ∧ Below w5.heap.size w5 wr) (fun i _ => R.size - (intOf i).toNat)
  case atStart => exact ⟨0, xs, Nat.zero_le _, rfl, HXL.out, HROW.out, HB6.out⟩
  case round =>
    obtain ⟨j, ys, hj, rfl, hyl, hrow, hb⟩ := hrel
    rename World => wr
    have HRW := Lib.hid hrow
    have HBR := Lib.hid hb
    have HYL := Lib.hid hyl
    have hr200 : R.size ≤ 200 := HRS.out
    by_cases hlt : j < R.size
    · have hji : (j : Int) < (R.size : Int) := by omega
      have hj0 : 0 ≤ (j : Int) := by omega
      obtain ⟨d, hd, hdl⟩ : ∃ d : Nat, Int.tmod ((j : Int) * 37) ((S.size : Int) + 1) = (d : Int) ∧ d < S.size + 1 := by
        have h2 : 0 ≤ ((j : Int) * 37) % ((S.size : Int) + 1) := Int.emod_nonneg _ (by omega)
        have h3 : ((j : Int) * 37) % ((S.size : Int) + 1) < (S.size : Int) + 1 := Int.emod_lt_of_pos _ (by omega)
        exact ⟨(((j : Int) * 37) % ((S.size : Int) + 1)).toNat, by rw [Int.tmod_eq_emod_of_nonneg (by omega)]; omega, by omega⟩
      have hwm : IntKind.i64.wrap ((j : Int) * 37) = (j : Int) * 37 := IntWalk.i64_in _ (by omega)
      have hd0 : ¬ (S.size : Int) + 1 = 0 := by omega
      have hd1 : (d : Int) < (S.size : Int) + 1 := by omega
      have e0 := hrow.at_ d (by omega)
      have f0 := hrow.froz d (by omega)
      obtain ⟨x, hx⟩ : ∃ x, x = ys.getD d 0 := ⟨_, rfl⟩
      rw [← hx] at e0
      obtain ⟨y, hy⟩ : ∃ y, y = R[j] := ⟨_, rfl⟩
      obtain ⟨z, hz⟩ : ∃ z, z = x ^^^ y := ⟨_, rfl⟩
      have hxor : bits .xor .u8 (x.toNat : Int) (y.toNat : Int) = (z.toNat : Int) := by rw [hz, u8_xor_nat _ _ (UInt8.toNat_lt x) (UInt8.toNat_lt y), UInt8.toNat_xor]
      have hyy : (R[j].toNat : Int) = (y.toNat : Int) := by rw [hy]
      have HS2 := Lib.hid (BRow.set hrow d (by omega) z)
      have HYS := Lib.hid (show (ys.set d z).length = S.size + 1 by rw [List.length_set, hyl])
      have HGX := Lib.hid (show w5.heap.size ≤ g by rw [HGE.out]; exact Nat.le_refl _)
      clear hx hz hrow hb hyl hdl
      go_upto_region 8 with fail
      go_region
      have HBN := Lib.hid ((HBR.out.setCell (p := ⟨g, d, none⟩) HGX.out (.int .u8 (z.toNat : Int))).drew)
      have HSN := Lib.hid (show BRow (wr.setCell ⟨g, d, none⟩ (.int .u8 (z.toNat : Int))).drew g (ys.set d z) from ⟨HS2.out.at_, HS2.out.froz⟩)
      go_wp2_with fail
      go_roundw
      case rel => exact ⟨j + 1, ys.set d z, by omega, by go_num, HYS.out, HSN.out, HBN.out⟩
      case measure => simp [intOf]; omega
    · obtain rfl : j = R.size := by omega
      have hji : ¬ ((R.size : Int) < (R.size : Int)) := by omega
      go_upto_region 10 with fail
      obtain ⟨d, hd, hdl⟩ : ∃ d : Nat, Int.tmod (R.size : Int) ((S.size : Int) + 1) = (d : Int) ∧ d < S.size + 1 := by
        have h2 : 0 ≤ (R.size : Int) % ((S.size : Int) + 1) := Int.emod_nonneg _ (by omega)
        have h3 : (R.size : Int) % ((S.size : Int) + 1) < (S.size : Int) + 1 := Int.emod_lt_of_pos _ (by omega)
        exact ⟨((R.size : Int) % ((S.size : Int) + 1)).toNat, by rw [Int.tmod_eq_emod_of_nonneg (by omega)]; omega, by omega⟩
      have hd0 : ¬ (S.size : Int) + 1 = 0 := by omega
      have hd1 : (d : Int) ≤ (S.size : Int) := by omega
      have hd2 : d ≤ S.size := by omega
      have hz1 : ¬ 9223372036854775807 < S.size + R.size := by omega
      have hcv := run_string_brow wr.drew g cp (S.size + 1) ys ⟨HRW.out.at_, HRW.out.froz⟩ (by rw [hyl])
      obtain ⟨T2, hT2⟩ : ∃ z, z = strOf ys := ⟨_, rfl⟩
      rw [← hT2] at hcv
      have HT2 := Lib.hid (show T2.size ≤ 5000 by rw [hT2, strOf_size, hyl]; omega)
      clear hT2 hrow hb hyl hdl
      go_region
      obtain ⟨w7, hw7⟩ : ∃ z, z = (wr.alloc (.cells #[.string R, .string S, .string T2, .string (S ++ R), .string (S.extract 0 d)] 9)).drew := ⟨_, rfl⟩
      have HB7 := Lib.hid (show Below w5.heap.size w5 w7 by rw [hw7]; exact (below_nw HBR.out _).drew)
      have HH7 := Lib.hid (show Has w7 wr.heap.size 9 [.string R, .string S, .string T2, .string (S ++ R), .string (S.extract 0 d)] by rw [hw7]; exact (Has.new wr _ _).drew)
      have HT3 := Lib.hid (show (S ++ R).size ≤ 5000 by rw [ByteArray.size_append]; omega)
      have HT4 := Lib.hid (show (S.extract 0 d).size ≤ 5000 by rw [ByteArray.size_extract]; omega)
      have HS5 := Lib.hid (show S.size ≤ 5000 by omega)
      have HR5 := Lib.hid (show R.size ≤ 5000 by omega)
      rw [← hw7]
      clear hw7 hcv hd hd0 hd1 hd2 hz1
      go_wp2_with fail
      go_loopw [75] (fun i wq => ∃ k : Nat, k ≤ 5 ∧ i = .int .i64 k ∧ Below w7.heap.size w7 wq) (fun i _ => 5 - (intOf i).toNat)
      case atStart => exact ⟨0, Nat.zero_le _, rfl, Below.refl _ _⟩
      case round =>
        obtain ⟨k, hk, rfl, hb⟩ := hrel
        rename World => wq
        have HBQ := Lib.hid hb
        clear hb
        by_cases hlt5 : k < 5
        · have hki : (k : Int) < 5 := by omega
          have hk0 : 0 ≤ (k : Int) := by omega
          obtain ⟨τ, hcell, hτ⟩ : ∃ τ : List UInt8, wq.cell? ⟨wr.heap.size, k, none⟩ = some (.string (Lend.strOf τ)) ∧ τ.length ≤ 100000 := by
            have hh := HH7.out.below HBQ.out HH7.out.lt
            have hk5 : k = 0 ∨ k = 1 ∨ k = 2 ∨ k = 3 ∨ k = 4 := by omega
            have key : ∀ (s : ByteArray) (k : Nat), wq.cell? ⟨wr.heap.size, k, none⟩ = some (.string s) → s.size ≤ 5000 → ∃ τ : List UInt8, wq.cell? ⟨wr.heap.size, k, none⟩ = some (.string (Lend.strOf τ)) ∧ τ.length ≤ 100000 := by
              intro s k h hs
              refine ⟨s.data.toList, by rw [← str_self s]; exact h, ?_⟩
              have e : s.data.toList.length = s.size := by rw [Array.length_toList]; rfl
              omega
            rcases hk5 with rfl | rfl | rfl | rfl | rfl
            · exact key R 0 (hh.cell 0) HR5.out
            · exact key S 1 (hh.cell 1) HS5.out
            · exact key T2 2 (hh.cell 2) HT2.out
            · exact key _ 3 (hh.cell 3) HT3.out
            · exact key _ 4 (hh.cell 4) HT4.out
          have HPA := Lib.hid (Node.parse_any τ wq hτ)
          have HPN := Lib.hid (fun W => nparse_any (s := τ) W hτ)
          obtain ⟨T, hT⟩ : ∃ T, T = Lend.strOf τ := ⟨_, rfl⟩
          rw [← hT] at hcell HPA HPN
          have HUL := Lib.hid (show (pnU τ).length ≤ 100000 by
            unfold pnU pnK
            cases τ with
            | nil => exact Nat.zero_le _
            | cons b r =>
              simp only
              cases hkl : kidsL b.toNat r with
              | none => exact Nat.zero_le _
              | some p =>
                obtain ⟨cs, t⟩ := p
                simp only
                split
                · rename_i p hp
                  split at hp
                  · cases hp
                    have h1 := Buf.paU_len t
                    have h2 := (kidsL_len hkl).2
                    rw [List.length_cons] at hτ
                    show (paU t).length ≤ 100000
                    omega
                  · cases hp
                · exact Nat.zero_le _)
          have HCL := Lib.hid (show (pnC τ).length ≤ 100000 by
            unfold pnC pnK
            cases τ with
            | nil => exact Nat.zero_le _
            | cons b r =>
              simp only
              cases hkl : kidsL b.toNat r with
              | none => exact Nat.zero_le _
              | some p =>
                obtain ⟨cs, t⟩ := p
                simp only
                split
                · rename_i p hp
                  split at hp
                  · cases hp
                    have h1 := (kidsL_len hkl).1
                    have := b.toNat_lt
                    show cs.length ≤ 100000
                    omega
                  · cases hp
                · exact Nat.zero_le _)
          clear hT hτ
          go_wp2_with fail
          refine HPA.out.mono ?_
          clear HPA hcell
          rintro e w8 ⟨kv1, bv1, rfl, hk1, hb1, hb8⟩
          obtain ⟨D, hD⟩ : ∃ z, z = pnC τ := ⟨_, rfl⟩
          obtain ⟨M, hM⟩ : ∃ z, z = pnU τ := ⟨_, rfl⟩
          obtain ⟨E, hE⟩ : ∃ z, z = pnN τ := ⟨_, rfl⟩
          have HD := Lib.hid hD
          have HM2 := Lib.hid hM
          have HE := Lib.hid hE
          rw [← hD] at hk1 HCL
          rw [← hM] at hb1 HUL
          rw [← hE]
          obtain ⟨ka1, kc1, hs1, _⟩ := own_shape hk1
          subst hs1
          obtain ⟨ba1, bc1, hs2, _⟩ := own_shape hb1
          subst hs2
          obtain ⟨w9, hw9⟩ : ∃ z, z = w8.alloc (.cells #[.slice ka1 D.length kc1, .slice ba1 M.length bc1] 31) := ⟨_, rfl⟩
          have hb9 : Below w8.heap.size w8 w9 := by rw [hw9]; exact below_new _ _
          have HN9 := Lib.hid (show Has w9 w8.heap.size 31 [.slice ka1 D.length kc1, .slice ba1 M.length bc1] by rw [hw9]; exact Has.new w8 _ _)
          have HC9 := Lib.hid ((CR.of_own hk1).below hb9)
          have HU9 := Lib.hid ((UR.of_own hb1).below hb9)
          have HB9 := Lib.hid (below_on (below_on HBQ.out hb8) hb9)
          clear hk1 hb1 hb8 hb9 hD hM hE
          go_upto_region 14 with fail
          rw [← hw9]
          clear hw9
          go_wp2_with fail
          refine (HPN.out w9).mono ?_
          clear HPN
          rintro e w10 ⟨kv2, bv2, rfl, hk2, hb2, hb10⟩
          rw [← HD.out] at hk2
          rw [← HM2.out] at hb2
          rw [← HE.out]
          obtain ⟨ka2, kc2, hs1, _⟩ := own_shape hk2
          subst hs1
          obtain ⟨ba2, bc2, hs2, _⟩ := own_shape hb2
          subst hs2
          obtain ⟨w11, hw11⟩ : ∃ z, z = w10.alloc (.cells #[.slice ka2 D.length kc2, .slice ba2 M.length bc2] 35) := ⟨_, rfl⟩
          have hb11 : Below w10.heap.size w10 w11 := by rw [hw11]; exact below_new _ _
          have HX11 := Lib.hid (show Has w11 w10.heap.size 35 [.slice ka2 D.length kc2, .slice ba2 M.length bc2] by rw [hw11]; exact Has.new w10 _ _)
          have HN11 := Lib.hid (HN9.out.below (below_on hb10 hb11) HN9.out.lt)
          have HB11 := Lib.hid (below_on (below_on HB9.out hb10) hb11)
          have HSA := Lib.hid (same_any (HC9.out.below (below_on hb10 hb11)) (HU9.out.below (below_on hb10 hb11)) ((CR.of_own hk2).below hb11) ((UR.of_own hb2).below hb11) HUL.out HCL.out)
          have n0 : w11.cell? ⟨w8.heap.size, 0, none⟩ = some (.slice ka1 D.length kc1) := HN11.out.cell 0
          have n1 : w11.cell? ⟨w8.heap.size, 1, none⟩ = some (.slice ba1 M.length bc1) := HN11.out.cell 1
          have m0 : w11.cell? ⟨w10.heap.size, 0, none⟩ = some (.slice ka2 D.length kc2) := HX11.out.cell 0
          have m1 : w11.cell? ⟨w10.heap.size, 1, none⟩ = some (.slice ba2 M.length bc2) := HX11.out.cell 1
          clear hk2 hb2 hb10 hb11
          go_upto_region 15 with fail
          rw [← hw11]
          clear hw11
          go_wp2_with fail
          refine HSA.out.mono ?_
          clear HSA n0 n1 m0 m1
          rintro e w12 ⟨rfl, hb12⟩
          have HB12 := Lib.hid (below_on HB11.out hb12)
          clear hb12
          go_wp2_with fail
          go_roundw
          case rel => exact ⟨k + 1, by omega, by go_num, HB12.out⟩
          case measure => simp [intOf]; omega
        · obtain rfl : k = 5 := by omega
          have HBE := Lib.hid (below_on (below_on HB5.out HB7.out) HBQ.out)
          go_wp2_with fail
          refine (wakes_any wq).mono ?_
          rintro e wz ⟨rfl, hbz⟩
          have HBF := Lib.hid (below_on HBE.out hbz)
          clear hbz
          go_wp2_with fail
          go_ret
          exact ⟨rfl, HBF.out⟩

/-! ### THE ROW's STEP -/
set_option maxRecDepth 100000 in
theorem lifted (os : Os) (started : os.Started) (H : Type) (enc : TypeId × Value → H) :
    ReturnsInHanded {} Try.checked os 4 .any (Rows.nodeParsesSpec.pre6 enc Try.prog Try.f4 Rows.nodeParsesRow.domain false) (Rows.nodeParsesSpec.post enc Try.prog Try.f4 false true false false) := by
  refine returnsInHanded_of_change_sized (C := Try.checked) own started (by kernel_rfl) Try.func4
    (ChangeSpec.witness6 (enc := enc) (C := Try.checked) false ⟨#[], #[.slice none 0 0, .slice none 0 0, .string ByteArray.empty], []⟩ 8 (by kernel_rfl) (by kernel_rfl) (by kernel_rfl) (by kernel_rfl)) ?_
  intro W base args ds gs before hval0 hW hcnd hsz _
  have hval : ∀ (j : Nat) t v, Try.f4.params[j]? = some t → args[j]? = some v → Value.okWide Try.prog W .any base t v := hval0
  have hW' := hW
  obtain ⟨p, q, hA0, hV, rfl, hfz, hnd⟩ := hW
  have hA : DataW.TrodAll enc Try.prog W 0 (fun _ => true) true Try.f4.params.toList args.toList ds p := hA0
  rw [Try.params4] at hA hval
  obtain ⟨v0, vs0, d0, ds0, p0, q0, hargs, rfl, rfl, h0, r0⟩ := trodAll_cons hA
  obtain ⟨v1, vs1, d1, ds1, p1, q1, rfl, rfl, rfl, h1, r1⟩ := trodAll_cons r0
  obtain ⟨v2, vs2, d2, ds2, p2, q2, rfl, rfl, rfl, h2, r2⟩ := trodAll_cons r1
  obtain ⟨rfl, rfl, rfl⟩ := trodAll_nil r2
  obtain rfl : args = #[v0, v1, v2] := by cases args; simp_all
  obtain ⟨rfl, rfl⟩ := trodVars_none hV
  have k0 := h0
  have lt0 : ∀ x ∈ p0, x.block < W.heap.size := by obtain ⟨m, hm⟩ := k0; exact DataW.trod_lt m _ _ _ hm
  obtain ⟨a0', l0', c0', rfl⟩ := okWide_slice Try.underlying22 (hval 0 22 v0 rfl rfl)
  obtain ⟨a0, a0l, a0c, he0, w0, w0l, w0m⟩ := open_AR0 (c := .slice a0' l0' c0') (by obtain ⟨m, hm⟩ := h0; exact ⟨m, hm⟩) (fun n hn => by have := List.all_eq_true.1 hsz n (DataW.weights_mem_each (j := 0) rfl rfl n hn); simpa using this)
  simp only [Value.slice.injEq] at he0
  obtain ⟨rfl, rfl, rfl⟩ := he0
  have k1 := h1
  have lt1 : ∀ x ∈ p1, x.block < W.heap.size := by obtain ⟨m, hm⟩ := k1; exact DataW.trod_lt m _ _ _ hm
  obtain ⟨a1', l1', c1', rfl⟩ := okWide_slice Try.underlying23 (hval 1 23 v1 rfl rfl)
  obtain ⟨a1, a1l, a1c, he1, w1, w1l, w1m⟩ := open_AR1 (c := .slice a1' l1' c1') (by obtain ⟨m, hm⟩ := h1; exact ⟨m, hm⟩) (fun n hn => by have := List.all_eq_true.1 hsz n (DataW.weights_mem_each (j := 1) rfl rfl n hn); simpa using this)
  simp only [Value.slice.injEq] at he1
  obtain ⟨rfl, rfl, rfl⟩ := he1
  obtain ⟨a2, rfl, rfl, rfl, w2⟩ := open_string Try.underlying9 (hval 2 9 v2 rfl rfl) h2
  clear hA0 hval0
  refine (walk a0' l0' c0' a1' l1' c1' a2 W w0 w0l w0m w1 w1l w1m w2).mono fun e W' ⟨he, bel⟩ => ?_
  subst he
  exact ⟨_, rfl, _, _, _, [], _, [], hW', trodAll_mk1 (shut_bool Try.underlying4 _), (trodAll_cons_mk (Below.trod laidOut (by kernel_rfl) (of_decide_eq_true (by kernel_rfl)) k0 bel lt0) (trodAll_cons_mk (Below.trod laidOut (by kernel_rfl) (of_decide_eq_true (by kernel_rfl)) k1 bel lt1) (trodAll_cons_mk (shut_string Try.underlying9 w2) trodAll_mk0))), rfl, bel.frame _, fun h => by cases h⟩

theorem over : Rows.nodeParsesRow.holds Try.pinned (OpenSpec.ofChange Rows.nodeParsesSpec) :=
  OpenClaim.holds_of_wide 4 Try.f4 rfl rfl rfl rfl rfl rfl rfl ⟨rfl, rfl, rfl, rfl, rfl⟩ rfl rfl rfl rfl rfl (by kernel_rfl) Try.func4 (by kernel_rfl)
    (of_decide_eq_true (by kernel_rfl)) (by unfold Func.isWrapper; first | (rw [if_pos (by decide +kernel)]; kernel_rfl) | (rw [if_neg (by decide +kernel)]; exact ⟨rfl, rfl⟩))
    (fun os started H enc _ => lifted os started H enc)

/-- THE STATEMENT -/
theorem proved : Rows.NodeParsesSaid := over
#print axioms proved
end Go.Proofs.Ytfclecbhfamomaa.nodeParses
