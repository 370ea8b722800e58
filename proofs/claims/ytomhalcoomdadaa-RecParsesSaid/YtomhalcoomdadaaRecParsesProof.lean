/-
  The law RecParses holds: the updates, and the record, of all bytes, also with some turned or left out, are the document's, or its error. Conditions: none but the row's own.
-/
import Derived.Test.YtomhalcoomdadaaRows
import Derived.Test.YtomhalcoomdadaaRecO
import Derived.Test.YtomhalcoomdadaaStructsZ
import Derived.WalkKit
import Derived.ProofKit
import Derived.OpenShut
import Derived.ShutString
import Derived.ChangeOld
import Derived.Below
import Derived.Carry
namespace Go.Proofs.Ytomhalcoomdadaa.recParses
open Go.ChangeShapes Go.WideShapes Go.ChangeAt Go.RowKit
open Go.Proofs.Ytomhalcoomdadaa
open Go.ChangeMaps (open_string shut_string)
set_option linter.unusedVariables false

theorem own : ownKnob Try.prog.godebug = none := by kernel_rfl
theorem laidOut : laidOutB Try.prog = true := by kernel_rfl

theorem len2 {α : Type} : ∀ l : List α, l.length = 2 → ∃ z0 z1, l = [z0, z1]
  | [z0, z1], _ => ⟨z0, z1, rfl⟩
/-- the elements of argument 0 -/
def AR0 (w : World) (a : Option Addr) (len : Nat) : Prop := 0 < len → ∃ b off, a = some ⟨b, off, none⟩ ∧ ∀ i, i < len → ∃ (x0 : Int) (x1 : ByteArray) (x2 : ByteArray) (x3 : Int), w.cell? ⟨b, off + (i * 4 + 0), none⟩ = some (.int .u8 x0) ∧ (Lit.int .u8 x0).wf = true ∧ w.cell? ⟨b, off + (i * 4 + 1), none⟩ = some (.string x1) ∧ x1.size ≤ 140737488355327 ∧ w.cell? ⟨b, off + (i * 4 + 2), none⟩ = some (.string x2) ∧ x2.size ≤ 140737488355327 ∧ w.cell? ⟨b, off + (i * 4 + 3), none⟩ = some (.int .u64 x3) ∧ (Lit.int .u64 x3).wf = true
theorem open_AR0 {H : Type} {enc : TypeId × Value → H} {w : World} {held : Bool} {c : Value} {d : DataW H} {pl : List MemPlace} (h : ∃ m, DataW.trod enc Try.prog w 0 (fun _ => true) held m 22 [c] = some (d, pl)) (hz : ∀ n ∈ d.weights Try.prog 22, n ≤ reachBytes) :
    ∃ a len cap, c = .slice a len cap ∧ AR0 w a len ∧ len ≤ cap ∧ cap ≤ maxLen := by
  obtain ⟨a, len, cap, hc, hl, hm, hx⟩ := open_structs_z Try.underlying22 Try.underlying43 (by kernel_rfl) (by kernel_rfl) (by decide) h hz
  refine ⟨a, len, cap, hc, fun hpos => ?_, hl, hm⟩
  obtain ⟨b, off, ha, hf⟩ := hx hpos
  refine ⟨b, off, ha, fun i hi => ?_⟩
  obtain ⟨v0, hc0, ht0, hz0⟩ := hf i hi 0 _ rfl
  obtain ⟨x0, rfl, hw0⟩ := open_int_cell Try.underlying5 ht0
  obtain ⟨v1, hc1, ht1, hz1⟩ := hf i hi 1 _ rfl
  obtain ⟨x1, rfl, hw1'⟩ := open_str_cell Try.underlying9 ht1
  have hw1 := hz1 Try.underlying9 _ rfl
  obtain ⟨v2, hc2, ht2, hz2⟩ := hf i hi 2 _ rfl
  obtain ⟨x2, rfl, hw2'⟩ := open_str_cell Try.underlying9 ht2
  have hw2 := hz2 Try.underlying9 _ rfl
  obtain ⟨v3, hc3, ht3, hz3⟩ := hf i hi 3 _ rfl
  obtain ⟨x3, rfl, hw3⟩ := open_int_cell Try.underlying31 ht3
  exact ⟨x0, x1, x2, x3, hc0, hw0, hc1, hw1, hc2, hw2, hc3, hw3⟩

open Go.Proofs.Ytomhalcoomdadaa.Rec
def Qu (u : Up) : Prop := WfU u ∧ SmU u
theorem ups0 {w : World} {a : Option Addr} {len cap : Nat} (h : AR0 w a len) : ∃ l, len = l.length ∧ UR w (.slice a len cap) l ∧ ∀ u ∈ l, Qu u := by
  refine ur_of Qu fun h0 => ?_
  obtain ⟨b, off, ha, hx⟩ := h h0
  refine ⟨b, off, ha, fun i hi => ?_⟩
  obtain ⟨x0, x1, x2, x3, c0, h0, c1, h1, c2, h2, c3, h3⟩ := hx i hi
  exact ⟨_, ⟨⟨(u8_bd h0).1, (u8_bd h0).2, (u64_bd h3).1, (u64_bd h3).2⟩, by simpa using h1, by simpa using h2⟩, up_cells c0 c1 c2 c3⟩

/-! ### STEP 1: THE WALK -/
set_option maxHeartbeats 8000000 in
set_option maxRecDepth 100000 in
theorem walk (a0 : Option Addr) (a0l a0c : Nat) (a1 : ByteArray) (a2x0 a2x1 : Int) (w : World) (w0 : AR0 w a0 a0l) (w0l : a0l ≤ a0c) (w0m : a0c ≤ maxLen) (w1 : a1.size ≤ maxLen) (w2x0 : (Lit.int .u16 a2x0).wf = true) (w2x1 : (Lit.int .u16 a2x1).wf = true) :
    Calls Try.prog 4 #[.slice a0 a0l a0c, .string a1, .agg #[.int .u16 a2x0, .int .u16 a2x1]] w fun e w' => e = .returned (.bool true) ∧ Below w.heap.size w w' := by
  obtain ⟨l, hl, hu, hq⟩ := ups0 (cap := a0c) w0
  have HU := Lib.hid hu
  have HN := Lib.hid hl
  have HQ := Lib.hid hq
  have HNC := Lib.hid (show a0l ≤ a0c ∧ a0c ≤ 9223372036854775807 from ⟨w0l, by unfold maxLen at w0m; exact w0m⟩)
  clear hl hu hq w0 w0l w0m
  obtain ⟨ilu, hilu, hlu0, hlu1, hlu2⟩ := info_parts info_lu
  have HX0 := Lib.hid (u16_bd w2x0)
  have HX1 := Lib.hid (u16_bd w2x1)
  unfold maxLen at w1
  obtain ⟨w0, hw0⟩ : ∃ x, x = w.alloc (.cells #[.int .u16 a2x0, .int .u16 a2x1] 41) := ⟨_, rfl⟩
  have HB0 := Lib.hid (show Below w.heap.size w w0 by rw [hw0]; exact below_new _ _)
  have HAT := Lib.hid (show Has w0 w.heap.size 41 [.int .u16 a2x0, .int .u16 a2x1] by rw [hw0]; exact Has.new _ _ _)
  have HU0 := Lib.hid (HU.out.below HB0.out)
  clear w2x0 w2x1
  go_enter Try.func4, Try.ntmps4
  go_upto_region 1 with fail
  rw [← hw0]
  go_cut [1] (fun s wx => ∃ R : ByteArray, R.size ≤ 200 ∧ s = .string R ∧ wx = w0)
  case first =>
    go_wp2_with fail
    all_goals
      go_meet
      exact ⟨_, by first | omega | (simp; omega), rfl, hw0.symm⟩
  case rest =>
    obtain ⟨R, hR, rfl, hww⟩ := hcut
    have hww := hww.symm
    subst hww
    clear hw0 w1
    obtain ⟨M, hm⟩ : ∃ m, m = min a0l 8 := ⟨_, rfl⟩
    have HMM := Lib.hid hm
    go_upto_region 3 with fail
    go_cut [34, 35, 36] (fun s t i wx => ∃ a' cap', s = .slice a' M cap' ∧ t = .int .i64 M ∧ i = .int .i64 ((0 : Nat) : Int) ∧ (0 < M → a' = a0) ∧ wx = w0)
    case first =>
      have hnc := HNC.out
      go_wp2_with fail
      all_goals
        go_meet
        first
        | (have e : M = 8 := by have := HMM.out; omega
           exact ⟨_, _, by rw [e], by rw [e]; rfl, rfl, fun _ => rfl, rfl⟩)
        | (have e : M = a0l := by have := HMM.out; omega
           exact ⟨_, _, by rw [e], by rw [e], rfl, fun _ => rfl, rfl⟩)
    case rest =>
      obtain ⟨s, c, rfl, rfl, rfl, haa, hww⟩ := hcut
      have hww := hww.symm
      subst hww
      have hml : M ≤ l.length ∧ M ≤ 8 := by have := HMM.out; have := HN.out; omega
      obtain ⟨hml, hmk⟩ := hml
      have HAA := Lib.hid haa
      clear hm haa
      go_wp2_with fail
      go_loopw [7, 36] (fun av i wr => ∃ (k : Nat) (av' : Value), k ≤ M ∧ av' = av ∧ i = .int .i64 k ∧ RT wr w0.heap.size av' (tmL 8 (l.take k)) ∧ Below w0.heap.size w0 wr) (fun _ i _ => M - (intOf i).toNat)
      case atStart => exact ⟨0, _, Nat.zero_le _, rfl, rfl, World.ownsRow_nil _ _ _ _, Below.refl _ _⟩
      case round =>
        obtain ⟨k, V, hk, rfl, rfl, hrow, hb⟩ := hrel
        rename World => wr
        by_cases hlt : k < M
        · have hke : k < l.length := by omega
          have hki : (k : Int) < (M : Int) := by omega
          obtain ⟨g, off, hg, hcc⟩ := UR.at_ HU0.out (by omega)
          obtain rfl : s = some ⟨g, off, none⟩ := by rw [HAA.out (by omega), hg]
          have hcc := hcc k hke
          have HQU := Lib.hid (HQ.out _ (List.getElem_mem hke))
          have HTM := Lib.hid (tmL_snoc (K := 8) hke (by omega))
          obtain ⟨u, hu⟩ : ∃ u, u = l[k] := ⟨_, rfl⟩
          rw [← hu] at hcc HQU HTM
          have hbc : ∀ j x, j < 4 → (encU u)[j]? = some x → wr.cell? ⟨g, off + k * 4 + j, none⟩ = some x := fun j x hj hx => by
            have h1 := (hcc j hj).trans hx
            rw [(hb).cell (World.block_lt_of_cell? _ _ h1)]; exact h1
          have c0 : wr.cell? ⟨g, off + k * 4, none⟩ = some (.int .u8 u.kind) := hbc 0 _ (by omega) rfl
          have c1 : wr.cell? ⟨g, off + k * 4 + 1, none⟩ = some (.string (Lend.strOf u.key)) := hbc 1 _ (by omega) rfl
          have c2 : wr.cell? ⟨g, off + k * 4 + 2, none⟩ = some (.string (Lend.strOf u.val)) := hbc 2 _ (by omega) rfl
          have c3 : wr.cell? ⟨g, off + k * 4 + 3, none⟩ = some (.int .u64 u.delta) := hbc 3 _ (by omega) rfl
          have HR := Lib.hid hrow
          have HBR := Lib.hid hb
          have hTl : (tmL 8 (l.take k)).length ≤ 8 := by rw [tmL_length]; omega
          obtain ⟨T, hT⟩ : ∃ x, x = tmL 8 (l.take k) := ⟨_, rfl⟩
          rw [← hT] at HR HTM hTl
          clear hcc hu hbc hke hg hb hrow hT
          go_wp2_with fail
          refine (tame_at u _ HQU.out.1 HQU.out.2).mono ?_
          rintro e w2 ⟨rfl, hb2⟩
          have HB2 := Lib.hid (below_on (below_nw HBR.out _) hb2)
          have HR2 := Lib.hid (show RT w2 w0.heap.size V T from own_bel (HR.out.alloc _) hb2)
          clear hb2 c0 c1 c2 c3
          have HET := Lib.hid (show encU (tmU u) = [.int .u8 (tmU u).kind, .string (Lend.strOf (tmU u).key), .string (Lend.strOf (tmU u).val), .int .u64 (tmU u).delta] from rfl)
          obtain ⟨x, hx⟩ : ∃ x, x = tmU u := ⟨_, rfl⟩
          rw [← hx] at HET HTM ⊢
          clear hx
          have HNW := Lib.hid (show ∀ j y, (encU x)[j]? = some y → (w2.alloc (.cells #[.int .u8 x.kind, .string (Lend.strOf x.key), .string (Lend.strOf x.val), .int .u64 x.delta] 43)).cell? ((⟨w2.heap.size, 0, none⟩ : Addr).add j) = some y from by rw [HET.out]; exact has_news (Has.new w2 [.int .u8 x.kind, .string (Lend.strOf x.key), .string (Lend.strOf x.val), .int .u64 x.delta] _))
          have HB3 := Lib.hid (below_nw HB2.out (.cells #[.int .u8 x.kind, .string (Lend.strOf x.key), .string (Lend.strOf x.val), .int .u64 x.delta] 43))
          go_wp2_with (at_builtin; refine wpList_append_own _ rfl _ _ 22 rfl w0.heap.size 43 ilu _ 4 48 Try.underlying22 hilu hlu0 hlu1 hlu2 rfl (by decide) _ T.length (flatU T) rfl (HR2.out.alloc _) ⟨w2.heap.size, 0, none⟩ 1 1 (encU x) rfl rfl HNW.out (enc_one _) ?d1 ?d2 ?d3 ?_)
          case d1 => unfold maxLen; omega
          case d2 => omega
          case d3 => exact HB3.out.size
          intro v4 w4 hown4 hgr _
          have HR4 := Lib.hid (show RT w4 w0.heap.size v4 (T ++ [x]) by unfold RT; rw [flatU_snoc, List.length_append]; exact hown4)
          have HB4 := Lib.hid (HB3.out.grown hgr HB3.out.size (fun q hq => (HR2.out.lt q hq).1))
          clear hown4 hgr
          go_wp2_with fail
          go_roundw
          case rel => exact ⟨k + 1, _, by omega, rfl, by go_num, by rw [HTM.out]; exact HR4.out, HB4.out⟩
          case measure => simp [intOf]; omega
        · obtain rfl : k = M := by omega
          have hki : ¬ (k : Int) < (k : Int) := by omega
          have htk : tmL 8 (l.take k) = tmL 8 l := by
            unfold tmL
            rw [List.take_take]
            congr 1
            rw [List.take_eq_take_iff]
            have := HMM.out; have := HN.out; omega
          rw [htk] at hrow
          have HM := Lib.hid hrow
          have HL := Lib.hid hb
          clear hrow hb htk hml hmk hk hlt
          obtain ⟨vo, vc, rfl, hvc, hvm⟩ := own_cap HM.out
          have hok := tmL_ok (K := 8) (fun u hu => (HQ.out u hu).1)
          have hml : (tmL 8 l).length ≤ 8 := by rw [tmL_length]; omega
          obtain ⟨m, hm⟩ : ∃ x, x = tmL 8 l := ⟨_, rfl⟩
          rw [← hm] at HM hvc hok hml ⊢
          have HCH := Lib.hid hok.1
          have HWF := Lib.hid hok.2
          have HOL := Lib.hid (ofL_ok hok.1 (by omega))
          have HVC := Lib.hid (And.intro hvc hvm)
          have HML := Lib.hid hml
          clear hvc hvm hok hml hm
          have HOF := Lib.hid (of_any (UR.of_own HM.out) rfl HVC.out.1 HVC.out.2 (szU_ok HCH.out))
          rw [HOL.out] at HOF
          obtain ⟨n, hn⟩ : ∃ n, n = m.length := ⟨_, rfl⟩
          have HN2 := Lib.hid hn
          rw [← hn] at HOF ⊢
          clear hn
          go_wp2_with fail
          refine HOF.out.mono ?_
          rintro e w1 ⟨a, b, rfl, hra, hru, hb1⟩
          have HB1 := Lib.hid (below_on HL.out hb1)
          have HUB := Lib.hid (UR.of_own hru)
          obtain ⟨bo, bc, hb⟩ := HUB.out.slice
          rw [← HN2.out] at hb
          subst hb
          clear hra hru hb1 HOF
          have HTX := Lib.hid (reftext_any HUB.out (by have := HML.out; omega) HWF.out)
          rw [txT_ok HCH.out, errL_ok HCH.out] at HTX
          have HER := Lib.hid (errL_ok HCH.out)
          have HTL := Lib.hid (show (txL m).length ≤ 408 by have := txL_le m HER.out; have := HML.out; omega)
          go_wp2_with fail
          refine HTX.out.mono ?_
          rintro e w2 ⟨rfl, hb2⟩
          have HB2 := Lib.hid (below_on HB1.out hb2)
          have HU2 := Lib.hid (HUB.out.below hb2)
          have hat2 := HAT.out.below HB2.out HAT.out.lt
          have HAT2 := Lib.hid hat2
          have q0 : w2.cell? ⟨w.heap.size, 0, none⟩ = some (.int .u16 a2x0) := hat2.cell 0
          have q1 : w2.cell? ⟨w.heap.size, 1, none⟩ = some (.int .u16 a2x1) := hat2.cell 1
          have HF := Lib.hid (show Wf3 a2x0 a2x1 m.length from ⟨HX0.out.1, by have := HX0.out.2; omega, HX1.out.1, by have := HX1.out.2; omega, by have := HML.out; omega⟩)
          have hx00 := HX0.out.1
          have hx01 : a2x0 ≤ 65535 := by have := HX0.out.2; omega
          have hx10 := HX1.out.1
          have hx11 : a2x1 ≤ 65535 := by have := HX1.out.2; omega
          clear hat2 hb2 HTX
          go_wp2_with fail
          have HPY := Lib.hid (refPayload_any a2x0 a2x1 HU2.out HF.out HWF.out)
          refine HPY.out.mono ?_
          rintro e w3 ⟨rfl, hb3⟩
          have HB3 := Lib.hid (below_on HB2.out hb3)
          have hat3 := HAT2.out.below hb3 HAT2.out.lt
          have HAT3 := Lib.hid hat3
          have HPL := Lib.hid (show (pyT a2x0 a2x1 m).length ≤ 422 by rw [pyT_ok HCH.out, List.length_append, hd3_length]; have := HTL.out; omega)
          obtain ⟨S, hS⟩ : ∃ x, x = Lend.strOf (txL m) := ⟨_, rfl⟩
          obtain ⟨P, hP⟩ : ∃ x, x = Lend.strOf (pyT a2x0 a2x1 m) := ⟨_, rfl⟩
          rw [← hS, ← hP]
          have hss : S.size ≤ 408 := by rw [hS, ssize]; exact HTL.out
          have hps : P.size ≤ 422 := by rw [hP, ssize]; exact HPL.out
          clear q0 q1 hat3 hb3 hS hP HPY
          have hcv := run_bytes_brow w3 (S ++ ⟨#[120]⟩)
          have hrow := brow_bytesWorld w3 (S ++ ⟨#[120]⟩) 5
          have hb4 := below_bytesWorld w3 5 (S ++ ⟨#[120]⟩)
          have hsz4 : w3.heap.size < (Lib.bytesWorld w3 5 (S ++ ⟨#[120]⟩)).heap.size := by rw [Lib.bytesWorld_size]; omega
          have hsx : (S ++ ⟨#[120]⟩ : ByteArray).size = S.size + 1 := by rw [ByteArray.size_append, show (⟨#[120]⟩ : ByteArray).size = 1 from rfl]
          rw [hsx] at hcv
          obtain ⟨cp, hcp⟩ : ∃ c, c = grownCap w3 (S.size + 1) 0 5 := ⟨_, rfl⟩
          obtain ⟨xs, hxs⟩ : ∃ x, x = (S ++ ⟨#[120]⟩ : ByteArray).data.toList := ⟨_, rfl⟩
          obtain ⟨w4, hw4⟩ : ∃ x, x = Lib.bytesWorld w3 5 (S ++ ⟨#[120]⟩) := ⟨_, rfl⟩
          obtain ⟨g, hg⟩ : ∃ g, g = w3.heap.size := ⟨_, rfl⟩
          have hxl : xs.length = S.size + 1 := by rw [hxs, Lend.bytes_length, hsx]
          rw [← hcp, ← hw4, ← hg] at hcv
          rw [← hw4, ← hxs, ← hg] at hrow
          rw [← hw4] at hb4 hsz4
          rw [← hg] at hsz4
          have HGA := Lib.hid (show w0.heap.size ≤ g by rw [hg]; exact HB3.out.size)
          have HB4 := Lib.hid (below_on HB3.out hb4)
          have HROW := Lib.hid hrow
          have HGL := Lib.hid hsz4
          have HAT4 := Lib.hid (HAT3.out.below hb4 HAT3.out.lt)
          have HXL := Lib.hid hxl
          have HAG := Lib.hid (show w.heap.size < g by have := HAT.out.lt; have := HGA.out; omega)
          obtain ⟨d, hd, hdl⟩ : ∃ d : Nat, a2x0 % ((S.size : Int) + 1) = (d : Int) ∧ d < S.size + 1 := by
            have h1 : 0 ≤ a2x0 % ((S.size : Int) + 1) := Int.emod_nonneg _ (by omega)
            have h2 : a2x0 % ((S.size : Int) + 1) < (S.size : Int) + 1 := Int.emod_lt_of_pos _ (by omega)
            exact ⟨(a2x0 % ((S.size : Int) + 1)).toNat, by omega, by omega⟩
          clear hsx hcp hxs hw4 hg hrow hb4 hsz4 hxl
          go_wp2_with fail
          go_upto_region 12 with fail
          obtain ⟨y, hy⟩ : ∃ y : UInt8, (y.toNat : Int) = a2x1 % 256 := ⟨UInt8.ofNat (a2x1 % 256).toNat, by rw [UInt8.toNat_ofNat']; omega⟩
          have hyw : IntKind.u8.wrap a2x1 = (y.toNat : Int) := by rw [hy]; rfl
          have hym : a2x1 % 256 = (y.toNat : Int) := hy.symm
          obtain ⟨x, hx⟩ : ∃ x, x = xs.getD d 0 := ⟨_, rfl⟩
          obtain ⟨z, hz⟩ : ∃ z, z = x ^^^ y := ⟨_, rfl⟩
          have hxor : bits .xor .u8 (x.toNat : Int) (y.toNat : Int) = (z.toNat : Int) := by rw [hz, u8_xor_nat _ _ (Sum.u8_lt x) (Sum.u8_lt y), UInt8.toNat_xor]
          have HXX := Lib.hid hx
          have hd1 : ¬ (S.size : Int) + 1 = 0 := by omega
          have hdl2 : (d : Int) < (S.size : Int) + 1 := by omega
          have HDL := Lib.hid hdl
          have hws : IntKind.i64.wrap ((S.size : Int) + 1) = (S.size : Int) + 1 := IntWalk.i64_in _ (by omega)
          have hwp : IntKind.i64.wrap ((P.size : Int) + 1) = (P.size : Int) + 1 := IntWalk.i64_in _ (by omega)
          have hsr : S.size + R.size ≤ 9223372036854775807 := by omega
          have hpr : P.size + R.size ≤ 9223372036854775807 := by omega
          have hwi : IntKind.i64.wrap a2x0 = a2x0 := IntWalk.i64_in _ (by omega)
          have hdt : a2x0.tmod ((S.size : Int) + 1) = (d : Int) := by rw [Int.tmod_eq_emod_of_nonneg hx00]; exact hd
          clear hy hx hz
          refine Reg.region_vals (by kernel_rfl) [(71, .slice (some ⟨g, 0, none⟩) (S.size + 1) cp), (72, .pointer (some ⟨w.heap.size, 0, none⟩)), (73, .int .u16 a2x0), (74, .int .i64 a2x0), (75, .slice (some ⟨g, 0, none⟩) (S.size + 1) cp), (76, .int .i64 ((S.size : Int) + 1)), (77, .int .i64 (d : Nat)), (78, .pointer (some ⟨g, d, none⟩)), (79, .int .u8 (x.toNat : Int)), (80, .pointer (some ⟨w.heap.size, 1, none⟩)), (81, .int .u16 a2x1), (82, .int .u8 (y.toNat : Int)), (83, .int .u8 (z.toNat : Int)), (84, .pointer (some ⟨g, d, none⟩))] (fun l wy => Tn w w0 g a2x0 a2x1 (bif l 14 then xs.set d z else xs) wy) (by kernel_rfl) (by kernel_rfl) (by kernel_rfl) (Tn.drew ⟨HROW.out, HAT4.out, HB4.out, HGL.out, HAG.out⟩) ⟨?_, ?_, ?_, ?_, ?_, ?_, ?_, ?_, ?_, ?_, ?_, ?_, ?_, ?_, ?_, trivial⟩ ?hend
          · -- 0: 71 := Op.move t16
            intro aq wq lq hI hl hdone hlater hold hd ho
            have h16 : aq.tmps.getD 16 undef = .slice (some ⟨g, 0, none⟩) (S.size + 1) cp := ho 16 (by kernel_rfl)
            clear hd ho hdone hlater hold
            exact Reg.step2_move (.tmp 16) rfl h16 hI trivial
          · -- 1: 72 := Op.indexAddr 41 t5 (const (0:i64))
            intro aq wq lq hI hl hdone hlater hold hd ho
            have h5 : aq.tmps.getD 5 undef = .pointer (some ⟨w.heap.size, 0, none⟩) := ho 5 (by kernel_rfl)
            clear hd ho hdone hlater hold
            rw [Array.getD_eq_getD_getElem?] at h5
            refine Reg.step2_val (.pointer (some ⟨w.heap.size, 0, none⟩)) ?_ rfl hI trivial
            go_simp
          · -- 2: 73 := Op.load 40 t72
            intro aq wq lq hI hl hdone hlater hold hd ho
            have h72 : aq.tmps.getD 72 undef = .pointer (some ⟨w.heap.size, 0, none⟩) := hd 72 (by kernel_rfl)
            clear hd ho hdone hlater hold
            rw [Array.getD_eq_getD_getElem?] at h72
            have e0 : wq.cell? ⟨w.heap.size, 0, none⟩ = some (.int .u16 a2x0) := hI.at_.cell 0
            refine Reg.step2_val (.int .u16 a2x0) ?_ rfl hI trivial
            clear hI
            go_simp
          · -- 3: 74 := Op.convert 40 3 t73
            intro aq wq lq hI hl hdone hlater hold hd ho
            have h73 : aq.tmps.getD 73 undef = .int .u16 a2x0 := hd 73 (by kernel_rfl)
            clear hd ho hdone hlater hold
            rw [Array.getD_eq_getD_getElem?] at h73
            refine Reg.step2_val (.int .i64 a2x0) ?_ rfl hI trivial
            simp [execOp, Act.eval, h73]
            try go_simp
          · -- 4: 75 := Op.move t16
            intro aq wq lq hI hl hdone hlater hold hd ho
            have h16 : aq.tmps.getD 16 undef = .slice (some ⟨g, 0, none⟩) (S.size + 1) cp := ho 16 (by kernel_rfl)
            clear hd ho hdone hlater hold
            exact Reg.step2_move (.tmp 16) rfl h16 hI trivial
          · -- 5: 76 := Op.call ( builtin len, args := #(t75), argTypes := #(49) )
            intro aq wq lq hI hl hdone hlater hold hd ho
            have h75 : aq.tmps.getD 75 undef = .slice (some ⟨g, 0, none⟩) (S.size + 1) cp := hd 75 (by kernel_rfl)
            clear hd ho hdone hlater hold
            rw [Array.getD_eq_getD_getElem?] at h75
            refine Reg.step2_val (.int .i64 ((S.size : Int) + 1)) ?_ rfl hI trivial
            simp [execOp]
            go_simp
          · -- 6: 77 := Op.binOp BinOp.rem 3 t74 t76 3
            intro aq wq lq hI hl hdone hlater hold hd ho
            have h74 : aq.tmps.getD 74 undef = .int .i64 a2x0 := hd 74 (by kernel_rfl)
            have h76 : aq.tmps.getD 76 undef = .int .i64 ((S.size : Int) + 1) := hd 76 (by kernel_rfl)
            clear hd ho hdone hlater hold
            rw [Array.getD_eq_getD_getElem?] at h74 h76
            refine Reg.step2_val (.int .i64 (d : Nat)) ?_ rfl hI trivial
            simp [execOp, Act.eval, h74, h76]
            try go_simp
          · -- 7: 78 := Op.indexAddr 49 t71 t77
            intro aq wq lq hI hl hdone hlater hold hd ho
            have h71 : aq.tmps.getD 71 undef = .slice (some ⟨g, 0, none⟩) (S.size + 1) cp := hd 71 (by kernel_rfl)
            have h77 : aq.tmps.getD 77 undef = .int .i64 (d : Nat) := hd 77 (by kernel_rfl)
            clear hd ho hdone hlater hold
            rw [Array.getD_eq_getD_getElem?] at h71 h77
            refine Reg.step2_val (.pointer (some ⟨g, d, none⟩)) ?_ rfl hI trivial
            go_simp
          · -- 8: 79 := Op.load 5 t78
            intro aq wq lq hI hl hdone hlater hold hd ho
            have h78 : aq.tmps.getD 78 undef = .pointer (some ⟨g, d, none⟩) := hd 78 (by kernel_rfl)
            have gl14 : lq 14 = false := hlater 14 (by kernel_rfl)
            clear hd ho hdone hlater hold
            rw [Array.getD_eq_getD_getElem?] at h78
            have hJ := hI
            rw [gl14] at hJ
            have e0 : wq.cell? ⟨g, d, none⟩ = some (.int .u8 (x.toNat : Int)) := by rw [HXX.out]; exact hJ.row.at_ d (by rw [cond_false, HXL.out]; exact HDL.out)
            refine Reg.step2_val (.int .u8 (x.toNat : Int)) ?_ rfl hI trivial
            clear hI hJ
            go_simp
          · -- 9: 80 := Op.indexAddr 41 t5 (const (1:i64))
            intro aq wq lq hI hl hdone hlater hold hd ho
            have h5 : aq.tmps.getD 5 undef = .pointer (some ⟨w.heap.size, 0, none⟩) := ho 5 (by kernel_rfl)
            clear hd ho hdone hlater hold
            rw [Array.getD_eq_getD_getElem?] at h5
            refine Reg.step2_val (.pointer (some ⟨w.heap.size, 1, none⟩)) ?_ rfl hI trivial
            go_simp
          · -- 10: 81 := Op.load 40 t80
            intro aq wq lq hI hl hdone hlater hold hd ho
            have h80 : aq.tmps.getD 80 undef = .pointer (some ⟨w.heap.size, 1, none⟩) := hd 80 (by kernel_rfl)
            clear hd ho hdone hlater hold
            rw [Array.getD_eq_getD_getElem?] at h80
            have e0 : wq.cell? ⟨w.heap.size, 1, none⟩ = some (.int .u16 a2x1) := hI.at_.cell 1
            refine Reg.step2_val (.int .u16 a2x1) ?_ rfl hI trivial
            clear hI
            go_simp
          · -- 11: 82 := Op.convert 40 5 t81
            intro aq wq lq hI hl hdone hlater hold hd ho
            have h81 : aq.tmps.getD 81 undef = .int .u16 a2x1 := hd 81 (by kernel_rfl)
            clear hd ho hdone hlater hold
            rw [Array.getD_eq_getD_getElem?] at h81
            refine Reg.step2_val (.int .u8 (y.toNat : Int)) ?_ rfl hI trivial
            simp [execOp, Act.eval, h81]
            try go_simp
          · -- 12: 83 := Op.binOp BinOp.xor 5 t79 t82 5
            intro aq wq lq hI hl hdone hlater hold hd ho
            have h79 : aq.tmps.getD 79 undef = .int .u8 (x.toNat : Int) := hd 79 (by kernel_rfl)
            have h82 : aq.tmps.getD 82 undef = .int .u8 (y.toNat : Int) := hd 82 (by kernel_rfl)
            clear hd ho hdone hlater hold
            rw [Array.getD_eq_getD_getElem?] at h79 h82
            refine Reg.step2_val (.int .u8 (z.toNat : Int)) ?_ rfl hI trivial
            simp [execOp, Act.eval, h79, h82]
            try go_simp
          · -- 13: 84 := Op.indexAddr 49 t71 t77
            intro aq wq lq hI hl hdone hlater hold hd ho
            have h71 : aq.tmps.getD 71 undef = .slice (some ⟨g, 0, none⟩) (S.size + 1) cp := hd 71 (by kernel_rfl)
            have h77 : aq.tmps.getD 77 undef = .int .i64 (d : Nat) := hd 77 (by kernel_rfl)
            clear hd ho hdone hlater hold
            rw [Array.getD_eq_getD_getElem?] at h71 h77
            refine Reg.step2_val (.pointer (some ⟨g, d, none⟩)) ?_ rfl hI trivial
            go_simp
          · -- 14: None := Op.store 5 t84 t83
            intro aq wq lq hI hl hdone hlater hold hd ho
            have h84 : aq.tmps.getD 84 undef = .pointer (some ⟨g, d, none⟩) := hd 84 (by kernel_rfl)
            have h83 : aq.tmps.getD 83 undef = .int .u8 (z.toNat : Int) := hd 83 (by kernel_rfl)
            clear hd ho hdone hlater hold
            rw [Array.getD_eq_getD_getElem?] at h84 h83
            have hJ := hI
            clear hI
            rw [show lq 14 = false from hl, cond_false] at hJ
            have e0 := hJ.row.at_ d (by rw [HXL.out]; exact HDL.out)
            have f0 := hJ.row.froz d (by rw [HXL.out]; exact HDL.out)
            refine Reg.step2_skip (wq.setCell ⟨g, d, none⟩ (.int .u8 (z.toNat : Int))) rfl ?_ (hJ.set HGA.out (by rw [HXL.out]; exact HDL.out) _) trivial
            clear hJ
            simp [execOp]
            go_simp
          case hend =>
          intro wx hI
          simp only [Reg.fill, List.foldl_cons, List.foldl_nil, List.setIfInBounds_toArray, List.set_cons_zero, List.set_cons_succ]
          obtain ⟨zs, hzs⟩ : ∃ ys, ys = xs.set d z := ⟨_, rfl⟩
          have HZL := Lib.hid (show S.size + 1 = zs.length by rw [hzs, List.length_set, HXL.out])
          have HTN := Lib.hid (show Tn w w0 g a2x0 a2x1 zs wx by rw [hzs]; exact hI)
          clear hI hzs hyw hym hxor
          go_wp2_with fail
          have hd0 : d ≤ S.size := by have := HDL.out; omega
          obtain ⟨f, hf, hfl⟩ : ∃ f : Nat, a2x0.tmod ((P.size : Int) + 1) = (f : Int) ∧ f ≤ P.size := by
            rw [Int.tmod_eq_emod_of_nonneg hx00]
            have h1 : 0 ≤ a2x0 % ((P.size : Int) + 1) := Int.emod_nonneg _ (by omega)
            have h2 : a2x0 % ((P.size : Int) + 1) < (P.size : Int) + 1 := Int.emod_lt_of_pos _ (by omega)
            exact ⟨(a2x0 % ((P.size : Int) + 1)).toNat, by omega, by omega⟩
          have hp1 : ¬ (P.size : Int) + 1 = 0 := by omega
          obtain ⟨G, hG⟩ : ∃ G, wx.heap.size = G := ⟨_, rfl⟩
          have HT13 := Lib.hid (show T13 w w0 g a2x0 a2x1 zs G R S P (S ++ R) (P ++ R) (strOf zs) (S.extract 0 d) (P.extract 0 f) false wx from ⟨HTN.out, fun _ => hG, fun h => by cases h⟩)
          have HG := Lib.hid hG
          clear hG hd hdl hdl2
          refine Reg.region_vals (by kernel_rfl) [(85, .string R), (86, .string S), (87, .string S), (88, .string R), (89, .string (S ++ R)), (90, .string P), (91, .string P), (92, .string R), (93, .string (P ++ R)), (94, .slice (some ⟨g, 0, none⟩) (S.size + 1) cp), (95, .string (strOf zs)), (96, .string S), (97, .pointer (some ⟨w.heap.size, 0, none⟩)), (98, .int .u16 a2x0), (99, .int .i64 a2x0), (100, .string S), (101, .int .i64 (S.size : Nat)), (102, .int .i64 ((S.size : Int) + 1)), (103, .int .i64 (d : Nat)), (104, .string (S.extract 0 d)), (105, .string P), (106, .pointer (some ⟨w.heap.size, 0, none⟩)), (107, .int .u16 a2x0), (108, .int .i64 a2x0), (109, .string P), (110, .int .i64 (P.size : Nat)), (111, .int .i64 ((P.size : Int) + 1)), (112, .int .i64 (f : Nat)), (113, .string (P.extract 0 f)), (114, .slice (some ⟨G, 0, none⟩) 8 8), (115, .int .i64 8), (116, .int .i64 0)] (fun l wy => T13 w w0 g a2x0 a2x1 zs G R S P (S ++ R) (P ++ R) (strOf zs) (S.extract 0 d) (P.extract 0 f) (l 29) wy) (by kernel_rfl) (by kernel_rfl) (by kernel_rfl) (HT13.out.drew) ⟨?_, ?_, ?_, ?_, ?_, ?_, ?_, ?_, ?_, ?_, ?_, ?_, ?_, ?_, ?_, ?_, ?_, ?_, ?_, ?_, ?_, ?_, ?_, ?_, ?_, ?_, ?_, ?_, ?_, ?_, ?_, ?_, trivial⟩ ?hend
          · -- 0: 85 := Op.move t1
            intro aq wq lq hI hl hdone hlater hold hd ho
            have h1 : aq.tmps.getD 1 undef = .string R := ho 1 (by kernel_rfl)
            clear hd ho hdone hlater hold
            exact Reg.step2_move (.tmp 1) rfl h1 hI trivial
          · -- 1: 86 := Op.move t12
            intro aq wq lq hI hl hdone hlater hold hd ho
            have h12 : aq.tmps.getD 12 undef = .string S := ho 12 (by kernel_rfl)
            clear hd ho hdone hlater hold
            exact Reg.step2_move (.tmp 12) rfl h12 hI trivial
          · -- 2: 87 := Op.move t12
            intro aq wq lq hI hl hdone hlater hold hd ho
            have h12 : aq.tmps.getD 12 undef = .string S := ho 12 (by kernel_rfl)
            clear hd ho hdone hlater hold
            exact Reg.step2_move (.tmp 12) rfl h12 hI trivial
          · -- 3: 88 := Op.move t1
            intro aq wq lq hI hl hdone hlater hold hd ho
            have h1 : aq.tmps.getD 1 undef = .string R := ho 1 (by kernel_rfl)
            clear hd ho hdone hlater hold
            exact Reg.step2_move (.tmp 1) rfl h1 hI trivial
          · -- 4: 89 := Op.binOp BinOp.add 9 t87 t88 9
            intro aq wq lq hI hl hdone hlater hold hd ho
            have h87 : aq.tmps.getD 87 undef = .string S := hd 87 (by kernel_rfl)
            have h88 : aq.tmps.getD 88 undef = .string R := hd 88 (by kernel_rfl)
            clear hd ho hdone hlater hold
            rw [Array.getD_eq_getD_getElem?] at h87 h88
            refine Reg.step2_val (.string (S ++ R)) ?_ rfl hI trivial
            simp [execOp, Act.eval, h87, h88]
            try go_simp
          · -- 5: 90 := Op.move t14
            intro aq wq lq hI hl hdone hlater hold hd ho
            have h14 : aq.tmps.getD 14 undef = .string P := ho 14 (by kernel_rfl)
            clear hd ho hdone hlater hold
            exact Reg.step2_move (.tmp 14) rfl h14 hI trivial
          · -- 6: 91 := Op.move t14
            intro aq wq lq hI hl hdone hlater hold hd ho
            have h14 : aq.tmps.getD 14 undef = .string P := ho 14 (by kernel_rfl)
            clear hd ho hdone hlater hold
            exact Reg.step2_move (.tmp 14) rfl h14 hI trivial
          · -- 7: 92 := Op.move t1
            intro aq wq lq hI hl hdone hlater hold hd ho
            have h1 : aq.tmps.getD 1 undef = .string R := ho 1 (by kernel_rfl)
            clear hd ho hdone hlater hold
            exact Reg.step2_move (.tmp 1) rfl h1 hI trivial
          · -- 8: 93 := Op.binOp BinOp.add 9 t91 t92 9
            intro aq wq lq hI hl hdone hlater hold hd ho
            have h91 : aq.tmps.getD 91 undef = .string P := hd 91 (by kernel_rfl)
            have h92 : aq.tmps.getD 92 undef = .string R := hd 92 (by kernel_rfl)
            clear hd ho hdone hlater hold
            rw [Array.getD_eq_getD_getElem?] at h91 h92
            refine Reg.step2_val (.string (P ++ R)) ?_ rfl hI trivial
            simp [execOp, Act.eval, h91, h92]
            try go_simp
          · -- 9: 94 := Op.move t16
            intro aq wq lq hI hl hdone hlater hold hd ho
            have h16 : aq.tmps.getD 16 undef = .slice (some ⟨g, 0, none⟩) (S.size + 1) cp := ho 16 (by kernel_rfl)
            clear hd ho hdone hlater hold
            exact Reg.step2_move (.tmp 16) rfl h16 hI trivial
          · -- 10: 95 := Op.convert 49 9 t94
            intro aq wq lq hI hl hdone hlater hold hd ho
            have h94 : aq.tmps.getD 94 undef = .slice (some ⟨g, 0, none⟩) (S.size + 1) cp := hd 94 (by kernel_rfl)
            clear hd ho hdone hlater hold
            rw [Array.getD_eq_getD_getElem?] at h94
            have e0 := run_string_brow wq g cp (S.size + 1) zs hI.tn.row HZL.out
            refine Reg.step2_val (.string (strOf zs)) ?_ rfl hI trivial
            clear hI
            simp [execOp]
            go_simp
          · -- 11: 96 := Op.move t12
            intro aq wq lq hI hl hdone hlater hold hd ho
            have h12 : aq.tmps.getD 12 undef = .string S := ho 12 (by kernel_rfl)
            clear hd ho hdone hlater hold
            exact Reg.step2_move (.tmp 12) rfl h12 hI trivial
          · -- 12: 97 := Op.indexAddr 41 t5 (const (0:i64))
            intro aq wq lq hI hl hdone hlater hold hd ho
            have h5 : aq.tmps.getD 5 undef = .pointer (some ⟨w.heap.size, 0, none⟩) := ho 5 (by kernel_rfl)
            clear hd ho hdone hlater hold
            rw [Array.getD_eq_getD_getElem?] at h5
            refine Reg.step2_val (.pointer (some ⟨w.heap.size, 0, none⟩)) ?_ rfl hI trivial
            go_simp
          · -- 13: 98 := Op.load 40 t97
            intro aq wq lq hI hl hdone hlater hold hd ho
            have h97 : aq.tmps.getD 97 undef = .pointer (some ⟨w.heap.size, 0, none⟩) := hd 97 (by kernel_rfl)
            clear hd ho hdone hlater hold
            rw [Array.getD_eq_getD_getElem?] at h97
            have e0 : wq.cell? ⟨w.heap.size, 0, none⟩ = some (.int .u16 a2x0) := hI.tn.at_.cell 0
            refine Reg.step2_val (.int .u16 a2x0) ?_ rfl hI trivial
            clear hI
            go_simp
          · -- 14: 99 := Op.convert 40 3 t98
            intro aq wq lq hI hl hdone hlater hold hd ho
            have h98 : aq.tmps.getD 98 undef = .int .u16 a2x0 := hd 98 (by kernel_rfl)
            clear hd ho hdone hlater hold
            rw [Array.getD_eq_getD_getElem?] at h98
            refine Reg.step2_val (.int .i64 a2x0) ?_ rfl hI trivial
            simp [execOp, Act.eval, h98]
            try go_simp
          · -- 15: 100 := Op.move t12
            intro aq wq lq hI hl hdone hlater hold hd ho
            have h12 : aq.tmps.getD 12 undef = .string S := ho 12 (by kernel_rfl)
            clear hd ho hdone hlater hold
            exact Reg.step2_move (.tmp 12) rfl h12 hI trivial
          · -- 16: 101 := Op.call ( builtin len, args := #(t100), argTypes := #(9) )
            intro aq wq lq hI hl hdone hlater hold hd ho
            have h100 : aq.tmps.getD 100 undef = .string S := hd 100 (by kernel_rfl)
            clear hd ho hdone hlater hold
            rw [Array.getD_eq_getD_getElem?] at h100
            refine Reg.step2_val (.int .i64 (S.size : Nat)) ?_ rfl hI trivial
            simp [execOp]
            go_simp
          · -- 17: 102 := Op.binOp BinOp.add 3 t101 (const (1:i64)) 3
            intro aq wq lq hI hl hdone hlater hold hd ho
            have h101 : aq.tmps.getD 101 undef = .int .i64 (S.size : Nat) := hd 101 (by kernel_rfl)
            clear hd ho hdone hlater hold
            rw [Array.getD_eq_getD_getElem?] at h101
            refine Reg.step2_val (.int .i64 ((S.size : Int) + 1)) ?_ rfl hI trivial
            simp [execOp, Act.eval, h101]
            try go_simp
          · -- 18: 103 := Op.binOp BinOp.rem 3 t99 t102 3
            intro aq wq lq hI hl hdone hlater hold hd ho
            have h99 : aq.tmps.getD 99 undef = .int .i64 a2x0 := hd 99 (by kernel_rfl)
            have h102 : aq.tmps.getD 102 undef = .int .i64 ((S.size : Int) + 1) := hd 102 (by kernel_rfl)
            clear hd ho hdone hlater hold
            rw [Array.getD_eq_getD_getElem?] at h99 h102
            refine Reg.step2_val (.int .i64 (d : Nat)) ?_ rfl hI trivial
            simp [execOp, Act.eval, h99, h102]
            try go_simp
          · -- 19: 104 := Op.slice 9 t96 none (some t103) none
            intro aq wq lq hI hl hdone hlater hold hd ho
            have h96 : aq.tmps.getD 96 undef = .string S := hd 96 (by kernel_rfl)
            have h103 : aq.tmps.getD 103 undef = .int .i64 (d : Nat) := hd 103 (by kernel_rfl)
            clear hd ho hdone hlater hold
            rw [Array.getD_eq_getD_getElem?] at h96 h103
            refine Reg.step2_val (.string (S.extract 0 d)) ?_ rfl hI trivial
            simp [execOp, Act.eval, h96, h103]
            try go_simp
          · -- 20: 105 := Op.move t14
            intro aq wq lq hI hl hdone hlater hold hd ho
            have h14 : aq.tmps.getD 14 undef = .string P := ho 14 (by kernel_rfl)
            clear hd ho hdone hlater hold
            exact Reg.step2_move (.tmp 14) rfl h14 hI trivial
          · -- 21: 106 := Op.indexAddr 41 t5 (const (0:i64))
            intro aq wq lq hI hl hdone hlater hold hd ho
            have h5 : aq.tmps.getD 5 undef = .pointer (some ⟨w.heap.size, 0, none⟩) := ho 5 (by kernel_rfl)
            clear hd ho hdone hlater hold
            rw [Array.getD_eq_getD_getElem?] at h5
            refine Reg.step2_val (.pointer (some ⟨w.heap.size, 0, none⟩)) ?_ rfl hI trivial
            go_simp
          · -- 22: 107 := Op.load 40 t106
            intro aq wq lq hI hl hdone hlater hold hd ho
            have h106 : aq.tmps.getD 106 undef = .pointer (some ⟨w.heap.size, 0, none⟩) := hd 106 (by kernel_rfl)
            clear hd ho hdone hlater hold
            rw [Array.getD_eq_getD_getElem?] at h106
            have e0 : wq.cell? ⟨w.heap.size, 0, none⟩ = some (.int .u16 a2x0) := hI.tn.at_.cell 0
            refine Reg.step2_val (.int .u16 a2x0) ?_ rfl hI trivial
            clear hI
            go_simp
          · -- 23: 108 := Op.convert 40 3 t107
            intro aq wq lq hI hl hdone hlater hold hd ho
            have h107 : aq.tmps.getD 107 undef = .int .u16 a2x0 := hd 107 (by kernel_rfl)
            clear hd ho hdone hlater hold
            rw [Array.getD_eq_getD_getElem?] at h107
            refine Reg.step2_val (.int .i64 a2x0) ?_ rfl hI trivial
            simp [execOp, Act.eval, h107]
            try go_simp
          · -- 24: 109 := Op.move t14
            intro aq wq lq hI hl hdone hlater hold hd ho
            have h14 : aq.tmps.getD 14 undef = .string P := ho 14 (by kernel_rfl)
            clear hd ho hdone hlater hold
            exact Reg.step2_move (.tmp 14) rfl h14 hI trivial
          · -- 25: 110 := Op.call ( builtin len, args := #(t109), argTypes := #(9) )
            intro aq wq lq hI hl hdone hlater hold hd ho
            have h109 : aq.tmps.getD 109 undef = .string P := hd 109 (by kernel_rfl)
            clear hd ho hdone hlater hold
            rw [Array.getD_eq_getD_getElem?] at h109
            refine Reg.step2_val (.int .i64 (P.size : Nat)) ?_ rfl hI trivial
            simp [execOp]
            go_simp
          · -- 26: 111 := Op.binOp BinOp.add 3 t110 (const (1:i64)) 3
            intro aq wq lq hI hl hdone hlater hold hd ho
            have h110 : aq.tmps.getD 110 undef = .int .i64 (P.size : Nat) := hd 110 (by kernel_rfl)
            clear hd ho hdone hlater hold
            rw [Array.getD_eq_getD_getElem?] at h110
            refine Reg.step2_val (.int .i64 ((P.size : Int) + 1)) ?_ rfl hI trivial
            simp [execOp, Act.eval, h110]
            try go_simp
          · -- 27: 112 := Op.binOp BinOp.rem 3 t108 t111 3
            intro aq wq lq hI hl hdone hlater hold hd ho
            have h108 : aq.tmps.getD 108 undef = .int .i64 a2x0 := hd 108 (by kernel_rfl)
            have h111 : aq.tmps.getD 111 undef = .int .i64 ((P.size : Int) + 1) := hd 111 (by kernel_rfl)
            clear hd ho hdone hlater hold
            rw [Array.getD_eq_getD_getElem?] at h108 h111
            refine Reg.step2_val (.int .i64 (f : Nat)) ?_ rfl hI trivial
            simp [execOp, Act.eval, h108, h111]
            try go_simp
          · -- 28: 113 := Op.slice 9 t105 none (some t112) none
            intro aq wq lq hI hl hdone hlater hold hd ho
            have h105 : aq.tmps.getD 105 undef = .string P := hd 105 (by kernel_rfl)
            have h112 : aq.tmps.getD 112 undef = .int .i64 (f : Nat) := hd 112 (by kernel_rfl)
            clear hd ho hdone hlater hold
            rw [Array.getD_eq_getD_getElem?] at h105 h112
            refine Reg.step2_val (.string (P.extract 0 f)) ?_ rfl hI trivial
            simp [execOp, Act.eval, h105, h112]
            try go_simp
          · -- 29: 114 := Op.buildSlice 50 8 #((0, t85), (1, t86), (2, t89), (3, t90),
            intro aq wq lq hI hl hdone hlater hold hd ho
            have h85 : aq.tmps.getD 85 undef = .string R := hd 85 (by kernel_rfl)
            have h86 : aq.tmps.getD 86 undef = .string S := hd 86 (by kernel_rfl)
            have h89 : aq.tmps.getD 89 undef = .string (S ++ R) := hd 89 (by kernel_rfl)
            have h90 : aq.tmps.getD 90 undef = .string P := hd 90 (by kernel_rfl)
            have h93 : aq.tmps.getD 93 undef = .string (P ++ R) := hd 93 (by kernel_rfl)
            have h95 : aq.tmps.getD 95 undef = .string (strOf zs) := hd 95 (by kernel_rfl)
            have h104 : aq.tmps.getD 104 undef = .string (S.extract 0 d) := hd 104 (by kernel_rfl)
            have h113 : aq.tmps.getD 113 undef = .string (P.extract 0 f) := hd 113 (by kernel_rfl)
            clear hd ho hdone hlater hold
            rw [Array.getD_eq_getD_getElem?] at h85 h86 h89 h90 h93 h95 h104 h113
            have hJ := hI
            clear hI
            rw [show lq 29 = false from hl] at hJ
            have hsz := hJ.sz rfl
            refine Reg.step2_do (.slice (some ⟨G, 0, none⟩) 8 8) (wq.alloc (.cells #[.string R, .string S, .string (S ++ R), .string P, .string (P ++ R), .string (strOf zs), .string (S.extract 0 d), .string (P.extract 0 f)] 9)) ?_ rfl hJ.mk' trivial
            clear hJ
            simp [execOp]
            go_simp
          · -- 30: 115 := Op.call ( builtin len, args := #(t114), argTypes := #(50) )
            intro aq wq lq hI hl hdone hlater hold hd ho
            have h114 : aq.tmps.getD 114 undef = .slice (some ⟨G, 0, none⟩) 8 8 := hd 114 (by kernel_rfl)
            clear hd ho hdone hlater hold
            rw [Array.getD_eq_getD_getElem?] at h114
            refine Reg.step2_val (.int .i64 8) ?_ rfl hI trivial
            simp [execOp]
            go_simp
          · -- 31: 116 := Op.move (const (0:i64))
            intro aq wq lq hI hl hdone hlater hold hd ho
            clear hd ho hdone hlater hold
            refine Reg.step2_val (.int .i64 0) ?_ rfl hI trivial
            simp [execOp, Act.eval]
            try go_simp
          case hend =>
          intro wt hI
          simp only [Reg.fill, List.foldl_cons, List.foldl_nil, List.setIfInBounds_toArray, List.set_cons_zero, List.set_cons_succ]
          have HT : Hid (Eight wt G R S (S ++ R) P (P ++ R) (strOf zs) (S.extract 0 d) (P.extract 0 f)) := Lib.hid ((show T13 w w0 g a2x0 a2x1 zs G R S P (S ++ R) (P ++ R) (strOf zs) (S.extract 0 d) (P.extract 0 f) true wt from hI).eight rfl)
          have HB9 := Lib.hid (show Below w.heap.size w wt from below_on HB0.out (show T13 w w0 g a2x0 a2x1 zs G R S P (S ++ R) (P ++ R) (strOf zs) (S.extract 0 d) (P.extract 0 f) true wt from hI).tn.bel)
          have HSZ := Lib.hid (show R.size ≤ 1000 ∧ S.size ≤ 1000 ∧ (S ++ R).size ≤ 1000 ∧ P.size ≤ 1000 ∧ (P ++ R).size ≤ 1000 ∧ (strOf zs).size ≤ 1000 ∧ (S.extract 0 d).size ≤ 1000 ∧ (P.extract 0 f).size ≤ 1000 from by
            refine ⟨by omega, by omega, by rw [ByteArray.size_append]; omega, by omega, by rw [ByteArray.size_append]; omega, by rw [strOf_size, ← HZL.out]; omega, by simp; omega, by simp; omega⟩)
          clear hI hf hfl hp1 hd1 hws hwp hsr hpr hwi hdt hd0
          go_wp2_with fail
          go_loopw [116] (fun i wz => ∃ k : Nat, k ≤ 8 ∧ i = .int .i64 k ∧ Below wt.heap.size wt wz) (fun i _ => 8 - (intOf i).toNat)
          case atStart => exact ⟨0, Nat.zero_le _, rfl, Below.refl _ _⟩
          case round =>
            obtain ⟨k, hk, rfl, hb⟩ := hrel
            rename World => wz
            have HZ := Lib.hid hb
            by_cases hlt : k < 8
            · have hki : (k : Int) < 8 := by omega
              obtain ⟨τ, hτ, hcell⟩ := HT.out.at_ HSZ.out hlt
              have c0 : wz.cell? ⟨G, k, none⟩ = some (.string (Lend.strOf τ)) := by rw [hb.cell (World.block_lt_of_cell? _ _ hcell)]; exact hcell
              have HTL := Lib.hid (show τ.length ≤ 100000 by omega)
              have HPLE := Lib.hid (show (prL τ).length ≤ 1000000 by have := prL_le τ; omega)
              have HOLE := Lib.hid (show (opL τ).length ≤ 1000000 by have := opL_le τ; omega)
              clear hτ hcell hb
              go_wp2_with fail
              refine (Parse_two τ _ HTL.out).mono ?_
              rintro e w5 ⟨xa, xc, rfl, hux, hb5⟩
              have HB5 := Lib.hid (below_on HZ.out hb5)
              have HUX := Lib.hid hux
              clear c0 hb5 hux
              go_wp2_with fail
              refine (refparse_two τ _ HTL.out).mono ?_
              rintro e w6 ⟨ya, yc, rfl, huy, hb6⟩
              have HB6 := Lib.hid (below_on HB5.out hb6)
              have HUX2 := Lib.hid (HUX.out.below hb6)
              have HUY := Lib.hid huy
              clear hb6 huy
              go_wp2_with fail
              refine (same_any HUX2.out HUY.out HPLE.out).mono ?_
              rintro e w7 ⟨rfl, hb7⟩
              have HB7 := Lib.hid (below_on HB6.out hb7)
              clear hb7
              generalize prE τ = E1
              generalize (prL τ).length = L1
              go_wp2_with fail
              refine (Open_two τ _ HTL.out).mono ?_
              rintro e w8 ⟨ra, rc, rfl, hur, hb8⟩
              have HB8 := Lib.hid (below_on HB7.out hb8)
              have HUR := Lib.hid hur
              clear hb8 hur
              have HRO := Lib.hid (fun W => refOpen_two τ W HTL.out)
              obtain ⟨E2, hE2⟩ : ∃ x, x = opE τ := ⟨_, rfl⟩
              obtain ⟨A2, hA2⟩ : ∃ x, x = opA τ := ⟨_, rfl⟩
              obtain ⟨C2, hC2⟩ : ∃ x, x = opC τ := ⟨_, rfl⟩
              obtain ⟨L2, hL2⟩ : ∃ x, x = (opL τ).length := ⟨_, rfl⟩
              rw [← hE2, ← hA2, ← hC2, ← hL2] at HRO ⊢
              rw [← hL2] at HUR
              clear hE2 hA2 hC2 hL2
              go_wp2_with fail
              obtain ⟨w9, hw9⟩ : ∃ x, x = w8.alloc (.cells #[.int .u64 A2, .int .u32 C2, .slice ra L2 rc] 57) := ⟨_, rfl⟩
              have hb9 : Below w8.heap.size w8 w9 := by rw [hw9]; exact below_new _ _
              have HB9' := Lib.hid (below_on HB8.out hb9)
              have HUR9 := Lib.hid (HUR.out.below hb9)
              have HX9 := Lib.hid (show Has w9 w8.heap.size 57 [.int .u64 A2, .int .u32 C2, .slice ra L2 rc] by rw [hw9]; exact Has.new _ _ _)
              rw [← hw9]
              clear hw9 hb9
              refine (HRO.out _).mono ?_
              rintro e w10 ⟨qa, qc, rfl, huq, hb10⟩
              have HB10 := Lib.hid (below_on HB9'.out hb10)
              have HUR10 := Lib.hid (HUR9.out.below hb10)
              have HX10 := Lib.hid (HX9.out.below hb10 HX9.out.lt)
              obtain ⟨w11, hw11⟩ : ∃ x, x = w10.alloc (.cells #[.int .u64 A2, .int .u32 C2, .slice qa L2 qc] 48) := ⟨_, rfl⟩
              have hb11 : Below w10.heap.size w10 w11 := by rw [hw11]; exact below_new _ _
              have HB11 := Lib.hid (below_on HB10.out hb11)
              have HUR11 := Lib.hid (HUR10.out.below hb11)
              have HUQ11 := Lib.hid (huq.below hb11)
              have HX11 := Lib.hid (HX10.out.below hb11 HX10.out.lt)
              have HY11 := Lib.hid (show Has w11 w10.heap.size 48 [.int .u64 A2, .int .u32 C2, .slice qa L2 qc] by rw [hw11]; exact Has.new _ _ _)
              have x2 : w11.cell? ⟨w8.heap.size, 2, none⟩ = some (.slice ra L2 rc) := HX11.out.cell 2
              have y2 : w11.cell? ⟨w10.heap.size, 2, none⟩ = some (.slice qa L2 qc) := HY11.out.cell 2
              rw [hw11] at x2 y2
              clear hb10 huq hb11
              go_wp2_with fail
              rw [← hw11]
              clear hw11 x2 y2
              refine (same_any HUR11.out HUQ11.out HOLE.out).mono ?_
              rintro e w12 ⟨rfl, hb12⟩
              have HB12 := Lib.hid (below_on HB11.out hb12)
              have hx12 := HX11.out.below hb12 HX11.out.lt
              have hy12 := HY11.out.below hb12 HY11.out.lt
              have x0 : w12.cell? ⟨w8.heap.size, 0, none⟩ = some (.int .u64 A2) := hx12.cell 0
              have x1 : w12.cell? ⟨w8.heap.size, 1, none⟩ = some (.int .u32 C2) := hx12.cell 1
              have y0 : w12.cell? ⟨w10.heap.size, 0, none⟩ = some (.int .u64 A2) := hy12.cell 0
              have y1 : w12.cell? ⟨w10.heap.size, 1, none⟩ = some (.int .u32 C2) := hy12.cell 1
              clear hb12 hx12 hy12
              go_wp2_with fail
              go_roundw
              case rel => exact ⟨k + 1, by omega, by go_num, HB12.out⟩
              case measure => simp [intOf]; omega
            · obtain rfl : k = 8 := by omega
              go_wp2_with fail
              refine (wakes_any _).mono ?_
              rintro e w5 ⟨rfl, hb5⟩
              have HBF := Lib.hid (below_on (below_on HB9.out HZ.out) hb5)
              clear hb5 hb
              go_wp2_with fail
              go_ret
              exact ⟨rfl, HBF.out⟩

/-! ### THE ROW's STEP -/
set_option maxRecDepth 100000 in
theorem lifted (os : Os) (started : os.Started) (H : Type) (enc : TypeId × Value → H) :
    ReturnsInHanded {} Try.checked os 4 .any (Rows.recParsesSpec.pre6 enc Try.prog Try.f4 Rows.recParsesRow.domain false) (Rows.recParsesSpec.post enc Try.prog Try.f4 false true false false) := by
  refine returnsInHanded_of_change_sized (C := Try.checked) own started (by kernel_rfl) Try.func4
    (ChangeSpec.witness6 (enc := enc) (C := Try.checked) false ⟨#[], #[.slice none 0 0, .string ByteArray.empty, .agg #[.int .u16 0, .int .u16 0]], []⟩ 8 (by kernel_rfl) (by kernel_rfl) (by kernel_rfl) (by kernel_rfl)) ?_
  intro W base args ds gs before hval0 hW hcnd hsz _
  have hval : ∀ (j : Nat) t v, Try.f4.params[j]? = some t → args[j]? = some v → Value.okWide Try.prog W .any base t v := hval0
  have hW' := hW
  obtain ⟨p, q, hA0, hV, rfl, hfz, hnd⟩ := hW
  have hA : DataW.TrodAll enc Try.prog W 0 (fun _ => true) true Try.f4.params.toList args.toList ds p := hA0
  rw [Try.params4] at hA hval
  obtain ⟨v0, vs0, d0, ds0, p0, q0, hargs, rfl, rfl, h0, r0⟩ := trodAll_cons hA
  obtain ⟨v1, vs1, d1, ds1, p1, q1, rfl, rfl, rfl, h1, r1⟩ := trodAll_cons r0
  obtain ⟨v2, vs2, d2, ds2, p2, q2, rfl, rfl, rfl, h2, r2⟩ := trodAll_cons r1
  obtain ⟨rfl, rfl, rfl⟩ := trodAll_nil r2
  obtain rfl : args = #[v0, v1, v2] := by cases args; simp_all
  obtain ⟨rfl, rfl⟩ := trodVars_none hV
  have k0 := h0
  have lt0 : ∀ x ∈ p0, x.block < W.heap.size := by obtain ⟨m, hm⟩ := k0; exact DataW.trod_lt m _ _ _ hm
  obtain ⟨a0', l0', c0', rfl⟩ := okWide_slice Try.underlying22 (hval 0 22 v0 rfl rfl)
  obtain ⟨a0, a0l, a0c, he0, w0, w0l, w0m⟩ := open_AR0 (c := .slice a0' l0' c0') (by obtain ⟨m, hm⟩ := h0; exact ⟨m, hm⟩) (fun n hn => by have := List.all_eq_true.1 hsz n (DataW.weights_mem_each (j := 0) rfl rfl n hn); simpa using this)
  simp only [Value.slice.injEq] at he0
  obtain ⟨rfl, rfl, rfl⟩ := he0
  obtain ⟨a1, rfl, rfl, rfl, w1⟩ := open_string Try.underlying9 (hval 1 9 v1 rfl rfl) h1
  have k2 := h2
  have lt2 : ∀ x ∈ p2, x.block < W.heap.size := by obtain ⟨m, hm⟩ := k2; exact DataW.trod_lt m _ _ _ hm
  obtain ⟨cs2, rfl, hl2, hc2⟩ := open_arr Try.underlying41 (by kernel_rfl) (by kernel_rfl) (hval 2 41 v2 rfl rfl) h2
  obtain ⟨y2_0, y2_1, rfl⟩ := len2 cs2 hl2
  obtain ⟨a2x0, rfl, w2x0⟩ := open_int_cell Try.underlying40 (hc2 0 _ rfl)
  obtain ⟨a2x1, rfl, w2x1⟩ := open_int_cell Try.underlying40 (hc2 1 _ rfl)
  clear hA0 hval0
  refine (walk a0' l0' c0' a1 a2x0 a2x1 W w0 w0l w0m w1 w2x0 w2x1).mono fun e W' ⟨he, bel⟩ => ?_
  subst he
  exact ⟨_, rfl, _, _, _, [], _, [], hW', trodAll_mk1 (shut_bool Try.underlying4 _), (trodAll_cons_mk (Below.trod laidOut (by kernel_rfl) (of_decide_eq_true (by kernel_rfl)) k0 bel lt0) (trodAll_cons_mk (shut_string Try.underlying9 w1) (trodAll_cons_mk (Below.trod laidOut (by kernel_rfl) (of_decide_eq_true (by kernel_rfl)) k2 bel lt2) trodAll_mk0))), rfl, bel.frame _, fun h => by cases h⟩

theorem over : Rows.recParsesRow.holds Try.pinned (OpenSpec.ofChange Rows.recParsesSpec) :=
  OpenClaim.holds_of_wide 4 Try.f4 rfl rfl rfl rfl rfl rfl rfl ⟨rfl, rfl, rfl, rfl, rfl⟩ rfl rfl rfl rfl rfl (by kernel_rfl) Try.func4 (by kernel_rfl)
    (of_decide_eq_true (by kernel_rfl)) (by unfold Func.isWrapper; first | (rw [if_pos (by decide +kernel)]; kernel_rfl) | (rw [if_neg (by decide +kernel)]; exact ⟨rfl, rfl⟩))
    (fun os started H enc _ => lifted os started H enc)

/-- THE STATEMENT -/
theorem proved : Rows.RecParsesSaid := over
#print axioms proved
end Go.Proofs.Ytomhalcoomdadaa.recParses
