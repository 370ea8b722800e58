/-
  The law RecBack holds: updates that may be are told again of their bytes, and a record of its; of a beginning of a record's there is none. Conditions: none but the row's own.
-/
import Derived.Test.YtomhalcoomdadaaRows
import Derived.Test.YtomhalcoomdadaaRecM
import Derived.Test.YtomhalcoomdadaaStructsZ
import Derived.WalkKit
import Derived.ProofKit
import Derived.OpenShut
import Derived.ShutString
import Derived.ChangeOld
import Derived.Below
import Derived.Carry
namespace Go.Proofs.Ytomhalcoomdadaa.recBack
open Go.ChangeShapes Go.WideShapes Go.ChangeAt Go.RowKit
open Go.Proofs.Ytomhalcoomdadaa
open Go.ChangeMaps (open_string shut_string)
set_option linter.unusedVariables false

theorem own : ownKnob Try.prog.godebug = none := by kernel_rfl
theorem laidOut : laidOutB Try.prog = true := by kernel_rfl

/-- the elements of argument 1 -/
def AR1 (w : World) (a : Option Addr) (len : Nat) : Prop := 0 < len → ∃ b off, a = some ⟨b, off, none⟩ ∧ ∀ i, i < len → ∃ (x0 : Int) (x1 : ByteArray) (x2 : ByteArray) (x3 : Int), w.cell? ⟨b, off + (i * 4 + 0), none⟩ = some (.int .u8 x0) ∧ (Lit.int .u8 x0).wf = true ∧ w.cell? ⟨b, off + (i * 4 + 1), none⟩ = some (.string x1) ∧ x1.size ≤ 140737488355327 ∧ w.cell? ⟨b, off + (i * 4 + 2), none⟩ = some (.string x2) ∧ x2.size ≤ 140737488355327 ∧ w.cell? ⟨b, off + (i * 4 + 3), none⟩ = some (.int .u64 x3) ∧ (Lit.int .u64 x3).wf = true
theorem open_AR1 {H : Type} {enc : TypeId × Value → H} {w : World} {held : Bool} {c : Value} {d : DataW H} {pl : List MemPlace} (h : ∃ m, DataW.trod enc Try.prog w 0 (fun _ => true) held m 22 [c] = some (d, pl)) (hz : ∀ n ∈ d.weights Try.prog 22, n ≤ reachBytes) :
    ∃ a len cap, c = .slice a len cap ∧ AR1 w a len ∧ len ≤ cap ∧ cap ≤ maxLen := by
  obtain ⟨a, len, cap, hc, hl, hm, hx⟩ := open_structs_z Try.underlying22 Try.underlying43 (by kernel_rfl) (by kernel_rfl) (by decide) h hz
  refine ⟨a, len, cap, hc, fun hpos => ?_, hl, hm⟩
  obtain ⟨b, off, ha, hf⟩ := hx hpos
  refine ⟨b, off, ha, fun i hi => ?_⟩
  obtain ⟨v0, hc0, ht0, hz0⟩ := hf i hi 0 _ rfl
  obtain ⟨x0, rfl, hw0⟩ := open_int_cell Try.underlying5 ht0
  obtain ⟨v1, hc1, ht1, hz1⟩ := hf i hi 1 _ rfl
  obtain ⟨x1, rfl, hw1'⟩ := open_str_cell Try.underlying9 ht1
  have hw1 := hz1 Try.underlying9 _ rfl
  obtain ⟨v2, hc2, ht2, hz2⟩ := hf i hi 2 _ rfl
  obtain ⟨x2, rfl, hw2'⟩ := open_str_cell Try.underlying9 ht2
  have hw2 := hz2 Try.underlying9 _ rfl
  obtain ⟨v3, hc3, ht3, hz3⟩ := hf i hi 3 _ rfl
  obtain ⟨x3, rfl, hw3⟩ := open_int_cell Try.underlying31 ht3
  exact ⟨x0, x1, x2, x3, hc0, hw0, hc1, hw1, hc2, hw2, hc3, hw3⟩

open Go.Proofs.Ytomhalcoomdadaa.Rec
def Qu (u : Up) : Prop := WfU u ∧ SmU u
theorem ups1 {w : World} {a : Option Addr} {len cap : Nat} (h : AR1 w a len) : ∃ l, len = l.length ∧ UR w (.slice a len cap) l ∧ ∀ u ∈ l, Qu u := by
  refine ur_of Qu fun h0 => ?_
  obtain ⟨b, off, ha, hx⟩ := h h0
  refine ⟨b, off, ha, fun i hi => ?_⟩
  obtain ⟨x0, x1, x2, x3, c0, h0, c1, h1, c2, h2, c3, h3⟩ := hx i hi
  exact ⟨_, ⟨⟨(u8_bd h0).1, (u8_bd h0).2, (u64_bd h3).1, (u64_bd h3).2⟩, by simpa using h1, by simpa using h2⟩, up_cells c0 c1 c2 c3⟩

/-! ### STEP 1: THE WALK -/
set_option maxHeartbeats 8000000 in
set_option maxRecDepth 100000 in
theorem walk (a0 : Int) (a1 : Option Addr) (a1l a1c : Nat) (a2 : Int) (w : World) (w0 : (Lit.int .u64 a0).wf = true) (w1 : AR1 w a1 a1l) (w1l : a1l ≤ a1c) (w1m : a1c ≤ maxLen) (w2 : (Lit.int .u16 a2).wf = true) :
    Calls Try.prog 6 #[.int .u64 a0, .slice a1 a1l a1c, .int .u16 a2] w fun e w' => e = .returned (.bool true) ∧ Below w.heap.size w w' := by
  obtain ⟨l, hl, hu, hq⟩ := ups1 (cap := a1c) w1
  have HU := Lib.hid hu
  have HN := Lib.hid hl
  have HQ := Lib.hid hq
  have HNC := Lib.hid (show a1l ≤ a1c ∧ a1c ≤ 9223372036854775807 from ⟨w1l, by unfold maxLen at w1m; exact w1m⟩)
  clear hl hu hq w1 w1l w1m
  have hsq := u64_bd w0
  have hct := u16_bd w2
  have HSQ := Lib.hid hsq
  obtain ⟨ilu, hilu, hlu0, hlu1, hlu2⟩ := info_parts info_lu
  clear w0 w2
  go_enter Try.func6, Try.ntmps6
  obtain ⟨M, hm⟩ : ∃ m, m = min a1l 10 := ⟨_, rfl⟩
  have HMM := Lib.hid hm
  go_upto_region 2 with fail
  go_cut [27, 28, 29] (fun s t i wx => ∃ a' cap', s = .slice a' M cap' ∧ t = .int .i64 M ∧ i = .int .i64 ((0 : Nat) : Int) ∧ (0 < M → a' = a1) ∧ wx = w)
  case first =>
    have hnc := HNC.out
    go_wp2_with fail
    all_goals
      go_meet
      first
      | (have e : M = 10 := by have := HMM.out; omega
         exact ⟨_, _, by rw [e], by rw [e]; rfl, rfl, fun _ => rfl, rfl⟩)
      | (have e : M = a1l := by have := HMM.out; omega
         exact ⟨_, _, by rw [e], by rw [e], rfl, fun _ => rfl, rfl⟩)
  case rest =>
    obtain ⟨s, c, rfl, rfl, rfl, haa, hww⟩ := hcut
    have hww := hww.symm
    subst hww
    have hml : M ≤ l.length ∧ M ≤ 10 := by have := HMM.out; have := HN.out; omega
    obtain ⟨hml, hmk⟩ := hml
    have HAA := Lib.hid haa
    clear hm haa
    go_wp2_with fail
    go_loopw [7, 29] (fun av i wr => ∃ (k : Nat) (av' : Value), k ≤ M ∧ av' = av ∧ i = .int .i64 k ∧ RT wr w.heap.size av' (tmL 10 (l.take k)) ∧ Below w.heap.size w wr) (fun _ i _ => M - (intOf i).toNat)
    case atStart => exact ⟨0, _, Nat.zero_le _, rfl, rfl, World.ownsRow_nil _ _ _ _, Below.refl _ _⟩
    case round =>
      obtain ⟨k, V, hk, rfl, rfl, hrow, hb⟩ := hrel
      by_cases hlt : k < M
      · have hke : k < l.length := by omega
        have hki : (k : Int) < (M : Int) := by omega
        obtain ⟨g, off, hg, hcc⟩ := UR.at_ HU.out (by omega)
        obtain rfl : s = some ⟨g, off, none⟩ := by rw [HAA.out (by omega), hg]
        have hcc := hcc k hke
        have HQU := Lib.hid (HQ.out _ (List.getElem_mem hke))
        have HTM := Lib.hid (tmL_snoc (K := 10) hke (by omega))
        obtain ⟨u, hu⟩ : ∃ u, u = l[k] := ⟨_, rfl⟩
        rw [← hu] at hcc HQU HTM
        have hbc : ∀ j x, j < 4 → (encU u)[j]? = some x → wr.cell? ⟨g, off + k * 4 + j, none⟩ = some x := fun j x hj hx => by
          have h1 := (hcc j hj).trans hx
          rw [(hb).cell (World.block_lt_of_cell? _ _ h1)]; exact h1
        have c0 : wr.cell? ⟨g, off + k * 4, none⟩ = some (.int .u8 u.kind) := hbc 0 _ (by omega) rfl
        have c1 : wr.cell? ⟨g, off + k * 4 + 1, none⟩ = some (.string (Lend.strOf u.key)) := hbc 1 _ (by omega) rfl
        have c2 : wr.cell? ⟨g, off + k * 4 + 2, none⟩ = some (.string (Lend.strOf u.val)) := hbc 2 _ (by omega) rfl
        have c3 : wr.cell? ⟨g, off + k * 4 + 3, none⟩ = some (.int .u64 u.delta) := hbc 3 _ (by omega) rfl
        have HR := Lib.hid hrow
        have HBR := Lib.hid hb
        have hTl : (tmL 10 (l.take k)).length ≤ 10 := by rw [tmL_length]; omega
        obtain ⟨T, hT⟩ : ∃ x, x = tmL 10 (l.take k) := ⟨_, rfl⟩
        rw [← hT] at HR HTM hTl
        clear hcc hu hbc hke hg hb hrow hT
        go_wp2_with fail
        refine (tame_at u _ HQU.out.1 HQU.out.2).mono ?_
        rintro e w2 ⟨rfl, hb2⟩
        have HB2 := Lib.hid (below_on (below_nw HBR.out _) hb2)
        have HR2 := Lib.hid (show RT w2 w.heap.size V T from own_bel (HR.out.alloc _) hb2)
        clear hb2 c0 c1 c2 c3
        have HET := Lib.hid (show encU (tmU u) = [.int .u8 (tmU u).kind, .string (Lend.strOf (tmU u).key), .string (Lend.strOf (tmU u).val), .int .u64 (tmU u).delta] from rfl)
        obtain ⟨x, hx⟩ : ∃ x, x = tmU u := ⟨_, rfl⟩
        rw [← hx] at HET HTM ⊢
        clear hx
        have HNW := Lib.hid (show ∀ j y, (encU x)[j]? = some y → (w2.alloc (.cells #[.int .u8 x.kind, .string (Lend.strOf x.key), .string (Lend.strOf x.val), .int .u64 x.delta] 43)).cell? ((⟨w2.heap.size, 0, none⟩ : Addr).add j) = some y from by rw [HET.out]; exact has_news (Has.new w2 [.int .u8 x.kind, .string (Lend.strOf x.key), .string (Lend.strOf x.val), .int .u64 x.delta] _))
        have HB3 := Lib.hid (below_nw HB2.out (.cells #[.int .u8 x.kind, .string (Lend.strOf x.key), .string (Lend.strOf x.val), .int .u64 x.delta] 43))
        go_wp2_with (at_builtin; refine wpList_append_own _ rfl _ _ 22 rfl w.heap.size 43 ilu _ 4 48 Try.underlying22 hilu hlu0 hlu1 hlu2 rfl (by decide) _ T.length (flatU T) rfl (HR2.out.alloc _) ⟨w2.heap.size, 0, none⟩ 1 1 (encU x) rfl rfl HNW.out (enc_one _) ?d1 ?d2 ?d3 ?_)
        case d1 => unfold maxLen; omega
        case d2 => omega
        case d3 => exact HB3.out.size
        intro v4 w4 hown4 hgr _
        have HR4 := Lib.hid (show RT w4 w.heap.size v4 (T ++ [x]) by unfold RT; rw [flatU_snoc, List.length_append]; exact hown4)
        have HB4 := Lib.hid (HB3.out.grown hgr HB3.out.size (fun q hq => (HR2.out.lt q hq).1))
        clear hown4 hgr
        go_wp2_with fail
        go_roundw
        case rel => exact ⟨k + 1, _, by omega, rfl, by go_num, by rw [HTM.out]; exact HR4.out, HB4.out⟩
        case measure => simp [intOf]; omega
      · obtain rfl : k = M := by omega
        have hki : ¬ (k : Int) < (k : Int) := by omega
        have htk : tmL 10 (l.take k) = tmL 10 l := by
          unfold tmL
          rw [List.take_take]
          congr 1
          rw [List.take_eq_take_iff]
          have := HMM.out; have := HN.out; omega
        rw [htk] at hrow
        have HM := Lib.hid hrow
        have HL := Lib.hid hb
        clear hrow hb htk hml hmk hk hlt
        obtain ⟨vo, vc, rfl, hvc, hvm⟩ := own_cap HM.out
        have hok := tmL_ok (K := 10) (fun u hu => (HQ.out u hu).1)
        have hml : (tmL 10 l).length ≤ 10 := by rw [tmL_length]; omega
        obtain ⟨m, hm⟩ : ∃ x, x = tmL 10 l := ⟨_, rfl⟩
        rw [← hm] at HM hvc hok hml ⊢
        have HCH := Lib.hid hok.1
        have HWF := Lib.hid hok.2
        have HOL := Lib.hid (ofL_ok hok.1 (by omega))
        have HVC := Lib.hid (And.intro hvc hvm)
        have HML := Lib.hid hml
        clear hvc hvm hok hml hm
        have HOF := Lib.hid (of_any (UR.of_own HM.out) rfl HVC.out.1 HVC.out.2 (szU_ok HCH.out))
        rw [HOL.out] at HOF
        obtain ⟨n, hn⟩ : ∃ n, n = m.length := ⟨_, rfl⟩
        have HN2 := Lib.hid hn
        rw [← hn] at HOF ⊢
        clear hn
        go_wp2_with fail
        refine HOF.out.mono ?_
        rintro e w1 ⟨a, b, rfl, hra, hru, hb1⟩
        have HB1 := Lib.hid (below_on HL.out hb1)
        have HUA := Lib.hid (UR.of_own hra)
        have HUB := Lib.hid (UR.of_own hru)
        obtain ⟨ao, ac, ha⟩ := HUA.out.slice
        obtain ⟨bo, bc, hb⟩ := HUB.out.slice
        rw [← HN2.out] at ha hb
        subst ha hb
        clear hra hru hb1 HOF
        have HTX := Lib.hid (fun W (h : Below w1.heap.size w1 W) => Text_any (HUA.out.below h) (by have := HML.out; omega) HWF.out)
        have HER := Lib.hid (errL_ok HCH.out)
        have HTT := Lib.hid (txT_ok HCH.out)
        have HPL := Lib.hid (parL_tx (okL_of HCH.out HWF.out))
        have HTL := Lib.hid (show (txL m).length ≤ 100000 by have := txL_le m HER.out; have := HML.out; omega)
        go_wp2_with fail
        refine (HTX.out _ (Below.refl _ _)).mono ?_
        rintro e w2 ⟨rfl, hb2⟩
        rw [HTT.out, HER.out]
        have HB2 := Lib.hid hb2
        clear hb2
        go_wp2_with fail
        refine (Parse_any (txL m) _ HTL.out).mono ?_
        rintro e w3 (⟨l2, vx, hpl, rfl, hrx, hb3⟩ | ⟨hpl, rfl, hb3⟩)
        · obtain rfl : m = l2 := by rw [HPL.out] at hpl; injection hpl
          have HB3 := Lib.hid (below_on HB2.out hb3)
          have HUX := Lib.hid (UR.of_own hrx)
          obtain ⟨xo, xc, hxv⟩ := HUX.out.slice
          rw [← HN2.out] at hxv
          subst hxv
          clear hpl hb3 hrx
          go_wp2_with fail
          obtain ⟨C, hC⟩ : ∃ x, x = a0 / 512 % 4294967296 := ⟨_, rfl⟩
          rw [← hC]
          have HF := Lib.hid (show Wf3 a0 C m.length from ⟨HSQ.out.1, HSQ.out.2, by omega, by omega, by have := HML.out; omega⟩)
          obtain ⟨w4, hw4⟩ : ∃ x, x = w3.alloc (.cells #[.int .u64 a0, .int .u32 C, .slice ao n ac] 57) := ⟨_, rfl⟩
          rw [← hw4]
          have HB4 := Lib.hid (show Below w1.heap.size w1 w4 by rw [hw4]; exact below_nw HB3.out _)
          have HX4 := Lib.hid (show Has w4 w3.heap.size 57 [.int .u64 a0, .int .u32 C, .slice ao n ac] by rw [hw4]; exact Has.new _ _ _)
          have HX := Lib.hid (HUX.out.below (show Below w3.heap.size w3 w4 by rw [hw4]; exact below_new _ _))
          have HPY := Lib.hid (Payload_any a0 C (HUA.out.below HB4.out) HF.out HWF.out)
          refine HPY.out.mono ?_
          rintro e w5 ⟨rfl, hb5⟩
          rw [HER.out]
          have HOP := Lib.hid (op_py HF.out HCH.out HWF.out)
          have HCUT := Lib.hid (fun k => op_cut HF.out HCH.out HWF.out (k := k))
          have HPS := Lib.hid (pyT_le (s := a0) (c := C) (l := m) (by have := HML.out; omega))
          have HP1 := Lib.hid (show 0 < (pyT a0 C m).length by rw [pyT_ok HCH.out, List.length_append, hd3_length]; omega)
          obtain ⟨p, hp⟩ : ∃ x, x = pyT a0 C m := ⟨_, rfl⟩
          rw [← hp] at HOP HCUT HPS HP1 ⊢
          have HB5 := Lib.hid (below_on HB4.out hb5)
          have HX5 := Lib.hid (HX4.out.below hb5 HX4.out.lt)
          have HU5 := Lib.hid (HX.out.below hb5)
          clear hb5 hw4 hC hp
          go_wp2_with fail
          refine (Open_any p _ (by have := HPS.out; omega)).mono ?_
          rintro e w6 (⟨a, c, l2, v', hop, rfl, hrq, hb6⟩ | ⟨hop, rfl, hb6⟩)
          · rw [HOP.out] at hop
            injection hop with hop
            simp only [Prod.mk.injEq] at hop
            obtain ⟨rfl, rfl, rfl⟩ := hop
            have HB6 := Lib.hid (below_on HB5.out hb6)
            have HX6 := Lib.hid (HX5.out.below hb6 HX5.out.lt)
            have HU6 := Lib.hid (HU5.out.below hb6)
            have HQ6 := Lib.hid (UR.of_own hrq)
            obtain ⟨qo, qc, hqv⟩ := HQ6.out.slice
            rw [← HN2.out] at hqv
            subst hqv
            clear hb6 hrq
            obtain ⟨P, hP⟩ : ∃ x, x = Lend.strOf p := ⟨_, rfl⟩
            have HPP := Lib.hid hP
            have hp1 : 0 < P.size := by rw [hP, ssize]; exact HP1.out
            have HPZ := Lib.hid (show P.size = p.length by rw [hP, ssize])
            rw [← hP]
            clear hP
            obtain ⟨w7, hw7⟩ : ∃ x, x = w6.alloc (.cells #[.int .u64 a0, .int .u32 C, .slice qo n qc] 57) := ⟨_, rfl⟩
            have hb7 : Below w6.heap.size w6 w7 := by rw [hw7]; exact below_new _ _
            have HB7 := Lib.hid (below_on HB6.out hb7)
            have HX7 := Lib.hid (HX6.out.below hb7 HX6.out.lt)
            have HY7 := Lib.hid (show Has w7 w6.heap.size 57 [.int .u64 a0, .int .u32 C, .slice qo n qc] by rw [hw7]; exact Has.new _ _ _)
            have HU7 := Lib.hid (HU6.out.below hb7)
            have HQ7 := Lib.hid (HQ6.out.below hb7)
            clear hb7
            go_wp2_with fail
            rw [← hw7]
            clear hw7
            refine (wakes_any _).mono ?_
            rintro e w8 ⟨rfl, hb8⟩
            have HB8 := Lib.hid (below_on HB7.out hb8)
            have HX8 := Lib.hid (HX7.out.below hb8 HX7.out.lt)
            have HY8 := Lib.hid (HY7.out.below hb8 HY7.out.lt)
            have HU8 := Lib.hid (HU7.out.below hb8)
            have HQ8 := Lib.hid (HQ7.out.below hb8)
            clear hb8
            go_wp2_with fail
            refine (same_any HU8.out (HUB.out.below HB8.out) (by have := HML.out; omega)).mono ?_
            rintro e w9 ⟨rfl, hb9⟩
            have HB9 := Lib.hid (below_on HB8.out hb9)
            have HX9 := Lib.hid (HX8.out.below hb9 HX8.out.lt)
            have HY9 := Lib.hid (HY8.out.below hb9 HY8.out.lt)
            have HQ9 := Lib.hid (HQ8.out.below hb9)
            have y2 : w9.cell? ⟨w6.heap.size, 2, none⟩ = some (.slice qo n qc) := HY9.out.cell 2
            clear hb9
            go_wp2_with fail
            refine (same_any HQ9.out (HUB.out.below HB9.out) (by have := HML.out; omega)).mono ?_
            rintro e w10 ⟨rfl, hb10⟩
            have HB10 := Lib.hid (below_on HB9.out hb10)
            have hx10 := HX9.out.below hb10 HX9.out.lt
            have hy10 := HY9.out.below hb10 HY9.out.lt
            have x1 : w10.cell? ⟨w3.heap.size, 1, none⟩ = some (.int .u32 C) := hx10.cell 1
            have y0 : w10.cell? ⟨w6.heap.size, 0, none⟩ = some (.int .u64 a0) := hy10.cell 0
            have y1 : w10.cell? ⟨w6.heap.size, 1, none⟩ = some (.int .u32 C) := hy10.cell 1
            have hne : ((P.size : Int) == 0) = false := by
              have : ¬ (P.size : Int) = 0 := by omega
              simpa using this
            have hc0 := hct.1
            have hc1 : a2 ≤ 65535 := by omega
            obtain ⟨d, hd, hdl⟩ : ∃ d : Nat, a2 % (P.size : Int) = (d : Int) ∧ d < P.size := by
              have h1 : 0 ≤ a2 % (P.size : Int) := Int.emod_nonneg _ (by omega)
              have h2 : a2 % (P.size : Int) < (P.size : Int) := Int.emod_lt_of_pos _ (by omega)
              exact ⟨(a2 % (P.size : Int)).toNat, by omega, by omega⟩
            have HD := Lib.hid hdl
            have hdp : d ≤ P.size := by omega
            have HE := Lib.hid (show P.extract 0 d = Lend.strOf (p.take d) from by
              apply Lend.strOf_ext
              rw [Lib.extract_data, HPP.out, Lend.strOf_data, List.drop_zero, Nat.sub_zero])
            clear hb10 hx10 hy10 hct y2
            go_wp2_with fail
            rw [HE.out]
            refine (Open_any (p.take d) _ (by rw [List.length_take]; have := HPS.out; omega)).mono ?_
            rintro e w11 (⟨a, c, l2, v', hop, rfl, hrq, hb11⟩ | ⟨hop, rfl, hb11⟩)
            · rw [HCUT.out d (by rw [← HPZ.out]; exact HD.out)] at hop; cases hop
            · have HB11 := Lib.hid (below_on (below_on HB1.out HB10.out) hb11)
              clear hb11 x1 y0 y1
              go_wp2_with fail
              go_ret
              exact ⟨rfl, below_nw HB11.out _⟩
          · rw [HOP.out] at hop; cases hop
        · rw [HPL.out] at hpl; cases hpl

/-! ### THE ROW's STEP -/
set_option maxRecDepth 100000 in
theorem lifted (os : Os) (started : os.Started) (H : Type) (enc : TypeId × Value → H) :
    ReturnsInHanded {} Try.checked os 6 .any (Rows.recBackSpec.pre6 enc Try.prog Try.f6 Rows.recBackRow.domain false) (Rows.recBackSpec.post enc Try.prog Try.f6 false true false false) := by
  refine returnsInHanded_of_change_sized (C := Try.checked) own started (by kernel_rfl) Try.func6
    (ChangeSpec.witness6 (enc := enc) (C := Try.checked) false ⟨#[], #[.int .u64 0, .slice none 0 0, .int .u16 0], []⟩ 8 (by kernel_rfl) (by kernel_rfl) (by kernel_rfl) (by kernel_rfl)) ?_
  intro W base args ds gs before hval0 hW hcnd hsz _
  have hval : ∀ (j : Nat) t v, Try.f6.params[j]? = some t → args[j]? = some v → Value.okWide Try.prog W .any base t v := hval0
  have hW' := hW
  obtain ⟨p, q, hA0, hV, rfl, hfz, hnd⟩ := hW
  have hA : DataW.TrodAll enc Try.prog W 0 (fun _ => true) true Try.f6.params.toList args.toList ds p := hA0
  rw [Try.params6] at hA hval
  obtain ⟨v0, vs0, d0, ds0, p0, q0, hargs, rfl, rfl, h0, r0⟩ := trodAll_cons hA
  obtain ⟨v1, vs1, d1, ds1, p1, q1, rfl, rfl, rfl, h1, r1⟩ := trodAll_cons r0
  obtain ⟨v2, vs2, d2, ds2, p2, q2, rfl, rfl, rfl, h2, r2⟩ := trodAll_cons r1
  obtain ⟨rfl, rfl, rfl⟩ := trodAll_nil r2
  obtain rfl : args = #[v0, v1, v2] := by cases args; simp_all
  obtain ⟨rfl, rfl⟩ := trodVars_none hV
  obtain ⟨a0, rfl, rfl, rfl, w0⟩ := open_int Try.underlying31 (hval 0 31 v0 rfl rfl) h0
  have k1 := h1
  have lt1 : ∀ x ∈ p1, x.block < W.heap.size := by obtain ⟨m, hm⟩ := k1; exact DataW.trod_lt m _ _ _ hm
  obtain ⟨a1', l1', c1', rfl⟩ := okWide_slice Try.underlying22 (hval 1 22 v1 rfl rfl)
  obtain ⟨a1, a1l, a1c, he1, w1, w1l, w1m⟩ := open_AR1 (c := .slice a1' l1' c1') (by obtain ⟨m, hm⟩ := h1; exact ⟨m, hm⟩) (fun n hn => by have := List.all_eq_true.1 hsz n (DataW.weights_mem_each (j := 1) rfl rfl n hn); simpa using this)
  simp only [Value.slice.injEq] at he1
  obtain ⟨rfl, rfl, rfl⟩ := he1
  obtain ⟨a2, rfl, rfl, rfl, w2⟩ := open_int Try.underlying40 (hval 2 40 v2 rfl rfl) h2
  clear hA0 hval0
  refine (walk a0 a1' l1' c1' a2 W w0 w1 w1l w1m w2).mono fun e W' ⟨he, bel⟩ => ?_
  subst he
  exact ⟨_, rfl, _, _, _, [], _, [], hW', trodAll_mk1 (shut_bool Try.underlying4 _), (trodAll_cons_mk (shut_int Try.underlying31 w0) (trodAll_cons_mk (Below.trod laidOut (by kernel_rfl) (of_decide_eq_true (by kernel_rfl)) k1 bel lt1) (trodAll_cons_mk (shut_int Try.underlying40 w2) trodAll_mk0))), rfl, bel.frame _, fun h => by cases h⟩

theorem over : Rows.recBackRow.holds Try.pinned (OpenSpec.ofChange Rows.recBackSpec) :=
  OpenClaim.holds_of_wide 6 Try.f6 rfl rfl rfl rfl rfl rfl rfl ⟨rfl, rfl, rfl, rfl, rfl⟩ rfl rfl rfl rfl rfl (by kernel_rfl) Try.func6 (by kernel_rfl)
    (of_decide_eq_true (by kernel_rfl)) (by unfold Func.isWrapper; first | (rw [if_pos (by decide +kernel)]; kernel_rfl) | (rw [if_neg (by decide +kernel)]; exact ⟨rfl, rfl⟩))
    (fun os started H enc _ => lifted os started H enc)

/-- THE STATEMENT -/
theorem proved : Rows.RecBackSaid := over
#print axioms proved
end Go.Proofs.Ytomhalcoomdadaa.recBack
