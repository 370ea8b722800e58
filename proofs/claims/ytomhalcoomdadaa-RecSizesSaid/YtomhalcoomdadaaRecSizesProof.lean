/-
  The law RecSizes holds: updates take as many bytes as each of them takes together; one behind the other their bytes are those of both lists. Conditions: none but the row's own.
-/
import Derived.Test.YtomhalcoomdadaaRows
import Derived.Test.YtomhalcoomdadaaRecN
import Derived.Test.YtomhalcoomdadaaStructsZ
import Derived.WalkKit
import Derived.ProofKit
import Derived.OpenShut
import Derived.ShutString
import Derived.ChangeOld
import Derived.Below
import Derived.Carry
namespace Go.Proofs.Ytomhalcoomdadaa.recSizes
open Go.ChangeShapes Go.WideShapes Go.ChangeAt Go.RowKit
open Go.Proofs.Ytomhalcoomdadaa
open Go.ChangeMaps (open_string shut_string)
set_option linter.unusedVariables false

theorem own : ownKnob Try.prog.godebug = none := by kernel_rfl
theorem laidOut : laidOutB Try.prog = true := by kernel_rfl

/-- the elements of argument 0 -/
def AR0 (w : World) (a : Option Addr) (len : Nat) : Prop := 0 < len → ∃ b off, a = some ⟨b, off, none⟩ ∧ ∀ i, i < len → ∃ (x0 : Int) (x1 : ByteArray) (x2 : ByteArray) (x3 : Int), w.cell? ⟨b, off + (i * 4 + 0), none⟩ = some (.int .u8 x0) ∧ (Lit.int .u8 x0).wf = true ∧ w.cell? ⟨b, off + (i * 4 + 1), none⟩ = some (.string x1) ∧ x1.size ≤ 140737488355327 ∧ w.cell? ⟨b, off + (i * 4 + 2), none⟩ = some (.string x2) ∧ x2.size ≤ 140737488355327 ∧ w.cell? ⟨b, off + (i * 4 + 3), none⟩ = some (.int .u64 x3) ∧ (Lit.int .u64 x3).wf = true
theorem open_AR0 {H : Type} {enc : TypeId × Value → H} {w : World} {held : Bool} {c : Value} {d : DataW H} {pl : List MemPlace} (h : ∃ m, DataW.trod enc Try.prog w 0 (fun _ => true) held m 22 [c] = some (d, pl)) (hz : ∀ n ∈ d.weights Try.prog 22, n ≤ reachBytes) :
    ∃ a len cap, c = .slice a len cap ∧ AR0 w a len ∧ len ≤ cap ∧ cap ≤ maxLen := by
  obtain ⟨a, len, cap, hc, hl, hm, hx⟩ := open_structs_z Try.underlying22 Try.underlying43 (by kernel_rfl) (by kernel_rfl) (by decide) h hz
  refine ⟨a, len, cap, hc, fun hpos => ?_, hl, hm⟩
  obtain ⟨b, off, ha, hf⟩ := hx hpos
  refine ⟨b, off, ha, fun i hi => ?_⟩
  obtain ⟨v0, hc0, ht0, hz0⟩ := hf i hi 0 _ rfl
  obtain ⟨x0, rfl, hw0⟩ := open_int_cell Try.underlying5 ht0
  obtain ⟨v1, hc1, ht1, hz1⟩ := hf i hi 1 _ rfl
  obtain ⟨x1, rfl, hw1'⟩ := open_str_cell Try.underlying9 ht1
  have hw1 := hz1 Try.underlying9 _ rfl
  obtain ⟨v2, hc2, ht2, hz2⟩ := hf i hi 2 _ rfl
  obtain ⟨x2, rfl, hw2'⟩ := open_str_cell Try.underlying9 ht2
  have hw2 := hz2 Try.underlying9 _ rfl
  obtain ⟨v3, hc3, ht3, hz3⟩ := hf i hi 3 _ rfl
  obtain ⟨x3, rfl, hw3⟩ := open_int_cell Try.underlying31 ht3
  exact ⟨x0, x1, x2, x3, hc0, hw0, hc1, hw1, hc2, hw2, hc3, hw3⟩
/-- the elements of argument 1 -/
def AR1 (w : World) (a : Option Addr) (len : Nat) : Prop := 0 < len → ∃ b off, a = some ⟨b, off, none⟩ ∧ ∀ i, i < len → ∃ (x0 : Int) (x1 : ByteArray) (x2 : ByteArray) (x3 : Int), w.cell? ⟨b, off + (i * 4 + 0), none⟩ = some (.int .u8 x0) ∧ (Lit.int .u8 x0).wf = true ∧ w.cell? ⟨b, off + (i * 4 + 1), none⟩ = some (.string x1) ∧ x1.size ≤ 140737488355327 ∧ w.cell? ⟨b, off + (i * 4 + 2), none⟩ = some (.string x2) ∧ x2.size ≤ 140737488355327 ∧ w.cell? ⟨b, off + (i * 4 + 3), none⟩ = some (.int .u64 x3) ∧ (Lit.int .u64 x3).wf = true
theorem open_AR1 {H : Type} {enc : TypeId × Value → H} {w : World} {held : Bool} {c : Value} {d : DataW H} {pl : List MemPlace} (h : ∃ m, DataW.trod enc Try.prog w 0 (fun _ => true) held m 22 [c] = some (d, pl)) (hz : ∀ n ∈ d.weights Try.prog 22, n ≤ reachBytes) :
    ∃ a len cap, c = .slice a len cap ∧ AR1 w a len ∧ len ≤ cap ∧ cap ≤ maxLen := by
  obtain ⟨a, len, cap, hc, hl, hm, hx⟩ := open_structs_z Try.underlying22 Try.underlying43 (by kernel_rfl) (by kernel_rfl) (by decide) h hz
  refine ⟨a, len, cap, hc, fun hpos => ?_, hl, hm⟩
  obtain ⟨b, off, ha, hf⟩ := hx hpos
  refine ⟨b, off, ha, fun i hi => ?_⟩
  obtain ⟨v0, hc0, ht0, hz0⟩ := hf i hi 0 _ rfl
  obtain ⟨x0, rfl, hw0⟩ := open_int_cell Try.underlying5 ht0
  obtain ⟨v1, hc1, ht1, hz1⟩ := hf i hi 1 _ rfl
  obtain ⟨x1, rfl, hw1'⟩ := open_str_cell Try.underlying9 ht1
  have hw1 := hz1 Try.underlying9 _ rfl
  obtain ⟨v2, hc2, ht2, hz2⟩ := hf i hi 2 _ rfl
  obtain ⟨x2, rfl, hw2'⟩ := open_str_cell Try.underlying9 ht2
  have hw2 := hz2 Try.underlying9 _ rfl
  obtain ⟨v3, hc3, ht3, hz3⟩ := hf i hi 3 _ rfl
  obtain ⟨x3, rfl, hw3⟩ := open_int_cell Try.underlying31 ht3
  exact ⟨x0, x1, x2, x3, hc0, hw0, hc1, hw1, hc2, hw2, hc3, hw3⟩

open Go.Proofs.Ytomhalcoomdadaa.Rec
def Qu (u : Up) : Prop := WfU u ∧ SmU u
theorem ups0 {w : World} {a : Option Addr} {len cap : Nat} (h : AR0 w a len) : ∃ l, len = l.length ∧ UR w (.slice a len cap) l ∧ ∀ u ∈ l, Qu u := by
  refine ur_of Qu fun h0 => ?_
  obtain ⟨b, off, ha, hx⟩ := h h0
  refine ⟨b, off, ha, fun i hi => ?_⟩
  obtain ⟨x0, x1, x2, x3, c0, h0, c1, h1, c2, h2, c3, h3⟩ := hx i hi
  exact ⟨_, ⟨⟨(u8_bd h0).1, (u8_bd h0).2, (u64_bd h3).1, (u64_bd h3).2⟩, by simpa using h1, by simpa using h2⟩, up_cells c0 c1 c2 c3⟩
theorem ups1 {w : World} {a : Option Addr} {len cap : Nat} (h : AR1 w a len) : ∃ l, len = l.length ∧ UR w (.slice a len cap) l ∧ ∀ u ∈ l, Qu u := by
  refine ur_of Qu fun h0 => ?_
  obtain ⟨b, off, ha, hx⟩ := h h0
  refine ⟨b, off, ha, fun i hi => ?_⟩
  obtain ⟨x0, x1, x2, x3, c0, h0, c1, h1, c2, h2, c3, h3⟩ := hx i hi
  exact ⟨_, ⟨⟨(u8_bd h0).1, (u8_bd h0).2, (u64_bd h3).1, (u64_bd h3).2⟩, by simpa using h1, by simpa using h2⟩, up_cells c0 c1 c2 c3⟩

/-! ### STEP 1: THE WALK -/
set_option maxHeartbeats 8000000 in
set_option maxRecDepth 100000 in
theorem walk (a0 : Option Addr) (a0l a0c : Nat) (a1 : Option Addr) (a1l a1c : Nat) (w : World) (w0 : AR0 w a0 a0l) (w0l : a0l ≤ a0c) (w0m : a0c ≤ maxLen) (w1 : AR1 w a1 a1l) (w1l : a1l ≤ a1c) (w1m : a1c ≤ maxLen) :
    Calls Try.prog 7 #[.slice a0 a0l a0c, .slice a1 a1l a1c] w fun e w' => e = .returned (.bool true) ∧ Below w.heap.size w w' := by
  obtain ⟨l1, hl, hu, hq⟩ := ups0 (cap := a0c) w0
  have HU1 := Lib.hid hu
  have HN1 := Lib.hid hl
  have HQ1 := Lib.hid hq
  have HNC1 := Lib.hid (show a0l ≤ a0c ∧ a0c ≤ 9223372036854775807 from ⟨w0l, by unfold maxLen at w0m; exact w0m⟩)
  clear hl hu hq w0 w0l w0m
  obtain ⟨l2, hl, hu, hq⟩ := ups1 (cap := a1c) w1
  have HU2 := Lib.hid hu
  have HN2 := Lib.hid hl
  have HQ2 := Lib.hid hq
  have HNC2 := Lib.hid (show a1l ≤ a1c ∧ a1c ≤ 9223372036854775807 from ⟨w1l, by unfold maxLen at w1m; exact w1m⟩)
  clear hl hu hq w1 w1l w1m
  obtain ⟨ilu, hilu, hlu0, hlu1, hlu2⟩ := info_parts info_lu
  go_enter Try.func7, Try.ntmps7
  obtain ⟨M1, hm⟩ : ∃ m, m = min a0l 8 := ⟨_, rfl⟩
  have HMM1 := Lib.hid hm
  go_upto_region 2 with fail
  go_cut [28, 29, 30] (fun s t i wx => ∃ a' cap', s = .slice a' M1 cap' ∧ t = .int .i64 M1 ∧ i = .int .i64 ((0 : Nat) : Int) ∧ (0 < M1 → a' = a0) ∧ wx = w)
  case first =>
    have hnc := HNC1.out
    go_wp2_with fail
    all_goals
      go_meet
      first
      | (have e : M1 = 8 := by have := HMM1.out; omega
         exact ⟨_, _, by rw [e], by rw [e]; rfl, rfl, fun _ => rfl, rfl⟩)
      | (have e : M1 = a0l := by have := HMM1.out; omega
         exact ⟨_, _, by rw [e], by rw [e], rfl, fun _ => rfl, rfl⟩)
  case rest =>
    obtain ⟨s1, c1, rfl, rfl, rfl, haa, hww⟩ := hcut
    have hww := hww.symm
    subst hww
    have hml : M1 ≤ l1.length ∧ M1 ≤ 8 := by have := HMM1.out; have := HN1.out; omega
    obtain ⟨hml, hmk⟩ := hml
    have HAA := Lib.hid haa
    clear hm haa
    go_wp2_with fail
    go_loopw [5, 30] (fun av i wr1 => ∃ (k : Nat) (av' : Value), k ≤ M1 ∧ av' = av ∧ i = .int .i64 k ∧ RT wr1 w.heap.size av' (tmL 8 (l1.take k)) ∧ Below w.heap.size w wr1) (fun _ i _ => M1 - (intOf i).toNat)
    case atStart => exact ⟨0, _, Nat.zero_le _, rfl, rfl, World.ownsRow_nil _ _ _ _, Below.refl _ _⟩
    case round =>
      obtain ⟨k, V1, hk, rfl, rfl, hrow, hb⟩ := hrel
      rename World => wr1
      by_cases hlt : k < M1
      · have hke : k < l1.length := by omega
        have hki : (k : Int) < (M1 : Int) := by omega
        obtain ⟨g, off, hg, hcc⟩ := UR.at_ HU1.out (by omega)
        obtain rfl : s1 = some ⟨g, off, none⟩ := by rw [HAA.out (by omega), hg]
        have hcc := hcc k hke
        have HQU := Lib.hid (HQ1.out _ (List.getElem_mem hke))
        have HTM := Lib.hid (tmL_snoc (K := 8) hke (by omega))
        obtain ⟨u, hu⟩ : ∃ u, u = l1[k] := ⟨_, rfl⟩
        rw [← hu] at hcc HQU HTM
        have hbc : ∀ j x, j < 4 → (encU u)[j]? = some x → wr1.cell? ⟨g, off + k * 4 + j, none⟩ = some x := fun j x hj hx => by
          have h1 := (hcc j hj).trans hx
          rw [(hb).cell (World.block_lt_of_cell? _ _ h1)]; exact h1
        have c0 : wr1.cell? ⟨g, off + k * 4, none⟩ = some (.int .u8 u.kind) := hbc 0 _ (by omega) rfl
        have c1 : wr1.cell? ⟨g, off + k * 4 + 1, none⟩ = some (.string (Lend.strOf u.key)) := hbc 1 _ (by omega) rfl
        have c2 : wr1.cell? ⟨g, off + k * 4 + 2, none⟩ = some (.string (Lend.strOf u.val)) := hbc 2 _ (by omega) rfl
        have c3 : wr1.cell? ⟨g, off + k * 4 + 3, none⟩ = some (.int .u64 u.delta) := hbc 3 _ (by omega) rfl
        have HR := Lib.hid hrow
        have HBR := Lib.hid hb
        have hTl : (tmL 8 (l1.take k)).length ≤ 8 := by rw [tmL_length]; omega
        obtain ⟨T, hT⟩ : ∃ x, x = tmL 8 (l1.take k) := ⟨_, rfl⟩
        rw [← hT] at HR HTM hTl
        clear hcc hu hbc hke hg hb hrow hT
        go_wp2_with fail
        refine (tame_at u _ HQU.out.1 HQU.out.2).mono ?_
        rintro e w2 ⟨rfl, hb2⟩
        have HB2 := Lib.hid (below_on (below_nw HBR.out _) hb2)
        have HR2 := Lib.hid (show RT w2 w.heap.size V1 T from own_bel (HR.out.alloc _) hb2)
        clear hb2 c0 c1 c2 c3
        have HET := Lib.hid (show encU (tmU u) = [.int .u8 (tmU u).kind, .string (Lend.strOf (tmU u).key), .string (Lend.strOf (tmU u).val), .int .u64 (tmU u).delta] from rfl)
        obtain ⟨x, hx⟩ : ∃ x, x = tmU u := ⟨_, rfl⟩
        rw [← hx] at HET HTM ⊢
        clear hx
        have HNW := Lib.hid (show ∀ j y, (encU x)[j]? = some y → (w2.alloc (.cells #[.int .u8 x.kind, .string (Lend.strOf x.key), .string (Lend.strOf x.val), .int .u64 x.delta] 43)).cell? ((⟨w2.heap.size, 0, none⟩ : Addr).add j) = some y from by rw [HET.out]; exact has_news (Has.new w2 [.int .u8 x.kind, .string (Lend.strOf x.key), .string (Lend.strOf x.val), .int .u64 x.delta] _))
        have HB3 := Lib.hid (below_nw HB2.out (.cells #[.int .u8 x.kind, .string (Lend.strOf x.key), .string (Lend.strOf x.val), .int .u64 x.delta] 43))
        go_wp2_with (at_builtin; refine wpList_append_own _ rfl _ _ 22 rfl w.heap.size 43 ilu _ 4 48 Try.underlying22 hilu hlu0 hlu1 hlu2 rfl (by decide) _ T.length (flatU T) rfl (HR2.out.alloc _) ⟨w2.heap.size, 0, none⟩ 1 1 (encU x) rfl rfl HNW.out (enc_one _) ?d11 ?d21 ?d31 ?_)
        case d11 => unfold maxLen; omega
        case d21 => omega
        case d31 => exact HB3.out.size
        intro v4 w4 hown4 hgr _
        have HR4 := Lib.hid (show RT w4 w.heap.size v4 (T ++ [x]) by unfold RT; rw [flatU_snoc, List.length_append]; exact hown4)
        have HB4 := Lib.hid (HB3.out.grown hgr HB3.out.size (fun q hq => (HR2.out.lt q hq).1))
        clear hown4 hgr
        go_wp2_with fail
        go_roundw
        case rel => exact ⟨k + 1, _, by omega, rfl, by go_num, by rw [HTM.out]; exact HR4.out, HB4.out⟩
        case measure => simp [intOf]; omega
      · obtain rfl : k = M1 := by omega
        have hki : ¬ (k : Int) < (k : Int) := by omega
        have htk : tmL 8 (l1.take k) = tmL 8 l1 := by
          unfold tmL
          rw [List.take_take]
          congr 1
          rw [List.take_eq_take_iff]
          have := HMM1.out; have := HN1.out; omega
        rw [htk] at hrow
        have HM1 := Lib.hid hrow
        have HL1 := Lib.hid hb
        clear hrow hb htk hml hmk hk hlt
        obtain ⟨M2, hm⟩ : ∃ m, m = min a1l 4 := ⟨_, rfl⟩
        have HMM2 := Lib.hid hm
        go_upto_region 7 with fail
        go_cut [44, 45, 46] (fun s t i wx => ∃ a' cap', s = .slice a' M2 cap' ∧ t = .int .i64 M2 ∧ i = .int .i64 ((0 : Nat) : Int) ∧ (0 < M2 → a' = a1) ∧ wx = wr1)
        case first =>
          have hnc := HNC2.out
          go_wp2_with fail
          all_goals
            go_meet
            first
            | (have e : M2 = 4 := by have := HMM2.out; omega
               exact ⟨_, _, by rw [e], by rw [e]; rfl, rfl, fun _ => rfl, rfl⟩)
            | (have e : M2 = a1l := by have := HMM2.out; omega
               exact ⟨_, _, by rw [e], by rw [e], rfl, fun _ => rfl, rfl⟩)
        case rest =>
          obtain ⟨s2, c2, rfl, rfl, rfl, haa, hww⟩ := hcut
          have hww := hww.symm
          subst hww
          have hml : M2 ≤ l2.length ∧ M2 ≤ 4 := by have := HMM2.out; have := HN2.out; omega
          obtain ⟨hml, hmk⟩ := hml
          have HAA := Lib.hid haa
          clear hm haa
          go_wp2_with fail
          go_loopw [6, 46] (fun av i wr2 => ∃ (k : Nat) (av' : Value), k ≤ M2 ∧ av' = av ∧ i = .int .i64 k ∧ RT wr2 wr1.heap.size av' (tmL 4 (l2.take k)) ∧ Below wr1.heap.size wr1 wr2) (fun _ i _ => M2 - (intOf i).toNat)
          case atStart => exact ⟨0, _, Nat.zero_le _, rfl, rfl, World.ownsRow_nil _ _ _ _, Below.refl _ _⟩
          case round =>
            obtain ⟨k, V2, hk, rfl, rfl, hrow, hb⟩ := hrel
            rename World => wr2
            by_cases hlt : k < M2
            · have hke : k < l2.length := by omega
              have hki : (k : Int) < (M2 : Int) := by omega
              obtain ⟨g, off, hg, hcc⟩ := UR.at_ HU2.out (by omega)
              obtain rfl : s2 = some ⟨g, off, none⟩ := by rw [HAA.out (by omega), hg]
              have hcc := hcc k hke
              have HQU := Lib.hid (HQ2.out _ (List.getElem_mem hke))
              have HTM := Lib.hid (tmL_snoc (K := 4) hke (by omega))
              obtain ⟨u, hu⟩ : ∃ u, u = l2[k] := ⟨_, rfl⟩
              rw [← hu] at hcc HQU HTM
              have hbc : ∀ j x, j < 4 → (encU u)[j]? = some x → wr2.cell? ⟨g, off + k * 4 + j, none⟩ = some x := fun j x hj hx => by
                have h1 := (hcc j hj).trans hx
                rw [((below_on HL1.out hb)).cell (World.block_lt_of_cell? _ _ h1)]; exact h1
              have c0 : wr2.cell? ⟨g, off + k * 4, none⟩ = some (.int .u8 u.kind) := hbc 0 _ (by omega) rfl
              have c1 : wr2.cell? ⟨g, off + k * 4 + 1, none⟩ = some (.string (Lend.strOf u.key)) := hbc 1 _ (by omega) rfl
              have c2 : wr2.cell? ⟨g, off + k * 4 + 2, none⟩ = some (.string (Lend.strOf u.val)) := hbc 2 _ (by omega) rfl
              have c3 : wr2.cell? ⟨g, off + k * 4 + 3, none⟩ = some (.int .u64 u.delta) := hbc 3 _ (by omega) rfl
              have HR := Lib.hid hrow
              have HBR := Lib.hid hb
              have hTl : (tmL 4 (l2.take k)).length ≤ 4 := by rw [tmL_length]; omega
              obtain ⟨T, hT⟩ : ∃ x, x = tmL 4 (l2.take k) := ⟨_, rfl⟩
              rw [← hT] at HR HTM hTl
              clear hcc hu hbc hke hg hb hrow hT
              go_wp2_with fail
              refine (tame_at u _ HQU.out.1 HQU.out.2).mono ?_
              rintro e w2 ⟨rfl, hb2⟩
              have HB2 := Lib.hid (below_on (below_nw HBR.out _) hb2)
              have HR2 := Lib.hid (show RT w2 wr1.heap.size V2 T from own_bel (HR.out.alloc _) hb2)
              clear hb2 c0 c1 c2 c3
              have HET := Lib.hid (show encU (tmU u) = [.int .u8 (tmU u).kind, .string (Lend.strOf (tmU u).key), .string (Lend.strOf (tmU u).val), .int .u64 (tmU u).delta] from rfl)
              obtain ⟨x, hx⟩ : ∃ x, x = tmU u := ⟨_, rfl⟩
              rw [← hx] at HET HTM ⊢
              clear hx
              have HNW := Lib.hid (show ∀ j y, (encU x)[j]? = some y → (w2.alloc (.cells #[.int .u8 x.kind, .string (Lend.strOf x.key), .string (Lend.strOf x.val), .int .u64 x.delta] 43)).cell? ((⟨w2.heap.size, 0, none⟩ : Addr).add j) = some y from by rw [HET.out]; exact has_news (Has.new w2 [.int .u8 x.kind, .string (Lend.strOf x.key), .string (Lend.strOf x.val), .int .u64 x.delta] _))
              have HB3 := Lib.hid (below_nw HB2.out (.cells #[.int .u8 x.kind, .string (Lend.strOf x.key), .string (Lend.strOf x.val), .int .u64 x.delta] 43))
              go_wp2_with (at_builtin; refine wpList_append_own _ rfl _ _ 22 rfl wr1.heap.size 43 ilu _ 4 48 Try.underlying22 hilu hlu0 hlu1 hlu2 rfl (by decide) _ T.length (flatU T) rfl (HR2.out.alloc _) ⟨w2.heap.size, 0, none⟩ 1 1 (encU x) rfl rfl HNW.out (enc_one _) ?d12 ?d22 ?d32 ?_)
              case d12 => unfold maxLen; omega
              case d22 => omega
              case d32 => exact HB3.out.size
              intro v4 w4 hown4 hgr _
              have HR4 := Lib.hid (show RT w4 wr1.heap.size v4 (T ++ [x]) by unfold RT; rw [flatU_snoc, List.length_append]; exact hown4)
              have HB4 := Lib.hid (HB3.out.grown hgr HB3.out.size (fun q hq => (HR2.out.lt q hq).1))
              clear hown4 hgr
              go_wp2_with fail
              go_roundw
              case rel => exact ⟨k + 1, _, by omega, rfl, by go_num, by rw [HTM.out]; exact HR4.out, HB4.out⟩
              case measure => simp [intOf]; omega
            · obtain rfl : k = M2 := by omega
              have hki : ¬ (k : Int) < (k : Int) := by omega
              have htk : tmL 4 (l2.take k) = tmL 4 l2 := by
                unfold tmL
                rw [List.take_take]
                congr 1
                rw [List.take_eq_take_iff]
                have := HMM2.out; have := HN2.out; omega
              rw [htk] at hrow
              have HM2 := Lib.hid hrow
              have HL2 := Lib.hid hb
              clear hrow hb htk hml hmk hk hlt
              have HM1 := Lib.hid (show RT wr2 w.heap.size V1 (tmL 8 l1) from own_bel HM1.out HL2.out)
              obtain ⟨vo1, vc1, rfl, hvc, hvm⟩ := own_cap HM1.out
              have hok := tmL_ok (K := 8) (fun u hu => (HQ1.out u hu).1)
              have hml : (tmL 8 l1).length ≤ 8 := by rw [tmL_length]; omega
              obtain ⟨m1, hm⟩ : ∃ x, x = tmL 8 l1 := ⟨_, rfl⟩
              rw [← hm] at HM1 hvc hok hml ⊢
              have HCH1 := Lib.hid hok.1
              have HWF1 := Lib.hid hok.2
              have HOL1 := Lib.hid (ofL_ok hok.1 (by omega))
              have HVC1 := Lib.hid (And.intro hvc hvm)
              have HML1 := Lib.hid hml
              clear hvc hvm hok hml hm
              obtain ⟨vo2, vc2, rfl, hvc, hvm⟩ := own_cap HM2.out
              have hok := tmL_ok (K := 4) (fun u hu => (HQ2.out u hu).1)
              have hml : (tmL 4 l2).length ≤ 4 := by rw [tmL_length]; omega
              obtain ⟨m2, hm⟩ : ∃ x, x = tmL 4 l2 := ⟨_, rfl⟩
              rw [← hm] at HM2 hvc hok hml ⊢
              have HCH2 := Lib.hid hok.1
              have HWF2 := Lib.hid hok.2
              have HOL2 := Lib.hid (ofL_ok hok.1 (by omega))
              have HVC2 := Lib.hid (And.intro hvc hvm)
              have HML2 := Lib.hid hml
              clear hvc hvm hok hml hm
              have HOF1 := Lib.hid (of_any (UR.of_own HM1.out) rfl HVC1.out.1 HVC1.out.2 (szU_ok HCH1.out))
              rw [HOL1.out] at HOF1
              obtain ⟨n1, hn1⟩ : ∃ n, n = m1.length := ⟨_, rfl⟩
              obtain ⟨n2, hn2⟩ : ∃ n, n = m2.length := ⟨_, rfl⟩
              have HN1 := Lib.hid hn1
              have HN2 := Lib.hid hn2
              have HOF2 := Lib.hid (fun W (h : Below wr2.heap.size wr2 W) => of_any ((UR.of_own HM2.out).below h) rfl HVC2.out.1 HVC2.out.2 (szU_ok HCH2.out))
              rw [HOL2.out] at HOF2
              rw [← hn1] at HOF1 ⊢
              rw [← hn2] at HOF2 ⊢
              clear hn1 hn2
              have HBW := Lib.hid (below_on HL1.out HL2.out)
              go_wp2_with fail
              refine HOF1.out.mono ?_
              rintro e w1 ⟨a, b, rfl, hra, hru, hb1⟩
              have HB1 := Lib.hid hb1
              have HRA := Lib.hid hra
              clear hb1 hra hru HOF1
              go_wp2_with fail
              refine (HOF2.out _ HB1.out).mono ?_
              rintro e w2 ⟨c, d, rfl, hra, hru, hb2⟩
              have HB2 := Lib.hid (below_on HB1.out hb2)
              have HRA2 := Lib.hid (show RA w2 wr2.heap.size a m1 from own_bel HRA.out hb2)
              have HRC2 := Lib.hid hra
              obtain ⟨ao, ac, rfl, hac, hacm⟩ := own_cap HRA2.out
              obtain ⟨co, cc, rfl, hcc, hccm⟩ := own_cap HRC2.out
              rw [← HN1.out] at hac ⊢
              rw [← HN2.out] at hcc ⊢
              have HUA := Lib.hid (UR.of_own HRA2.out)
              have HUC := Lib.hid (UR.of_own HRC2.out)
              clear hb2 hra hru HOF2 hccm hacm
              have HTA := Lib.hid (fun W (h : Below w2.heap.size w2 W) => Text_any (HUA.out.below h) (by have := HML1.out; omega) HWF1.out)
              have HTC := Lib.hid (fun W (h : Below w2.heap.size w2 W) => Text_any (HUC.out.below h) (by have := HML2.out; omega) HWF2.out)
              rw [txT_ok HCH1.out, errL_ok HCH1.out] at HTA
              rw [txT_ok HCH2.out, errL_ok HCH2.out] at HTC
              rw [← HN1.out] at HTA
              rw [← HN2.out] at HTC
              go_wp2_with fail
              refine (HTA.out _ (Below.refl _ _)).mono ?_
              rintro e w3 ⟨rfl, hb3⟩
              have HB3 := Lib.hid hb3
              clear hb3
              go_wp2_with fail
              refine (HTC.out _ HB3.out).mono ?_
              rintro e w4 ⟨rfl, hb4⟩
              have HB4 := Lib.hid (below_on HB3.out hb4)
              obtain ⟨v5, w5, hrun, hu5, hb5⟩ := app_ups (n := n1) (m := n2) (show RA w4 wr2.heap.size (.slice ao n1 ac) m1 by rw [HN1.out]; exact own_bel (own_bel HRA2.out HB3.out) hb4) (show RA w4 w1.heap.size (.slice co n2 cc) m2 by rw [HN2.out]; exact own_bel (own_bel HRC2.out HB3.out) hb4) (by have := HML1.out; have := HML2.out; have := HN1.out; have := HN2.out; omega)
              have HRUN := Lib.hid hrun
              have HU5 := Lib.hid hu5
              have HB5 := Lib.hid (below_on HB4.out hb5)
              have HT5 := Lib.hid (Text_any hu5 (by rw [List.length_append]; have := HML1.out; have := HML2.out; omega) (fun u hu => by rcases List.mem_append.1 hu with h | h; exact HWF1.out u h; exact HWF2.out u h))
              have hch : ∀ u ∈ m1 ++ m2, chkU u = 0 := fun u hu => by rcases List.mem_append.1 hu with h | h; exact HCH1.out u h; exact HCH2.out u h
              rw [txT_ok hch, errL_ok hch, txL_append, ← sapp] at HT5
              have HSZ := Lib.hid (ssize (txL m1))
              have HSZ2 := Lib.hid (show (Lend.strOf (txL m1)).size ≤ 100000 ∧ (Lend.strOf (txL m2)).size ≤ 100000 from by
                rw [ssize, ssize]
                have := txL_le m1 (errL_ok HCH1.out); have := txL_le m2 (errL_ok HCH2.out); have := HML1.out; have := HML2.out
                omega)
              obtain ⟨S, hS⟩ : ∃ x, x = Lend.strOf (txL m1) := ⟨_, rfl⟩
              obtain ⟨T, hT⟩ : ∃ x, x = Lend.strOf (txL m2) := ⟨_, rfl⟩
              rw [← hS] at HT5 HSZ HSZ2 ⊢
              rw [← hT] at HT5 HSZ2 ⊢
              have HS := Lib.hid hS
              have hle1 := HSZ2.out.1
              have hle2 := HSZ2.out.2
              clear hb4 hb5 hrun hu5 hch hS hT HTA HTC
              go_wp2_with (at_builtin; refine wpList_append_run rfl _ _ 23 23 rfl _ _ _ rfl rfl HRUN.out ?_)
              go_wp2_with fail
              refine HT5.out.mono ?_
              rintro e w6 ⟨rfl, hb6⟩
              have HB6 := Lib.hid (below_on HB5.out hb6)
              clear hb6
              go_wp2_with fail
              go_loopw [21, 90] (fun z i wz => ∃ k : Nat, k ≤ n1 ∧ i = .int .i64 k ∧ z = .int .i64 ((txL (m1.take k)).length : Nat) ∧ (txL (m1.take k)).length ≤ 51 * k ∧ Below w2.heap.size w2 wz) (fun _ i _ => n1 - (intOf i).toNat)
              case atStart => exact ⟨0, Nat.zero_le _, rfl, rfl, Nat.zero_le _, HB6.out⟩
              case round =>
                obtain ⟨k, hk, rfl, rfl, hln, hb⟩ := hrel
                rename World => wz
                have HB := Lib.hid hb
                by_cases hlt : k < n1
                · have hke : k < m1.length := by rw [← HN1.out]; exact hlt
                  have hki : (k : Int) < (n1 : Int) := by omega
                  obtain ⟨g, off, rfl, hca⟩ := UR.at_ HUA.out (by omega)
                  have hca := hca k hke
                  have HST := Lib.hid (txL_step hke)
                  have hmem := List.getElem_mem hke
                  obtain ⟨u, hu⟩ : ∃ u, u = m1[k] := ⟨_, rfl⟩
                  rw [← hu] at hca HST hmem
                  have HWU := Lib.hid (HWF1.out _ hmem)
                  have HCU := Lib.hid (HCH1.out _ hmem)
                  have HLU := Lib.hid (txU_le HCU.out)
                  have HSU := Lib.hid (szU_yes HCU.out)
                  have hbc : ∀ j x, j < 4 → (encU u)[j]? = some x → wz.cell? ⟨g, off + k * 4 + j, none⟩ = some x := fun j x hj hx => by
                    have h1 := (hca j hj).trans hx
                    rw [hb.cell (World.block_lt_of_cell? _ _ h1)]; exact h1
                  have c0 : wz.cell? ⟨g, off + k * 4, none⟩ = some (.int .u8 u.kind) := hbc 0 _ (by omega) rfl
                  have c1 : wz.cell? ⟨g, off + k * 4 + 1, none⟩ = some (.string (Lend.strOf u.key)) := hbc 1 _ (by omega) rfl
                  have c2 : wz.cell? ⟨g, off + k * 4 + 2, none⟩ = some (.string (Lend.strOf u.val)) := hbc 2 _ (by omega) rfl
                  have c3 : wz.cell? ⟨g, off + k * 4 + 3, none⟩ = some (.int .u64 u.delta) := hbc 3 _ (by omega) rfl
                  obtain ⟨wa, hwa⟩ : ∃ x, x = wz.alloc (.cells #[.int .u8 u.kind, .string (Lend.strOf u.key), .string (Lend.strOf u.val), .int .u64 u.delta] 33) := ⟨_, rfl⟩
                  have HX := Lib.hid (show Has wa wz.heap.size 33 (encU u) by rw [hwa]; exact Has.new wz _ _)
                  have HBA := Lib.hid (show Below w2.heap.size w2 wa by rw [hwa]; exact below_nw hb _)
                  obtain ⟨tl, htl⟩ : ∃ x, x = (txL (m1.take k)).length := ⟨_, rfl⟩
                  have HTL := Lib.hid htl
                  rw [← htl] at hln ⊢
                  clear hu hca hbc hke hmem hb htl
                  go_wp2_with fail
                  rw [← hwa]
                  clear c0 c1 c2 c3
                  refine (check_any u _ HWU.out.1 HWU.out.2.1).mono ?_
                  rintro e wb ⟨rfl, hbb⟩
                  rw [HCU.out]
                  have HBB := Lib.hid (below_on HBA.out hbb)
                  have hxb := HX.out.below hbb HX.out.lt
                  have y0 := hxb.cell 0
                  have y1 := hxb.cell 1
                  have y2 := hxb.cell 2
                  have y3 := hxb.cell 3
                  simp only [encU, List.getElem?_cons_zero, List.getElem?_cons_succ] at y0 y1 y2 y3
                  clear hbb hxb hwa
                  go_wp2_with fail
                  refine (size_up u _ HWU.out.1 HWU.out.2.1 HWU.out.2.2.1 HWU.out.2.2.2).mono ?_
                  rintro e wd ⟨rfl, hbd⟩
                  have HBD := Lib.hid (below_on HBB.out hbd)
                  rw [HSU.out]
                  have hul := HLU.out
                  obtain ⟨ul, hul2⟩ : ∃ x, x = (txU u).length := ⟨_, rfl⟩
                  have HUL := Lib.hid hul2
                  rw [← hul2] at hul ⊢
                  have hk12 : k ≤ 12 := by have := HML1.out; have := HN1.out; omega
                  have hs1 : (tl : Int) + (ul : Int) ≤ 10000 := by omega
                  clear y0 y1 y2 y3 hbd hul2
                  go_wp2_with fail
                  go_roundw
                  case rel => exact ⟨k + 1, by omega, by go_num, by rw [HST.out, List.length_append, ← HTL.out, ← HUL.out]; go_num, by rw [HST.out, List.length_append, ← HTL.out, ← HUL.out]; omega, HBD.out⟩
                  case measure => simp [intOf]; omega
                · have hki : ¬ (k : Int) < (n1 : Int) := by omega
                  have htk : m1.take k = m1 := List.take_of_length_le (by have := HN1.out; omega)
                  rw [htk, ← HSZ.out]
                  have hST : ¬ 9223372036854775807 < S.size + T.size := by omega
                  clear hln hb htk
                  go_wp2_with fail
                  refine (wakes_any _).mono ?_
                  rintro e wf ⟨rfl, hbf⟩
                  have HBF := Lib.hid (below_on (below_on HBW.out (below_on (below_on HB2.out HB.out) hbf)) (Below.refl _ _))
                  clear hbf
                  go_wp2_with fail
                  go_ret
                  exact ⟨rfl, HBF.out⟩

/-! ### THE ROW's STEP -/
set_option maxRecDepth 100000 in
theorem lifted (os : Os) (started : os.Started) (H : Type) (enc : TypeId × Value → H) :
    ReturnsInHanded {} Try.checked os 7 .any (Rows.recSizesSpec.pre6 enc Try.prog Try.f7 Rows.recSizesRow.domain false) (Rows.recSizesSpec.post enc Try.prog Try.f7 false true false false) := by
  refine returnsInHanded_of_change_sized (C := Try.checked) own started (by kernel_rfl) Try.func7
    (ChangeSpec.witness6 (enc := enc) (C := Try.checked) false ⟨#[], #[.slice none 0 0, .slice none 0 0], []⟩ 8 (by kernel_rfl) (by kernel_rfl) (by kernel_rfl) (by kernel_rfl)) ?_
  intro W base args ds gs before hval0 hW hcnd hsz _
  have hval : ∀ (j : Nat) t v, Try.f7.params[j]? = some t → args[j]? = some v → Value.okWide Try.prog W .any base t v := hval0
  have hW' := hW
  obtain ⟨p, q, hA0, hV, rfl, hfz, hnd⟩ := hW
  have hA : DataW.TrodAll enc Try.prog W 0 (fun _ => true) true Try.f7.params.toList args.toList ds p := hA0
  rw [Try.params7] at hA hval
  obtain ⟨v0, vs0, d0, ds0, p0, q0, hargs, rfl, rfl, h0, r0⟩ := trodAll_cons hA
  obtain ⟨v1, vs1, d1, ds1, p1, q1, rfl, rfl, rfl, h1, r1⟩ := trodAll_cons r0
  obtain ⟨rfl, rfl, rfl⟩ := trodAll_nil r1
  obtain rfl : args = #[v0, v1] := by cases args; simp_all
  obtain ⟨rfl, rfl⟩ := trodVars_none hV
  have k0 := h0
  have lt0 : ∀ x ∈ p0, x.block < W.heap.size := by obtain ⟨m, hm⟩ := k0; exact DataW.trod_lt m _ _ _ hm
  obtain ⟨a0', l0', c0', rfl⟩ := okWide_slice Try.underlying22 (hval 0 22 v0 rfl rfl)
  obtain ⟨a0, a0l, a0c, he0, w0, w0l, w0m⟩ := open_AR0 (c := .slice a0' l0' c0') (by obtain ⟨m, hm⟩ := h0; exact ⟨m, hm⟩) (fun n hn => by have := List.all_eq_true.1 hsz n (DataW.weights_mem_each (j := 0) rfl rfl n hn); simpa using this)
  simp only [Value.slice.injEq] at he0
  obtain ⟨rfl, rfl, rfl⟩ := he0
  have k1 := h1
  have lt1 : ∀ x ∈ p1, x.block < W.heap.size := by obtain ⟨m, hm⟩ := k1; exact DataW.trod_lt m _ _ _ hm
  obtain ⟨a1', l1', c1', rfl⟩ := okWide_slice Try.underlying22 (hval 1 22 v1 rfl rfl)
  obtain ⟨a1, a1l, a1c, he1, w1, w1l, w1m⟩ := open_AR1 (c := .slice a1' l1' c1') (by obtain ⟨m, hm⟩ := h1; exact ⟨m, hm⟩) (fun n hn => by have := List.all_eq_true.1 hsz n (DataW.weights_mem_each (j := 1) rfl rfl n hn); simpa using this)
  simp only [Value.slice.injEq] at he1
  obtain ⟨rfl, rfl, rfl⟩ := he1
  clear hA0 hval0
  refine (walk a0' l0' c0' a1' l1' c1' W w0 w0l w0m w1 w1l w1m).mono fun e W' ⟨he, bel⟩ => ?_
  subst he
  exact ⟨_, rfl, _, _, _, [], _, [], hW', trodAll_mk1 (shut_bool Try.underlying4 _), (trodAll_cons_mk (Below.trod laidOut (by kernel_rfl) (of_decide_eq_true (by kernel_rfl)) k0 bel lt0) (trodAll_cons_mk (Below.trod laidOut (by kernel_rfl) (of_decide_eq_true (by kernel_rfl)) k1 bel lt1) trodAll_mk0)), rfl, bel.frame _, fun h => by cases h⟩

theorem over : Rows.recSizesRow.holds Try.pinned (OpenSpec.ofChange Rows.recSizesSpec) :=
  OpenClaim.holds_of_wide 7 Try.f7 rfl rfl rfl rfl rfl rfl rfl ⟨rfl, rfl, rfl, rfl, rfl⟩ rfl rfl rfl rfl rfl (by kernel_rfl) Try.func7 (by kernel_rfl)
    (of_decide_eq_true (by kernel_rfl)) (by unfold Func.isWrapper; first | (rw [if_pos (by decide +kernel)]; kernel_rfl) | (rw [if_neg (by decide +kernel)]; exact ⟨rfl, rfl⟩))
    (fun os started H enc _ => lifted os started H enc)

/-- THE STATEMENT -/
theorem proved : Rows.RecSizesSaid := over
#print axioms proved
end Go.Proofs.Ytomhalcoomdadaa.recSizes
