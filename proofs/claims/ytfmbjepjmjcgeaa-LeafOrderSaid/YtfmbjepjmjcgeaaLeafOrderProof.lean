/-
  The law LeafOrder holds: updates of unlike keys make the same leaf in whatever order they come. Conditions: none but the row's own.
-/
import Derived.Test.YtfmbjepjmjcgeaaRows
import Derived.Test.YtfmbjepjmjcgeaaLeO
import Derived.Test.YtfmbjepjmjcgeaaStructsZ
import Derived.WalkKit
import Derived.ProofKit
import Derived.OpenShut
import Derived.ShutString
import Derived.ChangeOld
import Derived.Below
import Derived.Carry
namespace Go.Proofs.Ytfmbjepjmjcgeaa.leafOrder
open Go.ChangeShapes Go.WideShapes Go.ChangeAt Go.RowKit
open Go.Proofs.Ytfmbjepjmjcgeaa
open Go.ChangeMaps (open_string shut_string)
set_option linter.unusedVariables false

theorem own : ownKnob Try.prog.godebug = none := by kernel_rfl
theorem laidOut : laidOutB Try.prog = true := by kernel_rfl

/-- the elements of argument 0 -/
def AR0 (w : World) (a : Option Addr) (len : Nat) : Prop := 0 < len → ∃ b off, a = some ⟨b, off, none⟩ ∧ ∀ i, i < len → ∃ (x0 : Int) (x1 : ByteArray) (x2 : ByteArray) (x3 : Int), w.cell? ⟨b, off + (i * 4 + 0), none⟩ = some (.int .u8 x0) ∧ (Lit.int .u8 x0).wf = true ∧ w.cell? ⟨b, off + (i * 4 + 1), none⟩ = some (.string x1) ∧ x1.size ≤ 140737488355327 ∧ w.cell? ⟨b, off + (i * 4 + 2), none⟩ = some (.string x2) ∧ x2.size ≤ 140737488355327 ∧ w.cell? ⟨b, off + (i * 4 + 3), none⟩ = some (.int .u64 x3) ∧ (Lit.int .u64 x3).wf = true
theorem open_AR0 {H : Type} {enc : TypeId × Value → H} {w : World} {held : Bool} {c : Value} {d : DataW H} {pl : List MemPlace} (h : ∃ m, DataW.trod enc Try.prog w 0 (fun _ => true) held m 22 [c] = some (d, pl)) (hz : ∀ n ∈ d.weights Try.prog 22, n ≤ reachBytes) :
    ∃ a len cap, c = .slice a len cap ∧ AR0 w a len ∧ len ≤ cap ∧ cap ≤ maxLen := by
  obtain ⟨a, len, cap, hc, hl, hm, hx⟩ := open_structs_z Try.underlying22 Try.underlying31 (by kernel_rfl) (by kernel_rfl) (by decide) h hz
  refine ⟨a, len, cap, hc, fun hpos => ?_, hl, hm⟩
  obtain ⟨b, off, ha, hf⟩ := hx hpos
  refine ⟨b, off, ha, fun i hi => ?_⟩
  obtain ⟨v0, hc0, ht0, hz0⟩ := hf i hi 0 _ rfl
  obtain ⟨x0, rfl, hw0⟩ := open_int_cell Try.underlying5 ht0
  obtain ⟨v1, hc1, ht1, hz1⟩ := hf i hi 1 _ rfl
  obtain ⟨x1, rfl, hw1'⟩ := open_str_cell Try.underlying9 ht1
  have hw1 := hz1 Try.underlying9 _ rfl
  obtain ⟨v2, hc2, ht2, hz2⟩ := hf i hi 2 _ rfl
  obtain ⟨x2, rfl, hw2'⟩ := open_str_cell Try.underlying9 ht2
  have hw2 := hz2 Try.underlying9 _ rfl
  obtain ⟨v3, hc3, ht3, hz3⟩ := hf i hi 3 _ rfl
  obtain ⟨x3, rfl, hw3⟩ := open_int_cell Try.underlying29 ht3
  exact ⟨x0, x1, x2, x3, hc0, hw0, hc1, hw1, hc2, hw2, hc3, hw3⟩

set_option linter.unusedSimpArgs false
open Go.Proofs.Ytfmbjepjmjcgeaa.Leaf Go.Proofs.Ytfmbjepjmjcgeaa.Buf Go.Proofs.Ytfmbjepjmjcgeaa.Msg Go.Proofs.Ytfmbjepjmjcgeaa.Rec Go.Proofs.Ytfmbjepjmjcgeaa.Lend
theorem ups0 {w : World} {a : Option Addr} {len cap : Nat} (h : AR0 w a len) : ∃ l, len = l.length ∧ UR w (.slice a len cap) l ∧ ∀ u ∈ l, Qu u := by
  refine ur_of Qu fun h0 => ?_
  obtain ⟨b, off, ha, hx⟩ := h h0
  refine ⟨b, off, ha, fun i hi => ?_⟩
  obtain ⟨x0, x1, x2, x3, c0, h0, c1, h1, c2, h2, c3, h3⟩ := hx i hi
  exact ⟨_, ⟨⟨(u8_bd h0).1, (u8_bd h0).2, (u64_bd h3).1, (u64_bd h3).2⟩, by simpa using h1, by simpa using h2⟩, up_cells c0 c1 c2 c3⟩

/-! ### STEP 1: THE WALK -/
set_option maxHeartbeats 8000000 in
set_option maxRecDepth 100000 in
theorem walk (a0 : Option Addr) (a0l a0c : Nat) (a1 : Int) (w : World) (w0 : AR0 w a0 a0l) (w0l : a0l ≤ a0c) (w0m : a0c ≤ maxLen) (w1 : (Lit.int .u8 a1).wf = true) :
    Calls Try.prog 6 #[.slice a0 a0l a0c, .int .u8 a1] w fun e w' => e = .returned (.bool true) ∧ Below w.heap.size w w' := by
  obtain ⟨l, hl, hu, hq⟩ := ups0 (cap := a0c) w0
  have HU := Lib.hid hu
  have HN := Lib.hid hl
  have HQ := Lib.hid hq
  have HNC := Lib.hid (show a0l ≤ a0c ∧ a0c ≤ 9223372036854775807 from ⟨w0l, by unfold maxLen at w0m; exact w0m⟩)
  have HTU := Lib.hid (u8_bd w1)
  clear hl hu hq w0 w0l w0m w1
  obtain ⟨w1, hw1⟩ : ∃ x, x = w.alloc (.map #[] 0) := ⟨_, rfl⟩
  have HB1 := Lib.hid (show Below w.heap.size w w1 by rw [hw1]; exact below_new _ _)
  have HM1 := Lib.hid (show Mp.MM w1 w.heap.size (mkE []) by rw [hw1]; exact Mp.MM.made w)
  have HS1 := Lib.hid (show w1.heap.size = w.heap.size + 1 by rw [hw1]; simp)
  have hmm := @run_makeMap Try.prog
  obtain ⟨M, hm⟩ : ∃ m, m = min a0l 15 := ⟨_, rfl⟩
  have HMM := Lib.hid hm
  go_enter Try.func6, Try.ntmps6
  go_upto_region 3 with fail
  rw [← hw1]
  clear hw1 hmm
  go_cut [22, 23, 24] (fun s t i wx => ∃ a' cap', s = .slice a' M cap' ∧ t = .int .i64 M ∧ i = .int .i64 ((0 : Nat) : Int) ∧ (0 < M → a' = a0) ∧ wx = w1)
  case first =>
    have hnc := HNC.out
    go_wp2_with fail
    all_goals
      go_meet
      first
      | (have e : M = 15 := by have := HMM.out; omega
         exact ⟨_, _, by rw [e], by rw [e]; rfl, rfl, fun _ => rfl, rfl⟩)
      | (have e1 : (min (a0l : Int) 15).toNat = M := by have := HMM.out; omega
         have e2 : max (min (a0l : Int) 15) 0 = (M : Int) := by have := HMM.out; omega
         exact ⟨_, _, by rw [e1], by rw [e2], rfl, fun _ => rfl, rfl⟩)
      | (have e : M = a0l := by have := HMM.out; omega
         exact ⟨_, _, by rw [e], by rw [e], rfl, fun _ => rfl, rfl⟩)
  case rest =>
    obtain ⟨s, c, rfl, rfl, rfl, haa, hww⟩ := hcut
    have hww := hww.symm
    subst hww
    have hml : M ≤ l.length ∧ M ≤ 15 := by have := HMM.out; have := HN.out; omega
    obtain ⟨hml, hmk⟩ := hml
    have HAA := Lib.hid haa
    clear hm haa
    go_wp2_with fail
    go_loopw [5, 24] (fun av i wr => ∃ (k : Nat) (av' : Value) (A : List Up), k ≤ M ∧ av' = av ∧ i = .int .i64 k ∧ RA wr (w.heap.size + 1) av' A ∧ Mp.MM wr w.heap.size (mkE A) ∧ Below w.heap.size w wr ∧ Hid (Ao A k)) (fun _ i _ => M - (intOf i).toNat)
    case atStart => exact ⟨0, _, [], Nat.zero_le _, rfl, rfl, World.ownsRow_nil _ _ _ _, HM1.out, HB1.out, Lib.hid ao_nil⟩
    case round =>
      obtain ⟨k, av, A, hk, rfl, rfl, hra, hmm, hb, HAK⟩ := hrel
      rename World => wr
      have HRA := Lib.hid hra
      have HMP := Lib.hid hmm
      have HB := Lib.hid hb
      by_cases hlt : k < M
      · have hki : (k : Int) < (M : Int) := by omega
        have hke : k < l.length := by omega
        have hur := HU.out.below hb
        obtain ⟨g, off, hg, c0, c1, c2, c3⟩ := ur_cells hur k hke
        obtain rfl : s = some ⟨g, off, none⟩ := by rw [HAA.out (by omega), hg]
        have hqu := HQ.out _ (List.getElem_mem hke)
        obtain ⟨u, hue⟩ : ∃ u, u = l[k] := ⟨_, rfl⟩
        rw [← hue] at c0 c1 c2 c3 hqu
        have HTA := Lib.hid (fun W => of_any u W (by have := hqu.2.1; omega) (by have := hqu.2.2; omega))
        unfold agU at HTA
        obtain ⟨x, hx⟩ : ∃ x, x = ofF u := ⟨_, rfl⟩
        have HXW := Lib.hid (show WfU x by rw [hx]; exact ofF_wf hqu.1)
        have HX3 := Lib.hid (show x.key.length ≤ 20 by rw [hx]; exact ofF_key u)
        rw [← hx] at HTA
        clear hg hur hue hx hke hqu hra hmm
        obtain ⟨w3, hw3⟩ : ∃ z, z = wr.alloc (.cells #[.int .u8 u.kind, .string (Lend.strOf u.key), .string (Lend.strOf u.val), .int .u64 u.delta] 31) := ⟨_, rfl⟩
        have HB3 := Lib.hid (show Below wr.heap.size wr w3 by rw [hw3]; exact below_new _ _)
        go_wp2_with fail
        rw [← hw3]
        clear hw3 c0 c1 c2 c3 hb
        refine (HTA.out w3).mono ?_
        rintro e w4 ⟨rfl, hb4⟩
        have HB4 := Lib.hid (below_on HB3.out hb4)
        clear hb4
        obtain ⟨w5, hw5⟩ : ∃ z, z = (w4.alloc (.cells #[.int .u8 x.kind, .string (Lend.strOf x.key), .string (Lend.strOf x.val), .int .u64 x.delta] 34)).alloc (.cells #[.int .u8 x.kind, .string (Lend.strOf x.key), .string (Lend.strOf x.val), .int .u64 x.delta] 35) := ⟨_, rfl⟩
        have HB5 := Lib.hid (below_on HB4.out (show Below w4.heap.size w4 w5 by rw [hw5]; exact below_nw (below_new _ _) _))
        have h1 := Has.new w4 (encU x) 34
        have HXA := Lib.hid (show Has w5 w4.heap.size 34 (encU x) by rw [hw5]; exact h1.alloc _)
        have HRA5 := Lib.hid (own_bel HRA.out HB5.out)
        have HMP5 := Lib.hid (HMP.out.on HB5.out)
        have HBW5 := Lib.hid (show Below w.heap.size w w5 from below_on HB.out HB5.out)
        clear h1
        obtain ⟨XK, hXK⟩ : ∃ z, z = Lend.strOf x.key := ⟨_, rfl⟩
        have hxs : XK.size ≤ 1000000 := by rw [hXK, ssize]; have := HX3.out; omega
        have HXD := Lib.hid (show XK.data.toList = x.key by rw [hXK]; rfl)
        have HXE := Lib.hid (show encU x = [.int .u8 x.kind, .string XK, .string (Lend.strOf x.val), .int .u64 x.delta] by rw [hXK]; rfl)
        have hlk := HMP5.out.look und_sb (zero_bool w5) hxs
        rw [HXD.out] at hlk
        have z1 : w4.heap.size < w5.heap.size := HXA.out.lt
        have y1 : w5.cell? ⟨w4.heap.size, 1, none⟩ = some (.string XK) := by rw [HXA.out.cell 1, HXE.out]; rfl
        by_cases hsn : ∃ v ∈ A, v.key = x.key
        · obtain ⟨v, hv, hvk⟩ := hsn
          have hlk2 := hlk.1 (v.key, .bool true) (mkE_mem.2 ⟨v, hv, rfl⟩) hvk
          rw [← hXK] at hw5 ⊢
          clear hlk hv hvk hXK hxs
          rw [hw5] at hlk2 y1 z1
          go_wp2_with fail
          rw [← hw5]
          clear hw5
          go_roundw
          case rel => exact ⟨k + 1, _, A, by omega, rfl, by go_num, HRA5.out, HMP5.out, HBW5.out, Lib.hid ⟨HAK.out.unl, HAK.out.wf, by have := HAK.out.len; omega⟩⟩
          case measure => simp [intOf]; omega
        · have hno : ∀ v ∈ A, v.key ≠ x.key := fun v hv hk => hsn ⟨v, hv, hk⟩
          have HNO := Lib.hid hno
          have hlk2 := hlk.2 (fun e he => by obtain ⟨v, hv, rfl⟩ := mkE_mem.1 he; exact hno v hv)
          obtain ⟨w6, hup, hm6, hg6⟩ := HMP5.out.put und_sb (by rw [mkE_len]; have := HAK.out.len; omega) hxs (.bool true)
          rw [HXD.out, mkE_upd hno] at hm6
          have HM6 := Lib.hid hm6
          have hne := HMP5.out.ne HXA.out
          have HXA6 := Lib.hid (HXA.out.same (hg6.block _ HXA.out.lt (by simpa using hne)))
          have HRA6 := Lib.hid (HRA5.out.kept hg6 (by
            have := HMP5.out.ne_row HRA5.out
            cases hv : av.ownBlock with
            | none => exact .inl rfl
            | some q => exact .inr (by simpa using this q hv)))
          have HBW6 := Lib.hid (HBW5.out.grown hg6 (by have := HBW5.out.size; omega) (fun q hq => by simp at hq; omega))
          have HBS := Lib.hid (show w.heap.size + 1 ≤ w6.heap.size by have := HMP5.out.lt; have := hg6.size; omega)
          have y0 : w6.cell? ⟨w4.heap.size, 0, none⟩ = some (.int .u8 x.kind) := by rw [HXA6.out.cell 0, HXE.out]; rfl
          have y1' : w6.cell? ⟨w4.heap.size, 1, none⟩ = some (.string XK) := by rw [HXA6.out.cell 1, HXE.out]; rfl
          have y2 : w6.cell? ⟨w4.heap.size, 2, none⟩ = some (.string (Lend.strOf x.val)) := by rw [HXA6.out.cell 2, HXE.out]; rfl
          have y3 : w6.cell? ⟨w4.heap.size, 3, none⟩ = some (.int .u64 x.delta) := by rw [HXA6.out.cell 3, HXE.out]; rfl
          obtain ⟨v7, w7, hap, hr7, hg7⟩ := uapp_one 28 x HRA6.out HBS.out (by have := HAK.out.len; omega)
          rw [← hXK] at hap hg7
          have HAP := Lib.hid hap
          have HR7 := Lib.hid hr7
          have hb67 : Below w6.heap.size w6 (w6.alloc (.cells #[.int .u8 x.kind, .string XK, .string (Lend.strOf x.val), .int .u64 x.delta] 34)) := below_new _ _
          have hrl := HRA6.out.lt
          have HB7 := Lib.hid ((below_on HBW6.out hb67).grown hg7 (by have := HBW6.out.size; have := hb67.size; omega) (fun q hq => by have := (hrl q hq).1; omega))
          have HM7 := Lib.hid (show Mp.MM w7 w.heap.size (mkE (A ++ [x])) from (HM6.out.on hb67).same (hg7.block _ (HM6.out.on hb67).lt (fun e => by have := (hrl _ e.symm).1; omega)))
          rw [← hXK] at hw5 ⊢
          clear hlk hno hsn hXK hxs hm6 hg6 hne hap hr7 hb67 hg7 hrl
          rw [hw5] at hlk2 y1 z1 hup
          go_wp2_with (at_builtin; refine wpList_append_run rfl _ _ _ _ rfl _ _ _ rfl rfl HAP.out ?_)
          go_roundw
          case rel => exact ⟨k + 1, _, A ++ [x], by omega, rfl, by go_num, HR7.out, HM7.out, HB7.out, Lib.hid (HAK.out.snoc HXW.out HNO.out)⟩
          case measure => simp [intOf]; omega
      · obtain rfl : k = M := by omega
        have hki : ¬ ((k : Int) < (k : Int)) := by omega
        have HAT := Lib.hid HAK.out.wf
        have HAU := Lib.hid HAK.out.unl
        have hA20 : A.length ≤ 15 := by have := HAK.out.len; omega
        obtain ⟨aa, ac, rfl, hac⟩ := own_shape hra
        have HAR := Lib.hid (UR.of_own hra)
        obtain ⟨n, hn⟩ : ∃ z, z = A.length := ⟨_, rfl⟩
        rw [← hn] at HAR hA20 ⊢
        have HNA := Lib.hid hn
        obtain ⟨tn, rfl⟩ : ∃ tn : Nat, a1 = (tn : Int) := ⟨a1.toNat, by have := HTU.out.1; omega⟩
        have htn : tn ≤ 255 := by have := HTU.out.2; omega
        obtain ⟨w2, hw2⟩ : ∃ z, z = wr.alloc (.cells #[.int .u8 1, .string ⟨#[97]⟩, .string ⟨#[49]⟩, .int .u64 0, .int .u8 1, .string ⟨#[99]⟩, .string ⟨#[49, 50, 51, 52, 53, 54, 55, 56]⟩, .int .u64 0] 34) := ⟨_, rfl⟩
        have HB2 := Lib.hid (show Below wr.heap.size wr w2 by rw [hw2]; exact below_new _ _)
        have hx2 : Has w2 wr.heap.size 34 (flatU [va0, vc0]) := by rw [hw2]; exact Has.new wr (flatU [va0, vc0]) _
        have hon := leafon_any (w := w2) (ER.nil w2) ge_nil (by omega) (ur_has (c := 2) hx2) (fun u hu => by
          simp only [List.mem_cons, List.mem_nil_iff, or_false] at hu
          rcases hu with rfl | rfl <;> exact wf_one (.inl rfl) rfl) (by decide)
        rw [l0_on] at hon
        have HON := Lib.hid hon
        clear hn hac hra hmm HRA HMP HAK hx2 hon
        go_wp2_with fail
        rw [← hw2]
        clear hw2
        refine HON.out.mono ?_
        clear HON
        rintro e w3 ⟨v3, rfl, hv3, hb3⟩
        have HAR3 := Lib.hid (HAR.out.below (below_on HB2.out hb3))
        have HBW3 := Lib.hid (below_on HB.out (below_on HB2.out hb3))
        have HD0 := Lib.hid (Dl.new (own_base hv3 (Nat.zero_le _)))
        obtain ⟨a3, c3, rfl, _⟩ := own_shape hv3
        have hl2 : L0.length = 2 := rfl
        rw [hl2] at HD0 ⊢
        obtain ⟨w4, hw4⟩ : ∃ z, z = (w3.alloc (.cells #[.slice a3 2 c3] 25)).alloc (.cells #[.slice a3 2 c3] 25) := ⟨_, rfl⟩
        rw [← hw4] at HD0
        clear hv3 hb3 hl2 hb HB HB2 HAR
        go_wp2_with fail
        rw [← hw4]
        clear hw4
        go_loopw [54] (fun i ws => ∃ (j : Nat) (va vb : Value), j ≤ n ∧ i = .int .i64 j ∧ Dl w3 w3.heap.size va vb (onL L0 (A.take j)) (onL L0 ((rotL A tn).take j)) ws) (fun i _ => n - (intOf i).toNat)
        case atStart => exact ⟨0, _, _, Nat.zero_le _, rfl, HD0.out⟩
        case round =>
          obtain ⟨j, va, vb, hj, rfl, hD⟩ := hrel
          rename World => ws
          have HD := Lib.hid hD
          have HGA := Lib.hid (show Ge (onL L0 (A.take j)) 20 from by
            have h := l0_ge.on (A.take j)
            exact ⟨h.srt, h.ok, by have h1 := h.len; have h2 := HNA.out; rw [List.length_take] at h1; omega⟩)
          have HGB := Lib.hid (show Ge (onL L0 ((rotL A tn).take j)) 20 from by
            have h := l0_ge.on ((rotL A tn).take j)
            exact ⟨h.srt, h.ok, by have h1 := h.len; have h2 := HNA.out; rw [List.length_take, rot_len] at h1; omega⟩)
          obtain ⟨ba, bc, rfl, hbc⟩ := own_shape hD.ra
          obtain ⟨da, dc, rfl, hdc⟩ := own_shape hD.rb
          by_cases hlt : j < n
          · have hki : (j : Int) < (n : Int) := by omega
            have hjA : j < A.length := by have := HNA.out; omega
            obtain ⟨i2, hi2⟩ : ∃ z, z = (j + tn) % n := ⟨_, rfl⟩
            have hi2n : i2 < n := by rw [hi2]; exact Nat.mod_lt _ (by omega)
            have hiA : i2 < A.length := by have := HNA.out; omega
            have hrm : Int.tmod ((j : Int) + (tn : Int)) (n : Int) = (i2 : Int) := by rw [Int.tmod_eq_emod_of_nonneg (by omega), hi2]; first | (push_cast; rfl) | rfl | simp
            have hn0 : ¬ n = 0 := by omega
            have hw1 : IntKind.i64.wrap (tn : Int) = (tn : Int) := IntWalk.i64_in _ (by omega)
            have hw2 : IntKind.i64.wrap ((j : Int) + (tn : Int)) = (j : Int) + (tn : Int) := IntWalk.i64_in _ (by omega)
            have HMA := Lib.hid (onL_take (L := L0) hjA)
            have HMB := Lib.hid (show onL (onL L0 ((rotL A tn).take j)) [A[i2]] = onL L0 ((rotL A tn).take (j + 1)) by
              rw [← onL_take (show j < (rotL A tn).length by rw [rot_len]; exact hjA)]
              congr 2
              rw [rot_at hjA]
              congr 1
              rw [hi2, HNA.out])
            have HTP := Lib.hid (HAT.out _ (List.getElem_mem hjA))
            have HTQ := Lib.hid (HAT.out _ (List.getElem_mem hiA))
            obtain ⟨g, off, hg, _⟩ := ur_cells HAR3.out j hjA
            subst hg
            obtain ⟨La, hLa⟩ : ∃ z, z = onL L0 (A.take j) := ⟨_, rfl⟩
            obtain ⟨Lb, hLb⟩ : ∃ z, z = onL L0 ((rotL A tn).take j) := ⟨_, rfl⟩
            rw [← hLa] at HD HMA HGA
            rw [← hLb] at HD HMB HGB
            obtain ⟨na, hna⟩ : ∃ z, z = La.length := ⟨_, rfl⟩
            obtain ⟨nb, hnb⟩ : ∃ z, z = Lb.length := ⟨_, rfl⟩
            have HD1 := Lib.hid (HD.out.on ((Below.refl _ _).drew : Below ws.heap.size ws ws.drew))
            obtain ⟨g', off', hg', c0, c1, c2, c3⟩ := ur_cells (HAR3.out.below HD1.out.bel) j hjA
            simp only [Option.some.injEq, Addr.mk.injEq, and_true] at hg'
            obtain ⟨rfl, rfl⟩ := hg'
            rw [← hna, ← hnb] at HD HD1
            obtain ⟨p, hp⟩ : ∃ z, z = A[j] := ⟨_, rfl⟩
            obtain ⟨q, hq⟩ : ∃ z, z = A[i2] := ⟨_, rfl⟩
            have HQE := Lib.hid hq
            rw [← hp] at c0 c1 c2 c3 HMA HTP
            rw [← hq] at HMB HTQ
            have HNB2 := Lib.hid hnb
            clear hi2 hLa hLb hna hnb hp hq hD hbc hdc
            obtain ⟨La2, hLa2⟩ : ∃ z, z = onL L0 (A.take (j + 1)) := ⟨_, rfl⟩
            obtain ⟨Lb2, hLb2⟩ : ∃ z, z = onL L0 ((rotL A tn).take (j + 1)) := ⟨_, rfl⟩
            have HLR := Lib.hid (And.intro hLa2 hLb2)
            rw [← hLa2] at HMA
            rw [← hLb2] at HMB
            obtain ⟨w5, hw5⟩ : ∃ z, z = (ws.alloc (.cells #[.int .u8 p.kind, .string (Lend.strOf p.key), .string (Lend.strOf p.val), .int .u64 p.delta] 34)).drew := ⟨_, rfl⟩
            have hb5 : Below ws.heap.size ws w5 := by rw [hw5]; exact (below_new _ _).drew
            have hx5 : Has w5 ws.heap.size 34 (flatU [p]) := by rw [hw5]; exact (Has.new ws (flatU [p]) _).drew
            have HD5 := Lib.hid (HD.out.on hb5)
            have hon := leafon_any (w := w5) (m := 20) (ER.of_own HD5.out.ra) HGA.out (by omega) (ur_has (c := 1) hx5) (fun y hy => by rw [List.mem_singleton] at hy; rw [hy]; exact HTP.out) (by simp)
            rw [HMA.out] at hon
            simp only [List.length_cons, List.length_nil] at hon
            have HON := Lib.hid hon
            rw [hw5] at HON HD5
            clear hx5 hon hb5 hw5 hLa2 hLb2 
            go_upto_region 16 with fail
            refine Reg.region_vals3 (by kernel_rfl) [(57, .agg #[.slice ba na bc]), (58, .slice (some ⟨g, off, none⟩) n ac), (59, .int .i64 (j : Nat)), (60, .pointer (some ⟨g, off + j * 4, none⟩)), (61, .agg #[.int .u8 p.kind, .string (Lend.strOf p.key), .string (Lend.strOf p.val), .int .u64 p.delta]), (62, .slice (some ⟨ws.heap.size, 0, none⟩) 1 1)] [63] (Iv ws (.cells #[.int .u8 p.kind, .string (Lend.strOf p.key), .string (Lend.strOf p.val), .int .u64 p.delta] 34) 5 63 La2 (Dl w3 w3.heap.size (.slice ba na bc) (.slice da nb dc) La Lb) (fun W => ∃ cv, Dl w3 w3.heap.size cv (.slice da nb dc) La2 Lb W)) ?a1 ?a2 ?a3 ?a4 ?a5 ?a6 ?a7 ?hend
            case a1 => kernel_rfl
            case a2 => kernel_rfl
            case a3 => kernel_rfl
            case a4 => kernel_rfl
            case a5 => kernel_rfl
            case a6 => exact Iv.start _ _
            case a7 =>
              refine ⟨?_, ?_, ?_, ?_, ?_, ?_, ?_, ?_, trivial⟩
              · intro aq wq lq hz hI hl hdone hlater hold hd ho
                have h11 : aq.tmps.getD 11 undef = .pointer (some ⟨w3.heap.size, 0, none⟩) := ho 11 (by kernel_rfl)
                have gl : lq 6 = false := hlater 6 (by kernel_rfl)
                clear hd ho hdone hlater hold
                rw [Array.getD_eq_getD_getElem?] at h11
                have hc : 57 < aq.tmps.size := by have hz' : aq.tmps.size = 124 := hz; omega
                have e0 : wq.cell? ⟨w3.heap.size, 0, none⟩ = some (.slice ba na bc) := keep1 (HD.out.a.cell 0) (hI.bel gl)
                refine Reg.step3_val (.agg #[.slice ba na bc]) ?_ rfl (hI.still _ (by decide) (by decide) hc) trivial
                clear hz hc hI
                go_simp
              · intro aq wq lq hz hI hl hdone hlater hold hd ho
                have h5 : aq.tmps.getD 5 undef = .slice (some ⟨g, off, none⟩) n ac := ho 5 (by kernel_rfl)
                clear hd ho hdone hlater hold
                have hc : 58 < aq.tmps.size := by have hz' : aq.tmps.size = 124 := hz; omega
                exact Reg.step3_move (.tmp 5) rfl h5 (hI.still _ (by decide) (by decide) hc) trivial
              · intro aq wq lq hz hI hl hdone hlater hold hd ho
                have h13 : aq.tmps.getD 13 undef = .int .i64 (j : Nat) := ho 13 (by kernel_rfl)
                clear hd ho hdone hlater hold
                have hc : 59 < aq.tmps.size := by have hz' : aq.tmps.size = 124 := hz; omega
                exact Reg.step3_move (.tmp 13) rfl h13 (hI.still _ (by decide) (by decide) hc) trivial
              · intro aq wq lq hz hI hl hdone hlater hold hd ho
                have h58 : aq.tmps.getD 58 undef = .slice (some ⟨g, off, none⟩) n ac := hd 58 (by kernel_rfl)
                have h59 : aq.tmps.getD 59 undef = .int .i64 (j : Nat) := hd 59 (by kernel_rfl)
                clear hd ho hdone hlater hold
                rw [Array.getD_eq_getD_getElem?] at h58 h59
                have hc : 60 < aq.tmps.size := by have hz' : aq.tmps.size = 124 := hz; omega
                refine Reg.step3_val (.pointer (some ⟨g, off + j * 4, none⟩)) ?_ rfl (hI.still _ (by decide) (by decide) hc) trivial
                clear hz hc hI
                go_simp
              · intro aq wq lq hz hI hl hdone hlater hold hd ho
                have h60 : aq.tmps.getD 60 undef = .pointer (some ⟨g, off + j * 4, none⟩) := hd 60 (by kernel_rfl)
                have gl : lq 5 = false := hlater 5 (by kernel_rfl)
                clear hd ho hdone hlater hold
                rw [Array.getD_eq_getD_getElem?] at h60
                have hc : 61 < aq.tmps.size := by have hz' : aq.tmps.size = 124 := hz; omega
                have hw := hI.w0 gl
                refine Reg.step3_val (.agg #[.int .u8 p.kind, .string (Lend.strOf p.key), .string (Lend.strOf p.val), .int .u64 p.delta]) ?_ rfl (hI.still _ (by decide) (by decide) hc) trivial
                clear hz hc hI
                subst hw
                go_simp
              · intro aq wq lq hz hI hl hdone hlater hold hd ho
                have h61 : aq.tmps.getD 61 undef = .agg #[.int .u8 p.kind, .string (Lend.strOf p.key), .string (Lend.strOf p.val), .int .u64 p.delta] := hd 61 (by kernel_rfl)
                clear hd ho hdone hlater hold
                rw [Array.getD_eq_getD_getElem?] at h61
                have hc : 62 < aq.tmps.size := by have hz' : aq.tmps.size = 124 := hz; omega
                have hw := hI.w0 hl
                subst hw
                refine Reg.step3_do (.slice (some ⟨ws.heap.size, 0, none⟩) 1 1) (ws.alloc (.cells #[.int .u8 p.kind, .string (Lend.strOf p.key), .string (Lend.strOf p.val), .int .u64 p.delta] 34)).drew ?_ rfl (hI.new hl _ rfl) trivial
                clear hz hc hI
                simp [execOp]
                go_simp
              · intro aq wq lq hz hI hl hdone hlater hold hd ho
                have h57 : aq.tmps.getD 57 undef = .agg #[.slice ba na bc] := hd 57 (by kernel_rfl)
                have h62 : aq.tmps.getD 62 undef = .slice (some ⟨ws.heap.size, 0, none⟩) 1 1 := hd 62 (by kernel_rfl)
                have g0 : lq 5 = true := hdone 5 (by kernel_rfl)
                clear hd ho hdone hlater hold
                rw [Array.getD_eq_getD_getElem?] at h57 h62
                have hc : 63 < aq.tmps.size := by have hz' : aq.tmps.size = 124 := hz; omega
                have hw := hI.w1 g0 hl
                subst hw
                refine Reg.step3_call 11 #[.agg #[.slice ba na bc], .slice (some ⟨ws.heap.size, 0, none⟩) 1 1] ?_ ((HON.out).mono ?_)
                · clear hI hz hc
                  simp [execOp]
                  go_simp
                · rintro e w' ⟨cv, rfl, hcv, hb⟩
                  exact ⟨_, rfl, trivial, hI.called g0 hl hc (HD5.out.on hb) (own_base hcv (Nat.zero_le _)), trivial⟩
              · intro aq wq lq hz hI hl hdone hlater hold hd ho
                have h11 : aq.tmps.getD 11 undef = .pointer (some ⟨w3.heap.size, 0, none⟩) := ho 11 (by kernel_rfl)
                have g1 : lq 6 = true := hdone 6 (by kernel_rfl)
                clear hd ho hdone hlater hold
                rw [Array.getD_eq_getD_getElem?] at h11
                obtain ⟨hx, cv, hcv, hev⟩ := hI.w2 g1 hl
                obtain ⟨ca, cc, rfl, _⟩ := own_shape hev
                have z4 := hx.a.frozen 0
                have z5 := hx.a.cell 0
                rw [Array.getD_eq_getD_getElem?] at hcv
                refine Reg.step3_skip (wq.setCell ⟨w3.heap.size, 0, none⟩ (.slice ca La2.length cc)) rfl ?_ (hI.stored g1 ⟨_, hx.setA rfl hev⟩) trivial
                clear hx hev hI hz
                simp [execOp]
                go_simp
            case hend =>
              intro wz v aq hv hI
              have hy := Iv.done hI (by decide)
              clear hv hI
              simp only [Reg.fill, List.map_cons, List.map_nil, List.foldl_cons, List.foldl_nil, List.setIfInBounds_toArray, List.set_cons_zero, List.set_cons_succ]
              generalize v 63 = vz at *
              clear HON c0 c1 c2 c3 HD5 HD HD1
              obtain ⟨cv, hy⟩ := hy
              rename World => w7
              obtain ⟨ca, cc, rfl, _⟩ := own_shape hy.ra
              obtain ⟨m, hm⟩ : ∃ z, z = La2.length := ⟨_, rfl⟩
              rw [← hm] at hy
              have HX7 := Lib.hid hy
              have HD8 := Lib.hid (HX7.out.on ((Below.refl _ _).drew : Below w7.heap.size w7 w7.drew))
              obtain ⟨g', off', hg', d0, d1, d2, d3⟩ := ur_cells (HAR3.out.below HD8.out.bel) i2 hiA
              simp only [Option.some.injEq, Addr.mk.injEq, and_true] at hg'
              obtain ⟨rfl, rfl⟩ := hg'
              rw [← HQE.out] at d0 d1 d2 d3
              obtain ⟨w9, hw9⟩ : ∃ z, z = (w7.alloc (.cells #[.int .u8 q.kind, .string (Lend.strOf q.key), .string (Lend.strOf q.val), .int .u64 q.delta] 34)).drew := ⟨_, rfl⟩
              have hb9 : Below w7.heap.size w7 w9 := by rw [hw9]; exact (below_new _ _).drew
              have hx9 : Has w9 w7.heap.size 34 (flatU [q]) := by rw [hw9]; exact (Has.new w7 (flatU [q]) _).drew
              have HD9 := Lib.hid (HX7.out.on hb9)
              have hon := leafon_any (w := w9) (m := 20) (ER.of_own HD9.out.rb) HGB.out (by omega) (ur_has (c := 1) hx9) (fun y hy => by rw [List.mem_singleton] at hy; rw [hy]; exact HTQ.out) (by simp)
              rw [HMB.out] at hon
              simp only [List.length_cons, List.length_nil] at hon
              have HON2 := Lib.hid hon
              rw [hw9] at HON2 HD9
              clear hx9 hon hb9 hw9 hm hy HD8
              go_upto_region 17 with fail
              refine Reg.region_vals3 (by kernel_rfl) [(64, .agg #[.slice da nb dc]), (65, .slice (some ⟨g, off, none⟩) n ac), (66, .int .i64 (j : Nat)), (67, .int .u8 (tn : Nat)), (68, .int .i64 (tn : Nat)), (69, .int .i64 ((j : Int) + (tn : Int))), (70, .slice (some ⟨g, off, none⟩) n ac), (71, .int .i64 (n : Nat)), (72, .int .i64 (i2 : Nat)), (73, .pointer (some ⟨g, off + i2 * 4, none⟩)), (74, .agg #[.int .u8 q.kind, .string (Lend.strOf q.key), .string (Lend.strOf q.val), .int .u64 q.delta]), (75, .slice (some ⟨w7.heap.size, 0, none⟩) 1 1)] [76] (Iv w7 (.cells #[.int .u8 q.kind, .string (Lend.strOf q.key), .string (Lend.strOf q.val), .int .u64 q.delta] 34) 11 76 Lb2 (Dl w3 w3.heap.size (.slice ca m cc) (.slice da nb dc) La2 Lb) (fun W => ∃ cv, Dl w3 w3.heap.size (.slice ca m cc) cv La2 Lb2 W)) ?a1 ?a2 ?a3 ?a4 ?a5 ?a6 ?a7 ?hend
              case a1 => kernel_rfl
              case a2 => kernel_rfl
              case a3 => kernel_rfl
              case a4 => kernel_rfl
              case a5 => kernel_rfl
              case a6 => exact Iv.start _ _
              case a7 =>
                refine ⟨?_, ?_, ?_, ?_, ?_, ?_, ?_, ?_, ?_, ?_, ?_, ?_, ?_, ?_, trivial⟩
                · intro aq wq lq hz hI hl hdone hlater hold hd ho
                  have h12 : aq.tmps.getD 12 undef = .pointer (some ⟨w3.heap.size + 1, 0, none⟩) := ho 12 (by kernel_rfl)
                  have gl : lq 12 = false := hlater 12 (by kernel_rfl)
                  clear hd ho hdone hlater hold
                  rw [Array.getD_eq_getD_getElem?] at h12
                  have hc : 64 < aq.tmps.size := by have hz' : aq.tmps.size = 124 := hz; omega
                  have e0 : wq.cell? ⟨w3.heap.size + 1, 0, none⟩ = some (.slice da nb dc) := keep1 (HX7.out.b.cell 0) (hI.bel gl)
                  refine Reg.step3_val (.agg #[.slice da nb dc]) ?_ rfl (hI.still _ (by decide) (by decide) hc) trivial
                  clear hz hc hI
                  go_simp
                · intro aq wq lq hz hI hl hdone hlater hold hd ho
                  have h5 : aq.tmps.getD 5 undef = .slice (some ⟨g, off, none⟩) n ac := ho 5 (by kernel_rfl)
                  clear hd ho hdone hlater hold
                  have hc : 65 < aq.tmps.size := by have hz' : aq.tmps.size = 124 := hz; omega
                  exact Reg.step3_move (.tmp 5) rfl h5 (hI.still _ (by decide) (by decide) hc) trivial
                · intro aq wq lq hz hI hl hdone hlater hold hd ho
                  have h13 : aq.tmps.getD 13 undef = .int .i64 (j : Nat) := ho 13 (by kernel_rfl)
                  clear hd ho hdone hlater hold
                  have hc : 66 < aq.tmps.size := by have hz' : aq.tmps.size = 124 := hz; omega
                  exact Reg.step3_move (.tmp 13) rfl h13 (hI.still _ (by decide) (by decide) hc) trivial
                · intro aq wq lq hz hI hl hdone hlater hold hd ho
                  have h1 : aq.tmps.getD 1 undef = .int .u8 (tn : Nat) := ho 1 (by kernel_rfl)
                  clear hd ho hdone hlater hold
                  have hc : 67 < aq.tmps.size := by have hz' : aq.tmps.size = 124 := hz; omega
                  exact Reg.step3_move (.tmp 1) rfl h1 (hI.still _ (by decide) (by decide) hc) trivial
                · intro aq wq lq hz hI hl hdone hlater hold hd ho
                  have h67 : aq.tmps.getD 67 undef = .int .u8 (tn : Nat) := hd 67 (by kernel_rfl)
                  clear hd ho hdone hlater hold
                  rw [Array.getD_eq_getD_getElem?] at h67
                  have hc : 68 < aq.tmps.size := by have hz' : aq.tmps.size = 124 := hz; omega
                  refine Reg.step3_val (.int .i64 (tn : Nat)) ?_ rfl (hI.still _ (by decide) (by decide) hc) trivial
                  clear hz hc hI
                  go_simp
                · intro aq wq lq hz hI hl hdone hlater hold hd ho
                  have h66 : aq.tmps.getD 66 undef = .int .i64 (j : Nat) := hd 66 (by kernel_rfl)
                  have h68 : aq.tmps.getD 68 undef = .int .i64 (tn : Nat) := hd 68 (by kernel_rfl)
                  clear hd ho hdone hlater hold
                  rw [Array.getD_eq_getD_getElem?] at h66 h68
                  have hc : 69 < aq.tmps.size := by have hz' : aq.tmps.size = 124 := hz; omega
                  refine Reg.step3_val (.int .i64 ((j : Int) + (tn : Int))) ?_ rfl (hI.still _ (by decide) (by decide) hc) trivial
                  clear hz hc hI
                  simp [execOp, Act.eval, h66, h68]
                  try go_simp
                · intro aq wq lq hz hI hl hdone hlater hold hd ho
                  have h5 : aq.tmps.getD 5 undef = .slice (some ⟨g, off, none⟩) n ac := ho 5 (by kernel_rfl)
                  clear hd ho hdone hlater hold
                  have hc : 70 < aq.tmps.size := by have hz' : aq.tmps.size = 124 := hz; omega
                  exact Reg.step3_move (.tmp 5) rfl h5 (hI.still _ (by decide) (by decide) hc) trivial
                · intro aq wq lq hz hI hl hdone hlater hold hd ho
                  have h70 : aq.tmps.getD 70 undef = .slice (some ⟨g, off, none⟩) n ac := hd 70 (by kernel_rfl)
                  clear hd ho hdone hlater hold
                  rw [Array.getD_eq_getD_getElem?] at h70
                  have hc : 71 < aq.tmps.size := by have hz' : aq.tmps.size = 124 := hz; omega
                  refine Reg.step3_val (.int .i64 (n : Nat)) ?_ rfl (hI.still _ (by decide) (by decide) hc) trivial
                  clear hz hc hI
                  go_simp
                · intro aq wq lq hz hI hl hdone hlater hold hd ho
                  have h69 : aq.tmps.getD 69 undef = .int .i64 ((j : Int) + (tn : Int)) := hd 69 (by kernel_rfl)
                  have h71 : aq.tmps.getD 71 undef = .int .i64 (n : Nat) := hd 71 (by kernel_rfl)
                  clear hd ho hdone hlater hold
                  rw [Array.getD_eq_getD_getElem?] at h69 h71
                  have hc : 72 < aq.tmps.size := by have hz' : aq.tmps.size = 124 := hz; omega
                  refine Reg.step3_val (.int .i64 (i2 : Nat)) ?_ rfl (hI.still _ (by decide) (by decide) hc) trivial
                  clear hz hc hI
                  go_simp
                · intro aq wq lq hz hI hl hdone hlater hold hd ho
                  have h65 : aq.tmps.getD 65 undef = .slice (some ⟨g, off, none⟩) n ac := hd 65 (by kernel_rfl)
                  have h72 : aq.tmps.getD 72 undef = .int .i64 (i2 : Nat) := hd 72 (by kernel_rfl)
                  clear hd ho hdone hlater hold
                  rw [Array.getD_eq_getD_getElem?] at h65 h72
                  have hc : 73 < aq.tmps.size := by have hz' : aq.tmps.size = 124 := hz; omega
                  refine Reg.step3_val (.pointer (some ⟨g, off + i2 * 4, none⟩)) ?_ rfl (hI.still _ (by decide) (by decide) hc) trivial
                  clear hz hc hI
                  go_simp
                · intro aq wq lq hz hI hl hdone hlater hold hd ho
                  have h73 : aq.tmps.getD 73 undef = .pointer (some ⟨g, off + i2 * 4, none⟩) := hd 73 (by kernel_rfl)
                  have gl : lq 11 = false := hlater 11 (by kernel_rfl)
                  clear hd ho hdone hlater hold
                  rw [Array.getD_eq_getD_getElem?] at h73
                  have hc : 74 < aq.tmps.size := by have hz' : aq.tmps.size = 124 := hz; omega
                  have hw := hI.w0 gl
                  refine Reg.step3_val (.agg #[.int .u8 q.kind, .string (Lend.strOf q.key), .string (Lend.strOf q.val), .int .u64 q.delta]) ?_ rfl (hI.still _ (by decide) (by decide) hc) trivial
                  clear hz hc hI
                  subst hw
                  go_simp
                · intro aq wq lq hz hI hl hdone hlater hold hd ho
                  have h74 : aq.tmps.getD 74 undef = .agg #[.int .u8 q.kind, .string (Lend.strOf q.key), .string (Lend.strOf q.val), .int .u64 q.delta] := hd 74 (by kernel_rfl)
                  clear hd ho hdone hlater hold
                  rw [Array.getD_eq_getD_getElem?] at h74
                  have hc : 75 < aq.tmps.size := by have hz' : aq.tmps.size = 124 := hz; omega
                  have hw := hI.w0 hl
                  subst hw
                  refine Reg.step3_do (.slice (some ⟨w7.heap.size, 0, none⟩) 1 1) (w7.alloc (.cells #[.int .u8 q.kind, .string (Lend.strOf q.key), .string (Lend.strOf q.val), .int .u64 q.delta] 34)).drew ?_ rfl (hI.new hl _ rfl) trivial
                  clear hz hc hI
                  simp [execOp]
                  go_simp
                · intro aq wq lq hz hI hl hdone hlater hold hd ho
                  have h64 : aq.tmps.getD 64 undef = .agg #[.slice da nb dc] := hd 64 (by kernel_rfl)
                  have h75 : aq.tmps.getD 75 undef = .slice (some ⟨w7.heap.size, 0, none⟩) 1 1 := hd 75 (by kernel_rfl)
                  have g0 : lq 11 = true := hdone 11 (by kernel_rfl)
                  clear hd ho hdone hlater hold
                  rw [Array.getD_eq_getD_getElem?] at h64 h75
                  have hc : 76 < aq.tmps.size := by have hz' : aq.tmps.size = 124 := hz; omega
                  have hw := hI.w1 g0 hl
                  subst hw
                  refine Reg.step3_call 11 #[.agg #[.slice da nb dc], .slice (some ⟨w7.heap.size, 0, none⟩) 1 1] ?_ ((HON2.out).mono ?_)
                  · clear hI hz hc
                    simp [execOp]
                    go_simp
                  · rintro e w' ⟨cv, rfl, hcv, hb⟩
                    exact ⟨_, rfl, trivial, hI.called g0 hl hc (HD9.out.on hb) (own_base hcv (Nat.zero_le _)), trivial⟩
                · intro aq wq lq hz hI hl hdone hlater hold hd ho
                  have h12 : aq.tmps.getD 12 undef = .pointer (some ⟨w3.heap.size + 1, 0, none⟩) := ho 12 (by kernel_rfl)
                  have g1 : lq 12 = true := hdone 12 (by kernel_rfl)
                  clear hd ho hdone hlater hold
                  rw [Array.getD_eq_getD_getElem?] at h12
                  obtain ⟨hx, cv, hcv, hev⟩ := hI.w2 g1 hl
                  obtain ⟨ca, cc, rfl, _⟩ := own_shape hev
                  have z4 := hx.b.frozen 0
                  have z5 := hx.b.cell 0
                  rw [Array.getD_eq_getD_getElem?] at hcv
                  refine Reg.step3_skip (wq.setCell ⟨w3.heap.size + 1, 0, none⟩ (.slice ca Lb2.length cc)) rfl ?_ (hI.stored g1 ⟨_, hx.setB rfl hev⟩) trivial
                  clear hx hev hI hz
                  simp [execOp]
                  go_simp
              case hend =>
                intro wz v aq hv hI
                have hy := Iv.done hI (by decide)
                clear hv hI
                simp only [Reg.fill, List.map_cons, List.map_nil, List.foldl_cons, List.foldl_nil, List.setIfInBounds_toArray, List.set_cons_zero, List.set_cons_succ]
                generalize v 76 = vz at *
                obtain ⟨ev, hy⟩ := hy
                have HY := Lib.hid hy
                have e1 := HLR.out.1
                have e2 := HLR.out.2
                clear hy d0 d1 d2 d3 HON2 HD9
                go_wp2_with fail
                go_roundw
                case rel => exact ⟨j + 1, _, _, by omega, by go_num, by rw [← e1, ← e2]; exact HY.out⟩
                case measure => simp [intOf]; omega
          · obtain rfl : j = n := by omega
            have hki : ¬ ((j : Int) < (j : Int)) := by omega
            have e1 : A.take j = A := List.take_of_length_le (by have := HNA.out; omega)
            have e2 : (rotL A tn).take j = rotL A tn := List.take_of_length_le (by rw [rot_len]; have := HNA.out; omega)
            rw [e1] at HD HGA
            rw [e2, onL_rot l0_ge.srt HAU.out] at HD
            obtain ⟨L, hL⟩ : ∃ z, z = onL L0 A := ⟨_, rfl⟩
            rw [← hL] at HD HGA
            obtain ⟨r, hr⟩ : ∃ z, z = L.length := ⟨_, rfl⟩
            have HLN := Lib.hid hr.symm
            rw [← hr] at HD
            have hr20 : r ≤ 20 := by rw [hr]; exact HGA.out.len
            clear e1 e2 hL hr hbc hdc hD HGB HAT HAU HNA HAR3
            have HLI := Lib.hid (fun (W : World) (v : Value) (h : ER W v L) => elist_any h (by have := HLN.out; omega))
            have HLA : Hid (∀ W, Below ws.heap.size ws W → Calls Try.prog 23 #[.agg #[.slice ba r bc]] W fun e w' => ∃ ao cp, e = .returned (.slice ao r cp) ∧ EA w' W.heap.size (.slice ao r cp) L ∧ Below W.heap.size W w') := Lib.hid (fun W hb => by
              refine (HLI.out W _ (ER.of_own (HD.out.on hb).ra)).mono ?_
              rintro e w' ⟨v', rfl, hr, hb⟩
              obtain ⟨ao, cp, rfl, _⟩ := own_shape hr
              rw [HLN.out] at hr ⊢
              exact ⟨ao, cp, rfl, hr, hb⟩)
            have HLB : Hid (∀ W, Below ws.heap.size ws W → Calls Try.prog 23 #[.agg #[.slice da r dc]] W fun e w' => ∃ ao cp, e = .returned (.slice ao r cp) ∧ EA w' W.heap.size (.slice ao r cp) L ∧ Below W.heap.size W w') := Lib.hid (fun W hb => by
              refine (HLI.out W _ (ER.of_own (HD.out.on hb).rb)).mono ?_
              rintro e w' ⟨v', rfl, hr, hb⟩
              obtain ⟨ao, cp, rfl, _⟩ := own_shape hr
              rw [HLN.out] at hr ⊢
              exact ⟨ao, cp, rfl, hr, hb⟩)
            have HBD := Lib.hid ((Below.refl _ _).drew : Below ws.heap.size ws ws.drew)
            have z0 : ws.drew.cell? ⟨w3.heap.size, 0, none⟩ = some (.slice ba r bc) := (HD.out.on HBD.out).a.cell 0
            have z1 : ws.drew.cell? ⟨w3.heap.size + 1, 0, none⟩ = some (.slice da r dc) := (HD.out.on HBD.out).b.cell 0
            go_upto_region 19 with fail
            go_cut [14, 15] (fun x y wx => ∃ (xo yo : Option Addr) (xc yc : Nat), x = .slice xo r xc ∧ y = .slice yo r yc ∧ ER wx (.slice xo r xc) L ∧ ER wx (.slice yo r yc) L ∧ Below ws.heap.size ws wx)
            case first =>
              go_region_with (first
                | (go_at_call 23; (first | refine (HLA.out w14 HB14.out).mono ?_ | refine (HLB.out w14 HB14.out).mono ?_); rintro e w15 ⟨ao15, cp15, rfl, hr15, hb15⟩; have HR34 := Lib.hid (HR14.out.below hb15); have HR15 := Lib.hid (ER.of_own hr15); have HB15 := Lib.hid (below_on HB14.out hb15); clear hr15 hb15 z0 z1)
                | (go_at_call 23; (first | refine (HLA.out ws.drew HBD.out).mono ?_ | refine (HLB.out ws.drew HBD.out).mono ?_); rintro e w14 ⟨ao14, cp14, rfl, hr14, hb14⟩; have HR14 := Lib.hid (ER.of_own hr14); have HB14 := Lib.hid (below_on HBD.out hb14); clear hr14 hb14 z0 z1; have z0 : w14.cell? ⟨w3.heap.size, 0, none⟩ = some (.slice ba r bc) := (HD.out.on HB14.out).a.cell 0; have z1 : w14.cell? ⟨w3.heap.size + 1, 0, none⟩ = some (.slice da r dc) := (HD.out.on HB14.out).b.cell 0))
              all_goals
                go_wp2_with fail
                go_meet
                first
                | exact ⟨_, _, _, _, rfl, rfl, HR34.out, HR15.out, HB15.out⟩
                | exact ⟨_, _, _, _, rfl, rfl, HR15.out, HR34.out, HB15.out⟩
            case rest =>
              obtain ⟨xo, yo, xc, yc, rfl, rfl, hux, huy, hbx⟩ := hcut
              rename World => wx
              have HUX := Lib.hid hux
              have HUY := Lib.hid huy
              have HBWX := Lib.hid (show Below w.heap.size w wx from below_on HBW3.out (HD.out.on hbx).bel)
              clear hux huy hbx HLI HLA HLB HD z0 z1 HBD
              go_wp2_with fail
              refine (wakes_any _).mono ?_
              rintro e w5 ⟨rfl, hb5⟩
              have HUX5 := Lib.hid (HUX.out.below hb5)
              have HUY5 := Lib.hid (HUY.out.below hb5)
              have HB5 := Lib.hid (below_on HBWX.out hb5)
              clear hb5 HUX HUY HBWX
              go_wp2_with fail
              go_loopw [93] (fun i wy => ∃ t : Nat, t ≤ r ∧ i = .int .i64 t ∧ ∃ q, wy = w5.drewN q) (fun i _ => r - (intOf i).toNat)
              case atStart => exact ⟨0, Nat.zero_le _, rfl, 0, rfl⟩
              case round =>
                obtain ⟨t, ht, rfl, q, rfl⟩ := hrel
                by_cases hlt : t < r
                · have hti : (t : Int) < (r : Int) := by omega
                  have ht0 : 0 ≤ (t : Int) := by omega
                  have htl : t < L.length := by rw [HLN.out]; exact hlt
                  obtain ⟨g1, o1, hx1, hc⟩ := er_cells HUX5.out t htl
                  obtain ⟨g2, o2, hx2, hd⟩ := er_cells HUY5.out t htl
                  subst hx1 hx2
                  obtain ⟨w6, hw6⟩ : ∃ z, z = w5.drewN q := ⟨_, rfl⟩
                  obtain ⟨c0, c1⟩ : w6.cell? ⟨g1, o1 + t * 2, none⟩ = some (.string (Lend.strOf L[t].key)) ∧ w6.cell? ⟨g1, o1 + t * 2 + 1, none⟩ = some (.string (Lend.strOf L[t].val)) := by rw [hw6]; exact hc
                  obtain ⟨d0, d1⟩ : w6.cell? ⟨g2, o2 + t * 2, none⟩ = some (.string (Lend.strOf L[t].key)) ∧ w6.cell? ⟨g2, o2 + t * 2 + 1, none⟩ = some (.string (Lend.strOf L[t].val)) := by rw [hw6]; exact hd
                  clear hc hd
                  have HW6 := Lib.hid hw6
                  rw [← hw6]
                  clear hw6
                  obtain ⟨x, hx⟩ : ∃ x, x = L[t] := ⟨_, rfl⟩
                  rw [← hx] at c0 c1 d0 d1
                  by_cases ht1 : t = 0
                  · subst ht1
                    clear hx
                    simp only [Nat.zero_mul, Nat.add_zero] at c0 c1 d0 d1
                    go_wp2_with fail
                    go_quiet (fail)
                    go_wp2_with fail
                    go_roundw
                    case rel => exact ⟨1, by omega, by go_num, q + nq, by rw [HW6.out, World.drewN_drewN]⟩
                    case measure => simp [intOf]; omega
                  · obtain ⟨v, rfl⟩ : ∃ v, t = v + 1 := ⟨t - 1, by omega⟩
                    have hrl : v < L.length := by omega
                    have b1 : w6.cell? ⟨g1, o1 + v * 2, none⟩ = some (.string (Lend.strOf L[v].key)) := by rw [HW6.out]; exact er_key HUX5.out v hrl
                    have hb := bl_str L[v].key x.key
                    rw [hx, srt_at HGA.out.srt htl, ← hx] at hb
                    have hwr : IntKind.i64.wrap (((v + 1 : Nat) : Int) - 1) = (v : Int) := by rw [show ((v + 1 : Nat) : Int) - 1 = v by omega]; exact IntWalk.i64_in _ (by omega)
                    have hr0 : 0 ≤ (v : Int) := by omega
                    have hr1 : (v : Int) < (r : Int) := by omega
                    have hrz : (0 : Int) < ((v + 1 : Nat) : Int) := by omega
                    generalize Lend.strOf L[v].key = K0 at *
                    generalize Lend.strOf x.key = K1 at *
                    generalize Lend.strOf x.val = V1 at *
                    clear hx
                    go_wp2_with fail
                    go_quiet (fail)
                    go_wp2_with fail
                    go_roundw
                    case rel => exact ⟨v + 2, by omega, by go_num, q + nq, by rw [HW6.out, World.drewN_drewN]⟩
                    case measure => simp [intOf]; omega
                · obtain rfl : t = r := by omega
                  have hti : ¬ ((t : Int) < (t : Int)) := by omega
                  go_wp2_with fail
                  go_ret
                  exact ⟨rfl, bel_q HB5.out⟩

/-! ### THE ROW's STEP -/
set_option maxRecDepth 100000 in
theorem lifted (os : Os) (started : os.Started) (H : Type) (enc : TypeId × Value → H) :
    ReturnsInHanded {} Try.checked os 6 .any (Rows.leafOrderSpec.pre6 enc Try.prog Try.f6 Rows.leafOrderRow.domain false) (Rows.leafOrderSpec.post enc Try.prog Try.f6 false true false false) := by
  refine returnsInHanded_of_change_sized (C := Try.checked) own started (by kernel_rfl) Try.func6
    (ChangeSpec.witness6 (enc := enc) (C := Try.checked) false ⟨#[], #[.slice none 0 0, .int .u8 0], []⟩ 8 (by kernel_rfl) (by kernel_rfl) (by kernel_rfl) (by kernel_rfl)) ?_
  intro W base args ds gs before hval0 hW hcnd hsz _
  have hval : ∀ (j : Nat) t v, Try.f6.params[j]? = some t → args[j]? = some v → Value.okWide Try.prog W .any base t v := hval0
  have hW' := hW
  obtain ⟨p, q, hA0, hV, rfl, hfz, hnd⟩ := hW
  have hA : DataW.TrodAll enc Try.prog W 0 (fun _ => true) true Try.f6.params.toList args.toList ds p := hA0
  rw [Try.params6] at hA hval
  obtain ⟨v0, vs0, d0, ds0, p0, q0, hargs, rfl, rfl, h0, r0⟩ := trodAll_cons hA
  obtain ⟨v1, vs1, d1, ds1, p1, q1, rfl, rfl, rfl, h1, r1⟩ := trodAll_cons r0
  obtain ⟨rfl, rfl, rfl⟩ := trodAll_nil r1
  obtain rfl : args = #[v0, v1] := by cases args; simp_all
  obtain ⟨rfl, rfl⟩ := trodVars_none hV
  have k0 := h0
  have lt0 : ∀ x ∈ p0, x.block < W.heap.size := by obtain ⟨m, hm⟩ := k0; exact DataW.trod_lt m _ _ _ hm
  obtain ⟨a0', l0', c0', rfl⟩ := okWide_slice Try.underlying22 (hval 0 22 v0 rfl rfl)
  obtain ⟨a0, a0l, a0c, he0, w0, w0l, w0m⟩ := open_AR0 (c := .slice a0' l0' c0') (by obtain ⟨m, hm⟩ := h0; exact ⟨m, hm⟩) (fun n hn => by have := List.all_eq_true.1 hsz n (DataW.weights_mem_each (j := 0) rfl rfl n hn); simpa using this)
  simp only [Value.slice.injEq] at he0
  obtain ⟨rfl, rfl, rfl⟩ := he0
  obtain ⟨a1, rfl, rfl, rfl, w1⟩ := open_int Try.underlying5 (hval 1 5 v1 rfl rfl) h1
  clear hA0 hval0
  refine (walk a0' l0' c0' a1 W w0 w0l w0m w1).mono fun e W' ⟨he, bel⟩ => ?_
  subst he
  exact ⟨_, rfl, _, _, _, [], _, [], hW', trodAll_mk1 (shut_bool Try.underlying4 _), (trodAll_cons_mk (Below.trod laidOut (by kernel_rfl) (of_decide_eq_true (by kernel_rfl)) k0 bel lt0) (trodAll_cons_mk (shut_int Try.underlying5 w1) trodAll_mk0)), rfl, bel.frame _, fun h => by cases h⟩

theorem over : Rows.leafOrderRow.holds Try.pinned (OpenSpec.ofChange Rows.leafOrderSpec) :=
  OpenClaim.holds_of_wide 6 Try.f6 rfl rfl rfl rfl rfl rfl rfl ⟨rfl, rfl, rfl, rfl, rfl⟩ rfl rfl rfl rfl rfl (by kernel_rfl) Try.func6 (by kernel_rfl)
    (of_decide_eq_true (by kernel_rfl)) (by unfold Func.isWrapper; first | (rw [if_pos (by decide +kernel)]; kernel_rfl) | (rw [if_neg (by decide +kernel)]; exact ⟨rfl, rfl⟩))
    (fun os started H enc _ => lifted os started H enc)

/-- THE STATEMENT -/
theorem proved : Rows.LeafOrderSaid := over
#print axioms proved
end Go.Proofs.Ytfmbjepjmjcgeaa.leafOrder
