/-
  The law LeafParses holds: the leaf of all bytes, and of all lists, is the document's, or its error. Conditions: none but the row's own.
-/
import Derived.Test.YtfmbjepjmjcgeaaRows
import Derived.Test.YtfmbjepjmjcgeaaLeN
import Derived.Test.YtfmbjepjmjcgeaaStructsZ
import Derived.WalkKit
import Derived.ProofKit
import Derived.OpenShut
import Derived.ShutString
import Derived.ChangeOld
import Derived.Below
import Derived.Carry
namespace Go.Proofs.Ytfmbjepjmjcgeaa.leafParses
open Go.ChangeShapes Go.WideShapes Go.ChangeAt Go.RowKit
open Go.Proofs.Ytfmbjepjmjcgeaa
open Go.ChangeMaps (open_string shut_string)
set_option linter.unusedVariables false

theorem own : ownKnob Try.prog.godebug = none := by kernel_rfl
theorem laidOut : laidOutB Try.prog = true := by kernel_rfl

theorem len2 {α : Type} : ∀ l : List α, l.length = 2 → ∃ z0 z1, l = [z0, z1]
  | [z0, z1], _ => ⟨z0, z1, rfl⟩
/-- the elements of argument 0 -/
def AR0 (w : World) (a : Option Addr) (len : Nat) : Prop := 0 < len → ∃ b off, a = some ⟨b, off, none⟩ ∧ ∀ i, i < len → ∃ (x0 : ByteArray) (x1 : ByteArray), w.cell? ⟨b, off + (i * 2 + 0), none⟩ = some (.string x0) ∧ x0.size ≤ 140737488355327 ∧ w.cell? ⟨b, off + (i * 2 + 1), none⟩ = some (.string x1) ∧ x1.size ≤ 140737488355327
theorem open_AR0 {H : Type} {enc : TypeId × Value → H} {w : World} {held : Bool} {c : Value} {d : DataW H} {pl : List MemPlace} (h : ∃ m, DataW.trod enc Try.prog w 0 (fun _ => true) held m 26 [c] = some (d, pl)) (hz : ∀ n ∈ d.weights Try.prog 26, n ≤ reachBytes) :
    ∃ a len cap, c = .slice a len cap ∧ AR0 w a len ∧ len ≤ cap ∧ cap ≤ maxLen := by
  obtain ⟨a, len, cap, hc, hl, hm, hx⟩ := open_structs_z Try.underlying26 Try.underlying52 (by kernel_rfl) (by kernel_rfl) (by decide) h hz
  refine ⟨a, len, cap, hc, fun hpos => ?_, hl, hm⟩
  obtain ⟨b, off, ha, hf⟩ := hx hpos
  refine ⟨b, off, ha, fun i hi => ?_⟩
  obtain ⟨v0, hc0, ht0, hz0⟩ := hf i hi 0 _ rfl
  obtain ⟨x0, rfl, hw0'⟩ := open_str_cell Try.underlying9 ht0
  have hw0 := hz0 Try.underlying9 _ rfl
  obtain ⟨v1, hc1, ht1, hz1⟩ := hf i hi 1 _ rfl
  obtain ⟨x1, rfl, hw1'⟩ := open_str_cell Try.underlying9 ht1
  have hw1 := hz1 Try.underlying9 _ rfl
  exact ⟨x0, x1, hc0, hw0, hc1, hw1⟩

open Go.Proofs.Ytfmbjepjmjcgeaa.Leaf Go.Proofs.Ytfmbjepjmjcgeaa.Buf Go.Proofs.Ytfmbjepjmjcgeaa.Msg Go.Proofs.Ytfmbjepjmjcgeaa.Rec Go.Proofs.Ytfmbjepjmjcgeaa.Lend
theorem ents0 {w : World} {a : Option Addr} {len cap : Nat} (h : AR0 w a len) : ∃ l, len = l.length ∧ ER w (.slice a len cap) l ∧ ∀ u ∈ l, u.key.length ≤ 140737488355327 ∧ u.val.length ≤ 140737488355327 := by
  refine er_of (fun u => u.key.length ≤ 140737488355327 ∧ u.val.length ≤ 140737488355327) fun h0 => ?_
  obtain ⟨b, off, ha, hx⟩ := h h0
  refine ⟨b, off, ha, fun i hi => ?_⟩
  obtain ⟨x0, x1, c0, h0, c1, h1⟩ := hx i hi
  exact ⟨_, ⟨by simpa [enU] using h0, by simpa [enU] using h1⟩, ent_cells c0 c1⟩

/-! ### STEP 1: THE WALK -/
set_option maxHeartbeats 8000000 in
set_option maxRecDepth 100000 in
theorem walk (a0 : Option Addr) (a0l a0c : Nat) (a1 : ByteArray) (a2x0 a2x1 : Int) (w : World) (w0 : AR0 w a0 a0l) (w0l : a0l ≤ a0c) (w0m : a0c ≤ maxLen) (w1 : a1.size ≤ maxLen) (w2x0 : (Lit.int .u16 a2x0).wf = true) (w2x1 : (Lit.int .u16 a2x1).wf = true) :
    Calls Try.prog 4 #[.slice a0 a0l a0c, .string a1, .agg #[.int .u16 a2x0, .int .u16 a2x1]] w fun e w' => e = .returned (.bool true) ∧ Below w.heap.size w w' := by
  obtain ⟨l, hl, hu, hq⟩ := ents0 (cap := a0c) w0
  have HU := Lib.hid hu
  have HN := Lib.hid hl
  have HQ := Lib.hid hq
  have HNC := Lib.hid (show a0l ≤ a0c ∧ a0c ≤ 9223372036854775807 from ⟨w0l, by unfold maxLen at w0m; exact w0m⟩)
  clear hl hu hq w0 w0l w0m
  have HX0 := Lib.hid (u16_bd w2x0)
  have HX1 := Lib.hid (u16_bd w2x1)
  unfold maxLen at w1
  obtain ⟨R0, hR0⟩ : ∃ x, x = a1 := ⟨_, rfl⟩
  rw [← hR0] at w1 ⊢
  clear hR0
  obtain ⟨w0, hw0⟩ : ∃ x, x = w.alloc (.cells #[.int .u16 a2x0, .int .u16 a2x1] 50) := ⟨_, rfl⟩
  have HB0 := Lib.hid (show Below w.heap.size w w0 by rw [hw0]; exact below_new _ _)
  have HAT := Lib.hid (show Has w0 w.heap.size 50 [.int .u16 a2x0, .int .u16 a2x1] by rw [hw0]; exact Has.new _ _ _)
  have HU0 := Lib.hid (HU.out.below HB0.out)
  clear w2x0 w2x1
  obtain ⟨M, hm⟩ : ∃ m, m = min a0l 8 := ⟨_, rfl⟩
  have HMM := Lib.hid hm
  go_enter Try.func4, Try.ntmps4
  go_upto_region 2 with fail
  rw [← hw0]
  clear hw0
  go_cut [0] (fun s wx => ∃ a' cap', s = .slice a' M cap' ∧ (0 < M → a' = a0) ∧ wx = w0)
  case first =>
    have hnc := HNC.out
    go_wp2_with fail
    all_goals
      go_meet
      first
      | (have e : M = 8 := by have := HMM.out; omega
         exact ⟨_, _, by rw [e], fun _ => rfl, rfl⟩)
      | (have e1 : (min (a0l : Int) 8).toNat = M := by have := HMM.out; omega
         exact ⟨_, _, by rw [e1], fun _ => rfl, rfl⟩)
      | (have e : M = a0l := by have := HMM.out; omega
         exact ⟨_, _, by rw [e], fun _ => rfl, rfl⟩)
  case rest =>
    obtain ⟨s, c, rfl, haa, hww⟩ := hcut
    have hww := hww.symm
    subst hww
    have hml : M ≤ l.length ∧ M ≤ 8 := by have := HMM.out; have := HN.out; omega
    obtain ⟨hml, hmk⟩ := hml
    have HT0 := Lib.hid (show ER w0 (.slice s M c) (l.take M) from er_first HU0.out hml haa)
    clear hm haa
    go_wp2_with fail
    go_loopw [7, 27] (fun av i wr => ∃ (k : Nat) (va : Value), k ≤ M ∧ va = av ∧ i = .int .i64 k ∧ EA wr w0.heap.size va (l.take k) ∧ Hid (Sml (l.take k)) ∧ Below w0.heap.size w0 wr) (fun _ i _ => M - (intOf i).toNat)
    case atStart => exact ⟨0, _, Nat.zero_le _, rfl, rfl, World.ownsRow_nil _ _ _ _, Lib.hid sml_nil, Below.refl _ _⟩
    case round =>
      obtain ⟨k, va, hk, rfl, rfl, hea, HSM, hb⟩ := hrel
      rename World => wr
      have HE := Lib.hid hea
      have HB := Lib.hid hb
      clear hea hb
      by_cases hlt : k < M
      · have hki : (k : Int) < (M : Int) := by omega
        have hkt : k < (l.take M).length := by rw [List.length_take]; omega
        obtain ⟨g, off, hg, c0, c1⟩ := er_cells (HT0.out.below HB.out) k hkt
        subst hg
        have htk : (l.take M)[k]'hkt = l[k]'(by omega) := List.getElem_take
        rw [htk] at c0 c1
        have hke : k < l.length := by omega
        have HTS := Lib.hid (List.take_succ_eq_append_getElem hke)
        have hqu := HQ.out _ (List.getElem_mem hke)
        obtain ⟨x, hx⟩ : ∃ x, x = l[k]'hke := ⟨_, rfl⟩
        rw [← hx] at c0 c1 HTS hqu
        have hks := ssize x.key
        have hvs := ssize x.val
        obtain ⟨K, hK⟩ : ∃ z, z = Lend.strOf x.key := ⟨_, rfl⟩
        obtain ⟨V, hV⟩ : ∃ z, z = Lend.strOf x.val := ⟨_, rfl⟩
        have HK := Lib.hid hK
        have HV := Lib.hid hV
        rw [← hK] at c0 hks
        rw [← hV] at c1 hvs
        obtain ⟨w3, hw3⟩ : ∃ z, z = wr.alloc (.cells #[.string K, .string V] 52) := ⟨_, rfl⟩
        have hb3 : Below wr.heap.size wr w3 := by rw [hw3]; exact below_new _ _
        have HX3 := Lib.hid (show Has w3 wr.heap.size 52 [.string K, .string V] by rw [hw3]; exact Has.new wr _ _)
        have HB3 := Lib.hid (HB.out.trans (hb3.mono HB.out.size))
        have HE3 := Lib.hid (own_bel HE.out hb3)
        have y0 : w3.cell? ⟨wr.heap.size, 0, none⟩ = some (.string K) := HX3.out.cell 0
        have y1 : w3.cell? ⟨wr.heap.size, 1, none⟩ = some (.string V) := HX3.out.cell 1
        have hkl : k ≤ 8 := by omega
        by_cases hbg : 200 < K.size ∨ 200 < V.size
        · have hbg2 : 200 < K.size ∨ (¬ 200 < K.size ∧ 200 < V.size) := by omega
          clear hks hvs hK hV hx htk hqu hb3 hbg
          go_upto_region 6 with fail
          rw [← hw3]
          clear hw3 c0 c1
          rcases hbg2 with h1 | ⟨h1, h2⟩
          all_goals
            go_wp2_with fail
            refine (wakes_any _).mono ?_
            rintro e w4 ⟨rfl, hb4⟩
            have HBF := Lib.hid (below_on HB0.out (HB3.out.trans (hb4.mono HB3.out.size)))
            clear hb4
            go_wp2_with fail
            go_ret
            exact ⟨rfl, HBF.out⟩
        · have h1 : ¬ 200 < K.size := fun h => hbg (.inl h)
          have h2 : ¬ 200 < V.size := fun h => hbg (.inr h)
          have HS2 := Lib.hid (HSM.out.snoc (x := x) (by omega) (by omega))
          obtain ⟨v4, w4, hr4, ho4, hbb4⟩ := eapp_one und_e isE_p 23 x HE3.out HB3.out.size (by rw [List.length_take]; omega)
          rw [← HK.out, ← HV.out] at hr4
          have HO4 := Lib.hid ho4
          have HB4 := Lib.hid (hbb4 (Nat.le_refl _) HB3.out)
          obtain ⟨ao, cp, hva, _⟩ := own_shape HE.out
          rw [show (l.take k).length = k by rw [List.length_take]; omega] at hva
          subst hva
          clear hks hvs hK hV hx htk hqu hb3 hbg ho4 hbb4
          go_upto_region 6 with fail
          rw [← hw3]
          clear hw3 c0 c1
          go_wp2_with (at_builtin; refine wpList_append_run rfl _ _ _ _ rfl _ _ _ rfl rfl hr4 ?_)
          go_roundw
          case rel => exact ⟨k + 1, _, by omega, rfl, by go_num, by rw [HTS.out]; exact HO4.out, by rw [HTS.out]; exact HS2, HB4.out⟩
          case measure => simp [intOf]; omega
      · obtain rfl : k = M := by omega
        have hki : ¬ ((k : Int) < (k : Int)) := by omega
        have hTl : (l.take k).length = k := by rw [List.length_take]; omega
        have HT := Lib.hid (HT0.out.below HB.out)
        obtain ⟨T, hT⟩ : ∃ T, T = l.take k := ⟨_, rfl⟩
        rw [← hT] at HE HSM hTl HT
        have HTL := Lib.hid (show T.length ≤ 8 by omega)
        obtain ⟨ao, ac, rfl, _⟩ := own_shape HE.out
        have hof := of_l (ER.of_own HE.out) (by omega)
        have HTK := Lib.hid hTl
        clear hT hTl hml hmk hlt
        go_wp2_with fail
        refine hof.mono ?_
        clear hof
        rintro e w3 ⟨v3, rfl, hr3, hb3⟩
        have HM3 := Lib.hid (HT.out.below hb3)
        have HB3 := Lib.hid (HB.out.trans (hb3.mono HB.out.size))
        have HV3 := Lib.hid (ER.of_own hr3)
        obtain ⟨bo, bc, rfl, _⟩ := own_shape hr3
        clear hr3 hb3
        obtain ⟨w4, hw4⟩ : ∃ z, z = w3.alloc (.cells #[.slice bo (ofE T).length bc] 25) := ⟨_, rfl⟩
        have HB34 := Lib.hid (show Below w3.heap.size w3 w4 by rw [hw4]; exact below_new _ _)
        have HX4 := Lib.hid (show Has w4 w3.heap.size 25 [.slice bo (ofE T).length bc] by rw [hw4]; exact Has.new w3 _ _)
        have HM4 := Lib.hid (HM3.out.below HB34.out)
        have HV4 := Lib.hid (HV3.out.below HB34.out)
        have HB4 := Lib.hid (HB3.out.trans (HB34.out.mono HB3.out.size))
        have hri := refright_any HM4.out (by have := HTL.out; omega)
        have HOU := Lib.hid (ofE_srt T)
        go_upto_region 11 with fail
        rw [← hw4]
        clear hw4
        go_cut [11, 79] (fun v11 b wx => b = .bool false ∧ Below w0.heap.size w0 wx ∧ ER wx (.slice s k c) T)
        case first =>
          cases hrb : riB T with
          | true =>
            have he : ofN T = 0 ∧ ofE T = T := by unfold ofN ofE; rw [hrb]; exact ⟨rfl, rfl⟩
            rw [hrb] at hri
            rw [he.1]
            rw [he.2] at HX4 HV4 HOU
            rw [he.2]
            have HRI := Lib.hid hri
            clear he hri hrb
            go_wp2_with fail
            refine HRI.out.mono ?_
            rintro e w5 ⟨rfl, hb5⟩
            have HB5 := Lib.hid (HB4.out.trans (hb5.mono HB4.out.size))
            have HM5 := Lib.hid (HM4.out.below hb5)
            have HV5 := Lib.hid (HV4.out.below hb5)
            have z0 : w5.cell? ⟨w3.heap.size, 0, none⟩ = some (.slice bo T.length bc) := keep1 (HX4.out.cell 0) hb5
            clear hb5
            go_wp2_with fail
            refine (same_any HV5.out HM5.out HOU.out (by have := HTL.out; omega)).mono ?_
            rintro e w6 ⟨rfl, hb6⟩
            have HB6 := Lib.hid (HB5.out.trans (hb6.mono HB5.out.size))
            have HM6 := Lib.hid (HM5.out.below hb6)
            clear hb6 z0
            go_wp2_with fail
            go_meet
            exact ⟨rfl, HB6.out, HM6.out⟩
          | false =>
            have he : ofN T = 2 ∧ ofE T = [] := by unfold ofN ofE; rw [hrb]; exact ⟨rfl, rfl⟩
            rw [hrb] at hri
            rw [he.1]
            rw [he.2] at HX4 HV4 HOU
            rw [he.2]
            have HRI := Lib.hid hri
            have hl0 : ([] : List Up).length = 0 := rfl
            rw [hl0] at HX4 HV4
            rw [hl0]
            clear he hri hrb hl0
            go_wp2_with fail
            refine HRI.out.mono ?_
            rintro e w5 ⟨rfl, hb5⟩
            have HB5 := Lib.hid (HB4.out.trans (hb5.mono HB4.out.size))
            have HM5 := Lib.hid (HM4.out.below hb5)
            have HV5 := Lib.hid (HV4.out.below hb5)
            have z0 : w5.cell? ⟨w3.heap.size, 0, none⟩ = some (.slice bo 0 bc) := keep1 (HX4.out.cell 0) hb5
            clear hb5
            go_wp2_with fail
            refine (elen_any HV5.out).mono ?_
            rintro e w6 ⟨rfl, hb6⟩
            have HB6 := Lib.hid (HB5.out.trans (hb6.mono HB5.out.size))
            have HM6 := Lib.hid (HM5.out.below hb6)
            clear hb6 z0
            go_wp2_with fail
            go_meet
            exact ⟨rfl, HB6.out, HM6.out⟩
        case rest =>
          obtain ⟨rfl, hbx, hmx⟩ := hcut
          rename World => wx
          have HBX := Lib.hid hbx
          have HMX := Lib.hid hmx
          clear hbx hmx HX4 HV4 HV3 HM4 HM3 HB4 HB34 HB3 hri HOU
          have hrt := reftext_e HMX.out (by have := HTL.out; omega) HSM.out.sho
          have htl := HSM.out.len HTL.out
          obtain ⟨S, hS⟩ : ∃ x, x = Lend.strOf (txE T) := ⟨_, rfl⟩
          have hss : S.size ≤ 3216 := by rw [hS, ssize]; exact htl
          rw [← hS] at hrt
          generalize ofN T = EN at *
          clear hS htl
          go_wp2_with fail
          refine hrt.mono ?_
          clear hrt
          rintro e w3 ⟨rfl, hb3⟩
          have HB3 := Lib.hid (HBX.out.trans (hb3.mono HBX.out.size))
          have HAT3 := Lib.hid (HAT.out.below HB3.out HAT.out.lt)
          clear hb3 HMX HBX
          have hx00 := HX0.out.1
          have hx01 : a2x0 ≤ 65535 := by have := HX0.out.2; omega
          have hx10 := HX1.out.1
          have hx11 : a2x1 ≤ 65535 := by have := HX1.out.2; omega
          have hcv := run_bytes_brow w3 (S ++ ⟨#[120]⟩)
          have hrow := brow_bytesWorld w3 (S ++ ⟨#[120]⟩) 5
          have hb4 := below_bytesWorld w3 5 (S ++ ⟨#[120]⟩)
          have hsz4 : w3.heap.size < (Lib.bytesWorld w3 5 (S ++ ⟨#[120]⟩)).heap.size := by rw [Lib.bytesWorld_size]; omega
          have hsx : (S ++ ⟨#[120]⟩ : ByteArray).size = S.size + 1 := by rw [ByteArray.size_append, show (⟨#[120]⟩ : ByteArray).size = 1 from rfl]
          rw [hsx] at hcv
          obtain ⟨cp, hcp⟩ : ∃ c, c = grownCap w3 (S.size + 1) 0 5 := ⟨_, rfl⟩
          obtain ⟨xs, hxs⟩ : ∃ x, x = (S ++ ⟨#[120]⟩ : ByteArray).data.toList := ⟨_, rfl⟩
          obtain ⟨w4, hw4⟩ : ∃ x, x = Lib.bytesWorld w3 5 (S ++ ⟨#[120]⟩) := ⟨_, rfl⟩
          obtain ⟨g, hg⟩ : ∃ g, g = w3.heap.size := ⟨_, rfl⟩
          have hxl : xs.length = S.size + 1 := by rw [hxs, Lend.bytes_length, hsx]
          rw [← hcp, ← hw4, ← hg] at hcv
          rw [← hw4, ← hxs, ← hg] at hrow
          rw [← hw4] at hb4 hsz4
          rw [← hg] at hsz4
          have HGA := Lib.hid (show w0.heap.size ≤ g by rw [hg]; exact HB3.out.size)
          have HB4 := Lib.hid (below_on HB3.out hb4)
          have HROW := Lib.hid hrow
          have HGL := Lib.hid hsz4
          have HAT4 := Lib.hid (HAT3.out.below hb4 HAT3.out.lt)
          have HXL := Lib.hid hxl
          have HAG := Lib.hid (show w.heap.size < g by have := HAT.out.lt; have := HGA.out; omega)
          obtain ⟨d, hd, hdl⟩ : ∃ d : Nat, a2x0 % ((S.size : Int) + 1) = (d : Int) ∧ d < S.size + 1 := by
            have h1 : 0 ≤ a2x0 % ((S.size : Int) + 1) := Int.emod_nonneg _ (by omega)
            have h2 : a2x0 % ((S.size : Int) + 1) < (S.size : Int) + 1 := Int.emod_lt_of_pos _ (by omega)
            exact ⟨(a2x0 % ((S.size : Int) + 1)).toNat, by omega, by omega⟩
          clear hsx hcp hxs hw4 hg hrow hb4 hsz4 hxl
          go_wp2_with fail
          go_upto_region 15 with fail
          obtain ⟨y, hy⟩ : ∃ y : UInt8, (y.toNat : Int) = a2x1 % 256 := ⟨UInt8.ofNat (a2x1 % 256).toNat, by rw [UInt8.toNat_ofNat']; omega⟩
          have hyw : IntKind.u8.wrap a2x1 = (y.toNat : Int) := by rw [hy]; rfl
          have hym : a2x1 % 256 = (y.toNat : Int) := hy.symm
          obtain ⟨x, hx⟩ : ∃ x, x = xs.getD d 0 := ⟨_, rfl⟩
          obtain ⟨z, hz⟩ : ∃ z, z = x ^^^ y := ⟨_, rfl⟩
          have hxor : bits .xor .u8 (x.toNat : Int) (y.toNat : Int) = (z.toNat : Int) := by rw [hz, u8_xor_nat _ _ (bu8_lt x) (bu8_lt y), UInt8.toNat_xor]
          have HXX := Lib.hid hx
          have hd1 : ¬ (S.size : Int) + 1 = 0 := by omega
          have hdl2 : (d : Int) < (S.size : Int) + 1 := by omega
          have HDL := Lib.hid hdl
          have hws : IntKind.i64.wrap ((S.size : Int) + 1) = (S.size : Int) + 1 := IntWalk.i64_in _ (by omega)
          have hwi : IntKind.i64.wrap a2x0 = a2x0 := IntWalk.i64_in _ (by omega)
          have hdt : a2x0.tmod ((S.size : Int) + 1) = (d : Int) := by rw [Int.tmod_eq_emod_of_nonneg hx00]; exact hd
          clear hy hx hz
          refine Reg.region_vals (by kernel_rfl) [(85, .slice (some ⟨g, 0, none⟩) (S.size + 1) cp), (86, .pointer (some ⟨w.heap.size, 0, none⟩)), (87, .int .u16 a2x0), (88, .int .i64 a2x0), (89, .slice (some ⟨g, 0, none⟩) (S.size + 1) cp), (90, .int .i64 ((S.size : Int) + 1)), (91, .int .i64 (d : Nat)), (92, .pointer (some ⟨g, d, none⟩)), (93, .int .u8 (x.toNat : Int)), (94, .pointer (some ⟨w.heap.size, 1, none⟩)), (95, .int .u16 a2x1), (96, .int .u8 (y.toNat : Int)), (97, .int .u8 (z.toNat : Int)), (98, .pointer (some ⟨g, d, none⟩))] (fun l wy => Tn w w0 g a2x0 a2x1 (bif l 14 then xs.set d z else xs) wy) (by kernel_rfl) (by kernel_rfl) (by kernel_rfl) (Tn.drew ⟨HROW.out, HAT4.out, HB4.out, HGL.out, HAG.out⟩) ⟨?_, ?_, ?_, ?_, ?_, ?_, ?_, ?_, ?_, ?_, ?_, ?_, ?_, ?_, ?_, trivial⟩ ?hend
          · -- 0: 85 := Op.move t13
            intro aq wq lq hI hl hdone hlater hold hd ho
            have h13 : aq.tmps.getD 13 undef = .slice (some ⟨g, 0, none⟩) (S.size + 1) cp := ho 13 (by kernel_rfl)
            clear hd ho hdone hlater hold
            exact Reg.step2_move (.tmp 13) rfl h13 hI trivial
          · -- 1: 86 := Op.indexAddr 50 t5 (const (0:i64))
            intro aq wq lq hI hl hdone hlater hold hd ho
            have h5 : aq.tmps.getD 5 undef = .pointer (some ⟨w.heap.size, 0, none⟩) := ho 5 (by kernel_rfl)
            clear hd ho hdone hlater hold
            rw [Array.getD_eq_getD_getElem?] at h5
            refine Reg.step2_val (.pointer (some ⟨w.heap.size, 0, none⟩)) ?_ rfl hI trivial
            go_simp
          · -- 2: 87 := Op.load 49 t86
            intro aq wq lq hI hl hdone hlater hold hd ho
            have h86 : aq.tmps.getD 86 undef = .pointer (some ⟨w.heap.size, 0, none⟩) := hd 86 (by kernel_rfl)
            clear hd ho hdone hlater hold
            rw [Array.getD_eq_getD_getElem?] at h86
            have e0 : wq.cell? ⟨w.heap.size, 0, none⟩ = some (.int .u16 a2x0) := hI.at_.cell 0
            refine Reg.step2_val (.int .u16 a2x0) ?_ rfl hI trivial
            clear hI
            go_simp
          · -- 3: 88 := Op.convert 49 3 t87
            intro aq wq lq hI hl hdone hlater hold hd ho
            have h87 : aq.tmps.getD 87 undef = .int .u16 a2x0 := hd 87 (by kernel_rfl)
            clear hd ho hdone hlater hold
            rw [Array.getD_eq_getD_getElem?] at h87
            refine Reg.step2_val (.int .i64 a2x0) ?_ rfl hI trivial
            simp [execOp, Act.eval, h87]
            try go_simp
          · -- 4: 89 := Op.move t13
            intro aq wq lq hI hl hdone hlater hold hd ho
            have h13 : aq.tmps.getD 13 undef = .slice (some ⟨g, 0, none⟩) (S.size + 1) cp := ho 13 (by kernel_rfl)
            clear hd ho hdone hlater hold
            exact Reg.step2_move (.tmp 13) rfl h13 hI trivial
          · -- 5: 90 := Op.call ( builtin len, args := #(t89), argTypes := #(58) )
            intro aq wq lq hI hl hdone hlater hold hd ho
            have h89 : aq.tmps.getD 89 undef = .slice (some ⟨g, 0, none⟩) (S.size + 1) cp := hd 89 (by kernel_rfl)
            clear hd ho hdone hlater hold
            rw [Array.getD_eq_getD_getElem?] at h89
            refine Reg.step2_val (.int .i64 ((S.size : Int) + 1)) ?_ rfl hI trivial
            simp [execOp]
            go_simp
          · -- 6: 91 := Op.binOp BinOp.rem 3 t88 t90 3
            intro aq wq lq hI hl hdone hlater hold hd ho
            have h88 : aq.tmps.getD 88 undef = .int .i64 a2x0 := hd 88 (by kernel_rfl)
            have h90 : aq.tmps.getD 90 undef = .int .i64 ((S.size : Int) + 1) := hd 90 (by kernel_rfl)
            clear hd ho hdone hlater hold
            rw [Array.getD_eq_getD_getElem?] at h88 h90
            refine Reg.step2_val (.int .i64 (d : Nat)) ?_ rfl hI trivial
            simp [execOp, Act.eval, h88, h90]
            try go_simp
          · -- 7: 92 := Op.indexAddr 58 t85 t91
            intro aq wq lq hI hl hdone hlater hold hd ho
            have h85 : aq.tmps.getD 85 undef = .slice (some ⟨g, 0, none⟩) (S.size + 1) cp := hd 85 (by kernel_rfl)
            have h91 : aq.tmps.getD 91 undef = .int .i64 (d : Nat) := hd 91 (by kernel_rfl)
            clear hd ho hdone hlater hold
            rw [Array.getD_eq_getD_getElem?] at h85 h91
            refine Reg.step2_val (.pointer (some ⟨g, d, none⟩)) ?_ rfl hI trivial
            go_simp
          · -- 8: 93 := Op.load 5 t92
            intro aq wq lq hI hl hdone hlater hold hd ho
            have h92 : aq.tmps.getD 92 undef = .pointer (some ⟨g, d, none⟩) := hd 92 (by kernel_rfl)
            have gl14 : lq 14 = false := hlater 14 (by kernel_rfl)
            clear hd ho hdone hlater hold
            rw [Array.getD_eq_getD_getElem?] at h92
            have hJ := hI
            rw [gl14] at hJ
            have e0 : wq.cell? ⟨g, d, none⟩ = some (.int .u8 (x.toNat : Int)) := by rw [HXX.out]; exact hJ.row.at_ d (by rw [cond_false, HXL.out]; exact HDL.out)
            refine Reg.step2_val (.int .u8 (x.toNat : Int)) ?_ rfl hI trivial
            clear hI hJ
            go_simp
          · -- 9: 94 := Op.indexAddr 50 t5 (const (1:i64))
            intro aq wq lq hI hl hdone hlater hold hd ho
            have h5 : aq.tmps.getD 5 undef = .pointer (some ⟨w.heap.size, 0, none⟩) := ho 5 (by kernel_rfl)
            clear hd ho hdone hlater hold
            rw [Array.getD_eq_getD_getElem?] at h5
            refine Reg.step2_val (.pointer (some ⟨w.heap.size, 1, none⟩)) ?_ rfl hI trivial
            go_simp
          · -- 10: 95 := Op.load 49 t94
            intro aq wq lq hI hl hdone hlater hold hd ho
            have h94 : aq.tmps.getD 94 undef = .pointer (some ⟨w.heap.size, 1, none⟩) := hd 94 (by kernel_rfl)
            clear hd ho hdone hlater hold
            rw [Array.getD_eq_getD_getElem?] at h94
            have e0 : wq.cell? ⟨w.heap.size, 1, none⟩ = some (.int .u16 a2x1) := hI.at_.cell 1
            refine Reg.step2_val (.int .u16 a2x1) ?_ rfl hI trivial
            clear hI
            go_simp
          · -- 11: 96 := Op.convert 49 5 t95
            intro aq wq lq hI hl hdone hlater hold hd ho
            have h95 : aq.tmps.getD 95 undef = .int .u16 a2x1 := hd 95 (by kernel_rfl)
            clear hd ho hdone hlater hold
            rw [Array.getD_eq_getD_getElem?] at h95
            refine Reg.step2_val (.int .u8 (y.toNat : Int)) ?_ rfl hI trivial
            simp [execOp, Act.eval, h95]
            try go_simp
          · -- 12: 97 := Op.binOp BinOp.xor 5 t93 t96 5
            intro aq wq lq hI hl hdone hlater hold hd ho
            have h93 : aq.tmps.getD 93 undef = .int .u8 (x.toNat : Int) := hd 93 (by kernel_rfl)
            have h96 : aq.tmps.getD 96 undef = .int .u8 (y.toNat : Int) := hd 96 (by kernel_rfl)
            clear hd ho hdone hlater hold
            rw [Array.getD_eq_getD_getElem?] at h93 h96
            refine Reg.step2_val (.int .u8 (z.toNat : Int)) ?_ rfl hI trivial
            simp [execOp, Act.eval, h93, h96]
            try go_simp
          · -- 13: 98 := Op.indexAddr 58 t85 t91
            intro aq wq lq hI hl hdone hlater hold hd ho
            have h85 : aq.tmps.getD 85 undef = .slice (some ⟨g, 0, none⟩) (S.size + 1) cp := hd 85 (by kernel_rfl)
            have h91 : aq.tmps.getD 91 undef = .int .i64 (d : Nat) := hd 91 (by kernel_rfl)
            clear hd ho hdone hlater hold
            rw [Array.getD_eq_getD_getElem?] at h85 h91
            refine Reg.step2_val (.pointer (some ⟨g, d, none⟩)) ?_ rfl hI trivial
            go_simp
          · -- 14: None := Op.store 5 t98 t97
            intro aq wq lq hI hl hdone hlater hold hd ho
            have h98 : aq.tmps.getD 98 undef = .pointer (some ⟨g, d, none⟩) := hd 98 (by kernel_rfl)
            have h97 : aq.tmps.getD 97 undef = .int .u8 (z.toNat : Int) := hd 97 (by kernel_rfl)
            clear hd ho hdone hlater hold
            rw [Array.getD_eq_getD_getElem?] at h98 h97
            have hJ := hI
            clear hI
            rw [show lq 14 = false from hl, cond_false] at hJ
            have e0 := hJ.row.at_ d (by rw [HXL.out]; exact HDL.out)
            have f0 := hJ.row.froz d (by rw [HXL.out]; exact HDL.out)
            refine Reg.step2_skip (wq.setCell ⟨g, d, none⟩ (.int .u8 (z.toNat : Int))) rfl ?_ (hJ.set HGA.out (by rw [HXL.out]; exact HDL.out) _) trivial
            clear hJ
            simp [execOp]
            go_simp
          case hend =>
            intro wx2 hI
            simp only [Reg.fill, List.foldl_cons, List.foldl_nil, List.setIfInBounds_toArray, List.set_cons_zero, List.set_cons_succ]
            obtain ⟨zs, hzs⟩ : ∃ ys, ys = xs.set d z := ⟨_, rfl⟩
            have HZL := Lib.hid (show S.size + 1 = zs.length by rw [hzs, List.length_set, HXL.out])
            have HTN := Lib.hid (show Tn w w0 g a2x0 a2x1 zs wx2 by rw [hzs]; exact hI)
            clear hI hzs hyw hym hxor
            go_wp2_with fail
            have hd0 : d ≤ S.size := by have := HDL.out; omega
            obtain ⟨R, hR⟩ : ∃ R, R = R0.extract 0 (min R0.size 200) := ⟨_, rfl⟩
            obtain ⟨m, hm⟩ : ∃ m, m = min R0.size 200 := ⟨_, rfl⟩
            rw [← hm] at hR
            have HRS := Lib.hid (show R.size ≤ 4000 by rw [hR]; simp; omega)
            have hre : R0.extract 0 m = R := hR.symm
            have hmn : min (R0.size : Int) 200 = (m : Int) := by omega
            have hmi : (if (200 : Int) < (R0.size : Int) then 200 else (R0.size : Int)) = (m : Int) := by split <;> omega
            have hml : (m : Int) ≤ (R0.size : Int) := by omega
            have hml2 : m ≤ R0.size := by omega
            obtain ⟨G, hG⟩ : ∃ G, wx2.heap.size = G := ⟨_, rfl⟩
            have HT4 := Lib.hid (show T4 w w0 g a2x0 a2x1 zs G R S (strOf zs) (S.extract 0 d) false wx2 from ⟨HTN.out, fun _ => hG, fun h => by cases h⟩)
            have HG := Lib.hid hG
            clear hG hd hdl hdl2 hR hm
            refine Reg.region_vals (by kernel_rfl) [(99, .string R0), (100, .string R0), (101, .int .i64 (R0.size : Nat)), (102, .int .i64 (m : Nat)), (103, .string R), (104, .string S), (105, .slice (some ⟨g, 0, none⟩) (S.size + 1) cp), (106, .string (strOf zs)), (107, .string S), (108, .pointer (some ⟨w.heap.size, 0, none⟩)), (109, .int .u16 a2x0), (110, .int .i64 a2x0), (111, .string S), (112, .int .i64 (S.size : Nat)), (113, .int .i64 ((S.size : Int) + 1)), (114, .int .i64 (d : Nat)), (115, .string (S.extract 0 d)), (116, .slice (some ⟨G, 0, none⟩) 4 4), (117, .int .i64 4), (118, .int .i64 0)] (fun l wy => T4 w w0 g a2x0 a2x1 zs G R S (strOf zs) (S.extract 0 d) (l 17) wy) (by kernel_rfl) (by kernel_rfl) (by kernel_rfl) (HT4.out.drew) ⟨?_, ?_, ?_, ?_, ?_, ?_, ?_, ?_, ?_, ?_, ?_, ?_, ?_, ?_, ?_, ?_, ?_, ?_, ?_, ?_, trivial⟩ ?hend
            · -- 0: 99 := Op.move t1
              intro aq wq lq hI hl hdone hlater hold hd ho
              have h1 : aq.tmps.getD 1 undef = .string R0 := ho 1 (by kernel_rfl)
              clear hd ho hdone hlater hold
              exact Reg.step2_move (.tmp 1) rfl h1 hI trivial
            · -- 1: 100 := Op.move t1
              intro aq wq lq hI hl hdone hlater hold hd ho
              have h1 : aq.tmps.getD 1 undef = .string R0 := ho 1 (by kernel_rfl)
              clear hd ho hdone hlater hold
              exact Reg.step2_move (.tmp 1) rfl h1 hI trivial
            · -- 2: 101 := Op.call ( builtin len, args := #(t100), argTypes := #(9) )
              intro aq wq lq hI hl hdone hlater hold hd ho
              have h100 : aq.tmps.getD 100 undef = .string R0 := hd 100 (by kernel_rfl)
              clear hd ho hdone hlater hold
              rw [Array.getD_eq_getD_getElem?] at h100
              refine Reg.step2_val (.int .i64 (R0.size : Nat)) ?_ rfl hI trivial
              simp [execOp]
              go_simp
            · -- 3: 102 := Op.call ( builtin min, args := #(t101, const (200:i64)), arg
              intro aq wq lq hI hl hdone hlater hold hd ho
              have h101 : aq.tmps.getD 101 undef = .int .i64 (R0.size : Nat) := hd 101 (by kernel_rfl)
              clear hd ho hdone hlater hold
              rw [Array.getD_eq_getD_getElem?] at h101
              refine Reg.step2_val (.int .i64 (m : Nat)) ?_ rfl hI trivial
              simp [execOp]
              go_simp
            · -- 4: 103 := Op.slice 9 t99 none (some t102) none
              intro aq wq lq hI hl hdone hlater hold hd ho
              have h99 : aq.tmps.getD 99 undef = .string R0 := hd 99 (by kernel_rfl)
              have h102 : aq.tmps.getD 102 undef = .int .i64 (m : Nat) := hd 102 (by kernel_rfl)
              clear hd ho hdone hlater hold
              rw [Array.getD_eq_getD_getElem?] at h99 h102
              refine Reg.step2_val (.string R) ?_ rfl hI trivial
              simp [execOp]
              go_simp
            · -- 5: 104 := Op.move t12
              intro aq wq lq hI hl hdone hlater hold hd ho
              have h12 : aq.tmps.getD 12 undef = .string S := ho 12 (by kernel_rfl)
              clear hd ho hdone hlater hold
              exact Reg.step2_move (.tmp 12) rfl h12 hI trivial
            · -- 6: 105 := Op.move t13
              intro aq wq lq hI hl hdone hlater hold hd ho
              have h13 : aq.tmps.getD 13 undef = .slice (some ⟨g, 0, none⟩) (S.size + 1) cp := ho 13 (by kernel_rfl)
              clear hd ho hdone hlater hold
              exact Reg.step2_move (.tmp 13) rfl h13 hI trivial
            · -- 7: 106 := Op.convert 58 9 t105
              intro aq wq lq hI hl hdone hlater hold hd ho
              have h105 : aq.tmps.getD 105 undef = .slice (some ⟨g, 0, none⟩) (S.size + 1) cp := hd 105 (by kernel_rfl)
              clear hd ho hdone hlater hold
              rw [Array.getD_eq_getD_getElem?] at h105
              have e0 := run_string_brow wq g cp (S.size + 1) zs hI.tn.row HZL.out
              refine Reg.step2_val (.string (strOf zs)) ?_ rfl hI trivial
              clear hI
              simp [execOp]
              go_simp
            · -- 8: 107 := Op.move t12
              intro aq wq lq hI hl hdone hlater hold hd ho
              have h12 : aq.tmps.getD 12 undef = .string S := ho 12 (by kernel_rfl)
              clear hd ho hdone hlater hold
              exact Reg.step2_move (.tmp 12) rfl h12 hI trivial
            · -- 9: 108 := Op.indexAddr 50 t5 (const (0:i64))
              intro aq wq lq hI hl hdone hlater hold hd ho
              have h5 : aq.tmps.getD 5 undef = .pointer (some ⟨w.heap.size, 0, none⟩) := ho 5 (by kernel_rfl)
              clear hd ho hdone hlater hold
              rw [Array.getD_eq_getD_getElem?] at h5
              refine Reg.step2_val (.pointer (some ⟨w.heap.size, 0, none⟩)) ?_ rfl hI trivial
              go_simp
            · -- 10: 109 := Op.load 49 t108
              intro aq wq lq hI hl hdone hlater hold hd ho
              have h108 : aq.tmps.getD 108 undef = .pointer (some ⟨w.heap.size, 0, none⟩) := hd 108 (by kernel_rfl)
              clear hd ho hdone hlater hold
              rw [Array.getD_eq_getD_getElem?] at h108
              have e0 : wq.cell? ⟨w.heap.size, 0, none⟩ = some (.int .u16 a2x0) := hI.tn.at_.cell 0
              refine Reg.step2_val (.int .u16 a2x0) ?_ rfl hI trivial
              clear hI
              go_simp
            · -- 11: 110 := Op.convert 49 3 t109
              intro aq wq lq hI hl hdone hlater hold hd ho
              have h109 : aq.tmps.getD 109 undef = .int .u16 a2x0 := hd 109 (by kernel_rfl)
              clear hd ho hdone hlater hold
              rw [Array.getD_eq_getD_getElem?] at h109
              refine Reg.step2_val (.int .i64 a2x0) ?_ rfl hI trivial
              simp [execOp, Act.eval, h109]
              try go_simp
            · -- 12: 111 := Op.move t12
              intro aq wq lq hI hl hdone hlater hold hd ho
              have h12 : aq.tmps.getD 12 undef = .string S := ho 12 (by kernel_rfl)
              clear hd ho hdone hlater hold
              exact Reg.step2_move (.tmp 12) rfl h12 hI trivial
            · -- 13: 112 := Op.call ( builtin len, args := #(t111), argTypes := #(9) )
              intro aq wq lq hI hl hdone hlater hold hd ho
              have h111 : aq.tmps.getD 111 undef = .string S := hd 111 (by kernel_rfl)
              clear hd ho hdone hlater hold
              rw [Array.getD_eq_getD_getElem?] at h111
              refine Reg.step2_val (.int .i64 (S.size : Nat)) ?_ rfl hI trivial
              simp [execOp]
              go_simp
            · -- 14: 113 := Op.binOp BinOp.add 3 t112 (const (1:i64)) 3
              intro aq wq lq hI hl hdone hlater hold hd ho
              have h112 : aq.tmps.getD 112 undef = .int .i64 (S.size : Nat) := hd 112 (by kernel_rfl)
              clear hd ho hdone hlater hold
              rw [Array.getD_eq_getD_getElem?] at h112
              refine Reg.step2_val (.int .i64 ((S.size : Int) + 1)) ?_ rfl hI trivial
              simp [execOp, Act.eval, h112]
              try go_simp
            · -- 15: 114 := Op.binOp BinOp.rem 3 t110 t113 3
              intro aq wq lq hI hl hdone hlater hold hd ho
              have h110 : aq.tmps.getD 110 undef = .int .i64 a2x0 := hd 110 (by kernel_rfl)
              have h113 : aq.tmps.getD 113 undef = .int .i64 ((S.size : Int) + 1) := hd 113 (by kernel_rfl)
              clear hd ho hdone hlater hold
              rw [Array.getD_eq_getD_getElem?] at h110 h113
              refine Reg.step2_val (.int .i64 (d : Nat)) ?_ rfl hI trivial
              simp [execOp, Act.eval, h110, h113]
              try go_simp
            · -- 16: 115 := Op.slice 9 t107 none (some t114) none
              intro aq wq lq hI hl hdone hlater hold hd ho
              have h107 : aq.tmps.getD 107 undef = .string S := hd 107 (by kernel_rfl)
              have h114 : aq.tmps.getD 114 undef = .int .i64 (d : Nat) := hd 114 (by kernel_rfl)
              clear hd ho hdone hlater hold
              rw [Array.getD_eq_getD_getElem?] at h107 h114
              refine Reg.step2_val (.string (S.extract 0 d)) ?_ rfl hI trivial
              simp [execOp, Act.eval, h107, h114]
              try go_simp
            · -- 17: 116 := Op.buildSlice 59 4 #((0, t103), (1, t104), (2, t106), (3, t1
              intro aq wq lq hI hl hdone hlater hold hd ho
              have h103 : aq.tmps.getD 103 undef = .string R := hd 103 (by kernel_rfl)
              have h104 : aq.tmps.getD 104 undef = .string S := hd 104 (by kernel_rfl)
              have h106 : aq.tmps.getD 106 undef = .string (strOf zs) := hd 106 (by kernel_rfl)
              have h115 : aq.tmps.getD 115 undef = .string (S.extract 0 d) := hd 115 (by kernel_rfl)
              clear hd ho hdone hlater hold
              rw [Array.getD_eq_getD_getElem?] at h103 h104 h106 h115
              have hJ := hI
              clear hI
              rw [show lq 17 = false from hl] at hJ
              have hsz := hJ.sz rfl
              refine Reg.step2_do (.slice (some ⟨G, 0, none⟩) 4 4) (wq.alloc (.cells #[.string R, .string S, .string (strOf zs), .string (S.extract 0 d)] 9)) ?_ rfl hJ.mk' trivial
              clear hJ
              simp [execOp]
              go_simp
            · -- 18: 117 := Op.call ( builtin len, args := #(t116), argTypes := #(59) )
              intro aq wq lq hI hl hdone hlater hold hd ho
              have h116 : aq.tmps.getD 116 undef = .slice (some ⟨G, 0, none⟩) 4 4 := hd 116 (by kernel_rfl)
              clear hd ho hdone hlater hold
              rw [Array.getD_eq_getD_getElem?] at h116
              refine Reg.step2_val (.int .i64 4) ?_ rfl hI trivial
              simp [execOp]
              go_simp
            · -- 19: 118 := Op.move (const (0:i64))
              intro aq wq lq hI hl hdone hlater hold hd ho
              clear hd ho hdone hlater hold
              refine Reg.step2_val (.int .i64 0) ?_ rfl hI trivial
              simp [execOp, Act.eval]
              try go_simp
            case hend =>
              intro wt hI
              simp only [Reg.fill, List.foldl_cons, List.foldl_nil, List.setIfInBounds_toArray, List.set_cons_zero, List.set_cons_succ]
              have HF4 : Hid (Four wt G R S (strOf zs) (S.extract 0 d)) := Lib.hid ((show T4 w w0 g a2x0 a2x1 zs G R S (strOf zs) (S.extract 0 d) true wt from hI).four rfl)
              have HB9 := Lib.hid (show Below w.heap.size w wt from below_on HB0.out (show T4 w w0 g a2x0 a2x1 zs G R S (strOf zs) (S.extract 0 d) true wt from hI).tn.bel)
              have HSZ := Lib.hid (show R.size ≤ 4000 ∧ S.size ≤ 4000 ∧ (strOf zs).size ≤ 4000 ∧ (S.extract 0 d).size ≤ 4000 from by
                refine ⟨HRS.out, by omega, by rw [strOf_size, ← HZL.out]; omega, by simp; omega⟩)
              clear hI hd1 hws hwi hdt hd0 hre hmn hmi hml hml2
              go_wp2_with fail
              go_loopw [118] (fun i wz => ∃ k : Nat, k ≤ 4 ∧ i = .int .i64 k ∧ Below wt.heap.size wt wz) (fun i _ => 4 - (intOf i).toNat)
              case atStart => exact ⟨0, Nat.zero_le _, rfl, Below.refl _ _⟩
              case round =>
                obtain ⟨kk, hkk, rfl, hb⟩ := hrel
                rename World => wz
                have HZ := Lib.hid hb
                by_cases hlt : kk < 4
                · have hkki : (kk : Int) < 4 := by omega
                  obtain ⟨τ, hτ, hcell⟩ := HF4.out.at_ HSZ.out hlt
                  have c0 : wz.cell? ⟨G, kk, none⟩ = some (.string (Lend.strOf τ)) := by rw [hb.cell (World.block_lt_of_cell? _ _ hcell)]; exact hcell
                  have hpa := lparse_any τ wz (show τ.length ≤ 100000 by omega)
                  have hpr := fun W => rparse_e τ W (show τ.length ≤ 100000 by omega)
                  have hpl : (paE τ).length ≤ 100000 := by have := paE_len τ; omega
                  have hps := paE_srt τ
                  unfold PrP at hpa
                  unfold RpP at hpr
                  obtain ⟨L, hL⟩ : ∃ L, L = paE τ := ⟨_, rfl⟩
                  obtain ⟨E, hE⟩ : ∃ E, E = paN τ := ⟨_, rfl⟩
                  obtain ⟨TT, hTT⟩ : ∃ z, z = Lend.strOf τ := ⟨_, rfl⟩
                  rw [← hL, ← hE, ← hTT] at hpa hpr
                  rw [← hL] at hpl hps
                  rw [← hTT] at c0
                  have HPR := Lib.hid hpr
                  have HPS := Lib.hid hps
                  clear hτ hcell hb hL hE hTT hpr hps
                  go_wp2_with fail
                  refine hpa.mono ?_
                  clear hpa c0
                  rintro e w5 ⟨v5, rfl, hr5, hb5⟩
                  have HB5 := Lib.hid (below_on HZ.out hb5)
                  have HV5 := Lib.hid (ER.of_own hr5)
                  obtain ⟨bo5, bc5, rfl, _⟩ := own_shape hr5
                  clear hb5 hr5
                  obtain ⟨w6, hw6⟩ : ∃ z, z = w5.alloc (.cells #[.slice bo5 L.length bc5] 25) := ⟨_, rfl⟩
                  have HB56 := Lib.hid (show Below w5.heap.size w5 w6 by rw [hw6]; exact below_new _ _)
                  have HX6 := Lib.hid (show Has w6 w5.heap.size 25 [.slice bo5 L.length bc5] by rw [hw6]; exact Has.new w5 _ _)
                  have HB6 := Lib.hid (below_on HB5.out HB56.out)
                  have HV6 := Lib.hid (HV5.out.below HB56.out)
                  go_wp2_with fail
                  rw [← hw6]
                  clear hw6
                  refine (HPR.out w6).mono ?_
                  rintro e w7 ⟨v7, rfl, hr7, hb7⟩
                  have HB7 := Lib.hid (below_on HB6.out hb7)
                  have HV7 := Lib.hid (HV6.out.below hb7)
                  have HQ7 := Lib.hid (ER.of_own hr7)
                  have z0 : w7.cell? ⟨w5.heap.size, 0, none⟩ = some (.slice bo5 L.length bc5) := keep1 (HX6.out.cell 0) hb7
                  clear hb7 hr7
                  go_wp2_with fail
                  refine (same_any HV7.out HQ7.out HPS.out hpl).mono ?_
                  rintro e w8 ⟨rfl, hb8⟩
                  have HB8 := Lib.hid (below_on HB7.out hb8)
                  clear hb8 z0
                  go_wp2_with fail
                  go_roundw
                  case rel => exact ⟨kk + 1, by omega, by go_num, HB8.out⟩
                  case measure => simp [intOf]; omega
                · obtain rfl : kk = 4 := by omega
                  go_wp2_with fail
                  refine (wakes_any _).mono ?_
                  rintro e w5 ⟨rfl, hb5⟩
                  have HBF := Lib.hid (below_on (below_on HB9.out HZ.out) hb5)
                  clear hb5 hb
                  go_wp2_with fail
                  go_ret
                  exact ⟨rfl, HBF.out⟩

/-! ### THE ROW's STEP -/
set_option maxRecDepth 100000 in
theorem lifted (os : Os) (started : os.Started) (H : Type) (enc : TypeId × Value → H) :
    ReturnsInHanded {} Try.checked os 4 .any (Rows.leafParsesSpec.pre6 enc Try.prog Try.f4 Rows.leafParsesRow.domain false) (Rows.leafParsesSpec.post enc Try.prog Try.f4 false true false false) := by
  refine returnsInHanded_of_change_sized (C := Try.checked) own started (by kernel_rfl) Try.func4
    (ChangeSpec.witness6 (enc := enc) (C := Try.checked) false ⟨#[], #[.slice none 0 0, .string ByteArray.empty, .agg #[.int .u16 0, .int .u16 0]], []⟩ 8 (by kernel_rfl) (by kernel_rfl) (by kernel_rfl) (by kernel_rfl)) ?_
  intro W base args ds gs before hval0 hW hcnd hsz _
  have hval : ∀ (j : Nat) t v, Try.f4.params[j]? = some t → args[j]? = some v → Value.okWide Try.prog W .any base t v := hval0
  have hW' := hW
  obtain ⟨p, q, hA0, hV, rfl, hfz, hnd⟩ := hW
  have hA : DataW.TrodAll enc Try.prog W 0 (fun _ => true) true Try.f4.params.toList args.toList ds p := hA0
  rw [Try.params4] at hA hval
  obtain ⟨v0, vs0, d0, ds0, p0, q0, hargs, rfl, rfl, h0, r0⟩ := trodAll_cons hA
  obtain ⟨v1, vs1, d1, ds1, p1, q1, rfl, rfl, rfl, h1, r1⟩ := trodAll_cons r0
  obtain ⟨v2, vs2, d2, ds2, p2, q2, rfl, rfl, rfl, h2, r2⟩ := trodAll_cons r1
  obtain ⟨rfl, rfl, rfl⟩ := trodAll_nil r2
  obtain rfl : args = #[v0, v1, v2] := by cases args; simp_all
  obtain ⟨rfl, rfl⟩ := trodVars_none hV
  have k0 := h0
  have lt0 : ∀ x ∈ p0, x.block < W.heap.size := by obtain ⟨m, hm⟩ := k0; exact DataW.trod_lt m _ _ _ hm
  obtain ⟨a0', l0', c0', rfl⟩ := okWide_slice Try.underlying26 (hval 0 26 v0 rfl rfl)
  obtain ⟨a0, a0l, a0c, he0, w0, w0l, w0m⟩ := open_AR0 (c := .slice a0' l0' c0') (by obtain ⟨m, hm⟩ := h0; exact ⟨m, hm⟩) (fun n hn => by have := List.all_eq_true.1 hsz n (DataW.weights_mem_each (j := 0) rfl rfl n hn); simpa using this)
  simp only [Value.slice.injEq] at he0
  obtain ⟨rfl, rfl, rfl⟩ := he0
  obtain ⟨a1, rfl, rfl, rfl, w1⟩ := open_string Try.underlying9 (hval 1 9 v1 rfl rfl) h1
  have k2 := h2
  have lt2 : ∀ x ∈ p2, x.block < W.heap.size := by obtain ⟨m, hm⟩ := k2; exact DataW.trod_lt m _ _ _ hm
  obtain ⟨cs2, rfl, hl2, hc2⟩ := open_arr Try.underlying50 (by kernel_rfl) (by kernel_rfl) (hval 2 50 v2 rfl rfl) h2
  obtain ⟨y2_0, y2_1, rfl⟩ := len2 cs2 hl2
  obtain ⟨a2x0, rfl, w2x0⟩ := open_int_cell Try.underlying49 (hc2 0 _ rfl)
  obtain ⟨a2x1, rfl, w2x1⟩ := open_int_cell Try.underlying49 (hc2 1 _ rfl)
  clear hA0 hval0
  refine (walk a0' l0' c0' a1 a2x0 a2x1 W w0 w0l w0m w1 w2x0 w2x1).mono fun e W' ⟨he, bel⟩ => ?_
  subst he
  exact ⟨_, rfl, _, _, _, [], _, [], hW', trodAll_mk1 (shut_bool Try.underlying4 _), (trodAll_cons_mk (Below.trod laidOut (by kernel_rfl) (of_decide_eq_true (by kernel_rfl)) k0 bel lt0) (trodAll_cons_mk (shut_string Try.underlying9 w1) (trodAll_cons_mk (Below.trod laidOut (by kernel_rfl) (of_decide_eq_true (by kernel_rfl)) k2 bel lt2) trodAll_mk0))), rfl, bel.frame _, fun h => by cases h⟩

theorem over : Rows.leafParsesRow.holds Try.pinned (OpenSpec.ofChange Rows.leafParsesSpec) :=
  OpenClaim.holds_of_wide 4 Try.f4 rfl rfl rfl rfl rfl rfl rfl ⟨rfl, rfl, rfl, rfl, rfl⟩ rfl rfl rfl rfl rfl (by kernel_rfl) Try.func4 (by kernel_rfl)
    (of_decide_eq_true (by kernel_rfl)) (by unfold Func.isWrapper; first | (rw [if_pos (by decide +kernel)]; kernel_rfl) | (rw [if_neg (by decide +kernel)]; exact ⟨rfl, rfl⟩))
    (fun os started H enc _ => lifted os started H enc)

/-- THE STATEMENT -/
theorem proved : Rows.LeafParsesSaid := over
#print axioms proved
end Go.Proofs.Ytfmbjepjmjcgeaa.leafParses
