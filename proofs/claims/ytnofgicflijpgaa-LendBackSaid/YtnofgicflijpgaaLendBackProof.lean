/-
  The law LendBack holds: numbers that fit are read again of their bytes, whatever stands behind; with one byte, or one width, less there are none. Conditions: none but the row's own.
-/
import Derived.Test.YtnofgicflijpgaaRows
import Derived.Test.YtnofgicflijpgaaLendJ
import Derived.Test.YtnofgicflijpgaaLendBackMath
import Derived.WalkKit
import Derived.ProofKit
import Derived.OpenShut
import Derived.ShutString
import Derived.ChangeOld
import Derived.Below
namespace Go.Proofs.Ytnofgicflijpgaa.lendBack
open Go.ChangeShapes Go.WideShapes Go.ChangeAt Go.RowKit
open Go.ChangeMaps (open_string shut_string)
set_option linter.unusedVariables false

theorem own : ownKnob Try.prog.godebug = none := by kernel_rfl
theorem laidOut : laidOutB Try.prog = true := by kernel_rfl

/-- WHAT THE WALK IS TOLD OF A SLICE OF INTEGERS THAT CAME IN: it is nil; or it leads to a row of 'cap' cells, the numbers 'zs' (the first 'len' are its elements, the rest its spare room), each fitting its kind. -/
def IsRow (k : IntKind) (w : World) (a : Option Addr) (len cap : Nat) (zs : List Int) : Prop :=
  (a = none ∧ len = 0 ∧ cap = 0 ∧ zs = []) ∨
  ∃ x, a = some x ∧ len ≤ cap ∧ cap ≤ maxLen ∧ zs.length = cap ∧ (∀ i, i < zs.length → w.cell? (x.add i) = some (.int k (zs.getD i 0))) ∧ ∀ n ∈ zs, (Lit.int k n).wf = true

theorem isRow_row {k : IntKind} {w : World} {a : Option Addr} {len cap : Nat} {zs : List Int} (h : IsRow k w a len cap zs) :
    Row k w a len (zs.take len) ∧ len ≤ cap ∧ cap ≤ maxLen ∧ (∀ n ∈ zs.take len, (Lit.int k n).wf = true) := by
  rcases h with ⟨rfl, rfl, rfl, rfl⟩ | ⟨x, rfl, hl, hm, hz, hc, hwf⟩
  · exact ⟨⟨rfl, fun h => absurd h (by decide)⟩, Nat.le_refl _, by unfold maxLen; omega, by simp⟩
  · refine ⟨⟨by simp; omega, fun h => ?_⟩, hl, hm, fun n hn => hwf n (List.mem_of_mem_take hn)⟩
    obtain ⟨b, off, spot⟩ := x
    have h0 := hc 0 (by omega)
    have hs : spot = none := by simpa [Addr.add] using World.cell?_spot h0
    subst hs
    refine ⟨b, off, rfl, fun i hi => ?_⟩
    have := hc i (by omega)
    rw [Addr.add_lit] at this
    rw [this]
    simp [List.getD, hi]

theorem walk_wf {zs : List Int} (h : ∀ n ∈ zs, (Lit.int .u64 n).wf = true) : ∀ n ∈ zs, 0 ≤ n ∧ n < 18446744073709551616 := by
  intro n hn
  have := bounds_u64 (h n hn)
  omega
open Go.Proofs.Ytnofgicflijpgaa.Lend

/-! ### STEP 1: THE WALK: the Go text returns true, AND WRITES NOTHING THAT WAS THERE: 'Below w.heap.size w w'' (Derived/Below.lean: '.refl', '.alloc', '.drew', '.setCell' at a new block, '.trans'). Open each 'IsRow' by 'rcases' AHEAD of 'go_enter'; part every test ahead of the walk. -/
set_option maxHeartbeats 4000000 in
set_option maxRecDepth 100000 in
theorem walk (a0 : Option Addr) (len0 cap0 : Nat) (z0 : List Int) (a1 : ByteArray) (w : World) (w0 : IsRow .u64 w a0 len0 cap0 z0) (w1 : a1.size ≤ maxLen) :
    Calls Try.prog 6 #[.slice a0 len0 cap0, .string a1] w fun e w' => e = .returned (.bool true) ∧ Below w.heap.size w w' := by
  obtain ⟨hr, hlc, hcm, hwf⟩ := isRow_row w0
  have hnb := Lib.hid (walk_wf hwf)
  have HR := Lib.hid hr
  obtain ⟨i0, hi, hz0, hz1, hz2⟩ := info_parts info_int
  clear hwf hr w0 w1 hcm
  go_enter Try.func6, Try.ntmps6
  go_upto_region 2 with fail
  go_cut [0, 1] (fun s t wx => ∃ (n : Nat) (v : ByteArray), n ≤ 20 ∧ n ≤ len0 ∧ s = .slice a0 n cap0 ∧ t = .string v ∧ v.size ≤ 50 ∧ Below w.heap.size w wx)
  case first =>
    go_quiet (fail)
    go_wp2
    all_goals (go_meet; first | exact ⟨20, _, by omega, by omega, rfl, rfl, by first | omega | (simp; omega), below_drewN (Below.refl _ _) _⟩ | exact ⟨len0, _, by omega, by omega, rfl, rfl, by first | omega | (simp; omega), below_drewN (Below.refl _ _) _⟩)
  case rest =>
    obtain ⟨n, v, hn20, hnl, rfl, rfl, hv, hb0⟩ := hcut
    obtain ⟨xs, hxs⟩ : ∃ xs, xs = (z0.take len0).take n := ⟨_, rfl⟩
    have hrow : Row .u64 wc a0 n xs := by rw [hxs]; exact (HR.out.take n hnl).below hb0 (Nat.le_refl _)
    have hxb : ∀ m ∈ xs, 0 ≤ m ∧ m < 18446744073709551616 := fun m hm => hnb.out m (by rw [hxs] at hm; exact List.mem_of_mem_take hm)
    have HROW := Lib.hid hrow
    have HXB := Lib.hid hxb
    have hsz0 := hb0.size
    have HB0 := Lib.hid hb0
    clear hxs HR hnb hrow hxb hb0
    go_wp2
    go_loopw [5, 31] (fun s i wr => ∃ (k : Nat) (ws : List Int), k ≤ n ∧ i = .int .i64 k ∧ ws.length = k ∧ wr.ownsRow wc.heap.size 3 1 s k (ws.map (Value.int .i64)) ∧ TightL (xs.take k) ws ∧ Below wc.heap.size wc wr) (fun _ i _ => n - (intOf i).toNat)
    case atStart => exact ⟨0, [], Nat.zero_le _, rfl, rfl, World.ownsRow_nil _ _ _ _, tight_nil, Below.refl _ _⟩
    case round =>
      obtain ⟨k, ws, hk, rfl, hwl, hownr, htl, hbel⟩ := hrel
      have HTL := Lib.hid htl
      have HWL := Lib.hid hwl
      have hsz := hbel.size
      clear htl hwl
      by_cases hlt : k < n
      · obtain ⟨b, off, rfl, hc⟩ := (HROW.out.below hbel (Nat.le_refl _)).at_ (by omega)
        have hck := hc k hlt
        clear hc
        have hts := take_snoc' xs k (by have := HROW.out.len_eq; omega)
        obtain ⟨x, hx⟩ : ∃ x, x = xs.getD k 0 := ⟨_, rfl⟩
        rw [← hx] at hck hts
        have hxm : 0 ≤ x ∧ x < 18446744073709551616 := by
          rw [hx]
          refine HXB.out _ ?_
          rw [List.getD_eq_getElem?_getD, List.getElem?_eq_getElem (by have := HROW.out.len_eq; omega)]
          exact List.getElem_mem _
        obtain ⟨hx0, hx1⟩ := hxm
        have HTS := Lib.hid hts
        have HX1 := Lib.hid hx1
        clear hx hts hx1
        go_wp2
        go_loop [8, 9] (fun a c => ∃ j : Nat, 1 ≤ j ∧ j ≤ 8 ∧ a = .int .i64 j ∧ c = .int .u64 (x / 2 ^ (8 * j)) ∧ Inn x j) (fun a _ => 9 - (intOf a).toNat)
        case atStart => exact ⟨1, by omega, by omega, rfl, rfl, inn_one x⟩
        case round =>
          obtain ⟨j, hj1, hj8, rfl, rfl, hinn⟩ := hrel
          have HINN := Lib.hid hinn
          clear hinn
          have hq0 : 0 ≤ x / 2 ^ (8 * j) := Int.ediv_nonneg hx0 (Int.pow_nonneg (by decide))
          by_cases hq : 0 < x / 2 ^ (8 * j)
          · have hj : j < 8 := by
              rcases Nat.lt_or_ge j 8 with h | h
              · exact h
              · obtain rfl : j = 8 := by omega
                have := shift_end x hx0 HX1.out
                omega
            go_wp2
            go_round
            case rel => exact ⟨j + 1, by omega, by omega, by go_num, by rw [shift_on], inn_succ hq⟩
            case measure => simp [intOf]; omega
          · have ht : Tight x j := tight_end hx0 hj1 hj8 (by omega) HINN.out
            have HT := Lib.hid ht
            have hq' : x / 2 ^ (8 * j) ≤ 0 := by omega
            clear ht hq
            go_wp2_with (at_builtin; refine wpList_append_own _ rfl _ _ 22 rfl wc.heap.size 3 i0 (.int .i64 0) 1 8 Try.underlying22 hi hz0 hz1 hz2 rfl (by decide) _ _ _ rfl (hownr.alloc _) ⟨wr.heap.size, 0, none⟩ 1 1 [.int .i64 j] rfl rfl ?c1 ?c2 ?c3 ?c4 ?c5 ?_)
            case c2 => first | rfl | (intro u hu; simp at hu; subst hu; rfl)
            case c3 => unfold maxLen; omega
            case c4 => omega
            case c5 => first | omega | (simp; omega)
            intro v' w1 hown' hgrow _
            have hbel' : Below wc.heap.size wc w1 := (hbel.alloc (by omega) _).grown hgrow (by simp; omega) (fun q hq => (hownr.lt q hq).1)
            clear hownr hgrow
            go_wp2
            go_roundw
            case rel => exact ⟨k + 1, ws ++ [(j : Int)], by omega, by go_num, by simp [HWL.out], by rw [List.map_append]; exact hown', by rw [HTS.out]; exact tight_snoc HTL.out HT.out, hbel'⟩
            case measure => simp [intOf]; omega
      · obtain rfl : k = n := by omega
        obtain ⟨ao, cap, rfl, hkc⟩ := own_shape hownr
        have h8 := Lib.hid (Row.own hownr)
        have hxt : xs.take k = xs := List.take_of_length_le (by have := HROW.out.len_eq; omega)
        have htl := HTL.out
        rw [hxt] at htl
        have HTL2 := Lib.hid htl
        have hyes := tight_ok htl
        have HY := Lib.hid hyes
        have hrd := tight_read htl (fun m hm => (HXB.out m hm).1) v
        have hls := fun l hl => tight_less htl l hl
        have hen := encL_length ws xs hyes.1 htl.1
        have hsb := sumW_bd ws hyes.1
        have hwl : ws.length = k := h8.out.len_eq
        obtain ⟨t, ht⟩ : ∃ t, t = strOf (encL ws xs) := ⟨_, rfl⟩
        have htsz : t.size = (encL ws xs).length := by rw [ht]; rfl
        have hme : measN ws = t.size := by rw [measN_yes hyes.1, htsz, hen]
        rw [← ht] at hyes hrd
        have ht1 : t.size ≤ 160 := by omega
        have HY := Lib.hid hyes
        have HRD := Lib.hid hrd
        have HLS := Lib.hid hls
        have HTS := Lib.hid htsz
        have HME := Lib.hid hme
        have hk0 := Lib.hid (show k = 0 → t.size = 0 by intro h; omega)
        clear hownr HTL hxt htl hyes hrd ht htsz hen hsb hwl hls hme
        have hrow := HROW.out.below hbel (Nat.le_refl _)
        go_wp2_with fail
        refine (write_any _ _ k cap k cap0 ws xs _ h8.out hrow (by omega) (by omega) HXB.out).mono ?_
        rintro e w2 ⟨rfl, hb2⟩
        rw [HY.out.2.2.1, HY.out.2.2.2]
        have h8b := Lib.hid (h8.out.below hb2 (Nat.le_refl _))
        have hb2 : Below wc.heap.size wc w2 := hbel.trans (hb2.mono hsz)
        have hs2 := hb2.size
        clear hbel hsz hrow h8
        go_wp2_with fail
        refine (read_any ao k cap ws (t ++ v) _ h8b.out (by omega) (by rw [ByteArray.size_append]; omega)).mono ?_
        rintro e w3 ⟨bo, m, cap3, rfl, hown3, hb3⟩
        have hr3 := Row.own hown3
        rw [HRD.out.2.1] at hr3
        obtain rfl : m = k := by have := hr3.len_eq; have := HROW.out.len_eq; omega
        rw [HRD.out.1, HRD.out.2.2]
        have h8c := Lib.hid (h8b.out.below hb3 (Nat.le_refl _))
        have hb3 : Below wc.heap.size wc w3 := hb2.trans (hb3.mono hs2)
        have hs3 := hb3.size
        have HR3 := Lib.hid hr3
        clear hb2 hs2 h8b hown3 hr3
        go_wp2_with fail
        refine (wakes_any _).mono ?_
        rintro e w4 ⟨rfl, hb4⟩
        have h8d := Lib.hid (h8c.out.below hb4 (Nat.le_refl _))
        have HR4 := Lib.hid (HR3.out.below hb4 (Nat.le_refl _))
        have hb4 : Below wc.heap.size wc w4 := hb3.trans (hb4.mono hs3)
        have hs4 := hb4.size
        clear hb3 hs3 h8c HR3
        go_wp2_with fail
        refine (size_any ao m cap ws _ h8d.out (by omega)).mono ?_
        rintro e w5 ⟨rfl, rfl⟩
        rw [HME.out]
        go_wp2_with fail
        go_loopw [94] (fun i wr => ∃ q : Nat, q ≤ m ∧ i = .int .i64 q ∧ Below w4.heap.size w4 wr) (fun i _ => m - (intOf i).toNat)
        case atStart => exact ⟨0, Nat.zero_le _, rfl, Below.refl _ _⟩
        case round =>
          obtain ⟨q, hq, rfl, hbr⟩ := hrel
          have hsr := hbr.size
          by_cases hlt : q < m
          · have hrb := HR4.out.below hbr (Nat.le_refl _)
            have hra := HROW.out.below (hb4.trans (hbr.mono hs4)) (Nat.le_refl _)
            have hrw := h8d.out.below hbr (Nat.le_refl _)
            obtain ⟨b3, o3, rfl, hc3⟩ := hrb.at_ (by omega)
            obtain ⟨b0, o0, rfl, hc0⟩ := hra.at_ (by omega)
            obtain ⟨b5, o5, rfl, hc5⟩ := hrw.at_ (by omega)
            have hc3q := hc3 q hlt
            have hc0q := hc0 q hlt
            obtain ⟨y, hy⟩ : ∃ y, y = xs.getD q 0 := ⟨_, rfl⟩
            rw [← hy] at hc3q hc0q
            have HRW := Lib.hid hrw
            have HRA := Lib.hid hra
            have hlt' : (q : Int) < (m : Int) := by omega
            clear hc3 hc0 hc5 hrb hra hrw hy
            go_wp2
            go_quiet (fail)
            have hrd : Row .i64 (wr.drewN nq) (some ⟨b5, o5, none⟩) m ws := HRW.out.below (B := wr.heap.size) (below_drewN (Below.refl _ _) _) (Nat.le_refl _)
            have HRD2 := Lib.hid hrd
            have hbd : Below w4.heap.size w4 (wr.drewN nq) := below_drewN hbr _
            have hsd : w4.heap.size ≤ (wr.drewN nq).heap.size := hbd.size
            have HBD := Lib.hid hbd
            clear hrd hbd hbr
            go_wp2_with (at_builtin; refine wpList_append_own _ rfl _ _ 22 rfl w4.heap.size 3 i0 (.int .i64 0) 1 8 Try.underlying22 hi hz0 hz1 hz2 rfl (by decide) _ 0 [] rfl (World.ownsRow_nil _ _ _ _) ⟨b5, o5, none⟩ m cap (ws.map (Value.int .i64)) rfl ?d0 ?d1 ?d2 ?d3 ?d4 ?d5 ?_)
            case d0 => have := HRD2.out.len_eq; simp [this]
            case d1 => exact HRD2.out.news
            case d2 => exact ints_oneCell _ _
            case d3 => unfold maxLen; omega
            case d4 => omega
            case d5 => first | omega | (simp; omega)
            intro v' w6 hown6 hgrow6 _
            have hb6 : Below w4.heap.size w4 w6 := HBD.out.grown hgrow6 hsd (fun q hq => by cases hq)
            obtain ⟨g, cap6, rfl, hc6, hg6⟩ := own_some hown6 (by omega)
            obtain ⟨x, hx⟩ : ∃ x, x = ws.getD q 0 := ⟨_, rfl⟩
            have hwlen : ws.length = m := HRW.out.len_eq
            have hxlen : xs.length = m := HRA.out.len_eq
            have hti := HTL2.out.2 q (by omega)
            rw [← hx] at hti
            obtain ⟨hx1, hx8, _, _⟩ := hti
            have hcg : w6.cell? ⟨g, q, none⟩ = some (.int .i64 x) := by
              rw [hown6.cellAt q (by omega), List.getElem?_map, List.getElem?_eq_getElem (by omega), hx, List.getD_eq_getElem?_getD, List.getElem?_eq_getElem (by omega)]; rfl
            have hfg : w6.frozen? ⟨g, q, none⟩ = false := hown6.frozenAt q
            have hst := hown6.stored q (.int .i64 (x - 1))
            rw [← List.map_set] at hst
            have hrt := Row.own hst.1
            have hra6 : Row .u64 (w6.setCell ⟨g, q, none⟩ (.int .i64 (x - 1))) (some ⟨b0, o0, none⟩) m xs :=
              HROW.out.below ((hb4.trans (hb6.mono hs4)).setCell (show wc.heap.size ≤ g by omega) _) (Nat.le_refl _)
            have hb7 : Below w4.heap.size w4 (w6.setCell ⟨g, q, none⟩ (.int .i64 (x - 1))) := hb6.setCell hg6 _
            have hs7 := hb7.size
            have HRT := Lib.hid hrt
            have HRA6 := Lib.hid hra6
            have HB7 := Lib.hid hb7
            have HWL := Lib.hid hwlen
            have HXL := Lib.hid hxlen
            have HXE := Lib.hid hx
            clear hown6 hgrow6 hst hrt hra6 hb7 hwlen hxlen hx hb6
            by_cases hx2 : 2 ≤ x
            · have hno := tight_set HTL2.out q (by have := HXL.out; omega) (by rw [← HXE.out]; exact hx2)
              rw [← HXE.out] at hno
              have HNO := Lib.hid hno
              clear hno
              go_wp2_with (go_at_call 8; refine (write_any _ _ m cap6 m cap0 (ws.set q (x - 1)) xs _ HRT.out HRA6.out (by omega) (by omega) HXB.out).mono ?_; rintro e w8 ⟨rfl, hb8⟩; rw [HNO.out])
              go_roundw
              case rel => exact ⟨q + 1, by omega, by go_num, HB7.out.trans (hb8.mono (by omega))⟩
              case measure => simp [intOf]; omega
            · go_wp2
              go_roundw
              case rel => exact ⟨q + 1, by omega, by go_num, HB7.out⟩
              case measure => simp [intOf]; omega
          · obtain rfl : q = m := by omega
            have h8e := Lib.hid (h8d.out.below hbr (Nat.le_refl _))
            have HBE := Lib.hid (HB0.out.trans ((hb4.trans (hbr.mono hs4)).mono hsz0))
            have hse : w.heap.size ≤ wr.heap.size := HBE.out.size
            clear hbr
            by_cases ht0 : t.size = 0
            · have hz : ((t.size : Int) == 0) = true := by simp [ht0]
              clear ht0
              go_wp2_with fail
              go_ret
              exact ⟨rfl, HBE.out⟩
            · have hz : ((t.size : Int) == 0) = false := by rw [beq_eq_false_iff_ne]; omega
              have htp : 1 ≤ t.size := by omega
              have hls := HLS.out (t.extract 0 (t.size - 1)).data.toList (by rw [← HTS.out, bytes_length]; simp; omega)
              have HL2 := Lib.hid hls
              clear ht0 hls
              go_wp2_with (go_at_call 13; refine (read_any ao q cap ws (t.extract 0 (t.size - 1)) _ h8e.out (by omega) (by simp; omega)).mono ?_; rintro e w9 ⟨bo, m9, cap9, rfl, _, hb9⟩; rw [HL2.out])
              go_ret
              exact ⟨rfl, HBE.out.trans (hb9.mono hse)⟩

/-! ### THE ROW's STEP: WRITTEN OUT: LEAVE IT -/
set_option maxRecDepth 100000 in
theorem lifted (os : Os) (started : os.Started) (H : Type) (enc : TypeId × Value → H) :
    ReturnsInHanded {} Try.checked os 6 .any (Rows.lendBackSpec.pre6 enc Try.prog Try.f6 Rows.lendBackRow.domain false) (Rows.lendBackSpec.post enc Try.prog Try.f6 false true false false) := by
  refine returnsInHanded_of_change (C := Try.checked) own started (by kernel_rfl) Try.func6
    (ChangeSpec.witness6 (enc := enc) (C := Try.checked) false ⟨#[], #[.slice none 0 0, .string ByteArray.empty], []⟩ 8 (by kernel_rfl) (by kernel_rfl) (by kernel_rfl) (by kernel_rfl)) ?_
  intro W base args ds gs before hval0 hW hcnd _
  have hval : ∀ (j : Nat) t v, Try.f6.params[j]? = some t → args[j]? = some v → Value.okWide Try.prog W .any base t v := hval0
  have hW' := hW
  obtain ⟨p, q, hA0, hV, rfl, hfz, hnd⟩ := hW
  have hA : DataW.TrodAll enc Try.prog W 0 (fun _ => true) true Try.f6.params.toList args.toList ds p := hA0
  rw [Try.params6] at hA hval
  obtain ⟨v0, vs0, d0, ds0, p0, q0, hargs, rfl, rfl, h0, r0⟩ := trodAll_cons hA
  obtain ⟨v1, vs1, d1, ds1, p1, q1, rfl, rfl, rfl, h1, r1⟩ := trodAll_cons r0
  obtain ⟨rfl, rfl, rfl⟩ := trodAll_nil r1
  obtain rfl : args = #[v0, v1] := by cases args; simp_all
  obtain ⟨rfl, rfl⟩ := trodVars_none hV
  obtain ⟨a0, len0, cap0, rfl⟩ := okWide_slice Try.underlying23 (hval 0 23 v0 rfl rfl)
  have k0 := h0
  have lt0 : ∀ x ∈ p0, x.block < W.heap.size := by obtain ⟨m, hm⟩ := k0; exact DataW.trod_lt m _ _ _ hm
  obtain ⟨z0, w0⟩ : ∃ zs, IsRow .u64 W a0 len0 cap0 zs := by
    obtain ⟨fuel, hf⟩ := h0
    rcases open_ints Try.underlying23 Try.underlying31 (by kernel_rfl) hf with ⟨hcs, _⟩ | ⟨x, l, c, zs, hcs, _, hl, hm, hz, _, hcell, hwz⟩
    · simp [Value.cells] at hcs
      obtain ⟨rfl, rfl, rfl⟩ := hcs
      exact ⟨[], .inl ⟨rfl, rfl, rfl, rfl⟩⟩
    · simp [Value.cells] at hcs
      obtain ⟨rfl, rfl, rfl⟩ := hcs
      exact ⟨zs, .inr ⟨_, rfl, hl, hm, by simpa using hz, hcell, hwz⟩⟩
  obtain ⟨a1, rfl, rfl, rfl, w1⟩ := open_string Try.underlying9 (hval 1 9 v1 rfl rfl) h1
  clear hA0 hval0
  refine (walk a0 len0 cap0 z0 a1 W w0 w1).mono fun e W' ⟨he, bel⟩ => ?_
  subst he
  exact ⟨_, rfl, _, _, _, [], _, [], hW', trodAll_mk1 (shut_bool Try.underlying4 _), (trodAll_cons_mk (Below.trod laidOut (by kernel_rfl) (of_decide_eq_true (by kernel_rfl)) k0 bel lt0) (trodAll_cons_mk (shut_string Try.underlying9 w1) trodAll_mk0)), rfl, bel.frame _, fun h => by cases h⟩

theorem over : Rows.lendBackRow.holds Try.pinned (OpenSpec.ofChange Rows.lendBackSpec) :=
  OpenClaim.holds_of_wide 6 Try.f6 rfl rfl rfl rfl rfl rfl rfl ⟨rfl, rfl, rfl, rfl, rfl⟩ rfl rfl rfl rfl rfl (by kernel_rfl) Try.func6 (by kernel_rfl)
    (of_decide_eq_true (by kernel_rfl)) (by unfold Func.isWrapper; first | (rw [if_pos (by decide +kernel)]; kernel_rfl) | (rw [if_neg (by decide +kernel)]; exact ⟨rfl, rfl⟩))
    (fun os started H enc _ => lifted os started H enc)

/-- ████ THE STATEMENT ████ -/
theorem proved : Rows.LendBackSaid := over
#print axioms proved
end Go.Proofs.Ytnofgicflijpgaa.lendBack
