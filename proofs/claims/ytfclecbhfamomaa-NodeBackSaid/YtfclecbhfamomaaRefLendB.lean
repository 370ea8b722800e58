/- Contracts of the document's own answers for layer 1: Put, Get, Write, Read. -/
import Derived.Test.YtfclecbhfamomaaLendR
import Derived.Test.YtfclecbhfamomaaLendK
import Derived.Test.YtfclecbhfamomaaLendBackMath
namespace Go.Proofs.Ytfclecbhfamomaa.Lend
open Go.RowKit Go.Proofs.Ytfclecbhfamomaa
set_option linter.unusedVariables false

/-- a number's bytes in a width that may be none, and whether it fits -/
def putB (n x : Int) : Bool := decide (1 ≤ x) && (decide (x ≤ 8) && fitsB n x)
def putS (n x : Int) : ByteArray := if 1 ≤ x ∧ x ≤ 8 then strOf (encN n x.toNat) else ⟨#[]⟩
theorem put_ok {n x : Int} (h1 : 1 ≤ x) (h8 : x ≤ 8) : putB n x = fitsB n x ∧ putS n x = strOf (encN n x.toNat) := by
  refine ⟨by simp [putB, h1, h8], by rw [putS, if_pos ⟨h1, h8⟩]⟩
theorem put_no {n x : Int} (h : ¬ (1 ≤ x ∧ x ≤ 8)) : putB n x = false ∧ putS n x = ⟨#[]⟩ := by
  refine ⟨?_, by rw [putS, if_neg h]⟩
  by_cases h1 : 1 ≤ x
  · have : ¬ x ≤ 8 := fun h8 => h ⟨h1, h8⟩
    simp [putB, this]
  · simp [putB, h1]
theorem encN_succ (n : Int) (k : Nat) : strOf (encN n (k + 1)) = strOf (encN n k) ++ strOf [UInt8.ofNat (n / 2 ^ (8 * k) % 256).toNat] := by
  have e : encN n (k + 1) = encN n k ++ [UInt8.ofNat (byteAt n k).toNat] := by simp [encN, List.range_succ]
  symm
  apply strOf_ext
  rw [e]
  simp [strOf, byteAt]
set_option maxHeartbeats 1000000 in
set_option maxRecDepth 100000 in
theorem refput_any (n x : Int) (w : World) (h0 : 0 ≤ n) (h1 : n < 18446744073709551616) :
    Calls Try.prog 49 #[.int .u64 n, .int .i64 x] w fun e w' => e = .returned (.tuple #[.string (putS n x), .bool (putB n x)]) ∧ Below w.heap.size w w' := by
  by_cases hx : 1 ≤ x ∧ x ≤ 8
  · obtain ⟨hx1, hx8⟩ := hx
    have hy := put_ok (n := n) hx1 hx8
    have HY := Lib.hid hy
    have H1 := Lib.hid h1
    obtain ⟨xn, rfl⟩ := Int.eq_ofNat_of_zero_le (show 0 ≤ x by omega)
    clear hy h1
    go_enter Try.func49, Try.ntmps49
    go_wp2
    go_loopw [0, 6, 7] (fun m s i wr => ∃ k : Nat, k ≤ xn ∧ i = .int .i64 k ∧ s = .string (strOf (encN n k)) ∧ m = .int .u64 (n / 2 ^ (8 * k)) ∧ Below w.heap.size w wr) (fun _ _ i _ => xn - (intOf i).toNat)
    case atStart => exact ⟨0, Nat.zero_le _, rfl, rfl, by simp, Below.refl _ _⟩
    case round =>
      obtain ⟨k, hk, rfl, rfl, rfl, hb⟩ := hrel
      have hsz := hb.size
      have hq0 : 0 ≤ n / 2 ^ (8 * k) := Int.ediv_nonneg h0 (Int.pow_nonneg (by decide))
      by_cases hlt : k < xn
      · have hq1 : n / 2 ^ (8 * k) < 18446744073709551616 := Int.lt_of_le_of_lt (Int.ediv_le_self _ h0) H1.out
        have hcv := run_string_one wr (n / 2 ^ (8 * k) % 256)
        have hs1 : (strOf (encN n k)).size ≤ 8 := by show (encN n k).length ≤ 8; rw [encN_length]; omega
        have hs2 : (strOf [UInt8.ofNat (n / 2 ^ (8 * k) % 256).toNat]).size ≤ 1 := Nat.le_refl _
        have HS := Lib.hid (encN_succ n k)
        have HSH := Lib.hid (shift_on n k)
        go_wp2
        go_roundw
        case rel => exact ⟨k + 1, by omega, by go_num, by rw [HS.out], by rw [← HSH.out], hb.alloc hsz _⟩
        case measure => simp [intOf]; omega
      · obtain rfl : k = xn := by omega
        have hfit := fitsB_walk n (k : Int) h0
        rw [show (8 * (k : Int)).toNat = 8 * k by omega] at hfit
        have HF := Lib.hid hfit
        clear hfit
        go_wp2
        go_ret2
        exact ⟨ret_wr (by rw [HY.out.2]; simp) (by rw [HY.out.1, ← HF.out]), hb⟩
  · have hn := put_no (n := n) hx
    have HN := Lib.hid hn
    by_cases hx1 : x < 1
    · clear hx hn
      go_enter Try.func49, Try.ntmps49
      go_wp2
      go_ret2
      exact ⟨ret_wr HN.out.2.symm HN.out.1.symm, Below.refl _ _⟩
    · have hx8 : 8 < x := by omega
      have hx1' : 1 ≤ x := by omega
      clear hx hn hx1
      go_enter Try.func49, Try.ntmps49
      go_wp2
      go_ret2
      exact ⟨ret_wr HN.out.2.symm HN.out.1.symm, Below.refl _ _⟩

set_option maxHeartbeats 1000000 in
set_option maxRecDepth 100000 in
theorem refwrite_any (ao bo : Option Addr) (la ca lb cb : Nat) (ws ns : List Int) (w : World) (hra : Row .i64 w ao la ws) (hrb : Row .u64 w bo lb ns) (hla : la ≤ 1000) (hlb : lb ≤ 1000)
    (hns : ∀ n ∈ ns, 0 ≤ n ∧ n < 18446744073709551616) :
    Calls Try.prog 28 #[.slice ao la ca, .slice bo lb cb] w fun e w' => e = .returned (.tuple #[.string (wrS ws ns), .bool (wrB ws ns)]) ∧ Below w.heap.size w w' := by
  have hlen := hra.len_eq
  have hlen' := hrb.len_eq
  by_cases hab : la = lb
  · subst hab
    have HLA := Lib.hid hlen
    have HLB := Lib.hid hlen'
    have HNS := Lib.hid hns
    have HRA := Lib.hid hra
    have HRB := Lib.hid hrb
    clear hlen hlen' hns hra hrb
    go_enter Try.func28, Try.ntmps28
    go_wp2
    go_loopw [6, 7] (fun s i wr => ∃ k : Nat, k ≤ la ∧ i = .int .i64 k ∧ s = .string (strOf (encL (ws.take k) (ns.take k))) ∧ Below w.heap.size w wr ∧ fitsL (ws.take k) (ns.take k) = true ∧ okW (ws.take k) = true) (fun _ i _ => la - (intOf i).toNat)
    case atStart => exact ⟨0, Nat.zero_le _, rfl, rfl, Below.refl _ _, rfl, rfl⟩
    case round =>
      obtain ⟨k, hk, rfl, rfl, hb, hfit, hok⟩ := hrel
      have hsz := hb.size
      have HF := Lib.hid hfit
      have HOK := Lib.hid hok
      by_cases hlt : k < la
      · obtain ⟨b1, o1, rfl, hc1⟩ := (HRA.out.below hb (Nat.le_refl _)).at_ (by omega)
        obtain ⟨b2, o2, rfl, hc2⟩ := (HRB.out.below hb (Nat.le_refl _)).at_ (by omega)
        have hc1k := hc1 k hlt
        have hc2k := hc2 k hlt
        clear hc1 hc2
        obtain ⟨x, hx⟩ : ∃ x, x = ws.getD k 0 := ⟨_, rfl⟩
        obtain ⟨n, hn⟩ : ∃ n, n = ns.getD k 0 := ⟨_, rfl⟩
        rw [← hx] at hc1k
        rw [← hn] at hc2k
        have hnn : 0 ≤ n ∧ n < 18446744073709551616 := by
          rw [hn]
          refine HNS.out _ ?_
          rw [List.getD_eq_getElem?_getD, List.getElem?_eq_getElem (by have := HLB.out; omega)]
          exact List.getElem_mem _
        have HNN := Lib.hid hnn
        have HX := Lib.hid hx
        have HN := Lib.hid hn
        have hlt' : (k : Int) < (la : Int) := by omega
        have hk0 : (0 : Int) ≤ (k : Int) := by omega
        clear hfit hok hnn hx hn
        go_upto_region 7 with fail
        go_cut [8, 9] (fun s9 s10 wx => s9 = .string (putS n x) ∧ s10 = .bool (putB n x) ∧ Below wr.heap.size wr wx)
        case first =>
          go_region_with (go_at_call 49; refine (refput_any n x _ HNN.out.1 HNN.out.2).mono ?_; rintro e w4 ⟨rfl, hb4⟩)
          all_goals (go_wp2; go_meet; exact ⟨rfl, rfl, (Below.refl _ wr).drew.trans hb4⟩)
        case rest =>
          obtain ⟨rfl, rfl, hb4⟩ := hcut
          have hb5 : Below w.heap.size w wc := hb.trans (hb4.mono hsz)
          clear hb hb4
          have hes : (strOf (encL (ws.take k) (ns.take k))).size ≤ 8000 := by
            have := encL_length (ws.take k) (ns.take k) HOK.out (by simp [HLA.out, HLB.out])
            have := sumW_bd _ HOK.out
            have : (ws.take k).length ≤ k := List.length_take_le _ _
            have : (strOf (encL (ws.take k) (ns.take k))).size = (encL (ws.take k) (ns.take k)).length := rfl
            omega
          by_cases hg : putB n x = true
          · have hxx : 1 ≤ x ∧ x ≤ 8 := by
              by_cases h : 1 ≤ x ∧ x ≤ 8
              · exact h
              · rw [(put_no h).1] at hg; cases hg
            have hpy := put_ok (n := n) hxx.1 hxx.2
            have hps : (putS n x).size ≤ 8 := by rw [hpy.2]; show (encN n x.toNat).length ≤ 8; rw [encN_length]; omega
            have hse : strOf (encL (ws.take k) (ns.take k)) ++ putS n x = strOf (encL (ws.take (k + 1)) (ns.take (k + 1))) := by
              rw [encL_take_succ ws ns k (by have := HLA.out; omega) (by rw [HLA.out, HLB.out]), ← HX.out, ← HN.out, hpy.2]
              apply strOf_ext
              simp [strOf]
            have hfe : fitsL (ws.take (k + 1)) (ns.take (k + 1)) = true := by
              rw [fitsL_take_succ ws ns k (by have := HLA.out; omega) (by rw [HLA.out, HLB.out]), ← HX.out, ← HN.out, HF.out, ← hpy.1, hg]; rfl
            have hoe : okW (ws.take (k + 1)) = true := by
              rw [take_snoc' ws k (by have := HLA.out; omega), okW_snoc, HOK.out, ← HX.out]; simp; omega
            have HSE := Lib.hid hse
            have HFE := Lib.hid hfe
            have HOE := Lib.hid hoe
            clear hxx hpy hse hfe hoe
            go_wp2
            go_roundw
            case rel => exact ⟨k + 1, by omega, by go_num, by rw [HSE.out], hb5, HFE.out, HOE.out⟩
            case measure => simp [intOf]; omega
          · have hg : putB n x = false := by simpa using hg
            have hno : wrB ws ns = false ∧ wrS ws ns = ⟨#[]⟩ := by
              by_cases h : 1 ≤ x ∧ x ≤ 8
              · refine wr_no (.inr (.inr (fitsL_at ws ns k (by have := HLA.out; omega) (by have := HLB.out; omega) ?_)))
                rw [← HX.out, ← HN.out, ← (put_ok (n := n) h.1 h.2).1]; exact hg
              · exact wr_no (.inl (okW_getD (k := k) (by have := HLA.out; omega) (by rw [← HX.out]; exact h)))
            have HNO := Lib.hid hno
            clear hno
            go_wp2
            go_ret2
            exact ⟨ret_wr HNO.out.2.symm HNO.out.1.symm, hb5⟩
      · have e1 : ws.take k = ws := List.take_of_length_le (by have := HLA.out; omega)
        have e2 : ns.take k = ns := List.take_of_length_le (by have := HLB.out; omega)
        have hyes := wr_ok (ws := ws) (ns := ns) (by have := HOK.out; rwa [e1] at this) (by rw [HLA.out, HLB.out]) (by have := HF.out; rwa [e1, e2] at this)
        have HE := Lib.hid (And.intro e1 e2)
        have HY := Lib.hid hyes
        clear e1 e2 hyes hfit hok
        go_wp2
        go_ret2
        exact ⟨ret_wr (by rw [HY.out.2, HE.out.1, HE.out.2]) HY.out.1.symm, hb⟩
  · have hno := wr_no (ws := ws) (ns := ns) (.inr (.inl (by omega)))
    have HNO := Lib.hid hno
    have hab' : ((la : Int) != (lb : Int)) = true := by rw [bne_iff_ne]; omega
    clear hno hlen hlen' hab
    go_enter Try.func28, Try.ntmps28
    go_wp2
    go_ret2
    exact ⟨ret_wr HNO.out.2.symm HNO.out.1.symm, Below.refl _ _⟩

theorem getL_drop (s : ByteArray) (k : Nat) (h : k < s.size) : getL (s.data.toList.drop k) = s[k].toNat + 256 * getL (s.data.toList.drop (k + 1)) := by
  have e : s.data.toList.drop k = s[k] :: s.data.toList.drop (k + 1) := by
    rw [List.drop_eq_getElem_cons (by rw [bytes_length]; exact h)]; rfl
  rw [e]; rfl
set_option maxHeartbeats 1000000 in
set_option maxRecDepth 100000 in
theorem refget_any (s : ByteArray) (w : World) (hs : s.size ≤ 8) :
    Calls Try.prog 56 #[.string s] w fun e w' => e = .returned (.int .u64 (getL s.data.toList : Nat)) ∧ w = w' := by
  go_enter Try.func56, Try.ntmps56
  go_wp2
  go_loop [3, 4] (fun t i => ∃ k : Nat, k ≤ s.size ∧ i = .int .i64 ((k : Int) - 1) ∧ t = .int .u64 (getL (s.data.toList.drop k) : Nat)) (fun _ i => (intOf i + 1).toNat)
  case atStart => exact ⟨s.size, Nat.le_refl _, rfl, by rw [List.drop_of_length_le (by rw [bytes_length]; omega)]; rfl⟩
  case round =>
    obtain ⟨k, hk, rfl, rfl⟩ := hrel
    cases k with
    | zero =>
      go_wp2
      go_ret
      exact ⟨rfl, rfl⟩
    | succ k =>
      have hks : k < s.size := hk
      have hb := getL_bd (s.data.toList.drop (k + 1))
      have hl : (s.data.toList.drop (k + 1)).length ≤ 7 := by rw [List.length_drop, bytes_length]; omega
      have hb2 : getL (s.data.toList.drop (k + 1)) < 2 ^ 56 := Nat.lt_of_lt_of_le hb (Nat.pow_le_pow_right (by decide) (by omega))
      have hb3 : (getL (s.data.toList.drop (k + 1)) : Int) < 72057594037927936 := by omega
      have hc0 : (s[k].toNat : Int) ≤ 255 := by have := s[k].toNat_lt; omega
      have HG := Lib.hid (getL_drop s k hks)
      have hki : ((k + 1 : Nat) : Int) - 1 = (k : Int) := by omega
      rw [hki]
      clear hb hl hb2 hki
      go_wp2
      go_round
      case rel => exact ⟨k, by omega, rfl, by rw [HG.out]; go_num⟩
      case measure => simp [intOf]

set_option maxHeartbeats 1000000 in
set_option maxRecDepth 100000 in
theorem refread_any (ao : Option Addr) (la ca : Nat) (ws : List Int) (s : ByteArray) (w : World) (hra : Row .i64 w ao la ws) (hla : la ≤ 1000) (hs : s.size ≤ 1000000) :
    Calls Try.prog 36 #[.slice ao la ca, .string s] w fun e w' => ∃ bo n cap, e = .returned (.tuple #[.slice bo n cap, .string (strOf (rdS ws s.data.toList)), .bool (rdB ws s.data.toList)]) ∧
      w'.ownsRow w.heap.size 47 1 (.slice bo n cap) n ((rdN ws s.data.toList).map (Value.int .u64)) ∧ Below w.heap.size w w' := by
  obtain ⟨i0, hi, hz0, hz1, hz2⟩ := info_parts info_u64
  have HLA := Lib.hid hra.len_eq
  have HRA := Lib.hid hra
  clear hra
  go_enter Try.func36, Try.ntmps36
  go_wp2
  go_loopw [7, 8, 9] (fun v t i wr => ∃ (k p : Nat), k ≤ la ∧ p ≤ s.size ∧ i = .int .i64 k ∧ t = .int .i64 p ∧ sumW (ws.take k) = p ∧ okW (ws.take k) = true ∧ wr.ownsRow w.heap.size 47 1 v k ((rdL (ws.take k) s.data.toList).map (Value.int .u64)) ∧ Below w.heap.size w wr) (fun _ _ i _ => la - (intOf i).toNat)
  case atStart => exact ⟨0, 0, Nat.zero_le _, Nat.zero_le _, rfl, rfl, rfl, rfl, World.ownsRow_nil _ _ _ _, Below.refl _ _⟩
  case round =>
    obtain ⟨k, p, hk, hp, rfl, rfl, hsum, hok, hownr, hbr⟩ := hrel
    have hsz := hbr.size
    have HS := Lib.hid hsum
    have HOK := Lib.hid hok
    clear hsum hok
    by_cases hlt : k < la
    · obtain ⟨b1, o1, rfl, hc1⟩ := (HRA.out.below hbr (Nat.le_refl _)).at_ (by omega)
      have hc1k := hc1 k hlt
      clear hc1
      obtain ⟨x, hx⟩ : ∃ x, x = ws.getD k 0 := ⟨_, rfl⟩
      rw [← hx] at hc1k
      have HX := Lib.hid hx
      clear hx
      by_cases hx8 : 1 ≤ x ∧ x ≤ 8
      · obtain ⟨hx1, hx8⟩ := hx8
        obtain ⟨xn, rfl⟩ := Int.eq_ofNat_of_zero_le (show 0 ≤ x by omega)
        have hts := take_snoc' ws k (by have := HLA.out; omega)
        rw [← HX.out] at hts
        by_cases hfit : p + xn ≤ s.size
        · have hsum1 : sumW (ws.take (k + 1)) = ((p + xn : Nat) : Int) := by rw [hts, sumW_snoc, HS.out]; omega
          have hok1 : okW (ws.take (k + 1)) = true := by rw [hts, okW_snoc, HOK.out]; simp; omega
          have hrd : rdL (ws.take (k + 1)) s.data.toList = rdL (ws.take k) s.data.toList ++ [(getL ((s.data.toList.drop p).take xn) : Int)] := by
            rw [hts, rdL_snoc _ _ _ HOK.out, HS.out]; simp
          have HRD := Lib.hid hrd
          have HS1 := Lib.hid hsum1
          have HOK1 := Lib.hid hok1
          have hnum : getL (s.extract p (p + xn)).data.toList = getL ((s.data.toList.drop p).take xn) := by
            rw [Lib.extract_data, Nat.add_sub_cancel_left]
          have HNUM := Lib.hid hnum
          have hexs : (s.extract p (p + xn)).size ≤ 8 := by simp; omega
          clear hts hsum1 hok1 hrd hnum
          go_wp2_with (first | (go_at_call 56; refine (refget_any _ _ hexs).mono ?_; rintro e w' ⟨rfl, rfl⟩; rw [HNUM.out]) | (at_builtin; refine wpList_append_own _ rfl _ _ 83 rfl w.heap.size 47 i0 (.int .u64 0) 1 8 Try.underlying83 hi hz0 hz1 hz2 rfl (by decide) _ _ _ rfl (hownr.alloc _) ⟨wr.heap.size, 0, none⟩ 1 1 [.int .u64 (getL ((s.data.toList.drop p).take xn) : Nat)] rfl rfl ?c1 ?c2 ?c3 ?c4 ?c5 ?_))
          case c1 =>
            intro j q hj
            match j, hj with
            | 0, hj => simp at hj; subst hj; simp [Addr.add]
          case c2 => first | rfl | (intro q hq; simp at hq; subst hq; rfl)
          case c3 => unfold maxLen; omega
          case c4 => omega
          case c5 => first | omega | (simp; omega)
          intro v' w2 hown' hgrow _
          have hbel' : Below w.heap.size w w2 := (hbr.alloc (by omega) _).grown hgrow (by simp; omega) (fun q hq => (hownr.lt q hq).1)
          clear hownr hgrow
          go_wp2
          go_roundw
          case rel => exact ⟨k + 1, p + xn, by omega, hfit, by go_num, by go_num, HS1.out, HOK1.out, by rw [HRD.out, List.map_append]; exact hown', hbel'⟩
          case measure => simp [intOf]; omega
        · have hno : rdB ws s.data.toList = false ∧ rdN ws s.data.toList = [] ∧ rdS ws s.data.toList = [] := by
            cases hw : okW ws with
            | false => exact rd_no (.inl hw)
            | true =>
              have h1 := (sumW_take_le ws (k + 1) hw).2
              rw [hts, sumW_snoc, HS.out] at h1
              exact rd_no (.inr (by rw [bytes_length]; omega))
          have HNO := Lib.hid hno
          have hlt2 : (s.size : Int) - (p : Int) < (xn : Int) := by omega
          clear hno hts hfit
          go_wp2
          go_ret3
          exact ⟨none, 0, 0, ret_rd (by rw [HNO.out.2.2]; rfl) HNO.out.1.symm, by rw [HNO.out.2.1]; exact World.ownsRow_nil _ _ _ _, hbr⟩
      · have hno := rd_no (ws := ws) (l := s.data.toList) (.inl (okW_getD (k := k) (by have := HLA.out; omega) (by rw [← HX.out]; exact hx8)))
        have HNO := Lib.hid hno
        clear hno
        by_cases hx1 : x < 1
        · clear hx8
          go_wp2
          go_ret3
          exact ⟨none, 0, 0, ret_rd (by rw [HNO.out.2.2]; rfl) HNO.out.1.symm, by rw [HNO.out.2.1]; exact World.ownsRow_nil _ _ _ _, hbr⟩
        · have hx8' : 8 < x := by omega
          have hx1' : 1 ≤ x := by omega
          clear hx8 hx1
          go_wp2
          go_ret3
          exact ⟨none, 0, 0, ret_rd (by rw [HNO.out.2.2]; rfl) HNO.out.1.symm, by rw [HNO.out.2.1]; exact World.ownsRow_nil _ _ _ _, hbr⟩
    · have e1 : ws.take k = ws := List.take_of_length_le (by have := HLA.out; omega)
      obtain rfl : k = la := by omega
      rw [e1] at hownr
      have hw : okW ws = true := by have := HOK.out; rwa [e1] at this
      have hsw : sumW ws = p := by have := HS.out; rwa [e1] at this
      have hyes := rd_ok (l := s.data.toList) hw (by rw [bytes_length, hsw]; omega)
      rw [hsw] at hyes
      have HY := Lib.hid hyes
      obtain ⟨bo, cap, rfl, _⟩ := own_shape hownr
      clear e1 hw hsw hyes
      go_wp2
      go_quiet (fail)
      go_wp2
      go_ret3
      exact ⟨bo, k, cap, ret_rd (by rw [HY.out.2.2]; exact strOf_ext (by rw [Lib.extract_to_end]; simp)) HY.out.1.symm, by rw [HY.out.2.1]; exact hownr, below_drewN hbr _⟩
end Go.Proofs.Ytfclecbhfamomaa.Lend
