/- Contracts of layer 1 (lend): number, Read, Split, Join. -/
import Derived.Test.YtfclecbhfamomaaLendW
namespace Go.Proofs.Ytfclecbhfamomaa.Lend
open Go.RowKit Go.Proofs.Ytfclecbhfamomaa
set_option linter.unusedVariables false

theorem ret_u64 {a b : Int} (h : a = b) : Ending.returned (.int .u64 a) = .returned (.int .u64 b) := by rw [h]
set_option maxHeartbeats 400000 in
theorem number_any (s : ByteArray) (w : World) (hs : s.size ≤ 8) :
    Calls Try.prog 67 #[.string s] w fun e w' => e = .returned (.int .u64 (getL s.data.toList : Nat)) ∧ w = w' := by
  go_enter Try.func67, Try.ntmps67
  go_wp2
  go_loop [3, 7] (fun t i => ∃ k : Nat, k ≤ s.size ∧ i = .int .i64 k ∧ t = .int .u64 (getL (s.data.toList.take k) : Nat)) (fun _ i => s.size - (intOf i).toNat)
  case atStart => exact ⟨0, Nat.zero_le _, rfl, rfl⟩
  case round =>
    obtain ⟨k, hk, rfl, rfl⟩ := hrel
    by_cases hlt : k < s.size
    · have hb := getL_bd (s.data.toList.take k)
      have hl : (s.data.toList.take k).length = k := by rw [List.length_take, bytes_length]; omega
      rw [hl] at hb
      have hst := or_step (getL (s.data.toList.take k)) s[k].toNat k (by omega) hb s[k].toNat_lt
      have hsn := getL_snoc (s.data.toList.take k) s[k]
      rw [hl, ← bytes_take_succ s k hlt] at hsn
      rw [← hsn] at hst
      have HST := Lib.hid hst
      clear hst hsn hl hb
      go_wp2
      go_round
      case rel => exact ⟨k + 1, by omega, by go_num, by rw [HST.out]⟩
      case measure => simp [intOf]; omega
    · have e : s.data.toList.take k = s.data.toList := List.take_of_length_le (by rw [bytes_length]; omega)
      have HE := Lib.hid e
      clear e
      go_wp2
      go_ret
      exact ⟨ret_u64 (by rw [HE.out]), rfl⟩
/-- the text with its length ahead, and what is behind it -/
def splB (l : List UInt8) : Bool := match l with | [] => false | b :: r => decide (b.toNat ≤ r.length)
def splT (l : List UInt8) : List UInt8 := match l with | [] => [] | b :: r => if b.toNat ≤ r.length then r.take b.toNat else []
def splR (l : List UInt8) : List UInt8 := match l with | [] => [] | b :: r => if b.toNat ≤ r.length then r.drop b.toNat else []
theorem spl_no {l : List UInt8} (h : splB l = false) : splT l = [] ∧ splR l = [] := by
  cases l with
  | nil => exact ⟨rfl, rfl⟩
  | cons b r => simp [splB] at h; simp [splT, splR]; omega
theorem ret_spl {a b a' b' : ByteArray} {c d : Bool} (h : a = b) (h1 : a' = b') (h' : c = d) : Ending.returned (.tuple #[.string a, .string a', .bool c]) = .returned (.tuple #[.string b, .string b', .bool d]) := by rw [h, h1, h']
theorem split_any (s : ByteArray) (w : World) (hs : s.size ≤ 1000000) :
    Calls Try.prog 68 #[.string s] w fun e w' => e = .returned (.tuple #[.string (strOf (splT s.data.toList)), .string (strOf (splR s.data.toList)), .bool (splB s.data.toList)]) ∧ Below w.heap.size w w' := by
  by_cases h : s.size = 0
  · have hd : s.data.toList = [] := List.eq_nil_of_length_eq_zero (by rw [bytes_length]; exact h)
    have he : s.toList.isEmpty = true := by rw [ByteArray.toList_eq] ; simp [hd]
    have HD := Lib.hid hd
    clear hd
    go_enter Try.func68, Try.ntmps68
    go_wp2
    go_ret3
    exact ⟨ret_spl (by rw [HD.out]; rfl) (by rw [HD.out]; rfl) (by rw [HD.out]; rfl), Below.refl _ _⟩
  · have he : s.toList.isEmpty = false := by
      rw [ByteArray.toList_eq, List.isEmpty_eq_false_iff]
      intro hd
      exact h (by rw [← bytes_length, hd]; rfl)
    have h0 : 0 < s.size := by omega
    have hb0 : (s[0].toNat : Int) ≤ 255 := by have := s[0].toNat_lt; omega
    have hcons := bytes_cons s h0
    have hlen : (s.data.toList.drop 1).length = s.size - 1 := by simp
    by_cases hle : s[0].toNat ≤ s.size - 1
    · have hsb : splB s.data.toList = true := by rw [hcons]; simp [splB]; omega
      have ht : splT s.data.toList = (s.data.toList.drop 1).take s[0].toNat := by
        rw [hcons]; simp only [splT]; rw [if_pos (by omega)]; rfl
      have hr : splR s.data.toList = (s.data.toList.drop 1).drop s[0].toNat := by
        rw [hcons]; simp only [splR]; rw [if_pos (by omega)]; rfl
      have HSB := Lib.hid hsb
      have HT := Lib.hid ht
      have HR := Lib.hid hr
      clear hcons hlen hsb ht hr
      go_enter Try.func68, Try.ntmps68
      go_wp2
      go_quiet (fail)
      go_wp2
      go_quiet (fail)
      go_wp2
      go_ret3
      refine ⟨ret_spl ?_ ?_ ?_, below_drewN (below_drewN (Below.refl _ _) _) _⟩
      · rw [HT.out]
        apply strOf_ext
        rw [Lib.extract_data, Lib.extract_to_end]
        simp
      · rw [HR.out]
        apply strOf_ext
        rw [Lib.extract_data, Lib.extract_to_end, List.take_of_length_le (by simp; omega)]
      · rw [HSB.out]
    · have hle' : s.size - 1 < s[0].toNat := by omega
      have hsb : splB s.data.toList = false := by rw [hcons]; simp [splB]; omega
      have hno := spl_no hsb
      have HSB := Lib.hid hsb
      have HN := Lib.hid hno
      clear hcons hlen hsb hno
      go_enter Try.func68, Try.ntmps68
      go_wp2
      go_quiet (fail)
      go_wp2
      go_ret3
      exact ⟨ret_spl (by rw [HN.out.1]; rfl) (by rw [HN.out.2]; rfl) HSB.out.symm, below_drewN (Below.refl _ _) _⟩

theorem info_int : (Try.prog.info? 3).map (fun i => (i.zero, i.size, i.bytes)) = some (some (.int .i64 0), 1, 8) := by kernel_rfl
theorem info_u64 : (Try.prog.info? 47).map (fun i => (i.zero, i.size, i.bytes)) = some (some (.int .u64 0), 1, 8) := by kernel_rfl
theorem ret_rd {v : Value} {a b : ByteArray} {c d : Bool} (h : a = b) (h' : c = d) : Ending.returned (.tuple #[v, .string a, .bool c]) = .returned (.tuple #[v, .string b, .bool d]) := by rw [h, h']
set_option maxHeartbeats 1000000 in
set_option maxRecDepth 100000 in
theorem read_any_z (ao : Option Addr) (la ca : Nat) (ws : List Int) (s : ByteArray) (w : World) (hra : Row .i64 w ao la ws) (hla : la ≤ 1000) (hs : s.size ≤ 9223372036854775807) :
    Calls Try.prog 52 #[.slice ao la ca, .string s] w fun e w' => ∃ bo n cap, e = .returned (.tuple #[.slice bo n cap, .string (strOf (rdS ws s.data.toList)), .bool (rdB ws s.data.toList)]) ∧
      w'.ownsRow w.heap.size 47 1 (.slice bo n cap) n ((rdN ws s.data.toList).map (Value.int .u64)) ∧ Below w.heap.size w w' := by
  obtain ⟨i0, hi, hz0, hz1, hz2⟩ := info_parts info_u64
  have hlen := hra.len_eq
  by_cases hok : okW ws = true
  · have hm := measN_yes hok
    have hbd := sumW_bd ws hok
    rw [hlen] at hbd
    obtain ⟨tot, htot⟩ := Int.eq_ofNat_of_zero_le (show 0 ≤ sumW ws by omega)
    by_cases hle : tot ≤ s.size
    · have hyes := rd_ok (l := s.data.toList) hok (by rw [bytes_length]; omega)
      rw [htot] at hm hbd
      have HY := Lib.hid hyes
      have HLA := Lib.hid hlen
      have HM := Lib.hid hm
      have HOK := Lib.hid hok
      have HT := Lib.hid htot
      clear hyes hlen hm hok htot
      go_enter Try.func52, Try.ntmps52
      go_wp2_with (first | (go_at_call 43; refine (measure_any _ _ _ ws _ hra (by omega)).mono ?_; rintro e w' ⟨rfl, rfl⟩; rw [HM.out, HOK.out]) | (at_make; refine wpList_make_own _ rfl _ _ 83 rfl w.heap.size 47 i0 (.int .u64 0) 1 Try.underlying83 hi hz0 hz1 _ _ _ la rfl rfl rfl ?b1 ?b2 ?b3 ?_))
      case b1 => rw [hz2]; omega
      case b2 => unfold maxLen; omega
      case b3 => omega
      intro w1 hown hgrow
      have hbel : Below w.heap.size w w1 := (Below.refl _ _).grown hgrow (Nat.le_refl _) (fun q hq => by cases hq)
      clear hgrow
      go_wp2
      go_loopw [1, 9, 30] (fun t v i wr => ∃ (k : Nat) (u : ByteArray), k ≤ la ∧ i = .int .i64 k ∧ t = .string u ∧ u.data.toList = s.data.toList.drop (sumW (ws.take k)).toNat ∧ wr.ownsRow w.heap.size 47 1 v k ((rdL (ws.take k) s.data.toList).map (Value.int .u64)) ∧ Below w.heap.size w wr) (fun _ _ i _ => la - (intOf i).toNat)
      case atStart => exact ⟨0, s, Nat.zero_le _, rfl, rfl, rfl, hown, hbel⟩
      case round =>
        obtain ⟨k, u, hk, rfl, rfl, hu, hownr, hbelr⟩ := hrel
        have hsz := hbelr.size
        have HU := Lib.hid hu
        have hul : u.size = s.size - (sumW (ws.take k)).toNat := by rw [← bytes_length, hu, List.length_drop, bytes_length]
        clear hown hbel hu
        by_cases hlt : k < la
        · obtain ⟨b1, o1, rfl, hc1⟩ := (hra.below hbelr (Nat.le_refl _)).at_ (by omega)
          have hc1k := hc1 k hlt
          clear hc1
          obtain ⟨x, hx⟩ : ∃ x, x = ws.getD k 0 := ⟨_, rfl⟩
          rw [← hx] at hc1k
          have hx8 : 1 ≤ x ∧ x ≤ 8 := by
            by_cases hxx : 1 ≤ x ∧ x ≤ 8
            · exact hxx
            · have := okW_getD (ws := ws) (k := k) (by have := HLA.out; omega) (by rw [← hx]; exact hxx)
              rw [HOK.out] at this
              cases this
          obtain ⟨xn, rfl⟩ := Int.eq_ofNat_of_zero_le (show 0 ≤ x by omega)
          have hts := take_snoc' ws k (by have := HLA.out; omega)
          rw [← hx] at hts
          have hsum : sumW (ws.take (k + 1)) = sumW (ws.take k) + xn := by rw [hts, sumW_snoc]
          have hrd : rdL (ws.take (k + 1)) s.data.toList = rdL (ws.take k) s.data.toList ++ [(getL ((s.data.toList.drop (sumW (ws.take k)).toNat).take xn) : Int)] := by
            rw [hts, rdL_snoc _ _ _ (okW_take ws k HOK.out)]; simp
          have ht1 := sumW_take_le ws k HOK.out
          have ht2 := sumW_take_le ws (k + 1) HOK.out
          rw [HT.out] at ht1 ht2
          have hxu : xn ≤ u.size := by omega
          have HX := Lib.hid hx
          have HS := Lib.hid hsum
          have HRD := Lib.hid hrd
          have HUL := Lib.hid hul
          obtain ⟨hx1, hx8⟩ := hx8
          clear hx hts hsum hrd ht1 ht2 hul
          have hnum : getL (u.extract 0 xn).data.toList = getL ((s.data.toList.drop (sumW (ws.take k)).toNat).take xn) := by
            rw [Lib.extract_data, HU.out]; simp
          have HNUM := Lib.hid hnum
          clear hnum
          have hexs : (u.extract 0 xn).size ≤ 8 := by simp; omega
          go_wp2_with (first | (go_at_call 67; refine (number_any _ _ hexs).mono ?_; rintro e w' ⟨rfl, rfl⟩; rw [HNUM.out]) | (at_builtin; refine wpList_append_own _ rfl _ _ 83 rfl w.heap.size 47 i0 (.int .u64 0) 1 8 Try.underlying83 hi hz0 hz1 hz2 rfl (by decide) _ _ _ rfl (hownr.alloc _) ⟨wr.heap.size, 0, none⟩ 1 1 [.int .u64 (getL ((s.data.toList.drop (sumW (ws.take k)).toNat).take xn) : Nat)] rfl rfl ?c1 ?c2 ?c3 ?c4 ?c5 ?_))
          case c1 =>
            intro j q hj
            match j, hj with
            | 0, hj => simp at hj; subst hj; simp [Addr.add]
          case c2 => intro q hq; simp at hq; subst hq; rfl
          case c3 => unfold maxLen; omega
          case c4 => omega
          case c5 => simp; omega
          intro v' w2 hown' hgrow _
          have hbel' : Below w.heap.size w w2 := (hbelr.alloc (by omega) _).grown hgrow (by simp; omega) (fun q hq => (hownr.lt q hq).1)
          clear hownr hgrow
          go_wp2
          go_roundw
          case rel =>
            refine ⟨k + 1, _, by omega, by go_num, rfl, ?_, ?_, hbel'⟩
            · rw [Lib.extract_to_end, HU.out, List.drop_drop, HS.out]
              congr 1
              have := sumW_nonneg _ (okW_take ws k HOK.out)
              omega
            · rw [HRD.out, List.map_append]
              exact hown'
          case measure => simp [intOf]; omega
        · have e1 : ws.take k = ws := List.take_of_length_le (by have := HLA.out; omega)
          obtain rfl : k = la := by omega
          rw [e1] at hownr
          have HE := Lib.hid e1
          obtain ⟨bo, cap, rfl, _⟩ := own_shape hownr
          clear e1
          go_wp2
          go_ret3
          exact ⟨bo, k, cap, ret_rd (by rw [HY.out.2.2]; exact strOf_ext (by rw [HU.out, HE.out])) HY.out.1.symm, by rw [HY.out.2.1]; exact hownr, hbelr⟩
    · have hno := rd_no (ws := ws) (l := s.data.toList) (.inr (by rw [bytes_length]; omega))
      rw [htot] at hm hbd
      have HNO := Lib.hid hno
      have HLA := Lib.hid hlen
      have HM := Lib.hid hm
      have HOK := Lib.hid hok
      have HT := Lib.hid htot
      clear hno hlen hm hok htot
      go_enter Try.func52, Try.ntmps52
      go_wp2_with (go_at_call 43; refine (measure_any _ _ _ ws _ hra (by omega)).mono ?_; rintro e w' ⟨rfl, rfl⟩; rw [HM.out, HOK.out])
      go_ret3
      exact ⟨none, 0, 0, ret_rd (by rw [HNO.out.2.2]; rfl) HNO.out.1.symm, by rw [HNO.out.2.1]; exact World.ownsRow_nil _ _ _ _, Below.refl _ _⟩
  · have hok : okW ws = false := by simpa using hok
    have hno := rd_no (ws := ws) (l := s.data.toList) (.inl hok)
    have HNO := Lib.hid hno
    have HLA := Lib.hid hlen
    have HOK := Lib.hid hok
    clear hno hlen hok
    go_enter Try.func52, Try.ntmps52
    go_wp2_with (go_at_call 43; refine (measure_any _ _ _ ws _ hra (by omega)).mono ?_; rintro e w' ⟨rfl, rfl⟩; rw [HOK.out])
    go_ret3
    exact ⟨none, 0, 0, ret_rd (by rw [HNO.out.2.2]; rfl) HNO.out.1.symm, by rw [HNO.out.2.1]; exact World.ownsRow_nil _ _ _ _, Below.refl _ _⟩
theorem read_any (ao : Option Addr) (la ca : Nat) (ws : List Int) (s : ByteArray) (w : World) (hra : Row .i64 w ao la ws) (hla : la ≤ 1000) (hs : s.size ≤ 1000000) :
    Calls Try.prog 52 #[.slice ao la ca, .string s] w fun e w' => ∃ bo n cap, e = .returned (.tuple #[.slice bo n cap, .string (strOf (rdS ws s.data.toList)), .bool (rdB ws s.data.toList)]) ∧
      w'.ownsRow w.heap.size 47 1 (.slice bo n cap) n ((rdN ws s.data.toList).map (Value.int .u64)) ∧ Below w.heap.size w w' := read_any_z ao la ca ws s w hra hla (by omega)
end Go.Proofs.Ytfclecbhfamomaa.Lend
