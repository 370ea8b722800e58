/- Layers' contracts, bundled: LendA, LendW, LendR, LendK, RefLendB, SumMath, SumA, SumB, SumR, EnvMath, EnvMathB, EnvA, EnvB. -/
import Derived.Test.YtflanjcfkdjpjaaGreatDoorChecked
import Derived.WalkKit
import Derived.WalkLawsBesides
import Derived.WalkSpells
import Derived.Lib.Hide
import Derived.Outline
import Derived.Deep.DeepCutAuto
import Derived.Deep.RegionWith
import Derived.OpenShut
import Derived.Deep.QuietTactic
import Derived.BigQuiet
import Derived.Test.YtflanjcfkdjpjaaGreatDoorL02
import Derived.Laws.BitsAllLaws
import Derived.Test.YtflanjcfkdjpjaaGreatDoorRows
import Derived.WalkSmall
import Derived.RegionTactic
import Derived.Deep.RegionHeld3
/- Contracts of layer 1 (lend): measure, Size, fits, appendNumber. -/
namespace Go.Proofs.YtflanjcfkdjpjaaGreatDoor.Lend
open Go.RowKit Go.Proofs.YtflanjcfkdjpjaaGreatDoor
set_option linter.unusedVariables false


theorem ret_meas {a b : Int} {c d : Bool} (h : a = b) (h' : c = d) : Ending.returned (.tuple #[.int .i64 a, .bool c]) = .returned (.tuple #[.int .i64 b, .bool d]) := by rw [h, h']

set_option maxHeartbeats 400000 in
theorem measure_any (ao : Option Addr) (len cap : Nat) (ws : List Int) (w : World) (hr : Row .i64 w ao len ws) (hl : len ≤ 1000000) :
    Calls Tryz.prog 105 #[.slice ao len cap] w fun e w' => e = .returned (.tuple #[.int .i64 (measN ws), .bool (okW ws)]) ∧ w = w' := by
  obtain ⟨hlen, hat⟩ := hr
  have HL := Lib.hid hlen
  clear hlen
  have HAT := Lib.hid hat
  clear hat
  go_enter Tryz.func105, Tryz.ntmps105
  go_wp2
  go_loop [4, 9] (fun t i => ∃ k : Nat, k ≤ len ∧ i = .int .i64 k ∧ t = .int .i64 (sumW (ws.take k)) ∧ okW (ws.take k) = true) (fun _ i => len - (intOf i).toNat)
  case atStart => exact ⟨0, Nat.zero_le _, rfl, rfl, rfl⟩
  case round =>
    obtain ⟨k, hk, rfl, rfl, hok⟩ := hrel
    have hbd := sumW_bd _ hok
    have hlk : (ws.take k).length ≤ k := List.length_take_le _ _
    have HOK := Lib.hid hok
    clear hok
    by_cases hlt : k < len
    · obtain ⟨b, off, rfl, hc⟩ := HAT.out (by omega)
      have hck := hc k hlt
      clear hc
      obtain ⟨x, hx⟩ : ∃ x, x = ws.getD k 0 := ⟨_, rfl⟩
      rw [← hx] at hck
      have HX := Lib.hid hx
      clear hx
      by_cases h1 : 1 ≤ x
      · by_cases h8 : x ≤ 8
        · go_wp2
          go_round
          case rel =>
            have e := take_snoc' ws k (by have := HL.out; omega)
            rw [← HX.out] at e
            exact ⟨k + 1, by omega, by go_num, by rw [e, sumW_snoc], by rw [e, okW_snoc, HOK.out]; simp; omega⟩
          case measure => simp [intOf]; omega
        · have hno := okW_getD (ws := ws) (k := k) (by have := HL.out; omega) (by rw [← HX.out]; omega)
          have HN := Lib.hid hno
          clear hno
          go_wp2
          go_ret2
          exact ⟨ret_meas (measN_no HN.out).symm HN.out.symm, rfl⟩
      · have hno := okW_getD (ws := ws) (k := k) (by have := HL.out; omega) (by rw [← HX.out]; omega)
        have HN := Lib.hid hno
        clear hno
        go_wp2
        go_ret2
        exact ⟨ret_meas (measN_no HN.out).symm HN.out.symm, rfl⟩
    · have e : ws.take k = ws := List.take_of_length_le (by have := HL.out; omega)
      have HE := Lib.hid e
      clear e
      go_wp2
      go_ret2
      have hw : okW ws = true := by have := HOK.out; rwa [HE.out] at this
      exact ⟨ret_meas (by rw [HE.out, measN_yes hw]) hw.symm, rfl⟩
theorem ret_bool {a b : Bool} (h : a = b) : Ending.returned (.bool a) = .returned (.bool b) := by rw [h]
theorem fits_any (n : Int) (x : Int) (w : World) (h0 : 0 ≤ n) (_h1 : n < 18446744073709551616) (hx1 : 1 ≤ x) (hx8 : x ≤ 8) :
    Calls Tryz.prog 106 #[.int .u64 n, .int .i64 x] w fun e w' => e = .returned (.bool (fitsB n x)) ∧ w = w' := by
  go_enter Tryz.func106, Tryz.ntmps106
  go_wp2
  go_ret
  exact ⟨ret_bool (fitsB_walk n x h0), rfl⟩

theorem info_u8 : (Tryz.prog.info? 5).map (fun i => (i.zero, i.size, i.bytes)) = some (some (.int .u8 0), 1, 1) := by kernel_rfl

set_option maxHeartbeats 400000 in
theorem appendNumber_any (B : Nat) (v : Value) (m : Nat) (xs : List Value) (n : Int) (x : Int) (w : World) (hown : w.ownsRow B 5 1 v m xs) (hB : B ≤ w.heap.size) (hm : m ≤ 1000000)
    (h0 : 0 ≤ n) (h1 : n < 18446744073709551616) (hx1 : 1 ≤ x) (hx8 : x ≤ 8) :
    Calls Tryz.prog 107 #[v, .int .u64 n, .int .i64 x] w fun e w' => ∃ v', e = .returned v' ∧ w'.ownsRow B 5 1 v' (m + x.toNat) (xs ++ byteVals n x.toNat) ∧ Below B w w' := by
  obtain ⟨i0, hi, hz0, hz1, hz2⟩ := info_parts info_u8
  obtain ⟨kx, rfl⟩ := Int.eq_ofNat_of_zero_le (show 0 ≤ x by omega)
  go_enter Tryz.func107, Tryz.ntmps107
  go_wp2
  go_loopw [0, 9] (fun s i wr => ∃ k : Nat, k ≤ kx ∧ i = .int .i64 k ∧ wr.ownsRow B 5 1 s (m + k) (xs ++ byteVals n k) ∧ Below B w wr) (fun _ i _ => kx - (intOf i).toNat)
  case atStart => exact ⟨0, Nat.zero_le _, rfl, by simpa [byteVals] using hown, Below.refl _ _⟩
  case round =>
    obtain ⟨k, hk, rfl, hownr, hbel⟩ := hrel
    have hsz := hbel.size
    by_cases hlt : k < kx
    · go_wp2_with (at_builtin; refine wpList_append_own _ rfl _ _ 44 rfl B 5 i0 (.int .u8 0) 1 1 Tryz.underlying44 hi hz0 hz1 hz2 rfl (by decide) _ _ _ rfl (hownr.alloc _) ⟨wr.heap.size, 0, none⟩ 1 1 [.int .u8 (byteAt n k)] rfl rfl ?c1 ?c2 ?c3 ?c4 ?c5 ?_)
      case c1 =>
        intro j u hj
        match j, hj with
        | 0, hj => simp at hj; subst hj; simp [Addr.add, byteAt]
      case c2 => intro u hu; simp at hu; subst hu; rfl
      case c3 => unfold maxLen; omega
      case c4 => omega
      case c5 => simp; omega
      intro v' w1 hown' hgrow _
      have hbel' : Below B w w1 := (hbel.alloc (by omega) _).grown hgrow (by simp; omega) (fun q hq => (hownr.lt q hq).1)
      clear hownr hgrow hown
      go_wp2
      go_roundw
      case rel => exact ⟨k + 1, by omega, by go_num, by rw [byteVals_succ, ← Nat.add_assoc]; exact hown', hbel'⟩
      case measure => simp [intOf]; omega
    · obtain rfl : k = kx := by omega
      go_wp2
      go_ret
      exact ⟨_, rfl, hownr, hbel⟩
end Go.Proofs.YtflanjcfkdjpjaaGreatDoor.Lend


/- Contract of layer 1 (lend): Write. -/
namespace Go.Proofs.YtflanjcfkdjpjaaGreatDoor.Lend
open Go.RowKit Go.Proofs.YtflanjcfkdjpjaaGreatDoor
set_option linter.unusedVariables false

theorem foldl_push (l : List Int) : ∀ s : ByteArray, l.foldl (fun r n => r.push (UInt8.ofNat n.toNat)) s = ⟨s.data ++ (l.map fun n => UInt8.ofNat n.toNat).toArray⟩ := by
  induction l with
  | nil => intro s; simp
  | cons x l ih => intro s; rw [List.foldl_cons, ih]; simp [ByteArray.push]

/-- 'string(b)' of bytes that the call owns. -/
theorem run_string_own (w : World) (B : Nat) (v : Value) (n : Nat) (l : List UInt8) (h : w.ownsRow B 5 1 v n (l.map u8V)) :
    (convert 44 9 v).run Tryz.prog w = .ok (.string (strOf l)) w := by
  have hl : l.length = n := by have := h.1; simpa using this
  rcases h.2 with ⟨rfl, h0⟩ | ⟨g, cap', cur, rfl, hB, hg, hn, hm, hs, ht⟩
  · subst h0
    have : l = [] := by simpa using hl
    subst this
    rw [run_convert_bytes_string w _ _ _ _ _ _ Tryz.underlying44 Tryz.underlying5 Tryz.underlying9]
    rfl
  · rw [run_convert_bytes_string w _ _ _ _ _ _ Tryz.underlying44 Tryz.underlying5 Tryz.underlying9]
    have hc := run_loadCells_list (P := Tryz.prog) (w := w) ⟨g, 0, none⟩ (l.map u8V) (h.cells (g := g) rfl)
    rw [List.length_map, hl] at hc
    have e : l.map u8V = (l.map fun b => (b.toNat : Int)).map (Value.int .u8) := by simp [u8V]
    rw [e] at hc
    rw [run_bytesToString w _ _ _ _ hc, foldl_push]
    have ef : ((fun n : Int => UInt8.ofNat n.toNat) ∘ fun b : UInt8 => (b.toNat : Int)) = id := by funext b; simp
    simp [strOf, ByteArray.empty, ByteArray.emptyWithCapacity, ef]
    rfl

theorem ret_wr {a b : ByteArray} {c d : Bool} (h : a = b) (h' : c = d) : Ending.returned (.tuple #[.string a, .bool c]) = .returned (.tuple #[.string b, .bool d]) := by rw [h, h']

set_option maxHeartbeats 1000000 in
set_option maxRecDepth 100000 in
theorem write_any (ao bo : Option Addr) (la ca lb cb : Nat) (ws ns : List Int) (w : World) (hra : Row .i64 w ao la ws) (hrb : Row .u64 w bo lb ns) (hla : la ≤ 1000) (hlb : lb ≤ 1000)
    (hns : ∀ n ∈ ns, 0 ≤ n ∧ n < 18446744073709551616) :
    Calls Tryz.prog 71 #[.slice ao la ca, .slice bo lb cb] w fun e w' => e = .returned (.tuple #[.string (wrS ws ns), .bool (wrB ws ns)]) ∧ Below w.heap.size w w' := by
  obtain ⟨i0, hi, hz0, hz1, hz2⟩ := info_parts info_u8
  have hlen := hra.len_eq
  have hlen' := hrb.len_eq
  by_cases hok : okW ws = true
  · by_cases hab : la = lb
    · subst hab
      have HLA := Lib.hid hlen
      have HLB := Lib.hid hlen'
      have hbd := sumW_bd ws hok
      have hm := measN_yes hok
      rw [hlen] at hbd
      obtain ⟨tot, htot⟩ := Int.eq_ofNat_of_zero_le (show 0 ≤ sumW ws by omega)
      rw [htot] at hm hbd
      have HM := Lib.hid hm
      have HOK := Lib.hid hok
      have HNS := Lib.hid hns
      have HT := Lib.hid htot
      clear hlen hlen' hm hok hns htot
      go_enter Tryz.func71, Tryz.ntmps71
      go_wp2_with (first | (go_at_call 105; refine (measure_any _ _ _ ws _ hra (by omega)).mono ?_; rintro e w' ⟨rfl, rfl⟩; rw [HM.out, HOK.out]) | (at_make; refine wpList_make_own _ rfl _ _ 44 rfl w.heap.size 5 i0 (.int .u8 0) 1 Tryz.underlying44 hi hz0 hz1 _ _ _ tot rfl rfl (by omega) ?b1 ?b2 ?b3 ?_))
      case b1 => rw [hz2]; omega
      case b2 => unfold maxLen; omega
      case b3 => omega
      intro w1 hown hgrow
      have hbel : Below w.heap.size w w1 := (Below.refl _ _).grown hgrow (Nat.le_refl _) (fun q hq => by cases hq)
      clear hgrow
      go_wp2
      go_loopw [8, 29] (fun s i wr => ∃ k : Nat, k ≤ la ∧ i = .int .i64 k ∧ wr.ownsRow w.heap.size 5 1 s (encL (ws.take k) (ns.take k)).length ((encL (ws.take k) (ns.take k)).map u8V) ∧ Below w.heap.size w wr ∧ fitsL (ws.take k) (ns.take k) = true) (fun _ i _ => la - (intOf i).toNat)
      case atStart => exact ⟨0, Nat.zero_le _, rfl, hown, hbel, rfl⟩
      case round =>
        obtain ⟨k, hk, rfl, hownr, hbelr, hfit⟩ := hrel
        have HF := Lib.hid hfit
        clear hown hbel hfit
        have hsz := hbelr.size
        by_cases hlt : k < la
        · obtain ⟨b1, o1, rfl, hc1⟩ := (hra.below hbelr (Nat.le_refl _)).at_ (by omega)
          obtain ⟨b2, o2, rfl, hc2⟩ := (hrb.below hbelr (Nat.le_refl _)).at_ (by omega)
          have hc1k := hc1 k hlt
          have hc2k := hc2 k hlt
          clear hc1 hc2
          obtain ⟨x, hx⟩ : ∃ x, x = ws.getD k 0 := ⟨_, rfl⟩
          obtain ⟨n, hn⟩ : ∃ n, n = ns.getD k 0 := ⟨_, rfl⟩
          rw [← hx] at hc1k
          rw [← hn] at hc2k
          have HX := Lib.hid hx
          have HN := Lib.hid hn
          have hx8 : 1 ≤ x ∧ x ≤ 8 := by
            by_cases hxx : 1 ≤ x ∧ x ≤ 8
            · exact hxx
            · have := okW_getD (ws := ws) (k := k) (by have := HLA.out; omega) (by rw [← hx]; exact hxx)
              rw [HOK.out] at this
              cases this
          have hnn : 0 ≤ n ∧ n < 18446744073709551616 := by
            rw [hn]
            refine HNS.out _ ?_
            rw [List.getD_eq_getElem?_getD, List.getElem?_eq_getElem (by have := HLB.out; omega)]
            exact List.getElem_mem _
          obtain ⟨hx1, hx8⟩ := hx8
          obtain ⟨hn0, hn1⟩ := hnn
          clear hx hn
          have hll : (encL (ws.take k) (ns.take k)).length ≤ 1000000 := by
            have := encL_take_le ws ns k HOK.out (by rw [HLA.out, HLB.out])
            omega
          have HST := Lib.hid (encL_take_succ ws ns k (by have := HLA.out; omega) (by rw [HLA.out, HLB.out]))
          have HSF := Lib.hid (fitsL_take_succ ws ns k (by have := HLA.out; omega) (by rw [HLA.out, HLB.out]))
          cases hf : fitsB n x with
          | true =>
            have HFI := Lib.hid hf
            clear hf
            go_wp2_with (first | (go_at_call 106; refine (fits_any n x _ hn0 hn1 hx1 hx8).mono ?_; rintro e w' ⟨rfl, rfl⟩; rw [HFI.out]) | (go_at_call 107; refine (appendNumber_any w.heap.size _ _ _ n x _ hownr (by omega) hll hn0 hn1 hx1 hx8).mono ?_; rintro e w' ⟨v', rfl, hown', hbel'⟩))
            go_roundw
            case rel =>
              refine ⟨k + 1, by omega, by go_num, ?_, hbelr.trans hbel', ?_⟩
              · rw [HST.out, ← HX.out, ← HN.out]
                rw [byteVals_enc] at hown'
                simpa [encN_length] using hown'
              · rw [HSF.out, HF.out, ← HX.out, ← HN.out, HFI.out]; rfl
            case measure => simp [intOf]; omega
          | false =>
            have hno := wr_no (ws := ws) (ns := ns) (.inr (.inr (fitsL_at ws ns k (by have := HLA.out; omega) (by have := HLB.out; omega) (by rw [← HX.out, ← HN.out]; exact hf))))
            have HNO := Lib.hid hno
            have HFI := Lib.hid hf
            clear hf hno
            go_wp2_with (go_at_call 106; refine (fits_any n x _ hn0 hn1 hx1 hx8).mono ?_; rintro e w' ⟨rfl, rfl⟩; rw [HFI.out])
            go_ret2
            exact ⟨ret_wr HNO.out.2.symm HNO.out.1.symm, hbelr⟩
        · have e1 : ws.take k = ws := List.take_of_length_le (by have := HLA.out; omega)
          have e2 : ns.take k = ns := List.take_of_length_le (by have := HLB.out; omega)
          rw [e1, e2] at hownr
          have hyes := wr_ok (ws := ws) (ns := ns) HOK.out (by rw [HLA.out, HLB.out]) (by have := HF.out; rwa [e1, e2] at this)
          have HY := Lib.hid hyes
          clear e1 e2 hyes
          have hcv := run_string_own wr w.heap.size _ _ _ hownr
          go_wp2
          go_ret2
          exact ⟨ret_wr HY.out.2.symm HY.out.1.symm, hbelr⟩
    · have hno := wr_no (ws := ws) (ns := ns) (.inr (.inl (by omega)))
      have HNO := Lib.hid hno
      have HOK := Lib.hid hok
      clear hno hok hlen hlen'
      go_enter Tryz.func71, Tryz.ntmps71
      go_wp2_with (go_at_call 105; refine (measure_any _ _ _ ws _ hra (by omega)).mono ?_; rintro e w' ⟨rfl, rfl⟩; rw [HOK.out])
      go_ret2
      exact ⟨ret_wr HNO.out.2.symm HNO.out.1.symm, Below.refl _ _⟩
  · have hok : okW ws = false := by simpa using hok
    have hno := wr_no (ws := ws) (ns := ns) (.inl hok)
    have HNO := Lib.hid hno
    have HOK := Lib.hid hok
    clear hno hok hlen hlen'
    go_enter Tryz.func71, Tryz.ntmps71
    go_wp2_with (go_at_call 105; refine (measure_any _ _ _ ws _ hra (by omega)).mono ?_; rintro e w' ⟨rfl, rfl⟩; rw [HOK.out])
    go_ret2
    exact ⟨ret_wr HNO.out.2.symm HNO.out.1.symm, Below.refl _ _⟩
end Go.Proofs.YtflanjcfkdjpjaaGreatDoor.Lend


/- Contracts of layer 1 (lend): number, Read, Split, Join. -/
namespace Go.Proofs.YtflanjcfkdjpjaaGreatDoor.Lend
open Go.RowKit Go.Proofs.YtflanjcfkdjpjaaGreatDoor
set_option linter.unusedVariables false

theorem ret_u64 {a b : Int} (h : a = b) : Ending.returned (.int .u64 a) = .returned (.int .u64 b) := by rw [h]
set_option maxHeartbeats 400000 in
theorem number_any (s : ByteArray) (w : World) (hs : s.size ≤ 8) :
    Calls Tryz.prog 139 #[.string s] w fun e w' => e = .returned (.int .u64 (getL s.data.toList : Nat)) ∧ w = w' := by
  go_enter Tryz.func139, Tryz.ntmps139
  go_wp2
  go_loop [3, 7] (fun t i => ∃ k : Nat, k ≤ s.size ∧ i = .int .i64 k ∧ t = .int .u64 (getL (s.data.toList.take k) : Nat)) (fun _ i => s.size - (intOf i).toNat)
  case atStart => exact ⟨0, Nat.zero_le _, rfl, rfl⟩
  case round =>
    obtain ⟨k, hk, rfl, rfl⟩ := hrel
    by_cases hlt : k < s.size
    · have hb := getL_bd (s.data.toList.take k)
      have hl : (s.data.toList.take k).length = k := by rw [List.length_take, bytes_length]; omega
      rw [hl] at hb
      have hst := or_step (getL (s.data.toList.take k)) s[k].toNat k (by omega) hb s[k].toNat_lt
      have hsn := getL_snoc (s.data.toList.take k) s[k]
      rw [hl, ← bytes_take_succ s k hlt] at hsn
      rw [← hsn] at hst
      have HST := Lib.hid hst
      clear hst hsn hl hb
      go_wp2
      go_round
      case rel => exact ⟨k + 1, by omega, by go_num, by rw [HST.out]⟩
      case measure => simp [intOf]; omega
    · have e : s.data.toList.take k = s.data.toList := List.take_of_length_le (by rw [bytes_length]; omega)
      have HE := Lib.hid e
      clear e
      go_wp2
      go_ret
      exact ⟨ret_u64 (by rw [HE.out]), rfl⟩
/-- the text with its length ahead, and what is behind it -/
def splB (l : List UInt8) : Bool := match l with | [] => false | b :: r => decide (b.toNat ≤ r.length)
def splT (l : List UInt8) : List UInt8 := match l with | [] => [] | b :: r => if b.toNat ≤ r.length then r.take b.toNat else []
def splR (l : List UInt8) : List UInt8 := match l with | [] => [] | b :: r => if b.toNat ≤ r.length then r.drop b.toNat else []
theorem spl_no {l : List UInt8} (h : splB l = false) : splT l = [] ∧ splR l = [] := by
  cases l with
  | nil => exact ⟨rfl, rfl⟩
  | cons b r => simp [splB] at h; simp [splT, splR]; omega
theorem ret_spl {a b a' b' : ByteArray} {c d : Bool} (h : a = b) (h1 : a' = b') (h' : c = d) : Ending.returned (.tuple #[.string a, .string a', .bool c]) = .returned (.tuple #[.string b, .string b', .bool d]) := by rw [h, h1, h']
theorem split_any (s : ByteArray) (w : World) (hs : s.size ≤ 1000000) :
    Calls Tryz.prog 149 #[.string s] w fun e w' => e = .returned (.tuple #[.string (strOf (splT s.data.toList)), .string (strOf (splR s.data.toList)), .bool (splB s.data.toList)]) ∧ Below w.heap.size w w' := by
  by_cases h : s.size = 0
  · have hd : s.data.toList = [] := List.eq_nil_of_length_eq_zero (by rw [bytes_length]; exact h)
    have he : s.toList.isEmpty = true := by rw [ByteArray.toList_eq] ; simp [hd]
    have HD := Lib.hid hd
    clear hd
    go_enter Tryz.func149, Tryz.ntmps149
    go_wp2
    go_ret3
    exact ⟨ret_spl (by rw [HD.out]; rfl) (by rw [HD.out]; rfl) (by rw [HD.out]; rfl), Below.refl _ _⟩
  · have he : s.toList.isEmpty = false := by
      rw [ByteArray.toList_eq, List.isEmpty_eq_false_iff]
      intro hd
      exact h (by rw [← bytes_length, hd]; rfl)
    have h0 : 0 < s.size := by omega
    have hb0 : (s[0].toNat : Int) ≤ 255 := by have := s[0].toNat_lt; omega
    have hcons := bytes_cons s h0
    have hlen : (s.data.toList.drop 1).length = s.size - 1 := by simp
    by_cases hle : s[0].toNat ≤ s.size - 1
    · have hsb : splB s.data.toList = true := by rw [hcons]; simp [splB]; omega
      have ht : splT s.data.toList = (s.data.toList.drop 1).take s[0].toNat := by
        rw [hcons]; simp only [splT]; rw [if_pos (by omega)]; rfl
      have hr : splR s.data.toList = (s.data.toList.drop 1).drop s[0].toNat := by
        rw [hcons]; simp only [splR]; rw [if_pos (by omega)]; rfl
      have HSB := Lib.hid hsb
      have HT := Lib.hid ht
      have HR := Lib.hid hr
      clear hcons hlen hsb ht hr
      go_enter Tryz.func149, Tryz.ntmps149
      go_wp2
      go_quiet (fail)
      go_wp2
      go_quiet (fail)
      go_wp2
      go_ret3
      refine ⟨ret_spl ?_ ?_ ?_, below_drewN (below_drewN (Below.refl _ _) _) _⟩
      · rw [HT.out]
        apply strOf_ext
        rw [Lib.extract_data, Lib.extract_to_end]
        simp
      · rw [HR.out]
        apply strOf_ext
        rw [Lib.extract_data, Lib.extract_to_end, List.take_of_length_le (by simp; omega)]
      · rw [HSB.out]
    · have hle' : s.size - 1 < s[0].toNat := by omega
      have hsb : splB s.data.toList = false := by rw [hcons]; simp [splB]; omega
      have hno := spl_no hsb
      have HSB := Lib.hid hsb
      have HN := Lib.hid hno
      clear hcons hlen hsb hno
      go_enter Tryz.func149, Tryz.ntmps149
      go_wp2
      go_quiet (fail)
      go_wp2
      go_ret3
      exact ⟨ret_spl (by rw [HN.out.1]; rfl) (by rw [HN.out.2]; rfl) HSB.out.symm, below_drewN (Below.refl _ _) _⟩

theorem info_u64 : (Tryz.prog.info? 22).map (fun i => (i.zero, i.size, i.bytes)) = some (some (.int .u64 0), 1, 8) := by kernel_rfl
theorem ret_rd {v : Value} {a b : ByteArray} {c d : Bool} (h : a = b) (h' : c = d) : Ending.returned (.tuple #[v, .string a, .bool c]) = .returned (.tuple #[v, .string b, .bool d]) := by rw [h, h']
set_option maxHeartbeats 1000000 in
set_option maxRecDepth 100000 in
theorem read_any (ao : Option Addr) (la ca : Nat) (ws : List Int) (s : ByteArray) (w : World) (hra : Row .i64 w ao la ws) (hla : la ≤ 1000) (hs : s.size ≤ 1000000) :
    Calls Tryz.prog 122 #[.slice ao la ca, .string s] w fun e w' => ∃ bo n cap, e = .returned (.tuple #[.slice bo n cap, .string (strOf (rdS ws s.data.toList)), .bool (rdB ws s.data.toList)]) ∧
      w'.ownsRow w.heap.size 22 1 (.slice bo n cap) n ((rdN ws s.data.toList).map (Value.int .u64)) ∧ Below w.heap.size w w' := by
  obtain ⟨i0, hi, hz0, hz1, hz2⟩ := info_parts info_u64
  have hlen := hra.len_eq
  by_cases hok : okW ws = true
  · have hm := measN_yes hok
    have hbd := sumW_bd ws hok
    rw [hlen] at hbd
    obtain ⟨tot, htot⟩ := Int.eq_ofNat_of_zero_le (show 0 ≤ sumW ws by omega)
    by_cases hle : tot ≤ s.size
    · have hyes := rd_ok (l := s.data.toList) hok (by rw [bytes_length]; omega)
      rw [htot] at hm hbd
      have HY := Lib.hid hyes
      have HLA := Lib.hid hlen
      have HM := Lib.hid hm
      have HOK := Lib.hid hok
      have HT := Lib.hid htot
      clear hyes hlen hm hok htot
      go_enter Tryz.func122, Tryz.ntmps122
      go_wp2_with (first | (go_at_call 105; refine (measure_any _ _ _ ws _ hra (by omega)).mono ?_; rintro e w' ⟨rfl, rfl⟩; rw [HM.out, HOK.out]) | (at_make; refine wpList_make_own _ rfl _ _ 157 rfl w.heap.size 22 i0 (.int .u64 0) 1 Tryz.underlying157 hi hz0 hz1 _ _ _ la rfl rfl rfl ?b1 ?b2 ?b3 ?_))
      case b1 => rw [hz2]; omega
      case b2 => unfold maxLen; omega
      case b3 => omega
      intro w1 hown hgrow
      have hbel : Below w.heap.size w w1 := (Below.refl _ _).grown hgrow (Nat.le_refl _) (fun q hq => by cases hq)
      clear hgrow
      go_wp2
      go_loopw [1, 9, 30] (fun t v i wr => ∃ (k : Nat) (u : ByteArray), k ≤ la ∧ i = .int .i64 k ∧ t = .string u ∧ u.data.toList = s.data.toList.drop (sumW (ws.take k)).toNat ∧ wr.ownsRow w.heap.size 22 1 v k ((rdL (ws.take k) s.data.toList).map (Value.int .u64)) ∧ Below w.heap.size w wr) (fun _ _ i _ => la - (intOf i).toNat)
      case atStart => exact ⟨0, s, Nat.zero_le _, rfl, rfl, rfl, hown, hbel⟩
      case round =>
        obtain ⟨k, u, hk, rfl, rfl, hu, hownr, hbelr⟩ := hrel
        have hsz := hbelr.size
        have HU := Lib.hid hu
        have hul : u.size = s.size - (sumW (ws.take k)).toNat := by rw [← bytes_length, hu, List.length_drop, bytes_length]
        clear hown hbel hu
        by_cases hlt : k < la
        · obtain ⟨b1, o1, rfl, hc1⟩ := (hra.below hbelr (Nat.le_refl _)).at_ (by omega)
          have hc1k := hc1 k hlt
          clear hc1
          obtain ⟨x, hx⟩ : ∃ x, x = ws.getD k 0 := ⟨_, rfl⟩
          rw [← hx] at hc1k
          have hx8 : 1 ≤ x ∧ x ≤ 8 := by
            by_cases hxx : 1 ≤ x ∧ x ≤ 8
            · exact hxx
            · have := okW_getD (ws := ws) (k := k) (by have := HLA.out; omega) (by rw [← hx]; exact hxx)
              rw [HOK.out] at this
              cases this
          obtain ⟨xn, rfl⟩ := Int.eq_ofNat_of_zero_le (show 0 ≤ x by omega)
          have hts := take_snoc' ws k (by have := HLA.out; omega)
          rw [← hx] at hts
          have hsum : sumW (ws.take (k + 1)) = sumW (ws.take k) + xn := by rw [hts, sumW_snoc]
          have hrd : rdL (ws.take (k + 1)) s.data.toList = rdL (ws.take k) s.data.toList ++ [(getL ((s.data.toList.drop (sumW (ws.take k)).toNat).take xn) : Int)] := by
            rw [hts, rdL_snoc _ _ _ (okW_take ws k HOK.out)]; simp
          have ht1 := sumW_take_le ws k HOK.out
          have ht2 := sumW_take_le ws (k + 1) HOK.out
          rw [HT.out] at ht1 ht2
          have hxu : xn ≤ u.size := by omega
          have HX := Lib.hid hx
          have HS := Lib.hid hsum
          have HRD := Lib.hid hrd
          have HUL := Lib.hid hul
          obtain ⟨hx1, hx8⟩ := hx8
          clear hx hts hsum hrd ht1 ht2 hul
          have hnum : getL (u.extract 0 xn).data.toList = getL ((s.data.toList.drop (sumW (ws.take k)).toNat).take xn) := by
            rw [Lib.extract_data, HU.out]; simp
          have HNUM := Lib.hid hnum
          clear hnum
          have hexs : (u.extract 0 xn).size ≤ 8 := by simp; omega
          go_wp2_with (first | (go_at_call 139; refine (number_any _ _ hexs).mono ?_; rintro e w' ⟨rfl, rfl⟩; rw [HNUM.out]) | (at_builtin; refine wpList_append_own _ rfl _ _ 157 rfl w.heap.size 22 i0 (.int .u64 0) 1 8 Tryz.underlying157 hi hz0 hz1 hz2 rfl (by decide) _ _ _ rfl (hownr.alloc _) ⟨wr.heap.size, 0, none⟩ 1 1 [.int .u64 (getL ((s.data.toList.drop (sumW (ws.take k)).toNat).take xn) : Nat)] rfl rfl ?c1 ?c2 ?c3 ?c4 ?c5 ?_))
          case c1 =>
            intro j q hj
            match j, hj with
            | 0, hj => simp at hj; subst hj; simp [Addr.add]
          case c2 => intro q hq; simp at hq; subst hq; rfl
          case c3 => unfold maxLen; omega
          case c4 => omega
          case c5 => simp; omega
          intro v' w2 hown' hgrow _
          have hbel' : Below w.heap.size w w2 := (hbelr.alloc (by omega) _).grown hgrow (by simp; omega) (fun q hq => (hownr.lt q hq).1)
          clear hownr hgrow
          go_wp2
          go_roundw
          case rel =>
            refine ⟨k + 1, _, by omega, by go_num, rfl, ?_, ?_, hbel'⟩
            · rw [Lib.extract_to_end, HU.out, List.drop_drop, HS.out]
              congr 1
              have := sumW_nonneg _ (okW_take ws k HOK.out)
              omega
            · rw [HRD.out, List.map_append]
              exact hown'
          case measure => simp [intOf]; omega
        · have e1 : ws.take k = ws := List.take_of_length_le (by have := HLA.out; omega)
          obtain rfl : k = la := by omega
          rw [e1] at hownr
          have HE := Lib.hid e1
          obtain ⟨bo, cap, rfl, _⟩ := own_shape hownr
          clear e1
          go_wp2
          go_ret3
          exact ⟨bo, k, cap, ret_rd (by rw [HY.out.2.2]; exact strOf_ext (by rw [HU.out, HE.out])) HY.out.1.symm, by rw [HY.out.2.1]; exact hownr, hbelr⟩
    · have hno := rd_no (ws := ws) (l := s.data.toList) (.inr (by rw [bytes_length]; omega))
      rw [htot] at hm hbd
      have HNO := Lib.hid hno
      have HLA := Lib.hid hlen
      have HM := Lib.hid hm
      have HOK := Lib.hid hok
      have HT := Lib.hid htot
      clear hno hlen hm hok htot
      go_enter Tryz.func122, Tryz.ntmps122
      go_wp2_with (go_at_call 105; refine (measure_any _ _ _ ws _ hra (by omega)).mono ?_; rintro e w' ⟨rfl, rfl⟩; rw [HM.out, HOK.out])
      go_ret3
      exact ⟨none, 0, 0, ret_rd (by rw [HNO.out.2.2]; rfl) HNO.out.1.symm, by rw [HNO.out.2.1]; exact World.ownsRow_nil _ _ _ _, Below.refl _ _⟩
  · have hok : okW ws = false := by simpa using hok
    have hno := rd_no (ws := ws) (l := s.data.toList) (.inl hok)
    have HNO := Lib.hid hno
    have HLA := Lib.hid hlen
    have HOK := Lib.hid hok
    clear hno hlen hok
    go_enter Tryz.func122, Tryz.ntmps122
    go_wp2_with (go_at_call 105; refine (measure_any _ _ _ ws _ hra (by omega)).mono ?_; rintro e w' ⟨rfl, rfl⟩; rw [HOK.out])
    go_ret3
    exact ⟨none, 0, 0, ret_rd (by rw [HNO.out.2.2]; rfl) HNO.out.1.symm, by rw [HNO.out.2.1]; exact World.ownsRow_nil _ _ _ _, Below.refl _ _⟩
end Go.Proofs.YtflanjcfkdjpjaaGreatDoor.Lend


/- 'string' of one byte that was just laid. -/
namespace Go.Proofs.YtflanjcfkdjpjaaGreatDoor.Lend
open Go.RowKit Go.Proofs.YtflanjcfkdjpjaaGreatDoor
set_option linter.unusedVariables false

theorem run_string_one (w : World) (c : Int) :
    (convert 44 9 (.slice (some ⟨w.heap.size, 0, none⟩) 1 1)).run Tryz.prog (w.alloc (.cells #[.int .u8 c] 5)) = .ok (.string (strOf [UInt8.ofNat c.toNat])) (w.alloc (.cells #[.int .u8 c] 5)) := by
  rw [run_convert_bytes_string _ _ _ _ _ _ _ Tryz.underlying44 Tryz.underlying5 Tryz.underlying9]
  have hc := run_loadCells_list (P := Tryz.prog) (w := w.alloc (.cells #[.int .u8 c] 5)) ⟨w.heap.size, 0, none⟩ [.int .u8 c] (by
    intro j u hj
    match j, hj with
    | 0, hj => simp at hj; subst hj; simp [Addr.add])
  rw [run_bytesToString _ _ _ _ [c] (by simpa using hc), foldl_push]
  rfl

end Go.Proofs.YtflanjcfkdjpjaaGreatDoor.Lend


/- Contracts of the document's own answers for layer 1: Put, Get, Write, Read. -/
namespace Go.Proofs.YtflanjcfkdjpjaaGreatDoor.Lend
open Go.RowKit Go.Proofs.YtflanjcfkdjpjaaGreatDoor
set_option linter.unusedVariables false

/-- a number's bytes in a width that may be none, and whether it fits -/
def putB (n x : Int) : Bool := decide (1 ≤ x) && (decide (x ≤ 8) && fitsB n x)
def putS (n x : Int) : ByteArray := if 1 ≤ x ∧ x ≤ 8 then strOf (encN n x.toNat) else ⟨#[]⟩
theorem put_ok {n x : Int} (h1 : 1 ≤ x) (h8 : x ≤ 8) : putB n x = fitsB n x ∧ putS n x = strOf (encN n x.toNat) := by
  refine ⟨by simp [putB, h1, h8], by rw [putS, if_pos ⟨h1, h8⟩]⟩
end Go.Proofs.YtflanjcfkdjpjaaGreatDoor.Lend


/- Plain mathematics of layer 2 (sum): registers as numbers, steps, texts as numbers, checks. -/
namespace Go.Proofs.YtflanjcfkdjpjaaGreatDoor.Sum

def pat : Nat := 2197175160
def full : Nat := 4294967295
/-- a register: 32 bits -/
def Reg (r : Nat) : Prop := r < 4294967296
def stp (r : Nat) : Nat := if r % 2 = 1 then (r / 2) ^^^ pat else r / 2
def stps : Nat → Nat → Nat
  | 0, r => r
  | n + 1, r => stp (stps n r)
def num : List UInt8 → Nat
  | [] => 0
  | b :: l => b.toNat + 256 * num l
def rgs (r : Nat) (l : List UInt8) : Nat := l.foldl (fun r b => stps 8 (r ^^^ b.toNat)) r
def chk (c : Nat) (l : List UInt8) : Nat := full - rgs (full - c) l
def tab (b : Nat) : Nat := stps 8 b

theorem xor4 (a b c d : Nat) : (a ^^^ b) ^^^ (c ^^^ d) = (a ^^^ c) ^^^ (b ^^^ d) := by
  apply Nat.eq_of_testBit_eq; intro i; simp only [Nat.testBit_xor]
  cases a.testBit i <;> cases b.testBit i <;> cases c.testBit i <;> cases d.testBit i <;> rfl
theorem xor_mod2 (a b : Nat) : (a ^^^ b) % 2 = (a % 2 + b % 2) % 2 := by
  have h : (a ^^^ b).testBit 0 = (a.testBit 0 ^^ b.testBit 0) := Nat.testBit_xor a b 0
  simp only [Nat.testBit_zero] at h
  rcases Nat.mod_two_eq_zero_or_one a with ha | ha <;> rcases Nat.mod_two_eq_zero_or_one b with hb | hb <;>
    rcases Nat.mod_two_eq_zero_or_one (a ^^^ b) with hc | hc <;> simp [ha, hb, hc] at h ⊢
theorem stp_xor (a b : Nat) : stp (a ^^^ b) = stp a ^^^ stp b := by
  unfold stp
  rw [xor_mod2, Nat.xor_div_two]
  rcases Nat.mod_two_eq_zero_or_one a with ha | ha <;> rcases Nat.mod_two_eq_zero_or_one b with hb | hb <;> simp [ha, hb]
  · rw [Nat.xor_assoc]
  · rw [Nat.xor_assoc, Nat.xor_assoc, Nat.xor_comm pat]
  · rw [xor4, Nat.xor_self, Nat.xor_zero]
theorem stps_xor (n : Nat) (a b : Nat) : stps n (a ^^^ b) = stps n a ^^^ stps n b := by
  induction n with
  | zero => rfl
  | succ n ih => show stp (stps n (a ^^^ b)) = _; rw [ih, stp_xor]; rfl
theorem stps_add (m n r : Nat) : stps (m + n) r = stps m (stps n r) := by
  induction m with
  | zero => rw [Nat.zero_add]; rfl
  | succ m ih => rw [Nat.add_right_comm]; show stp (stps (m + n) r) = stp (stps m (stps n r)); rw [ih]
theorem stp_two (x : Nat) : stp (2 * x) = x := by unfold stp; rw [if_neg (by omega)]; omega
theorem stps_pow (n x : Nat) : stps n (2 ^ n * x) = x := by
  induction n generalizing x with
  | zero => simp [stps]
  | succ n ih =>
    rw [show 2 ^ (n + 1) * x = 2 ^ n * (2 * x) by rw [Nat.pow_succ, Nat.mul_assoc]]
    show stp (stps n _) = _; rw [ih, stp_two]
theorem xor_lt (a b : Nat) (ha : Reg a) (hb : Reg b) : Reg (a ^^^ b) := by
  unfold Reg at *; exact Nat.xor_lt_two_pow (n := 32) ha hb
theorem stp_lt (r : Nat) (h : Reg r) : Reg (stp r) := by
  unfold stp; split
  · exact xor_lt _ _ (by unfold Reg at *; omega) (by unfold Reg pat; decide)
  · unfold Reg at *; omega
theorem stps_lt (n r : Nat) (h : Reg r) : Reg (stps n r) := by
  induction n with
  | zero => exact h
  | succ n ih => exact stp_lt _ ih
theorem xor_ne {a b : Nat} (h : a ^^^ b = 0) : a = b := by
  apply Nat.eq_of_testBit_eq; intro i
  have := congrArg (fun x => Nat.testBit x i) h
  simp only [Nat.testBit_xor, Nat.zero_testBit] at this
  revert this; cases a.testBit i <;> cases b.testBit i <;> simp
theorem stp_ne (r : Nat) (h : Reg r) (h0 : r ≠ 0) : stp r ≠ 0 := by
  unfold stp; unfold Reg at h; split
  · intro h1; have := xor_ne h1; unfold pat at this; omega
  · omega
theorem stps_ne (n r : Nat) (h : Reg r) (h0 : r ≠ 0) : stps n r ≠ 0 := by
  induction n with
  | zero => exact h0
  | succ n ih => exact stp_ne _ (stps_lt _ _ h) ih

theorem add_xor (b y : Nat) (hb : b < 256) : b + 256 * y = b ^^^ (256 * y) := by
  apply Nat.eq_of_testBit_eq; intro i
  rw [Nat.add_comm, Nat.testBit_xor, show 256 = 2 ^ 8 from rfl, Nat.testBit_two_pow_mul_add y (by simpa using hb), Nat.testBit_two_pow_mul]
  by_cases h : i < 8
  · rw [if_pos h, show decide (i ≥ 8) = false by simp; omega]; simp
  · have : b.testBit i = false := Nat.testBit_lt_two_pow (Nat.lt_of_lt_of_le hb (by
      have : 2 ^ 8 ≤ 2 ^ i := Nat.pow_le_pow_right (by omega) (by omega)
      simpa using this))
    rw [if_neg h, this, show decide (i ≥ 8) = true by simp; omega]; simp
theorem u8_lt (b : UInt8) : b.toNat < 256 := UInt8.toNat_lt b
theorem reg_u8 (b : UInt8) : Reg b.toNat := by have := u8_lt b; unfold Reg; omega

theorem rgs_cons (r : Nat) (b : UInt8) (l : List UInt8) : rgs r (b :: l) = rgs (stps 8 (r ^^^ b.toNat)) l := by unfold rgs; rw [List.foldl_cons]
theorem rgs_append (r : Nat) (a b : List UInt8) : rgs r (a ++ b) = rgs (rgs r a) b := by unfold rgs; rw [List.foldl_append]
theorem rgs_snoc (r : Nat) (l : List UInt8) (b : UInt8) : rgs r (l ++ [b]) = stps 8 (rgs r l ^^^ b.toNat) := by rw [rgs_append, rgs_cons]; unfold rgs; rw [List.foldl_nil]
theorem rgs_lt (r : Nat) (l : List UInt8) (h : Reg r) : Reg (rgs r l) := by
  induction l generalizing r with
  | nil => exact h
  | cons b l ih => rw [rgs_cons]; exact ih _ (stps_lt _ _ (xor_lt _ _ h (reg_u8 b)))
theorem rgs_num (r : Nat) (l : List UInt8) : rgs r l = stps (8 * l.length) (r ^^^ num l) := by
  induction l generalizing r with
  | nil => simp [rgs, num, stps]
  | cons b l ih =>
    rw [rgs_cons, ih, List.length_cons, show 8 * (l.length + 1) = 8 * l.length + 8 by omega, stps_add]
    congr 1
    rw [num, add_xor _ _ (u8_lt b), ← Nat.xor_assoc, stps_xor 8 _ (256 * num l), show 256 = 2 ^ 8 from rfl, stps_pow]

theorem full_sub (y : Nat) (h : Reg y) : full - y = full ^^^ y := by
  apply Nat.eq_of_testBit_eq; intro i
  unfold Reg at h
  rw [Nat.testBit_xor, show full - y = 2 ^ 32 - (y + 1) by unfold full; omega, Nat.testBit_two_pow_sub_succ (by simpa using h), show full = 2 ^ 32 - 1 from rfl, Nat.testBit_two_pow_sub_one]
  by_cases hi : i < 32
  · simp [hi]
  · have : y.testBit i = false := Nat.testBit_lt_two_pow (Nat.lt_of_lt_of_le h (by
      have : 2 ^ 32 ≤ 2 ^ i := Nat.pow_le_pow_right (by omega) (by omega)
      simpa using this))
    simp [hi, this]
theorem full_lt (y : Nat) : Reg (full - y) := by unfold Reg full; omega
theorem full_full (y : Nat) (h : Reg y) : full - (full - y) = y := by unfold Reg at h; unfold full; omega
theorem chk_lt (c : Nat) (l : List UInt8) : Reg (chk c l) := full_lt _
theorem chk_append (c : Nat) (a b : List UInt8) : chk (chk c a) b = chk c (a ++ b) := by
  unfold chk; rw [full_full _ (rgs_lt _ _ (full_lt _)), rgs_append]
theorem chk_nil (c : Nat) (h : Reg c) : chk c [] = c := by unfold chk; exact full_full _ h

/-- what two texts of one length, behind any registers, have to do with one another -/
theorem rgs_diff (r r' : Nat) (l l' : List UInt8) (h : l.length = l'.length) : rgs r l ^^^ rgs r' l' = stps (8 * l.length) ((r ^^^ r') ^^^ (num l ^^^ num l')) := by
  rw [rgs_num, rgs_num, ← h, ← stps_xor, xor4]

/-- P2.2: bits that stand together, turned -/
theorem chk_tells (l l' : List UInt8) (bits first : Nat) (hl : l'.length = l.length) (hb : Reg bits) (h0 : bits ≠ 0) (hf : first ≤ 8 * l.length)
    (hn : num l' = num l ^^^ 2 ^ first * bits) : chk 0 l' ≠ chk 0 l := by
  intro h
  have h1 : rgs (full - 0) l' = rgs (full - 0) l := by
    rw [← full_full _ (rgs_lt (full - 0) l' (full_lt _)), ← full_full _ (rgs_lt (full - 0) l (full_lt _))]
    exact congrArg (full - ·) h
  have h2 := rgs_diff (full - 0) (full - 0) l' l hl
  rw [h1, Nat.xor_self, Nat.xor_self, Nat.zero_xor, hn, Nat.xor_comm (num l), Nat.xor_assoc, Nat.xor_self, Nat.xor_zero, hl,
    show 8 * l.length = (8 * l.length - first) + first by omega, stps_add, stps_pow] at h2
  exact stps_ne _ _ hb h0 h2.symm

/-- a table's answer for the lowest byte -/
theorem tab_step (r b : Nat) : (r / 256) ^^^ tab (r % 256 ^^^ b) = stps 8 (r ^^^ b) := by
  have e : r = r % 256 ^^^ (256 * (r / 256)) := by rw [← add_xor _ _ (by omega)]; omega
  conv => rhs; rw [e, Nat.xor_assoc, Nat.xor_comm (256 * _), ← Nat.xor_assoc, stps_xor, show 256 * (r / 256) = 2 ^ 8 * (r / 256) from rfl, stps_pow, Nat.xor_comm]
  rfl
end Go.Proofs.YtflanjcfkdjpjaaGreatDoor.Sum


/- Contracts of layer 2 (sum): step, stepped, Make. -/
namespace Go.Proofs.YtflanjcfkdjpjaaGreatDoor.Sum
open Go.RowKit Go.Proofs.YtflanjcfkdjpjaaGreatDoor
set_option linter.unusedVariables false

theorem ret_k {k : IntKind} {a b : Int} (h : a = b) : Ending.returned (.int k a) = .returned (.int k b) := by rw [h]

theorem and_one (r : Nat) (h : Reg r) : bits .and .u32 (r : Int) 1 = ((r % 2 : Nat) : Int) := by
  have := u32_and_nat r 1 h (by decide)
  rw [Nat.and_one_is_mod] at this; exact this
theorem xor_pat (r : Nat) (h : Reg r) : bits .xor .u32 ((r : Int) / 2) 2197175160 = ((r / 2 ^^^ pat : Nat) : Int) := by
  have := u32_xor_nat (r / 2) pat (by unfold Reg at h; omega) (by unfold pat; decide)
  rw [← this]; rfl

theorem step_any (r : Nat) (w : World) (h : Reg r) :
    Calls Tryz.prog 62 #[.int .u32 r] w fun e w' => e = .returned (.int .u32 (stp r)) ∧ w = w' := by
  have HA := Lib.hid (and_one r h)
  have HX := Lib.hid (xor_pat r h)
  by_cases h1 : r % 2 = 1
  · have ht : (bits .and .u32 (r : Int) 1 == 1) = true := by rw [HA.out, h1]; rfl
    have HS := Lib.hid (show stp r = r / 2 ^^^ pat by unfold stp; rw [if_pos h1])
    clear h h1
    go_enter Tryz.func62, Tryz.ntmps62
    go_wp2
    go_ret
    exact ⟨ret_k (by rw [HS.out]; exact HX.out), rfl⟩
  · have ht : (bits .and .u32 (r : Int) 1 == 1) = false := by rw [HA.out, show r % 2 = 0 by omega]; rfl
    have HS := Lib.hid (show stp r = r / 2 by unfold stp; rw [if_neg h1])
    clear h h1
    go_enter Tryz.func62, Tryz.ntmps62
    go_wp2
    go_ret
    exact ⟨ret_k (by rw [HS.out]; simp), rfl⟩

theorem stepped_any (r : Nat) (w : World) (h : Reg r) :
    Calls Tryz.prog 34 #[.int .u32 r] w fun e w' => e = .returned (.int .u32 (stps 8 r)) ∧ w = w' := by
  have HR := Lib.hid h
  clear h
  go_enter Tryz.func34, Tryz.ntmps34
  go_wp2
  go_loop [0, 3] (fun a i => ∃ k : Nat, k ≤ 8 ∧ i = .int .i64 k ∧ a = .int .u32 (stps k r)) (fun _ i => 8 - (intOf i).toNat)
  case atStart => exact ⟨0, by omega, rfl, rfl⟩
  case round =>
    obtain ⟨k, hk, rfl, rfl⟩ := hrel
    have HK := Lib.hid (stps_lt k r HR.out)
    obtain ⟨x, hx⟩ : ∃ x, x = stps k r := ⟨_, rfl⟩
    rw [← hx] at HK ⊢
    have HX := Lib.hid hx
    clear hx
    by_cases hlt : k < 8
    · go_wp2_with (go_at_call 62; refine (step_any x _ HK.out).mono ?_; rintro e w' ⟨rfl, rfl⟩)
      go_round
      case rel => exact ⟨k + 1, by omega, by go_num, by rw [HX.out]; rfl⟩
      case measure => simp [intOf]; omega
    · obtain rfl : k = 8 := by omega
      go_wp2
      go_ret
      exact ⟨ret_k (by rw [HX.out]), rfl⟩
/-- the table as it is being filled -/
def tabA (k : Nat) : Array Value := Array.ofFn (n := 256) fun j => .int .u32 (if j.val < k then tab j.val else 0)
theorem tabA_set (k : Nat) (v : Value) (hv : v = .int .u32 (tab k)) : (tabA k).setIfInBounds k v = tabA (k + 1) := by
  subst hv
  apply Array.ext
  · simp [tabA]
  · intro i h1 h2
    simp only [tabA, Array.size_setIfInBounds, Array.size_ofFn] at h1 h2
    rw [Array.getElem_setIfInBounds (by simpa [tabA] using h1)]
    simp only [tabA, Array.getElem_ofFn]
    by_cases e : k = i
    · subst e; simp
    · rw [if_neg e]
      by_cases h3 : i < k
      · simp [h3, show i < k + 1 by omega]
      · simp [h3, show ¬ i < k + 1 by omega]
theorem zero_tab (w : World) : (zeroValue 96).run Tryz.prog w = .ok (.agg (tabA 0)) w := by
  have h : (zeroValue 96).run Tryz.prog w = .ok (.agg (Array.replicate 256 (.int .u32 0))) w := by kernel_rfl
  rw [h]
  have : Array.replicate 256 (.int .u32 0) = tabA 0 := by
    apply Array.ext
    · simp [tabA]
    · intro i h1 h2; simp [tabA]
  rw [this]
theorem tabA_size (k : Nat) : (tabA k).size = 256 := by simp [tabA]
theorem tabA_get (k j : Nat) (h : j < 256) : (tabA k)[j]? = some (.int .u32 (if j < k then tab j else 0)) := by
  simp [tabA, h]
/-- the table stands at a -/
def IsTab (w : World) (b : Nat) : Prop := ∀ j, j < 256 → w.cell? ⟨b, j, none⟩ = some (.int .u32 (tab j))
theorem IsTab.below {w w' : World} {b B : Nat} (h : IsTab w b) (hb : Below B w w') (hB : w.heap.size ≤ B) : IsTab w' b := by
  intro j hj
  have := h j hj
  have hlt := World.block_lt_of_cell? w _ this
  rw [hb.cell (by simp at hlt ⊢; omega)]
  exact this
theorem isTab_alloc (w : World) (t : TypeId) : IsTab (w.alloc (.cells (tabA 256) t)) w.heap.size := by
  intro j hj
  have := tabA_get 256 j hj
  rw [if_pos hj] at this
  simpa using this

set_option maxRecDepth 100000 in
theorem make_any (w : World) :
    Calls Tryz.prog 11 #[] w fun e w' => ∃ b, e = .returned (.pointer (some ⟨b, 0, none⟩)) ∧ w.heap.size ≤ b ∧ IsTab w' b ∧ Below w.heap.size w w' := by
  have hz := zero_tab
  go_enter Tryz.func11, Tryz.ntmps11
  go_wp2
  clear hz
  go_loopw [3] (fun i wr => ∃ k : Nat, k ≤ 256 ∧ i = .int .i64 k ∧ wr = w.alloc (.cells (tabA k) 96)) (fun i _ => 256 - (intOf i).toNat)
  case atStart => exact ⟨0, by omega, rfl, rfl⟩
  case round =>
    obtain ⟨k, hk, rfl, rfl⟩ := hrel
    by_cases hlt : k < 256
    · have HK := Lib.hid (show Reg k by unfold Reg; omega)
      go_wp2_with fail
      refine (stepped_any k _ HK.out).mono ?_
      rintro e w' ⟨rfl, rfl⟩
      have hsz := tabA_size k
      have h3 : (tabA k)[k]? = some (.int .u32 0) := by rw [tabA_get k k hlt, if_neg (by omega)]
      go_wp2_with fail
      go_roundw
      case rel => exact ⟨k + 1, by omega, by go_num, by rw [← tabA_set k (.int .u32 (stps 8 k)) rfl]⟩
      case measure => simp [intOf]; omega
    · obtain rfl : k = 256 := by omega
      go_wp2
      go_ret
      exact ⟨_, rfl, Nat.le_refl _, isTab_alloc _ _, (Below.refl _ _).alloc (Nat.le_refl _) _⟩
end Go.Proofs.YtflanjcfkdjpjaaGreatDoor.Sum


/- Contracts of layer 2 (sum): On. -/
namespace Go.Proofs.YtflanjcfkdjpjaaGreatDoor.Sum
open Go.RowKit Go.Proofs.YtflanjcfkdjpjaaGreatDoor
set_option linter.unusedVariables false

theorem not_reg (c : Nat) (h : Reg c) : bits .xor .u32 IntKind.u32.max (c : Int) = ((full - c : Nat) : Int) := by
  rw [full_sub c h, ← u32_xor_nat full c (by unfold full; decide) h]; rfl

theorem on_index (r : Nat) (b : UInt8) : bits .xor .u8 ((r : Int) % 256) (b.toNat : Int) = ((r % 256 ^^^ b.toNat : Nat) : Int) := by
  rw [← u8_xor_nat (r % 256) b.toNat (by omega) (u8_lt b)]; rfl
theorem index_lt (r : Nat) (b : UInt8) : r % 256 ^^^ b.toNat < 256 := Nat.xor_lt_two_pow (n := 8) (by omega) (u8_lt b)
theorem on_step (r : Nat) (b : UInt8) (h : Reg r) : bits .xor .u32 ((r : Int) / 256) ((tab (r % 256 ^^^ b.toNat) : Nat) : Int) = ((stps 8 (r ^^^ b.toNat) : Nat) : Int) := by
  have ht : Reg (tab (r % 256 ^^^ b.toNat)) := stps_lt 8 _ (by have := index_lt r b; unfold Reg; omega)
  rw [← tab_step, ← u32_xor_nat (r / 256) _ (by unfold Reg at h; omega) ht]; rfl
theorem take_snoc (s : ByteArray) (k : Nat) (h : k < s.size) : s.data.toList.take (k + 1) = s.data.toList.take k ++ [s[k]] := by
  rw [List.take_succ_eq_append_getElem (by simpa using h)]; rfl

theorem on_any (b c : Nat) (s : ByteArray) (w : World) (ht : IsTab w b) (hc : Reg c) (hs : s.size ≤ 1000000) :
    Calls Tryz.prog 81 #[.pointer (some ⟨b, 0, none⟩), .int .u32 c, .string s] w fun e w' => e = .returned (.int .u32 (chk c s.data.toList)) ∧ ∃ n, w' = w.drewN n := by
  have HT := Lib.hid ht
  have HC := Lib.hid hc
  clear ht hc
  go_enter Tryz.func81, Tryz.ntmps81
  go_wp2
  go_loopw [7, 15] (fun a i wr => ∃ k n : Nat, k ≤ s.size ∧ i = .int .i64 k ∧ a = .int .u32 (rgs (full - c) (s.data.toList.take k)) ∧ wr = w.drewN n) (fun _ i _ => s.size - (intOf i).toNat)
  case atStart => exact ⟨0, 0, by omega, rfl, by rw [not_reg c HC.out]; rfl, rfl⟩
  case round =>
    obtain ⟨k, n, hk, rfl, rfl, rfl⟩ := hrel
    have HK := Lib.hid (rgs_lt (full - c) (s.data.toList.take k) (full_lt _))
    obtain ⟨x, hx⟩ : ∃ x, x = rgs (full - c) (s.data.toList.take k) := ⟨_, rfl⟩
    rw [← hx] at HK ⊢
    have HX := Lib.hid hx
    clear hx
    by_cases hlt : k < s.size
    · have HS := Lib.hid (on_step x s[k] HK.out)
      have HTS := Lib.hid (take_snoc s k hlt)
      have hidx := on_index x s[k]
      obtain ⟨j, hj⟩ : ∃ j, j = x % 256 ^^^ s[k].toNat := ⟨_, rfl⟩
      have hj1 : j < 256 := by rw [hj]; exact index_lt _ _
      rw [← hj] at hidx
      have HJ := Lib.hid hj
      clear hj
      have hcell := HT.out j hj1
      go_wp2
      go_quiet (fail)
      go_wp2
      go_roundw
      case rel =>
        refine ⟨k + 1, n + nq, by omega, by go_num, ?_, rfl⟩
        rw [HTS.out, rgs_snoc, ← HX.out, ← HS.out, ← HJ.out]
      case measure => simp [intOf]; omega
    · obtain rfl : k = s.size := by omega
      go_wp2
      go_ret
      refine ⟨ret_k ?_, n, rfl⟩
      rw [not_reg x HK.out, HX.out, List.take_of_length_le (by simp)]; rfl

theorem IsTab.drewN {w : World} {b : Nat} (h : IsTab w b) (n : Nat) : IsTab (w.drewN n) b := fun j hj => h j hj

/-- A slice value of 'len' elements at 'ao' reads as the texts ss. -/
structure StrRow (w : World) (ao : Option Addr) (len : Nat) (ss : List ByteArray) : Prop where
  len_eq : ss.length = len
  at_ : 0 < len → ∃ b off, ao = some ⟨b, off, none⟩ ∧ ∀ i, i < len → w.cell? ⟨b, off + i, none⟩ = some (.string (ss.getD i ByteArray.empty))
theorem StrRow.below {w w' : World} {ao : Option Addr} {len : Nat} {ss : List ByteArray} (h : StrRow w ao len ss) {B : Nat} (hb : Below B w w') (hB : w.heap.size ≤ B) : StrRow w' ao len ss := by
  refine ⟨h.len_eq, fun hl => ?_⟩
  obtain ⟨b, off, rfl, hc⟩ := h.at_ hl
  refine ⟨b, off, rfl, fun i hi => ?_⟩
  have := hc i hi
  have hlt := World.block_lt_of_cell? w _ this
  rw [hb.cell (by simp at hlt ⊢; omega)]
  exact this
theorem StrRow.none (w : World) (ao : Option Addr) : StrRow w ao 0 [] := ⟨rfl, fun h => absurd h (by decide)⟩
theorem StrRow.one (w : World) (s : ByteArray) (e : TypeId) : StrRow (w.alloc (.cells #[.string s] e)) (some ⟨w.heap.size, 0, Option.none⟩) 1 [s] := by
  refine ⟨rfl, fun _ => ⟨w.heap.size, 0, rfl, fun i hi => ?_⟩⟩
  match i, hi with
  | 0, _ => simp
theorem StrRow.two (w : World) (s t : ByteArray) (e : TypeId) : StrRow (w.alloc (.cells #[.string s, .string t] e)) (some ⟨w.heap.size, 0, Option.none⟩) 2 [s, t] := by
  refine ⟨rfl, fun _ => ⟨w.heap.size, 0, rfl, fun i hi => ?_⟩⟩
  match i, hi with
  | 0, _ => simp
  | 1, _ => simp
def cat (ss : List ByteArray) : List UInt8 := ss.flatMap fun s => s.data.toList
theorem cat_take (ss : List ByteArray) (k : Nat) (h : k < ss.length) : cat (ss.take (k + 1)) = cat (ss.take k) ++ (ss.getD k ByteArray.empty).data.toList := by
  rw [List.take_succ_eq_append_getElem h, List.getD_eq_getElem?_getD, List.getElem?_eq_getElem h]
  unfold cat
  rw [List.flatMap_append, List.flatMap_cons, List.flatMap_nil, List.append_nil]; rfl
theorem chk_start : chk 0 (cat []) = 0 := chk_nil 0 (by unfold Reg; decide)
theorem getD_mem (ss : List ByteArray) (k : Nat) (h : k < ss.length) : ss.getD k ByteArray.empty ∈ ss := by
  rw [List.getD_eq_getElem?_getD, List.getElem?_eq_getElem h]; exact List.getElem_mem h

theorem of_any (b : Nat) (ao : Option Addr) (len cap : Nat) (ss : List ByteArray) (w : World) (ht : IsTab w b) (hr : StrRow w ao len ss) (hl : len ≤ 1000) (hs : ∀ s ∈ ss, s.size ≤ 1000000) :
    Calls Tryz.prog 46 #[.pointer (some ⟨b, 0, none⟩), .slice ao len cap] w fun e w' => e = .returned (.int .u32 (chk 0 (cat ss))) ∧ ∃ n, w' = w.drewN n := by
  have HT := Lib.hid ht
  have HR := Lib.hid hr
  have HS := Lib.hid hs
  have HL := Lib.hid hr.len_eq
  clear hr ht hs
  go_enter Tryz.func46, Tryz.ntmps46
  go_wp2
  go_loopw [5, 10] (fun a i wr => ∃ k n : Nat, k ≤ len ∧ i = .int .i64 k ∧ a = .int .u32 (chk 0 (cat (ss.take k))) ∧ wr = w.drewN n) (fun _ i _ => len - (intOf i).toNat)
  case atStart => exact ⟨0, 0, by omega, rfl, by rw [List.take_zero, chk_start]; rfl, rfl⟩
  case round =>
    obtain ⟨k, n, hk, rfl, rfl, rfl⟩ := hrel
    have HK := Lib.hid (chk_lt 0 (cat (ss.take k)))
    have HT2 : Hid (IsTab (w.drewN n) b) := Lib.hid (show IsTab (w.drewN n) b from fun j hj => HT.out j hj)
    obtain ⟨x, hx⟩ : ∃ x, x = chk 0 (cat (ss.take k)) := ⟨_, rfl⟩
    rw [← hx] at HK ⊢
    have HX := Lib.hid hx
    clear hx
    by_cases hlt : k < len
    · obtain ⟨b', off, rfl, hc⟩ := HR.out.at_ (by omega)
      have hck := hc k hlt
      obtain ⟨s, hs⟩ : ∃ s, s = ss.getD k ByteArray.empty := ⟨_, rfl⟩
      rw [← hs] at hck
      have hsb : s.size ≤ 1000000 := HS.out _ (by rw [hs]; exact getD_mem _ _ (by have := HL.out; omega))
      have HSD := Lib.hid hs
      clear hc hs
      go_wp2_with (go_at_call 81; refine (on_any b x s _ HT2.out HK.out hsb).mono ?_; rintro e w' ⟨rfl, nq, rfl⟩)
      go_roundw
      case rel =>
        refine ⟨k + 1, n + nq, by omega, by go_num, ?_, by simp⟩
        rw [cat_take _ _ (by have := HL.out; omega), ← chk_append, ← HX.out, ← HSD.out]
      case measure => simp [intOf]; omega
    · obtain rfl : k = len := by omega
      go_wp2
      go_ret
      exact ⟨ret_k (by rw [HX.out, List.take_of_length_le (by have := HL.out; omega)]), n, rfl⟩
end Go.Proofs.YtflanjcfkdjpjaaGreatDoor.Sum


/- The reference's xor, Take, Of; Of and On told so that calls follow one another. -/
namespace Go.Proofs.YtflanjcfkdjpjaaGreatDoor.Sum
open Go.RowKit Go.Proofs.YtflanjcfkdjpjaaGreatDoor
set_option linter.unusedVariables false

theorem cat_one (u : ByteArray) : cat [u] = u.data.toList := by simp [cat]
/-- Of one text, and of two, whose list was just made -/
theorem of1_any (b : Nat) (u : ByteArray) (w : World) (ht : IsTab w b) (hu : u.size ≤ 1000000) :
    Calls Tryz.prog 46 #[.pointer (some ⟨b, 0, none⟩), .slice (some ⟨w.heap.size, 0, none⟩) 1 1] (w.alloc (.cells #[.string u] 9)) fun e w' => e = .returned (.int .u32 (chk 0 u.data.toList)) ∧ IsTab w' b ∧ Below w.heap.size w w' := by
  have hb : Below w.heap.size w (w.alloc (.cells #[.string u] 9)) := (Below.refl w.heap.size w).alloc (Nat.le_refl _) _
  have ht1 := ht.below hb (Nat.le_refl _)
  refine (of_any b _ 1 1 [u] _ ht1 (StrRow.one w u _) (by decide) (by simpa using hu)).mono ?_
  rintro e w' ⟨rfl, n, rfl⟩
  exact ⟨by rw [cat_one], ht1.drewN n, below_drewN hb n⟩
theorem IsTab.later {w w' : World} {b : Nat} (h : IsTab w b) (hb : Below w.heap.size w w') : IsTab w' b := h.below hb (Nat.le_refl _)
theorem IsTab.new {w : World} {b : Nat} (h : IsTab w b) (o : Obj) : IsTab (w.alloc o) b := h.later ((Below.refl _ _).alloc (Nat.le_refl _) _)
theorem StrRow.later {w w' : World} {ao : Option Addr} {len : Nat} {ss : List ByteArray} (h : StrRow w ao len ss) (hb : Below w.heap.size w w') : StrRow w' ao len ss := h.below hb (Nat.le_refl _)
theorem StrRow.new {w : World} {ao : Option Addr} {len : Nat} {ss : List ByteArray} (h : StrRow w ao len ss) (o : Obj) : StrRow (w.alloc o) ao len ss := h.later ((Below.refl _ _).alloc (Nat.le_refl _) _)
end Go.Proofs.YtflanjcfkdjpjaaGreatDoor.Sum


/- Plain mathematics of layer 4 (env): heads, images, what is read of bytes. -/
namespace Go.Proofs.YtflanjcfkdjpjaaGreatDoor.Env
open Go.Proofs.YtflanjcfkdjpjaaGreatDoor Go.Proofs.YtflanjcfkdjpjaaGreatDoor.Lend

def markL : List UInt8 := [84, 82, 78, 76]
def envW : List Int := [1, 1, 2, 4, 8, 4]
/-- what stands ahead of a payload -/
def hdr (k n a g c : Int) : List UInt8 := markL ++ encL envW [k, 0, n, a, g, c]
def adB (a : Int) : Bool := decide (0 ≤ a) && decide (a ≤ 2147483647)
def hdB (k a : Int) : Bool := decide (1 ≤ k) && (decide (k ≤ 5) && adB a)
def szB (n : Int) : Bool := decide (128 ≤ n) && decide (n ≤ 1024)
def roomN (n : Int) : Int := if szB n = true then n - 24 else 0
def zeros (m : Nat) : List UInt8 := List.replicate m 0
/-- the check of an image with noughts where the check stands -/
def ckL (k n a g : Int) (body : List UInt8) : Nat := Sum.chk 0 (hdr k n a g 0 ++ body)
/-- a payload, and noughts -/
def bodyL (m : Nat) (pl : List UInt8) : List UInt8 := pl ++ zeros (m - pl.length)
def imgL (k a g : Int) (m : Nat) (pl : List UInt8) : List UInt8 := hdr k pl.length a g (ckL k pl.length a g (bodyL m pl)) ++ bodyL m pl

/-- numbers that fit -/
structure Fit (k n a g c : Int) : Prop where
  k0 : 0 ≤ k
  k1 : k < 256
  n0 : 0 ≤ n
  n1 : n < 65536
  a0 : 0 ≤ a
  a1 : a < 4294967296
  g0 : 0 ≤ g
  g1 : g < 18446744073709551616
  c0 : 0 ≤ c
  c1 : c < 4294967296
theorem fitsB_of {n x : Int} (h : n < 2 ^ (8 * x).toNat) : fitsB n x = true := by unfold fitsB; simpa using h
theorem Fit.fits {k n a g c : Int} (h : Fit k n a g c) : fitsL envW [k, 0, n, a, g, c] = true := by
  have h1 := fitsB_of (n := k) (x := 1) (by have := h.k1; simpa using this)
  have h2 := fitsB_of (n := 0) (x := 1) (by decide)
  have h3 := fitsB_of (n := n) (x := 2) (by have := h.n1; simpa using this)
  have h4 := fitsB_of (n := a) (x := 4) (by have := h.a1; simpa using this)
  have h5 := fitsB_of (n := g) (x := 8) (by have := h.g1; simpa using this)
  have h6 := fitsB_of (n := c) (x := 4) (by have := h.c1; simpa using this)
  simp only [envW, fitsL, h1, h2, h3, h4, h5, h6]; rfl
theorem envW_ok : okW envW = true := rfl
theorem Fit.wr {k n a g c : Int} (h : Fit k n a g c) : wrB envW [k, 0, n, a, g, c] = true ∧ wrS envW [k, 0, n, a, g, c] = strOf (encL envW [k, 0, n, a, g, c]) := wr_ok envW_ok rfl h.fits
theorem encL_env (k n a g c : Int) : encL envW [k, 0, n, a, g, c] = encN k 1 ++ (encN 0 1 ++ (encN n 2 ++ (encN a 4 ++ (encN g 8 ++ encN c 4)))) := by
  simp [envW, encL]
theorem hdr_eq (k n a g c : Int) : hdr k n a g c = markL ++ (encN k 1 ++ (encN 0 1 ++ (encN n 2 ++ (encN a 4 ++ (encN g 8 ++ encN c 4))))) := by rw [hdr, encL_env]
theorem hdr_length (k n a g c : Int) : (hdr k n a g c).length = 24 := by rw [hdr_eq]; simp [encN_length, markL]
theorem bodyL_length (m : Nat) (pl : List UInt8) (h : pl.length ≤ m) : (bodyL m pl).length = m := by simp [bodyL, zeros]; omega
theorem imgL_length (k a g : Int) (m : Nat) (pl : List UInt8) (h : pl.length ≤ m) : (imgL k a g m pl).length = 24 + m := by
  rw [imgL, List.length_append, hdr_length, bodyL_length m pl h]
theorem ckL_lt (k n a g : Int) (body : List UInt8) : ckL k n a g body < 4294967296 := Sum.chk_lt _ _

/-- the numbers that stand in an image's beginning -/
def nums (l : List UInt8) : List Int := rdL envW (l.drop 4)
def F (l : List UInt8) (i : Nat) : Int := (nums l).getD i 0
theorem nums_eq (l : List UInt8) : nums l = [F l 0, F l 1, F l 2, F l 3, F l 4, F l 5] := by
  simp [nums, F, envW, rdL]
theorem nums_list (l : List UInt8) : nums l = [(getL ((l.drop 4).take 1) : Int), (getL ((l.drop 5).take 1) : Int), (getL ((l.drop 6).take 2) : Int), (getL ((l.drop 8).take 4) : Int), (getL ((l.drop 12).take 8) : Int), (getL ((l.drop 20).take 4) : Int)] := by
  simp [nums, envW, rdL, List.drop_drop]
theorem getL_lt (l : List UInt8) (n k : Nat) (h : l.length ≤ n) (hk : 2 ^ (8 * n) = k) : getL l < k :=
  Nat.lt_of_lt_of_le (getL_bd l) (by rw [← hk]; exact Nat.pow_le_pow_right (by decide) (by omega))
theorem F_bd (l : List UInt8) : Fit (F l 0) (F l 2) (F l 3) (F l 4) (F l 5) ∧ 0 ≤ F l 1 := by
  have h0 := getL_lt ((l.drop 4).take 1) 1 256 (by simp; omega) rfl
  have h2 := getL_lt ((l.drop 6).take 2) 2 65536 (by simp; omega) rfl
  have h3 := getL_lt ((l.drop 8).take 4) 4 4294967296 (by simp; omega) rfl
  have h4 := getL_lt ((l.drop 12).take 8) 8 18446744073709551616 (by simp; omega) rfl
  have h5 := getL_lt ((l.drop 20).take 4) 4 4294967296 (by simp; omega) rfl
  simp only [F, nums_list]
  simp only [List.getD_cons_zero, List.getD_cons_succ]
  refine ⟨⟨?_, ?_, ?_, ?_, ?_, ?_, ?_, ?_, ?_, ?_⟩, ?_⟩
  all_goals omega

theorem encN_front (n : Int) (k : Nat) : encN n (k + 1) = UInt8.ofNat (n % 256).toNat :: encN (n / 256) k := by
  simp only [encN, List.range_succ_eq_map, List.map_cons, List.map_map]
  congr 1
  · simp [byteAt]
  · apply List.map_congr_left
    intro i _
    simp only [Function.comp, byteAt]
    rw [Int.ediv_ediv_of_nonneg (by decide), show (256 : Int) = 2 ^ 8 from rfl, ← Int.pow_add, show 8 * Nat.succ i = 8 + 8 * i by omega]
theorem encN_getL : ∀ l : List UInt8, encN (getL l : Nat) l.length = l
  | [] => rfl
  | b :: l => by
    have ih := encN_getL l
    have hb := b.toNat_lt
    rw [List.length_cons, encN_front]
    have h1 : (((getL (b :: l) : Nat) : Int) % 256).toNat = b.toNat := by simp only [getL]; omega
    have h2 : ((getL (b :: l) : Nat) : Int) / 256 = (getL l : Nat) := by simp only [getL]; omega
    rw [h1, h2, ih]; simp
theorem encL_rdL : ∀ (ws : List Int) (l : List UInt8), okW ws = true → sumW ws ≤ l.length → encL ws (rdL ws l) = l.take (sumW ws).toNat
  | [], l, _, _ => by simp [encL, sumW]
  | x :: ws, l, h, hs => by
    have h' : okW ws = true := by simp [okW] at h ⊢; exact h.2
    have hx : 1 ≤ x := by simp [okW] at h; exact h.1.1
    have h0 := sumW_nonneg ws h'
    have hsum : sumW (x :: ws) = x + sumW ws := by simp [sumW]
    rw [hsum] at hs ⊢
    simp only [rdL, encL]
    have hl : (l.take x.toNat).length = x.toNat := by rw [List.length_take]; omega
    have e := encN_getL (l.take x.toNat)
    rw [hl] at e
    rw [e, encL_rdL ws (l.drop x.toNat) h' (by rw [List.length_drop]; omega), show (x + sumW ws).toNat = x.toNat + (sumW ws).toNat by omega, List.take_add]
/-- an image's beginning, put together again -/
theorem hdr_again (l : List UInt8) (hm : l.take 4 = markL) (hz : F l 1 = 0) (hl : 24 ≤ l.length) : hdr (F l 0) (F l 2) (F l 3) (F l 4) (F l 5) = l.take 24 := by
  have h := encL_rdL envW (l.drop 4) envW_ok (by rw [List.length_drop]; show (20 : Int) ≤ _; omega)
  have e := nums_eq l
  rw [hz] at e
  rw [show rdL envW (l.drop 4) = nums l from rfl, e, show (sumW envW).toNat = 20 from rfl] at h
  rw [hdr, h, ← hm, ← List.take_add]
theorem F_hdr {k n a g c : Int} (h : Fit k n a g c) (body : List UInt8) : nums (hdr k n a g c ++ body) = [k, 0, n, a, g, c] := by
  have e : (hdr k n a g c ++ body).drop 4 = encL envW [k, 0, n, a, g, c] ++ body := by simp [hdr, markL]
  rw [nums, e]
  refine rd_enc body envW [k, 0, n, a, g, c] rfl envW_ok h.fits ?_
  have := h.k0; have := h.n0; have := h.a0; have := h.g0; have := h.c0
  intro x hx
  simp only [List.mem_cons, List.mem_nil_iff, or_false] at hx
  omega
end Go.Proofs.YtflanjcfkdjpjaaGreatDoor.Env


/- Plain mathematics of layer 4 (env): what is read of an image; images with one byte another one. -/
namespace Go.Proofs.YtflanjcfkdjpjaaGreatDoor.Env
open Go.Proofs.YtflanjcfkdjpjaaGreatDoor Go.Proofs.YtflanjcfkdjpjaaGreatDoor.Lend

def mkB (l : List UInt8) : Bool := l.take 4 == markL
def zrB (l : List UInt8) : Bool := l.all (· == 0)
/-- is it an image, but for its check? -/
def opB (l : List UInt8) : Bool := szB l.length && (mkB l && (decide (F l 1 = 0) && (hdB (F l 0) (F l 3) && (decide (F l 2 ≤ (l.length : Int) - 24) && zrB (l.drop (24 + (F l 2).toNat))))))
def opC (l : List UInt8) : Nat := ckL (F l 0) (F l 2) (F l 3) (F l 4) (l.drop 24)
def opE (l : List UInt8) : Int := if opB l = true then (if F l 5 = opC l then 0 else 5) else 4
def opP (l : List UInt8) : List UInt8 := (l.drop 24).take (F l 2).toNat
theorem opB_parts {l : List UInt8} (h : opB l = true) : 128 ≤ l.length ∧ l.length ≤ 1024 ∧ l.take 4 = markL ∧ F l 1 = 0 ∧ hdB (F l 0) (F l 3) = true ∧ F l 2 ≤ (l.length : Int) - 24 ∧ zrB (l.drop (24 + (F l 2).toNat)) = true := by
  simp only [opB, szB, mkB, Bool.and_eq_true, decide_eq_true_eq, beq_iff_eq] at h
  obtain ⟨⟨h1, h2⟩, h3, h4, h5, h6, h7⟩ := h
  exact ⟨by omega, by omega, h3, h4, h5, h6, h7⟩

theorem zrB_zeros (n : Nat) : zrB (zeros n) = true := by simp [zrB, zeros]
theorem img_nums {k a g : Int} {m : Nat} {pl : List UInt8} (hf : Fit k pl.length a g 0) : nums (imgL k a g m pl) = [k, 0, (pl.length : Int), a, g, (ckL k pl.length a g (bodyL m pl) : Int)] := by
  have hc := ckL_lt k pl.length a g (bodyL m pl)
  exact F_hdr (c := (ckL k pl.length a g (bodyL m pl) : Int)) ⟨hf.k0, hf.k1, hf.n0, hf.n1, hf.a0, hf.a1, hf.g0, hf.g1, by omega, by omega⟩ _
theorem img_F {k a g : Int} {m : Nat} {pl : List UInt8} (hf : Fit k pl.length a g 0) :
    F (imgL k a g m pl) 0 = k ∧ F (imgL k a g m pl) 1 = 0 ∧ F (imgL k a g m pl) 2 = pl.length ∧ F (imgL k a g m pl) 3 = a ∧ F (imgL k a g m pl) 4 = g ∧ F (imgL k a g m pl) 5 = ckL k pl.length a g (bodyL m pl) := by
  simp only [F, img_nums hf]
  simp
theorem img_drop (k a g : Int) (m : Nat) (pl : List UInt8) : (imgL k a g m pl).drop 24 = bodyL m pl := by
  rw [imgL, List.drop_left' (hdr_length _ _ _ _ _)]
theorem img_open {k a g : Int} {m : Nat} {pl : List UInt8} (hf : Fit k pl.length a g 0) (hh : hdB k a = true) (hp : pl.length ≤ m) (hm : 104 ≤ m) (hm' : m ≤ 1000) :
    opB (imgL k a g m pl) = true ∧ opE (imgL k a g m pl) = 0 ∧ opP (imgL k a g m pl) = pl := by
  obtain ⟨f0, f1, f2, f3, f4, f5⟩ := img_F (m := m) hf
  have hl := imgL_length k a g m pl hp
  have hd := img_drop k a g m pl
  have hb : opB (imgL k a g m pl) = true := by
    have h1 : szB ((24 + m : Nat) : Int) = true := by simp [szB]; omega
    have h4 : decide ((pl.length : Int) ≤ ((24 + m : Nat) : Int) - 24) = true := by simp; omega
    have h2 : mkB (imgL k a g m pl) = true := by simp [mkB, imgL, hdr, markL]
    have h3 : (imgL k a g m pl).drop (24 + (pl.length : Int).toNat) = zeros (m - pl.length) := by
      rw [← List.drop_drop, hd, bodyL, Int.toNat_natCast, List.drop_left' rfl]
    simp only [opB, hl, h1, h2, f0, f1, f2, f3, hh, h3, h4, zrB_zeros]
    rfl
  refine ⟨hb, ?_, ?_⟩
  · rw [opE, if_pos hb, opC, f0, f2, f3, f4, f5, hd, if_pos rfl]
  · rw [opP, hd, f2, bodyL, Int.toNat_natCast, List.take_left' rfl]

/-- an image but for its check -/
def hp (k n a g : Int) : List UInt8 := markL ++ (encN k 1 ++ (encN 0 1 ++ (encN n 2 ++ (encN a 4 ++ encN g 8))))
theorem hdr_hp (k n a g c : Int) : hdr k n a g c = hp k n a g ++ encN c 4 := by rw [hdr_eq, hp]; simp [List.append_assoc]
theorem hp_length (k n a g : Int) : (hp k n a g).length = 20 := by simp [hp, encN_length, markL]
def xL (l : List UInt8) : List UInt8 := l.take 20 ++ (zeros 4 ++ l.drop 24)
theorem encN_zero4 : encN 0 4 = zeros 4 := by decide
theorem opC_x {l : List UInt8} (h : opB l = true) : opC l = Sum.chk 0 (xL l) := by
  obtain ⟨h1, h2, h3, h4, h5, h6, h7⟩ := opB_parts h
  have e := hdr_again l h3 h4 (by omega)
  rw [hdr_hp] at e
  have e2 : hp (F l 0) (F l 2) (F l 3) (F l 4) = l.take 20 := by
    have := congrArg (List.take 20) e
    rw [List.take_left' (hp_length _ _ _ _), List.take_take] at this
    simpa using this
  rw [opC, ckL, hdr_hp, e2, encN_zero4, xL, List.append_assoc]
theorem F5_eq (l : List UInt8) : F l 5 = getL ((l.drop 20).take 4) := by rw [F, nums_list]; rfl

theorem num_setd (l : List UInt8) (i d : Nat) (b : UInt8) (hi : i < l.length) (hb : b.toNat = (l.getD i 0).toNat ^^^ d) :
    Sum.num (l.set i b) = Sum.num l ^^^ 2 ^ (8 * i) * d := by
  induction l generalizing i with
  | nil => simp at hi
  | cons c l ih =>
    cases i with
    | zero =>
      simp only [List.set_cons_zero, Sum.num, List.getD_cons_zero] at hb ⊢
      rw [Sum.add_xor _ _ (Sum.u8_lt b), Sum.add_xor _ _ (Sum.u8_lt c), hb, Nat.mul_zero, Nat.pow_zero, Nat.one_mul, Nat.xor_assoc, Nat.xor_comm d, ← Nat.xor_assoc]
    | succ i =>
      simp only [List.set_cons_succ, Sum.num, List.getD_cons_succ, List.length_cons] at hb hi ⊢
      rw [ih i (by omega) hb, Sum.add_xor _ _ (Sum.u8_lt c), Sum.add_xor _ _ (Sum.u8_lt c), Nat.xor_assoc]
      congr 1
      rw [show (256 : Nat) = 2 ^ 8 from rfl, show 8 * (i + 1) = 8 + 8 * i by omega, Nat.pow_add 2 8]
      have := @Nat.shiftLeft_xor_distrib 8 (Sum.num l) (2 ^ (8 * i) * d)
      simpa [Nat.shiftLeft_eq, Nat.mul_comm, Nat.mul_left_comm, Nat.mul_assoc] using this
theorem chk_set (l : List UInt8) (i d : Nat) (b : UInt8) (hi : i < l.length) (hd : d < 256) (h0 : d ≠ 0) (hb : b.toNat = (l.getD i 0).toNat ^^^ d) : Sum.chk 0 (l.set i b) ≠ Sum.chk 0 l :=
  Sum.chk_tells l (l.set i b) d (8 * i) (by simp) (by unfold Sum.Reg; omega) h0 (by omega) (num_setd l i d b hi hb)
theorem getL_inj (a b : List UInt8) (h : a.length = b.length) (he : getL a = getL b) : a = b := by
  rw [← encN_getL a, ← encN_getL b, h, he]

/-- one byte another one: it is no image -/
theorem one_byte (l : List UInt8) (i d : Nat) (b : UInt8) (hE : opE l = 0) (hi : i < l.length) (hd : d < 256) (h0 : d ≠ 0) (hb : b.toNat = (l.getD i 0).toNat ^^^ d) : opE (l.set i b) ≠ 0 := by
  intro hE'
  have hB : opB l = true := by
    rw [opE] at hE; by_cases h : opB l = true
    · exact h
    · rw [if_neg h] at hE; cases hE
  have hB' : opB (l.set i b) = true := by
    rw [opE] at hE'; by_cases h : opB (l.set i b) = true
    · exact h
    · rw [if_neg h] at hE'; cases hE'
  have hC : F l 5 = opC l := by
    rw [opE, if_pos hB] at hE; by_cases h : F l 5 = opC l
    · exact h
    · rw [if_neg h] at hE; cases hE
  have hC' : F (l.set i b) 5 = opC (l.set i b) := by
    rw [opE, if_pos hB'] at hE'; by_cases h : F (l.set i b) 5 = opC (l.set i b)
    · exact h
    · rw [if_neg h] at hE'; cases hE'
  rw [F5_eq, opC_x hB] at hC
  rw [F5_eq, opC_x hB'] at hC'
  have hl := (opB_parts hB).1
  have hne : b ≠ l.getD i 0 := by
    intro e
    rw [e] at hb
    have h1 := congrArg (fun x => (l.getD i 0).toNat ^^^ x) hb
    simp only [← Nat.xor_assoc, Nat.xor_self, Nat.zero_xor] at h1
    exact h0 h1.symm
  by_cases h1 : 20 ≤ i ∧ i < 24
  · have hx : xL (l.set i b) = xL l := by
      unfold xL
      rw [List.take_set, List.set_eq_of_length_le (by simp; omega), List.drop_set, if_pos h1.2]
    rw [hx] at hC'
    have hg : getL (((l.set i b).drop 20).take 4) = getL ((l.drop 20).take 4) := by omega
    have hg' := getL_inj _ _ (by simp) hg
    have h2 := congrArg (fun x => x[i - 20]?) hg'
    simp only [List.getElem?_take, List.getElem?_drop] at h2
    rw [if_pos (by omega), if_pos (by omega), show 20 + (i - 20) = i by omega, List.getElem?_set_self hi, List.getElem?_eq_getElem hi] at h2
    apply hne
    rw [List.getD_eq_getElem?_getD, List.getElem?_eq_getElem hi]
    simpa using h2
  · have hs : ((l.set i b).drop 20).take 4 = (l.drop 20).take 4 := by
      rw [List.drop_set]
      split
      · rfl
      · rw [List.take_set, List.set_eq_of_length_le (by simp; omega)]
    rw [hs, hC] at hC'
    have hx : xL (l.set i b) = (xL l).set i b := by
      unfold xL
      rw [List.take_set, List.drop_set, List.set_append]
      by_cases h2 : i < 20
      · rw [if_pos (by omega), if_pos (by simp; omega)]
      · rw [if_neg (by omega), List.set_eq_of_length_le (by simp; omega), if_neg (by simp; omega), List.set_append, if_neg (by simp [zeros]; omega)]
        congr 3
        simp [zeros]; omega
    have hxl : (xL l).length = l.length := by simp [xL, zeros]; omega
    have hxi : (xL l).getD i 0 = l.getD i 0 := by
      rw [List.getD_eq_getElem?_getD, List.getD_eq_getElem?_getD]
      congr 1
      unfold xL
      by_cases h2 : i < 20
      · rw [List.getElem?_append_left (by simp; omega), List.getElem?_take, if_pos h2]
      · rw [List.getElem?_append_right (by simp; omega), List.getElem?_append_right (by simp [zeros]; omega), List.getElem?_drop]
        congr 1
        simp [zeros]; omega
    rw [hx] at hC'
    exact chk_set (xL l) i d b (by omega) hd h0 (by rw [hxi]; exact hb) (by omega)
end Go.Proofs.YtflanjcfkdjpjaaGreatDoor.Env


/- Contracts of layer 4 (env): rightSize, Room, rightAddr, right, the widths, ahead, checkOf. -/
namespace Go.Proofs.YtflanjcfkdjpjaaGreatDoor
open Go.RowKit
theorem Row.three (kd : IntKind) (w : World) (a b c : Int) (e : TypeId) : Row kd (w.alloc (.cells #[.int kd a, .int kd b, .int kd c] e)) (some ⟨w.heap.size, 0, none⟩) 3 [a, b, c] := by
  refine ⟨rfl, fun _ => ⟨w.heap.size, 0, rfl, fun i hi => ?_⟩⟩
  match i, hi with
  | 0, _ => simp
  | 1, _ => simp
  | 2, _ => simp
theorem Row.six (kd : IntKind) (w : World) (a b c d f g : Int) (e : TypeId) : Row kd (w.alloc (.cells #[.int kd a, .int kd b, .int kd c, .int kd d, .int kd f, .int kd g] e)) (some ⟨w.heap.size, 0, none⟩) 6 [a, b, c, d, f, g] := by
  refine ⟨rfl, fun _ => ⟨w.heap.size, 0, rfl, fun i hi => ?_⟩⟩
  match i, hi with
  | 0, _ => simp
  | 1, _ => simp
  | 2, _ => simp
  | 3, _ => simp
  | 4, _ => simp
  | 5, _ => simp
theorem Row.sixAt (kd : IntKind) (w : World) (a b c d f g : Int) (e : TypeId) (n : Nat) (h : n = w.heap.size) : Row kd (w.alloc (.cells #[.int kd a, .int kd b, .int kd c, .int kd d, .int kd f, .int kd g] e)) (some ⟨n, 0, none⟩) 6 [a, b, c, d, f, g] := by subst h; exact Row.six kd w a b c d f g e
theorem Row.threeAt (kd : IntKind) (w : World) (a b c : Int) (e : TypeId) (n : Nat) (h : n = w.heap.size) : Row kd (w.alloc (.cells #[.int kd a, .int kd b, .int kd c] e)) (some ⟨n, 0, none⟩) 3 [a, b, c] := by subst h; exact Row.three kd w a b c e
theorem Row.later {kd : IntKind} {w w' : World} {ao : Option Addr} {len : Nat} {xs : List Int} (h : Row kd w ao len xs) (hb : Below w.heap.size w w') : Row kd w' ao len xs := h.below hb (Nat.le_refl _)
theorem Row.new {kd : IntKind} {w : World} {ao : Option Addr} {len : Nat} {xs : List Int} (h : Row kd w ao len xs) (o : Obj) : Row kd (w.alloc o) ao len xs := h.later ((Below.refl _ _).alloc (Nat.le_refl _) _)
theorem Row.drw {kd : IntKind} {w : World} {ao : Option Addr} {len : Nat} {xs : List Int} (h : Row kd w ao len xs) : Row kd w.drew ao len xs := ⟨h.1, h.2⟩
end Go.Proofs.YtflanjcfkdjpjaaGreatDoor
namespace Go.Proofs.YtflanjcfkdjpjaaGreatDoor.Env
open Go.RowKit Go.Proofs.YtflanjcfkdjpjaaGreatDoor Go.Proofs.YtflanjcfkdjpjaaGreatDoor.Lend
set_option linter.unusedVariables false

theorem ret_bool {a b : Bool} (h : a = b) : Ending.returned (.bool a) = .returned (.bool b) := by rw [h]
theorem szB_yes {n : Int} (h1 : 128 ≤ n) (h2 : n ≤ 1024) : szB n = true := by simp [szB, h1, h2]
theorem szB_no {n : Int} (h : n < 128 ∨ 1024 < n) : szB n = false := by simp only [szB, Bool.and_eq_false_iff, decide_eq_false_iff_not]; omega
theorem rightSize_any (n : Int) (w : World) : Calls Tryz.prog 73 #[.int .i64 n] w fun e w' => e = .returned (.bool (szB n)) ∧ w = w' := by
  by_cases h1 : 128 ≤ n
  · by_cases h2 : n ≤ 1024
    · have HS := Lib.hid (szB_yes h1 h2)
      go_enter Tryz.func73, Tryz.ntmps73
      go_wp2
      go_ret
      exact ⟨ret_bool HS.out.symm, rfl⟩
    · have HS := Lib.hid (szB_no (n := n) (.inr (by omega)))
      have h2' : 1024 < n := by omega
      clear h2
      go_enter Tryz.func73, Tryz.ntmps73
      go_wp2
      go_ret
      exact ⟨ret_bool (by rw [HS.out]; simp; omega), rfl⟩
  · have HS := Lib.hid (szB_no (n := n) (.inl (by omega)))
    have h1' : n < 128 := by omega
    clear h1
    go_enter Tryz.func73, Tryz.ntmps73
    go_wp2
    go_ret
    exact ⟨ret_bool HS.out.symm, rfl⟩
theorem roomN_yes {n : Int} (h : szB n = true) : roomN n = n - 24 ∧ 104 ≤ roomN n ∧ roomN n ≤ 1000 := by
  have e : roomN n = n - 24 := by rw [roomN, if_pos h]
  simp only [szB, Bool.and_eq_true, decide_eq_true_eq] at h
  exact ⟨e, by omega, by omega⟩
theorem roomN_no {n : Int} (h : szB n = false) : roomN n = 0 := by rw [roomN, if_neg (by rw [h]; decide)]
theorem ret_i64 {a b : Int} (h : a = b) : Ending.returned (.int .i64 a) = .returned (.int .i64 b) := by rw [h]
theorem room_any (n : Int) (w : World) : Calls Tryz.prog 49 #[.int .i64 n] w fun e w' => e = .returned (.int .i64 (roomN n)) ∧ w = w' := by
  cases h : szB n with
  | true =>
    have HR := Lib.hid (roomN_yes h)
    have HH := Lib.hid h
    have h1 : 128 ≤ n ∧ n ≤ 1024 := by simpa [szB] using h
    obtain ⟨h1, h2⟩ := h1
    clear h
    go_enter Tryz.func49, Tryz.ntmps49
    go_wp2_with (go_at_call 73; refine (rightSize_any n _).mono ?_; rintro e w' ⟨rfl, rfl⟩; rw [HH.out])
    go_ret
    exact ⟨ret_i64 HR.out.1.symm, rfl⟩
  | false =>
    have HR := Lib.hid (roomN_no h)
    have HH := Lib.hid h
    clear h
    go_enter Tryz.func49, Tryz.ntmps49
    go_wp2_with (go_at_call 73; refine (rightSize_any n _).mono ?_; rintro e w' ⟨rfl, rfl⟩; rw [HH.out])
    go_ret
    exact ⟨ret_i64 HR.out.symm, rfl⟩
theorem adB_yes {a : Int} (h1 : 0 ≤ a) (h2 : a ≤ 2147483647) : adB a = true := by simp [adB, h1, h2]
theorem adB_no {a : Int} (h : a < 0 ∨ 2147483647 < a) : adB a = false := by simp only [adB, Bool.and_eq_false_iff, decide_eq_false_iff_not]; omega
theorem rightAddr_any (n : Int) (w : World) : Calls Tryz.prog 108 #[.int .i64 n] w fun e w' => e = .returned (.bool (adB n)) ∧ w = w' := by
  by_cases h1 : 0 ≤ n
  · by_cases h2 : n ≤ 2147483647
    · have HS := Lib.hid (adB_yes h1 h2)
      go_enter Tryz.func108, Tryz.ntmps108
      go_wp2
      go_ret
      exact ⟨ret_bool HS.out.symm, rfl⟩
    · have HS := Lib.hid (adB_no (a := n) (.inr (by omega)))
      have h2' : 2147483647 < n := by omega
      clear h2
      go_enter Tryz.func108, Tryz.ntmps108
      go_wp2
      go_ret
      exact ⟨ret_bool (by rw [HS.out]; simp; omega), rfl⟩
  · have HS := Lib.hid (adB_no (a := n) (.inl (by omega)))
    have h1' : n < 0 := by omega
    clear h1
    go_enter Tryz.func108, Tryz.ntmps108
    go_wp2
    go_ret
    exact ⟨ret_bool HS.out.symm, rfl⟩
theorem hdB_1 {k a : Int} (h1 : 1 ≤ k) (h2 : k ≤ 5) : hdB k a = adB a := by simp [hdB, h1, h2]
theorem hdB_0 {k a : Int} (h : k < 1 ∨ 5 < k) : hdB k a = false := by
  simp only [hdB, Bool.and_eq_false_iff, decide_eq_false_iff_not]; omega
/-- a head, as it is handed over -/
def hdV (k a g : Int) : Value := .agg #[.int .u8 k, .int .i64 a, .int .u64 g]
theorem headRight_any (k a g : Int) (w : World) : Calls Tryz.prog 74 #[.agg #[.int .u8 k, .int .i64 a, .int .u64 g]] w fun e w' => e = .returned (.bool (hdB k a)) ∧ Below w.heap.size w w' := by
  by_cases h1 : 1 ≤ k
  · by_cases h2 : k ≤ 5
    · have HS := Lib.hid (hdB_1 (a := a) h1 h2)
      go_enter Tryz.func74, Tryz.ntmps74
      go_wp2_with (go_at_call 108; refine (rightAddr_any a _).mono ?_; rintro e w' ⟨rfl, rfl⟩)
      go_ret
      exact ⟨ret_bool HS.out.symm, (Below.refl _ _).alloc (Nat.le_refl _) _⟩
    · have HS := Lib.hid (hdB_0 (k := k) (a := a) (.inr (by omega)))
      have h2' : 5 < k := by omega
      clear h2
      go_enter Tryz.func74, Tryz.ntmps74
      go_wp2
      go_ret
      exact ⟨ret_bool HS.out.symm, (Below.refl _ _).alloc (Nat.le_refl _) _⟩
  · have HS := Lib.hid (hdB_0 (k := k) (a := a) (.inl (by omega)))
    have h1' : k < 1 := by omega
    clear h1
    go_enter Tryz.func74, Tryz.ntmps74
    go_wp2
    go_ret
    exact ⟨ret_bool HS.out.symm, (Below.refl _ _).alloc (Nat.le_refl _) _⟩

theorem envW_any (w : World) : Calls Tryz.prog 109 #[] w fun e w' => ∃ b, e = .returned (.slice (some ⟨b, 0, none⟩) 6 6) ∧ Row .i64 w' (some ⟨b, 0, none⟩) 6 envW ∧ Below w.heap.size w w' := by
  go_enter Tryz.func109, Tryz.ntmps109
  go_wp2
  go_ret
  exact ⟨_, rfl, Row.six .i64 w 1 1 2 4 8 4 _, (Below.refl _ _).alloc (Nat.le_refl _) _⟩
end Go.Proofs.YtflanjcfkdjpjaaGreatDoor.Env


/- Contracts of layer 4 (env): ahead, checkOf. -/
namespace Go.Proofs.YtflanjcfkdjpjaaGreatDoor.Env
open Go.RowKit Go.Proofs.YtflanjcfkdjpjaaGreatDoor Go.Proofs.YtflanjcfkdjpjaaGreatDoor.Lend
set_option linter.unusedVariables false

theorem keep3 {w1 w2 : World} {p q r : Addr} {x y z : Value} (h : w1.cell? p = some x ∧ w1.cell? q = some y ∧ w1.cell? r = some z) (hb : Below w1.heap.size w1 w2) :
    w2.cell? p = some x ∧ w2.cell? q = some y ∧ w2.cell? r = some z := by
  obtain ⟨h1, h2, h3⟩ := h
  exact ⟨by rw [hb.cell (World.block_lt_of_cell? _ _ h1)]; exact h1, by rw [hb.cell (World.block_lt_of_cell? _ _ h2)]; exact h2, by rw [hb.cell (World.block_lt_of_cell? _ _ h3)]; exact h3⟩
theorem below_new (w : World) (o : Obj) : Below w.heap.size w (w.alloc o) := (Below.refl _ _).alloc (Nat.le_refl _) _
theorem below_on {w w1 w2 : World} (h : Below w.heap.size w w1) (k : Below w1.heap.size w1 w2) : Below w.heap.size w w2 := h.trans (k.mono h.size)
theorem below_nw {w w1 : World} (h : Below w.heap.size w w1) (o : Obj) : Below w.heap.size w (w1.alloc o) := h.alloc h.size o
theorem below_dr {w w1 : World} (h : Below w.heap.size w w1) : Below w.heap.size w w1.drew := h.drew
theorem below_dn {w w1 : World} (h : Below w.heap.size w w1) (n : Nat) : Below w.heap.size w (w1.drewN n) := below_drewN h n
theorem below_st {w w1 : World} (h : Below w.heap.size w w1) {a : Addr} (ha : w.heap.size ≤ a.block) (v : Value) : Below w.heap.size w (w1.setCell a v) := h.setCell ha v
theorem ns6 {k n a g c : Int} (h : Fit k n a g c) : ∀ x ∈ [k, 0, n, a, g, c], 0 ≤ x ∧ x < 18446744073709551616 := by
  have := h.k0; have := h.n0; have := h.a0; have := h.g0; have := h.c0; have := h.k1; have := h.n1; have := h.a1; have := h.g1; have := h.c1
  intro x hx
  simp only [List.mem_cons, List.mem_nil_iff, or_false] at hx
  omega
theorem ret_str {a b : ByteArray} (h : a = b) : Ending.returned (.string a) = .returned (.string b) := by rw [h]
set_option maxHeartbeats 1000000 in
set_option maxRecDepth 100000 in
theorem ahead_any (k n a g c : Int) (w : World) (hf : Fit k n a g c) :
    Calls Tryz.prog 76 #[.agg #[.int .u8 k, .int .i64 a, .int .u64 g], .int .i64 n, .int .u32 c] w fun e w' => e = .returned (.string (strOf (hdr k n a g c))) ∧ Below w.heap.size w w' := by
  have HN := Lib.hid (ns6 hf)
  have HW := Lib.hid hf.wr
  have HSZ : (strOf (encL envW [k, 0, n, a, g, c])).size ≤ 20 := by rw [encL_env]; show List.length _ ≤ 20; simp [encN_length]
  have hk0 := hf.k0; have hk1 : k ≤ 255 := by have := hf.k1; omega
  have hn0 := hf.n0; have hn1 : n ≤ 65535 := by have := hf.n1; omega
  have ha0 := hf.a0; have ha1 : a ≤ 4294967295 := by have := hf.a1; omega
  have hc0 := hf.c0; have hc1 : c ≤ 4294967295 := by have := hf.c1; omega
  have wk : IntKind.u64.wrap k = k := by rw [wrap_u64]; omega
  have wn : IntKind.u64.wrap n = n := by rw [wrap_u64]; omega
  have wa : IntKind.u64.wrap a = a := by rw [wrap_u64]; omega
  have wc : IntKind.u64.wrap c = c := by rw [wrap_u64]; omega
  clear hf
  go_enter Tryz.func76, Tryz.ntmps76
  go_wp2_with fail
  go_region_held3 (fun W => W.cell? ⟨w.heap.size, 0, none⟩ = some (.int .u8 k) ∧ W.cell? ⟨w.heap.size, 1, none⟩ = some (.int .i64 a) ∧ W.cell? ⟨w.heap.size, 2, none⟩ = some (.int .u64 g))
    (first
      | exact keep3 (by assumption) (by assumption)
      | exact keep3 (by assumption) (below_new _ _)
      | go_keep)
    (first
      | (go_at_call 109; refine (envW_any _).mono ?_; rintro e wm ⟨bm, rfl, hrow, hbel⟩)
      | (go_at_call 71
         refine (write_any _ _ 6 6 6 6 envW [k, 0, n, a, g, c] _ ?_ ?_ (by decide) (by decide) HN.out).mono ?_
         · repeat (first | assumption | apply Row.drw | apply Row.new | refine Row.later ?_ (by assumption))
         · repeat (first | (refine Row.sixAt _ _ _ _ _ _ _ _ _ _ ?_; first | rfl | (simp; done)) | apply Row.drw | apply Row.new | refine Row.later ?_ (by assumption))
         rintro e wo ⟨rfl, hbel2⟩
         rw [HW.out.1, HW.out.2]))
  all_goals
    rename_i hend
    clear hend wk wn wa wc
    go_wp2_with fail
    go_ret
    refine ⟨ret_str (strOf_ext ?_), ?_⟩
    · simp [hdr, markL, strOf]
    · repeat (first | exact Below.refl _ _ | apply below_nw | apply below_dr | refine below_on ?_ (by assumption))

theorem ck_cat (k n a g : Int) (body : ByteArray) : Sum.chk 0 (Sum.cat [strOf (hdr k n a g 0), body]) = ckL k n a g body.data.toList := by
  rw [ckL]; congr 1; simp [Sum.cat, strOf]
/-- the table, behind steps that leave what was there -/
theorem tab_on {w w1 : World} {b : Nat} (h : Sum.IsTab w b) (hb : Below w.heap.size w w1) : Sum.IsTab w1 b := h.below hb (Nat.le_refl _)
set_option maxHeartbeats 1000000 in
set_option maxRecDepth 100000 in
theorem checkOf_any (b : Nat) (k n a g : Int) (body : ByteArray) (w : World) (ht : Sum.IsTab w b) (hf : Fit k n a g 0) (hs : body.size ≤ 100000) :
    Calls Tryz.prog 75 #[.pointer (some ⟨b, 0, none⟩), .agg #[.int .u8 k, .int .i64 a, .int .u64 g], .int .i64 n, .string body] w fun e w' => e = .returned (.int .u32 (ckL k n a g body.data.toList)) ∧ Below w.heap.size w w' := by
  have HT := Lib.hid ht
  have HF := Lib.hid hf
  have HS := Lib.hid hs
  have HC := Lib.hid (ck_cat k n a g body)
  clear ht hf
  go_enter Tryz.func75, Tryz.ntmps75
  go_wp2_with fail
  refine (ahead_any k n a g 0 _ HF.out).mono ?_
  rintro e w1 ⟨rfl, hb1⟩
  have hb1 := below_on (below_new w _) hb1
  have HB := Lib.hid (below_nw hb1 (.cells #[.string (strOf (hdr k n a g 0)), .string body] 9))
  have HT1 := Lib.hid (tab_on HT.out HB.out)
  have HR := Lib.hid (Sum.StrRow.two w1 (strOf (hdr k n a g 0)) body 9)
  have HSS := Lib.hid (show ∀ s ∈ [strOf (hdr k n a g 0), body], s.size ≤ 1000000 by
    intro s hs
    simp only [List.mem_cons, List.mem_nil_iff, or_false] at hs
    rcases hs with rfl | rfl
    · show List.length _ ≤ _; rw [hdr_length]; decide
    · have := HS.out; omega)
  clear hb1 hs
  go_wp2_with fail
  refine (Sum.of_any b _ 2 2 _ _ HT1.out HR.out (by decide) HSS.out).mono ?_
  rintro e w2 ⟨rfl, m, rfl⟩
  rw [HC.out]
  go_wp2_with fail
  go_ret
  exact ⟨rfl, below_dn HB.out m⟩
end Go.Proofs.YtflanjcfkdjpjaaGreatDoor.Env


