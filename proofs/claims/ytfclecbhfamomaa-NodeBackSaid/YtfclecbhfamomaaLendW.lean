/- Contract of layer 1 (lend): Write. -/
import Derived.Test.YtfclecbhfamomaaLendA
namespace Go.Proofs.Ytfclecbhfamomaa.Lend
open Go.RowKit Go.Proofs.Ytfclecbhfamomaa
set_option linter.unusedVariables false

theorem foldl_push (l : List Int) : ∀ s : ByteArray, l.foldl (fun r n => r.push (UInt8.ofNat n.toNat)) s = ⟨s.data ++ (l.map fun n => UInt8.ofNat n.toNat).toArray⟩ := by
  induction l with
  | nil => intro s; simp
  | cons x l ih => intro s; rw [List.foldl_cons, ih]; simp [ByteArray.push]

/-- 'string(b)' of bytes that the call owns. -/
theorem run_string_own (w : World) (B : Nat) (v : Value) (n : Nat) (l : List UInt8) (h : w.ownsRow B 5 1 v n (l.map u8V)) :
    (convert 54 9 v).run Try.prog w = .ok (.string (strOf l)) w := by
  have hl : l.length = n := by have := h.1; simpa using this
  rcases h.2 with ⟨rfl, h0⟩ | ⟨g, cap', cur, rfl, hB, hg, hn, hm, hs, ht⟩
  · subst h0
    have : l = [] := by simpa using hl
    subst this
    rw [run_convert_bytes_string w _ _ _ _ _ _ Try.underlying54 Try.underlying5 Try.underlying9]
    rfl
  · rw [run_convert_bytes_string w _ _ _ _ _ _ Try.underlying54 Try.underlying5 Try.underlying9]
    have hc := run_loadCells_list (P := Try.prog) (w := w) ⟨g, 0, none⟩ (l.map u8V) (h.cells (g := g) rfl)
    rw [List.length_map, hl] at hc
    have e : l.map u8V = (l.map fun b => (b.toNat : Int)).map (Value.int .u8) := by simp [u8V]
    rw [e] at hc
    rw [run_bytesToString w _ _ _ _ hc, foldl_push]
    have ef : ((fun n : Int => UInt8.ofNat n.toNat) ∘ fun b : UInt8 => (b.toNat : Int)) = id := by funext b; simp
    simp [strOf, ByteArray.empty, ByteArray.emptyWithCapacity, ef]
    rfl

theorem ret_wr {a b : ByteArray} {c d : Bool} (h : a = b) (h' : c = d) : Ending.returned (.tuple #[.string a, .bool c]) = .returned (.tuple #[.string b, .bool d]) := by rw [h, h']

set_option maxHeartbeats 1000000 in
set_option maxRecDepth 100000 in
theorem write_any (ao bo : Option Addr) (la ca lb cb : Nat) (ws ns : List Int) (w : World) (hra : Row .i64 w ao la ws) (hrb : Row .u64 w bo lb ns) (hla : la ≤ 1000) (hlb : lb ≤ 1000)
    (hns : ∀ n ∈ ns, 0 ≤ n ∧ n < 18446744073709551616) :
    Calls Try.prog 24 #[.slice ao la ca, .slice bo lb cb] w fun e w' => e = .returned (.tuple #[.string (wrS ws ns), .bool (wrB ws ns)]) ∧ Below w.heap.size w w' := by
  obtain ⟨i0, hi, hz0, hz1, hz2⟩ := info_parts info_u8
  have hlen := hra.len_eq
  have hlen' := hrb.len_eq
  by_cases hok : okW ws = true
  · by_cases hab : la = lb
    · subst hab
      have HLA := Lib.hid hlen
      have HLB := Lib.hid hlen'
      have hbd := sumW_bd ws hok
      have hm := measN_yes hok
      rw [hlen] at hbd
      obtain ⟨tot, htot⟩ := Int.eq_ofNat_of_zero_le (show 0 ≤ sumW ws by omega)
      rw [htot] at hm hbd
      have HM := Lib.hid hm
      have HOK := Lib.hid hok
      have HNS := Lib.hid hns
      have HT := Lib.hid htot
      clear hlen hlen' hm hok hns htot
      go_enter Try.func24, Try.ntmps24
      go_wp2_with (first | (go_at_call 43; refine (measure_any _ _ _ ws _ hra (by omega)).mono ?_; rintro e w' ⟨rfl, rfl⟩; rw [HM.out, HOK.out]) | (at_make; refine wpList_make_own _ rfl _ _ 54 rfl w.heap.size 5 i0 (.int .u8 0) 1 Try.underlying54 hi hz0 hz1 _ _ _ tot rfl rfl (by omega) ?b1 ?b2 ?b3 ?_))
      case b1 => rw [hz2]; omega
      case b2 => unfold maxLen; omega
      case b3 => omega
      intro w1 hown hgrow
      have hbel : Below w.heap.size w w1 := (Below.refl _ _).grown hgrow (Nat.le_refl _) (fun q hq => by cases hq)
      clear hgrow
      go_wp2
      go_loopw [8, 29] (fun s i wr => ∃ k : Nat, k ≤ la ∧ i = .int .i64 k ∧ wr.ownsRow w.heap.size 5 1 s (encL (ws.take k) (ns.take k)).length ((encL (ws.take k) (ns.take k)).map u8V) ∧ Below w.heap.size w wr ∧ fitsL (ws.take k) (ns.take k) = true) (fun _ i _ => la - (intOf i).toNat)
      case atStart => exact ⟨0, Nat.zero_le _, rfl, hown, hbel, rfl⟩
      case round =>
        obtain ⟨k, hk, rfl, hownr, hbelr, hfit⟩ := hrel
        have HF := Lib.hid hfit
        clear hown hbel hfit
        have hsz := hbelr.size
        by_cases hlt : k < la
        · obtain ⟨b1, o1, rfl, hc1⟩ := (hra.below hbelr (Nat.le_refl _)).at_ (by omega)
          obtain ⟨b2, o2, rfl, hc2⟩ := (hrb.below hbelr (Nat.le_refl _)).at_ (by omega)
          have hc1k := hc1 k hlt
          have hc2k := hc2 k hlt
          clear hc1 hc2
          obtain ⟨x, hx⟩ : ∃ x, x = ws.getD k 0 := ⟨_, rfl⟩
          obtain ⟨n, hn⟩ : ∃ n, n = ns.getD k 0 := ⟨_, rfl⟩
          rw [← hx] at hc1k
          rw [← hn] at hc2k
          have HX := Lib.hid hx
          have HN := Lib.hid hn
          have hx8 : 1 ≤ x ∧ x ≤ 8 := by
            by_cases hxx : 1 ≤ x ∧ x ≤ 8
            · exact hxx
            · have := okW_getD (ws := ws) (k := k) (by have := HLA.out; omega) (by rw [← hx]; exact hxx)
              rw [HOK.out] at this
              cases this
          have hnn : 0 ≤ n ∧ n < 18446744073709551616 := by
            rw [hn]
            refine HNS.out _ ?_
            rw [List.getD_eq_getElem?_getD, List.getElem?_eq_getElem (by have := HLB.out; omega)]
            exact List.getElem_mem _
          obtain ⟨hx1, hx8⟩ := hx8
          obtain ⟨hn0, hn1⟩ := hnn
          clear hx hn
          have hll : (encL (ws.take k) (ns.take k)).length ≤ 1000000 := by
            have := encL_take_le ws ns k HOK.out (by rw [HLA.out, HLB.out])
            omega
          have HST := Lib.hid (encL_take_succ ws ns k (by have := HLA.out; omega) (by rw [HLA.out, HLB.out]))
          have HSF := Lib.hid (fitsL_take_succ ws ns k (by have := HLA.out; omega) (by rw [HLA.out, HLB.out]))
          cases hf : fitsB n x with
          | true =>
            have HFI := Lib.hid hf
            clear hf
            go_wp2_with (first | (go_at_call 44; refine (fits_any n x _ hn0 hn1 hx1 hx8).mono ?_; rintro e w' ⟨rfl, rfl⟩; rw [HFI.out]) | (go_at_call 45; refine (appendNumber_any w.heap.size _ _ _ n x _ hownr (by omega) hll hn0 hn1 hx1 hx8).mono ?_; rintro e w' ⟨v', rfl, hown', hbel'⟩))
            go_roundw
            case rel =>
              refine ⟨k + 1, by omega, by go_num, ?_, hbelr.trans hbel', ?_⟩
              · rw [HST.out, ← HX.out, ← HN.out]
                rw [byteVals_enc] at hown'
                simpa [encN_length] using hown'
              · rw [HSF.out, HF.out, ← HX.out, ← HN.out, HFI.out]; rfl
            case measure => simp [intOf]; omega
          | false =>
            have hno := wr_no (ws := ws) (ns := ns) (.inr (.inr (fitsL_at ws ns k (by have := HLA.out; omega) (by have := HLB.out; omega) (by rw [← HX.out, ← HN.out]; exact hf))))
            have HNO := Lib.hid hno
            have HFI := Lib.hid hf
            clear hf hno
            go_wp2_with (go_at_call 44; refine (fits_any n x _ hn0 hn1 hx1 hx8).mono ?_; rintro e w' ⟨rfl, rfl⟩; rw [HFI.out])
            go_ret2
            exact ⟨ret_wr HNO.out.2.symm HNO.out.1.symm, hbelr⟩
        · have e1 : ws.take k = ws := List.take_of_length_le (by have := HLA.out; omega)
          have e2 : ns.take k = ns := List.take_of_length_le (by have := HLB.out; omega)
          rw [e1, e2] at hownr
          have hyes := wr_ok (ws := ws) (ns := ns) HOK.out (by rw [HLA.out, HLB.out]) (by have := HF.out; rwa [e1, e2] at this)
          have HY := Lib.hid hyes
          clear e1 e2 hyes
          have hcv := run_string_own wr w.heap.size _ _ _ hownr
          go_wp2
          go_ret2
          exact ⟨ret_wr HY.out.2.symm HY.out.1.symm, hbelr⟩
    · have hno := wr_no (ws := ws) (ns := ns) (.inr (.inl (by omega)))
      have HNO := Lib.hid hno
      have HOK := Lib.hid hok
      clear hno hok hlen hlen'
      go_enter Try.func24, Try.ntmps24
      go_wp2_with (go_at_call 43; refine (measure_any _ _ _ ws _ hra (by omega)).mono ?_; rintro e w' ⟨rfl, rfl⟩; rw [HOK.out])
      go_ret2
      exact ⟨ret_wr HNO.out.2.symm HNO.out.1.symm, Below.refl _ _⟩
  · have hok : okW ws = false := by simpa using hok
    have hno := wr_no (ws := ws) (ns := ns) (.inl hok)
    have HNO := Lib.hid hno
    have HOK := Lib.hid hok
    clear hno hok hlen hlen'
    go_enter Try.func24, Try.ntmps24
    go_wp2_with (go_at_call 43; refine (measure_any _ _ _ ws _ hra (by omega)).mono ?_; rintro e w' ⟨rfl, rfl⟩; rw [HOK.out])
    go_ret2
    exact ⟨ret_wr HNO.out.2.symm HNO.out.1.symm, Below.refl _ _⟩
end Go.Proofs.Ytfclecbhfamomaa.Lend
