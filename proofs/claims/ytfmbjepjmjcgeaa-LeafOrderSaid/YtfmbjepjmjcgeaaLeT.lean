/- Layer 16 (leaf): Text, the program's and the document's. -/
import Derived.Lib.AppendStr
import Derived.Test.YtfmbjepjmjcgeaaLeR
import Derived.Test.YtfmbjepjmjcgeaaLendJ
import Derived.Test.YtfmbjepjmjcgeaaRegionV
namespace Go.Proofs.Ytfmbjepjmjcgeaa.Leaf
open Go Go.RowKit Go.Proofs.Ytfmbjepjmjcgeaa Go.Proofs.Ytfmbjepjmjcgeaa.Lend Go.Proofs.Ytfmbjepjmjcgeaa.Rec Go.Proofs.Ytfmbjepjmjcgeaa.Msg Go.Proofs.Ytfmbjepjmjcgeaa.Buf
set_option linter.unusedVariables false

theorem join_len (l : List UInt8) (w : World) (h : l.length ≤ 255) : Calls Try.prog 36 #[.string (Lend.strOf l)] w fun e w' => e = .returned (.tuple #[.string (Lend.strOf (len8 l)), .bool true]) ∧ Below w.heap.size w w' := by
  refine (join_any (Lend.strOf l) w (by rw [ssize]; omega)).mono ?_
  rintro e w' ⟨rfl, hb⟩
  refine ⟨?_, hb⟩
  rw [Lend.strOf_data, show jnS l = len8 l by unfold jnS len8; rw [if_pos h], show jnB l = true by simp [jnB, h]]
theorem strCells_strOf (l : List UInt8) : Lib.strCells (Lend.strOf l) = l.map Lend.u8V := rfl
theorem len8_len (l : List UInt8) : (len8 l).length = l.length + 1 := rfl
/-- texts short enough -/
def Sho (L : List Up) : Prop := ∀ x ∈ L, x.key.length ≤ 255 ∧ x.val.length ≤ 255
theorem sho_len {L : List Up} (h : Sho L) (k : Nat) (hl : L.length ≤ 1000) : (txE (L.take k)).length ≤ 512000 := by
  have h1 := txE_len (L := L.take k) (m := 255) (fun x hx => h x (List.mem_of_mem_take hx))
  have h2 : (L.take k).length ≤ L.length := by rw [List.length_take]; omega
  have h3 : (L.take k).length * (2 * 255 + 2) ≤ 1000 * 512 := Nat.mul_le_mul (by omega) (by omega)
  omega
theorem txE_step {L : List Up} {k : Nat} (hk : k < L.length) : txE (L.take (k + 1)) = txE (L.take k) ++ txe L[k] := by
  rw [List.take_succ_eq_append_getElem hk, txE_snoc]
set_option maxRecDepth 100000 in
set_option maxHeartbeats 4000000 in
theorem etext_any {v : Value} {L : List Up} {w : World} (h : ER w v L) (hl : L.length ≤ 1000) (hs : Sho L) : Calls Try.prog 13 #[.agg #[v]] w fun e w' => e = .returned (.tuple #[.string (Lend.strOf (txE L)), .int .i64 0]) ∧ Below w.heap.size w w' := by
  obtain ⟨i0, hi, hz0, hz1, hz2⟩ := info_parts info_u8
  obtain ⟨a, cap, rfl⟩ := h.slice
  obtain ⟨w1, hw1⟩ : ∃ x, x = w.alloc (.cells #[.slice a L.length cap] 25) := ⟨_, rfl⟩
  have HV := Lib.hid (show Has w1 w.heap.size 25 [.slice a L.length cap] by rw [hw1]; exact Has.new w [.slice a L.length cap] _)
  have HB1 := Lib.hid (show Below w.heap.size w w1 by rw [hw1]; exact below_new w _)
  have HU := Lib.hid (h.below HB1.out)
  have HS := Lib.hid hs
  have HL := Lib.hid hl
  have HTL := Lib.hid (fun k => sho_len hs k hl)
  obtain ⟨n, hn⟩ : ∃ n, n = L.length := ⟨_, rfl⟩
  have HN := Lib.hid hn
  rw [← hn] at hl hw1 HV HU ⊢
  have cb : w1.cell? ⟨w.heap.size, 0, none⟩ = some (.slice a n cap) := HV.out.cell 0
  clear h hs hn
  go_enter Try.func13, Try.ntmps13
  go_wp2_with fail
  rw [← hw1]
  clear hw1
  go_wp2_with fail
  go_loopw [4, 14] (fun v i wr => ∃ k : Nat, k ≤ n ∧ i = .int .i64 k ∧ wr.ownsRow w1.heap.size 5 1 v (txE (L.take k)).length ((txE (L.take k)).map Lend.u8V) ∧ Below w1.heap.size w1 wr) (fun _ i _ => n - (intOf i).toNat)
  case atStart => exact ⟨0, Nat.zero_le _, rfl, World.ownsRow_nil _ _ _ _, Below.refl _ _⟩
  case round =>
    obtain ⟨k, hk, rfl, hown, hb⟩ := hrel
    rename World => wr
    have HB := Lib.hid hb
    have HO := Lib.hid hown
    have HT0 := Lib.hid (HTL.out k)
    clear hb hown
    by_cases hlt : k < n
    · have hke : k < L.length := by rw [← HN.out]; exact hlt
      have hki : (k : Int) < (n : Int) := by omega
      obtain ⟨g, off, rfl⟩ := er_some HU.out (by omega)
      have c0 := er_key (HU.out.below HB.out) k hke
      have c1 := er_val (HU.out.below HB.out) k hke
      have HTS := Lib.hid (txE_step hke)
      have HTN := Lib.hid (HTL.out (k + 1))
      have hsh := HS.out _ (List.getElem_mem hke)
      obtain ⟨x, hx⟩ : ∃ x, x = L[k] := ⟨_, rfl⟩
      rw [← hx] at c0 c1 HTS hsh
      have HSH := Lib.hid hsh
      have HJ1 := Lib.hid (fun W => join_len x.key W hsh.1)
      have HJ2 := Lib.hid (fun W => join_len x.val W hsh.2)
      obtain ⟨w2, hw2⟩ : ∃ z, z = wr.alloc (.cells #[.string (Lend.strOf x.key), .string (Lend.strOf x.val)] 53) := ⟨_, rfl⟩
      have hb2 : Below wr.heap.size wr w2 := by rw [hw2]; exact below_new _ _
      have HX2 := Lib.hid (show Has w2 wr.heap.size 53 (encE x) by rw [hw2]; exact Has.new wr (encE x) _)
      have HB2 := Lib.hid (HB.out.trans (hb2.mono HB.out.size))
      have HO2 := Lib.hid (own_bel HO.out hb2)
      obtain ⟨vo, vc, hv, hvc⟩ := own_shape HO.out
      subst hv
      clear hx hsh hke hb2
      go_wp2_with fail
      rw [← hw2]
      clear hw2 c0 c1
      have y0 : w2.cell? ⟨wr.heap.size, 0, none⟩ = some (.string (Lend.strOf x.key)) := HX2.out.cell 0
      go_wp2_with fail
      refine (HJ1.out w2).mono ?_
      rintro e w3 ⟨rfl, hb3⟩
      have HB3 := Lib.hid (HB2.out.trans (hb3.mono HB2.out.size))
      have HO3 := Lib.hid (own_bel HO2.out hb3)
      have y1 : w3.cell? ⟨wr.heap.size, 1, none⟩ = some (.string (Lend.strOf x.val)) := keep1 (HX2.out.cell 1) hb3
      clear hb3 y0
      go_wp2_with fail
      refine (HJ2.out w3).mono ?_
      rintro e w4 ⟨rfl, hb4⟩
      have HB4 := Lib.hid (HB3.out.trans (hb4.mono HB3.out.size))
      have HO4 := Lib.hid (own_bel HO3.out hb4)
      clear hb4 y1
      have HSZ := Lib.hid (show (txE (L.take k)).length + (len8 x.key).length + (len8 x.val).length ≤ 512000 by
        have := HTN.out
        rw [HTS.out] at this
        unfold txe at this
        rw [List.length_append, List.length_append] at this
        omega)
      go_wp2_with (at_builtin; refine Lib.wpList_append_own_string _ rfl _ _ 58 9 rfl w1.heap.size 5 i0 Try.underlying58 Try.underlying9 hi hz0 hz1 hz2 _ _ _ rfl HO4.out (Lend.strOf (len8 x.key)) rfl ?c1 ?c2 ?c3 ?_)
      case c1 => unfold maxLen; rw [ssize]; have := HSZ.out; omega
      case c2 => rw [ssize]; have := HSZ.out; omega
      case c3 => exact HB4.out.size
      intro v5 w5 hown5 hgr5 _
      have HB5 := Lib.hid (HB4.out.grown hgr5 HB4.out.size (fun q hq => (HO4.out.lt q hq).1))
      have HO5 := Lib.hid hown5
      clear hown5 hgr5
      go_wp2_with (at_builtin; refine Lib.wpList_append_own_string _ rfl _ _ 58 9 rfl w1.heap.size 5 i0 Try.underlying58 Try.underlying9 hi hz0 hz1 hz2 _ _ _ rfl HO5.out (Lend.strOf (len8 x.val)) rfl ?c1 ?c2 ?c3 ?_)
      case c1 => unfold maxLen; rw [ssize, ssize]; have := HSZ.out; omega
      case c2 => rw [ssize, ssize]; have := HSZ.out; omega
      case c3 => exact HB5.out.size
      intro v6 w6 hown6 hgr6 _
      have HB6 := Lib.hid (HB5.out.grown hgr6 HB5.out.size (fun q hq => (HO5.out.lt q hq).1))
      have HO6 := Lib.hid (show w6.ownsRow w1.heap.size 5 1 v6 (txE (L.take (k + 1))).length ((txE (L.take (k + 1))).map Lend.u8V) by
        have e1 : (txE (L.take (k + 1))).length = (txE (L.take k)).length + (Lend.strOf (len8 x.key)).size + (Lend.strOf (len8 x.val)).size := by
          rw [HTS.out, ssize, ssize]
          unfold txe
          rw [List.length_append, List.length_append]
          omega
        have e2 : (txE (L.take (k + 1))).map Lend.u8V = (txE (L.take k)).map Lend.u8V ++ (Lib.strCells (Lend.strOf (len8 x.key)) ++ Lib.strCells (Lend.strOf (len8 x.val))) := by
          rw [HTS.out, strCells_strOf, strCells_strOf]
          unfold txe
          rw [List.map_append, List.map_append]
        rw [e1, e2]
        simpa using hown6)
      clear hown6 hgr6
      go_wp2_with fail
      go_roundw
      case rel => exact ⟨k + 1, by omega, by go_num, HO6.out, HB6.out⟩
      case measure => simp [intOf]; omega
    · obtain rfl : k = n := by omega
      have hki : ¬ (k : Int) < (k : Int) := by omega
      have htk : L.take k = L := List.take_of_length_le (by rw [← HN.out]; exact Nat.le_refl _)
      have hown := HO.out
      rw [htk] at hown
      have hcv := run_string_own wr w1.heap.size _ _ _ hown
      have HBE := Lib.hid (below_on HB1.out HB.out)
      clear htk hown
      go_wp2
      go_ret2
      exact ⟨rfl, HBE.out⟩
/-- string of one byte -/
theorem conv_has {w : World} {g n : Nat} (hn : n ≤ 255) (h : Has w g 5 [.int .u8 n]) : (convert 58 9 (.slice (some ⟨g, 0, none⟩) 1 1)).run Try.prog w = .ok (.string (Lend.strOf [UInt8.ofNat n])) w := by
  refine run_string_own w 0 _ 1 [UInt8.ofNat n] ⟨rfl, .inr ⟨g, 1, #[.int .u8 n], rfl, Nat.zero_le _, h, Nat.le_refl _, by unfold maxLen; omega, rfl, ?_⟩⟩
  simp [u8V]
  omega
theorem sapp (a b : List UInt8) : Lend.strOf a ++ Lend.strOf b = Lend.strOf (a ++ b) := by
  apply ByteArray.ext
  simp [Lend.strOf]
/-- how far the statement of Text's round has come -/
structure Tx (w0 : World) (kb vb : Nat) (l : Nat → Bool) (a : Act) (w : World) : Prop where
  bel : Below w0.heap.size w0 w
  p : l 8 = true → ∃ g, a.tmps.getD 19 undef = .slice (some ⟨g, 0, none⟩) 1 1 ∧ Has w g 5 [.int .u8 kb]
  q : l 24 = true → ∃ g, a.tmps.getD 35 undef = .slice (some ⟨g, 0, none⟩) 1 1 ∧ Has w g 5 [.int .u8 vb]
section
variable {w0 w : World} {kb vb : Nat} {l : Nat → Bool} {a : Act}
theorem lset_eq' (l : Nat → Bool) (i : Nat) : Reg.lset l i i = true := by simp [Reg.lset]
theorem lset_ne' {l : Nat → Bool} {i j : Nat} (h : j ≠ i) : Reg.lset l i j = l j := by
  simp [Reg.lset]
  intro e
  exact absurd e.symm h
theorem Tx.start (w0 : World) (kb vb : Nat) (a : Act) : Tx w0 kb vb (fun _ => false) a w0.drew := ⟨(Below.refl _ _).drew, (fun e => by cases e), (fun e => by cases e)⟩
theorem Tx.keep (h : Tx w0 kb vb l a w) {i c : Nat} (u : Value) (h1 : i ≠ 8) (h2 : i ≠ 24) (h3 : c ≠ 19) (h4 : c ≠ 35) (hs : c < a.tmps.size) : Tx w0 kb vb (Reg.lset l i) (a.put (some c) u) w := by
  refine ⟨h.bel, fun e => ?_, fun e => ?_⟩
  · rw [lset_ne' (Ne.symm h1)] at e
    rw [Reg.getD_put _ _ _ _ hs, if_neg h3]
    exact h.p e
  · rw [lset_ne' (Ne.symm h2)] at e
    rw [Reg.getD_put _ _ _ _ hs, if_neg h4]
    exact h.q e
theorem Tx.b8 (h : Tx w0 kb vb l a w) (hs : 19 < a.tmps.size) : Tx w0 kb vb (Reg.lset l 8) (a.put (some 19) (.slice (some ⟨w.heap.size, 0, none⟩) 1 1)) (w.alloc (.cells #[.int .u8 kb] 5)) := by
  refine ⟨below_nw h.bel _, fun _ => ⟨w.heap.size, by rw [Reg.getD_put _ _ _ _ hs, if_pos rfl], Has.new w [.int .u8 kb] _⟩, fun e => ?_⟩
  rw [lset_ne' (by omega)] at e
  obtain ⟨g, h1, h2⟩ := h.q e
  exact ⟨g, by rw [Reg.getD_put _ _ _ _ hs, if_neg (by decide)]; exact h1, h2.alloc _⟩
theorem Tx.b24 (h : Tx w0 kb vb l a w) (hs : 35 < a.tmps.size) : Tx w0 kb vb (Reg.lset l 24) (a.put (some 35) (.slice (some ⟨w.heap.size, 0, none⟩) 1 1)) (w.alloc (.cells #[.int .u8 vb] 5)) := by
  refine ⟨below_nw h.bel _, fun e => ?_, fun _ => ⟨w.heap.size, by rw [Reg.getD_put _ _ _ _ hs, if_pos rfl], Has.new w [.int .u8 vb] _⟩⟩
  rw [lset_ne' (by omega)] at e
  obtain ⟨g, h1, h2⟩ := h.p e
  exact ⟨g, by rw [Reg.getD_put _ _ _ _ hs, if_neg (by decide)]; exact h1, h2.alloc _⟩
end
set_option maxRecDepth 100000 in
set_option maxHeartbeats 8000000 in
theorem reftext_e {v : Value} {L : List Up} {w : World} (h : ER w v L) (hl : L.length ≤ 1000) (hs : Sho L) : Calls Try.prog 16 #[v] w fun e w' => e = .returned (.string (Lend.strOf (txE L))) ∧ Below w.heap.size w w' := by
  obtain ⟨a, cap, rfl⟩ := h.slice
  have HU := Lib.hid h
  have HS := Lib.hid hs
  have HTL := Lib.hid (fun k => sho_len hs k hl)
  obtain ⟨n, hn⟩ : ∃ n, n = L.length := ⟨_, rfl⟩
  have HN := Lib.hid hn
  rw [← hn] at hl HU ⊢
  clear h hs hn
  go_enter Try.func16, Try.ntmps16
  go_wp2_with fail
  go_loopw [3, 4] (fun s i wr => ∃ k : Nat, k ≤ n ∧ i = .int .i64 k ∧ s = .string (Lend.strOf (txE (L.take k))) ∧ Below w.heap.size w wr) (fun _ i _ => n - (intOf i).toNat)
  case atStart => exact ⟨0, Nat.zero_le _, rfl, rfl, Below.refl _ _⟩
  case round =>
    obtain ⟨k, hk, rfl, rfl, hb⟩ := hrel
    rename World => wr
    have HB := Lib.hid hb
    clear hb
    by_cases hlt : k < n
    · have hke : k < L.length := by rw [← HN.out]; exact hlt
      have hki : (k : Int) < (n : Int) := by omega
      obtain ⟨g, off, rfl⟩ := er_some HU.out (by omega)
      have HC0 := Lib.hid (er_key (HU.out.below HB.out) k hke)
      have HC1 := Lib.hid (er_val (HU.out.below HB.out) k hke)
      have HTS := Lib.hid (txE_step hke)
      have htn := HTL.out k
      have hsh := HS.out _ (List.getElem_mem hke)
      obtain ⟨x, hx⟩ : ∃ x, x = L[k] := ⟨_, rfl⟩
      rw [← hx] at HC0 HC1 HTS hsh
      obtain ⟨kb, hkb⟩ : ∃ z, z = x.key.length := ⟨_, rfl⟩
      obtain ⟨vb, hvb⟩ : ∃ z, z = x.val.length := ⟨_, rfl⟩
      have hkz : (Lend.strOf x.key).size = kb := by rw [ssize, hkb]
      have hvz : (Lend.strOf x.val).size = vb := by rw [ssize, hvb]
      obtain ⟨P, hP⟩ : ∃ z, z = Lend.strOf [UInt8.ofNat kb] := ⟨_, rfl⟩
      obtain ⟨Q', hQ'⟩ : ∃ z, z = Lend.strOf [UInt8.ofNat vb] := ⟨_, rfl⟩
      have hpz : P.size = 1 := by rw [hP, ssize]; rfl
      have hqz : Q'.size = 1 := by rw [hQ', ssize]; rfl
      have htz : (Lend.strOf (txE (L.take k))).size ≤ 512000 := by rw [ssize]; exact htn
      have HF := Lib.hid (show Lend.strOf (txE (L.take k)) ++ P ++ Lend.strOf x.key ++ Q' ++ Lend.strOf x.val = Lend.strOf (txE (L.take (k + 1))) by
        rw [hP, hQ', sapp, sapp, sapp, sapp, HTS.out, hkb, hvb]
        unfold txe len8
        simp)
      have HCP := Lib.hid (fun (W : World) (G : Nat) (hG : Has W G 5 [.int .u8 kb]) => conv_has (n := kb) (by omega) hG)
      have HCQ := Lib.hid (fun (W : World) (G : Nat) (hG : Has W G 5 [.int .u8 vb]) => conv_has (n := vb) (by omega) hG)
      rw [← hP] at HCP
      rw [← hQ'] at HCQ
      have hw8k : IntKind.u8.wrap (kb : Int) = kb := by rw [IntKind.wrap_u8]; omega
      have hw8v : IntKind.u8.wrap (vb : Int) = vb := by rw [IntKind.wrap_u8]; omega
      have HW8K := Lib.hid hw8k
      have HW8V := Lib.hid hw8v
      obtain ⟨T, hT⟩ : ∃ z, z = Lend.strOf (txE (L.take k)) := ⟨_, rfl⟩
      obtain ⟨K, hK⟩ : ∃ z, z = Lend.strOf x.key := ⟨_, rfl⟩
      obtain ⟨V, hV⟩ : ∃ z, z = Lend.strOf x.val := ⟨_, rfl⟩
      rw [← hT] at htz HF ⊢
      rw [← hK] at HC0 hkz HF
      rw [← hV] at HC1 hvz HF
      obtain ⟨R1, hR1⟩ : ∃ z, z = T ++ P := ⟨_, rfl⟩
      obtain ⟨R2, hR2⟩ : ∃ z, z = R1 ++ K := ⟨_, rfl⟩
      obtain ⟨R3, hR3⟩ : ∃ z, z = R2 ++ Q' := ⟨_, rfl⟩
      obtain ⟨R4, hR4⟩ : ∃ z, z = R3 ++ V := ⟨_, rfl⟩
      rw [← hR1, ← hR2, ← hR3, ← hR4] at HF
      have hz1 : ¬ 9223372036854775807 < T.size + P.size := by omega
      have z1 : R1.size = T.size + P.size := by rw [hR1, ByteArray.size_append]
      have hz2 : ¬ 9223372036854775807 < R1.size + K.size := by omega
      have z2 : R2.size = R1.size + K.size := by rw [hR2, ByteArray.size_append]
      have hz3 : ¬ 9223372036854775807 < R2.size + Q'.size := by omega
      have z3 : R3.size = R2.size + Q'.size := by rw [hR3, ByteArray.size_append]
      have hz4 : ¬ 9223372036854775807 < R3.size + V.size := by omega
      have E1 := Lib.hid hR1
      have E2 := Lib.hid hR2
      have E3 := Lib.hid hR3
      have E4 := Lib.hid hR4
      have HKZ := Lib.hid hkz
      have HVZ := Lib.hid hvz
      have HZ := Lib.hid (show ¬ 9223372036854775807 < T.size + P.size ∧ ¬ 9223372036854775807 < R1.size + K.size ∧ ¬ 9223372036854775807 < R2.size + Q'.size ∧ ¬ 9223372036854775807 < R3.size + V.size from ⟨hz1, hz2, hz3, hz4⟩)
      clear hx hkb hvb hP hQ' hpz hqz htz hkz hvz hT hK hV hR1 hR2 hR3 hR4 hz1 hz2 hz3 hz4 z1 z2 z3 htn hsh hw8k hw8v hke
      go_upto_region 4 with fail
      refine Reg.region_vals3 (by kernel_rfl) [(11, .string T), (12, .slice (some ⟨g, off, none⟩) n cap), (13, .int .i64 (k : Nat)), (14, .pointer (some ⟨g, off + k * 2, none⟩)), (15, .pointer (some ⟨g, off + k * 2, none⟩)), (16, .string K), (17, .int .i64 (kb : Nat)), (18, .int .u8 (kb : Nat)), (20, .string P), (21, .string R1), (22, .slice (some ⟨g, off, none⟩) n cap), (23, .int .i64 (k : Nat)), (24, .pointer (some ⟨g, off + k * 2, none⟩)), (25, .pointer (some ⟨g, off + k * 2, none⟩)), (26, .string K), (27, .string R2), (28, .slice (some ⟨g, off, none⟩) n cap), (29, .int .i64 (k : Nat)), (30, .pointer (some ⟨g, off + k * 2, none⟩)), (31, .pointer (some ⟨g, off + k * 2 + 1, none⟩)), (32, .string V), (33, .int .i64 (vb : Nat)), (34, .int .u8 (vb : Nat)), (36, .string Q'), (37, .string R3), (38, .slice (some ⟨g, off, none⟩) n cap), (39, .int .i64 (k : Nat)), (40, .pointer (some ⟨g, off + k * 2, none⟩)), (41, .pointer (some ⟨g, off + k * 2 + 1, none⟩)), (42, .string V), (43, .string R4), (3, .string R4)] [19, 35] (Tx wr kb vb) ?a1 ?a2 ?a3 ?a4 ?a5 ?a6 ?a7 ?hend
      case a1 => kernel_rfl
      case a2 => kernel_rfl
      case a3 => kernel_rfl
      case a4 => kernel_rfl
      case a5 => kernel_rfl
      case a6 => exact Tx.start _ _ _ _
      case a7 =>
        refine ⟨?_, ?_, ?_, ?_, ?_, ?_, ?_, ?_, ?_, ?_, ?_, ?_, ?_, ?_, ?_, ?_, ?_, ?_, ?_, ?_, ?_, ?_, ?_, ?_, ?_, ?_, ?_, ?_, ?_, ?_, ?_, ?_, ?_, ?_, trivial⟩
        · intro aq wq lq hz hI hl hdone hlater hold hd ho
          have h3 : aq.tmps.getD 3 undef = .string T := hold 33 3 (by kernel_rfl) (hlater 33 (by kernel_rfl))
          clear hd ho hdone hlater hold
          have hc : 11 < aq.tmps.size := (by have hz' : aq.tmps.size = 45 := hz; omega)
          exact Reg.step3_move (.tmp 3) rfl h3 (hI.keep _ (by omega) (by omega) (by omega) (by omega) hc) trivial
        · intro aq wq lq hz hI hl hdone hlater hold hd ho
          have h0 : aq.tmps.getD 0 undef = .slice (some ⟨g, off, none⟩) n cap := ho 0 (by kernel_rfl)
          clear hd ho hdone hlater hold
          have hc : 12 < aq.tmps.size := (by have hz' : aq.tmps.size = 45 := hz; omega)
          exact Reg.step3_move (.tmp 0) rfl h0 (hI.keep _ (by omega) (by omega) (by omega) (by omega) hc) trivial
        · intro aq wq lq hz hI hl hdone hlater hold hd ho
          have h4 : aq.tmps.getD 4 undef = .int .i64 (k : Nat) := ho 4 (by kernel_rfl)
          clear hd ho hdone hlater hold
          have hc : 13 < aq.tmps.size := (by have hz' : aq.tmps.size = 45 := hz; omega)
          exact Reg.step3_move (.tmp 4) rfl h4 (hI.keep _ (by omega) (by omega) (by omega) (by omega) hc) trivial
        · intro aq wq lq hz hI hl hdone hlater hold hd ho
          have h12 : aq.tmps.getD 12 undef = .slice (some ⟨g, off, none⟩) n cap := hd 12 (by kernel_rfl)
          have h13 : aq.tmps.getD 13 undef = .int .i64 (k : Nat) := hd 13 (by kernel_rfl)
          clear hd ho hdone hlater hold
          have hc : 14 < aq.tmps.size := (by have hz' : aq.tmps.size = 45 := hz; omega)
          rw [Array.getD_eq_getD_getElem?] at h12 h13
          refine Reg.step3_val (.pointer (some ⟨g, off + k * 2, none⟩)) ?_ rfl (hI.keep _ (by omega) (by omega) (by omega) (by omega) hc) trivial
          clear hI hz hc
          go_simp
        · intro aq wq lq hz hI hl hdone hlater hold hd ho
          have h14 : aq.tmps.getD 14 undef = .pointer (some ⟨g, off + k * 2, none⟩) := hd 14 (by kernel_rfl)
          clear hd ho hdone hlater hold
          have hc : 15 < aq.tmps.size := (by have hz' : aq.tmps.size = 45 := hz; omega)
          rw [Array.getD_eq_getD_getElem?] at h14
          refine Reg.step3_val (.pointer (some ⟨g, off + k * 2, none⟩)) ?_ rfl (hI.keep _ (by omega) (by omega) (by omega) (by omega) hc) trivial
          clear hI hz hc
          go_simp
        · intro aq wq lq hz hI hl hdone hlater hold hd ho
          have h15 : aq.tmps.getD 15 undef = .pointer (some ⟨g, off + k * 2, none⟩) := hd 15 (by kernel_rfl)
          clear hd ho hdone hlater hold
          have hc : 16 < aq.tmps.size := (by have hz' : aq.tmps.size = 45 := hz; omega)
          have e0 := (show wq.cell? ⟨g, off + k * 2, none⟩ = some (.string K) from keep1 HC0.out hI.bel)
          rw [Array.getD_eq_getD_getElem?] at h15
          refine Reg.step3_val (.string K) ?_ rfl (hI.keep _ (by omega) (by omega) (by omega) (by omega) hc) trivial
          clear hI hz hc
          go_simp
        · intro aq wq lq hz hI hl hdone hlater hold hd ho
          have h16 : aq.tmps.getD 16 undef = .string K := hd 16 (by kernel_rfl)
          clear hd ho hdone hlater hold
          have hc : 17 < aq.tmps.size := (by have hz' : aq.tmps.size = 45 := hz; omega)
          have hkz := HKZ.out
          rw [Array.getD_eq_getD_getElem?] at h16
          refine Reg.step3_val (.int .i64 (kb : Nat)) ?_ rfl (hI.keep _ (by omega) (by omega) (by omega) (by omega) hc) trivial
          clear hI hz hc
          simp [execOp]
          go_simp
        · intro aq wq lq hz hI hl hdone hlater hold hd ho
          have h17 : aq.tmps.getD 17 undef = .int .i64 (kb : Nat) := hd 17 (by kernel_rfl)
          clear hd ho hdone hlater hold
          have hc : 18 < aq.tmps.size := (by have hz' : aq.tmps.size = 45 := hz; omega)
          have hw := HW8K.out
          rw [Array.getD_eq_getD_getElem?] at h17
          refine Reg.step3_val (.int .u8 (kb : Nat)) ?_ rfl (hI.keep _ (by omega) (by omega) (by omega) (by omega) hc) trivial
          clear hI hz hc
          go_simp
        · intro aq wq lq hz hI hl hdone hlater hold hd ho
          have h18 : aq.tmps.getD 18 undef = .int .u8 (kb : Nat) := hd 18 (by kernel_rfl)
          clear hd ho hdone hlater hold
          have hc : 19 < aq.tmps.size := (by have hz' : aq.tmps.size = 45 := hz; omega)
          rw [Array.getD_eq_getD_getElem?] at h18
          refine Reg.step3_do (.slice (some ⟨wq.heap.size, 0, none⟩) 1 1) (wq.alloc (.cells #[.int .u8 kb] 5)) ?_ trivial (hI.b8 hc) trivial
          clear hI hz hc
          simp [execOp]
          go_simp
        · intro aq wq lq hz hI hl hdone hlater hold hd ho
          have hb : lq 8 = true := hdone 8 (by kernel_rfl)
          clear hd ho hdone hlater hold
          have hc : 20 < aq.tmps.size := (by have hz' : aq.tmps.size = 45 := hz; omega)
          obtain ⟨G, h1, h2⟩ := hI.p hb
          have hcv := HCP.out wq G h2
          rw [Array.getD_eq_getD_getElem?] at h1
          refine Reg.step3_val (.string P) ?_ rfl (hI.keep _ (by omega) (by omega) (by omega) (by omega) hc) trivial
          clear hI hz hc h2
          simp [execOp, Act.eval, h1, hcv]
        · intro aq wq lq hz hI hl hdone hlater hold hd ho
          have h11 : aq.tmps.getD 11 undef = .string T := hd 11 (by kernel_rfl)
          have h20 : aq.tmps.getD 20 undef = .string P := hd 20 (by kernel_rfl)
          clear hd ho hdone hlater hold
          have hc : 21 < aq.tmps.size := (by have hz' : aq.tmps.size = 45 := hz; omega)
          have hz := HZ.out.1
          have hr := E1.out
          rw [Array.getD_eq_getD_getElem?] at h11 h20
          refine Reg.step3_val (.string R1) ?_ rfl (hI.keep _ (by omega) (by omega) (by omega) (by omega) hc) trivial
          clear hI hz hc
          simp [execOp, Act.eval, h11, h20]
          try go_simp
          try rw [hr]
          have hq := HZ.out.1
          omega
        · intro aq wq lq hz hI hl hdone hlater hold hd ho
          have h0 : aq.tmps.getD 0 undef = .slice (some ⟨g, off, none⟩) n cap := ho 0 (by kernel_rfl)
          clear hd ho hdone hlater hold
          have hc : 22 < aq.tmps.size := (by have hz' : aq.tmps.size = 45 := hz; omega)
          exact Reg.step3_move (.tmp 0) rfl h0 (hI.keep _ (by omega) (by omega) (by omega) (by omega) hc) trivial
        · intro aq wq lq hz hI hl hdone hlater hold hd ho
          have h4 : aq.tmps.getD 4 undef = .int .i64 (k : Nat) := ho 4 (by kernel_rfl)
          clear hd ho hdone hlater hold
          have hc : 23 < aq.tmps.size := (by have hz' : aq.tmps.size = 45 := hz; omega)
          exact Reg.step3_move (.tmp 4) rfl h4 (hI.keep _ (by omega) (by omega) (by omega) (by omega) hc) trivial
        · intro aq wq lq hz hI hl hdone hlater hold hd ho
          have h22 : aq.tmps.getD 22 undef = .slice (some ⟨g, off, none⟩) n cap := hd 22 (by kernel_rfl)
          have h23 : aq.tmps.getD 23 undef = .int .i64 (k : Nat) := hd 23 (by kernel_rfl)
          clear hd ho hdone hlater hold
          have hc : 24 < aq.tmps.size := (by have hz' : aq.tmps.size = 45 := hz; omega)
          rw [Array.getD_eq_getD_getElem?] at h22 h23
          refine Reg.step3_val (.pointer (some ⟨g, off + k * 2, none⟩)) ?_ rfl (hI.keep _ (by omega) (by omega) (by omega) (by omega) hc) trivial
          clear hI hz hc
          go_simp
        · intro aq wq lq hz hI hl hdone hlater hold hd ho
          have h24 : aq.tmps.getD 24 undef = .pointer (some ⟨g, off + k * 2, none⟩) := hd 24 (by kernel_rfl)
          clear hd ho hdone hlater hold
          have hc : 25 < aq.tmps.size := (by have hz' : aq.tmps.size = 45 := hz; omega)
          rw [Array.getD_eq_getD_getElem?] at h24
          refine Reg.step3_val (.pointer (some ⟨g, off + k * 2, none⟩)) ?_ rfl (hI.keep _ (by omega) (by omega) (by omega) (by omega) hc) trivial
          clear hI hz hc
          go_simp
        · intro aq wq lq hz hI hl hdone hlater hold hd ho
          have h25 : aq.tmps.getD 25 undef = .pointer (some ⟨g, off + k * 2, none⟩) := hd 25 (by kernel_rfl)
          clear hd ho hdone hlater hold
          have hc : 26 < aq.tmps.size := (by have hz' : aq.tmps.size = 45 := hz; omega)
          have e0 := (show wq.cell? ⟨g, off + k * 2, none⟩ = some (.string K) from keep1 HC0.out hI.bel)
          rw [Array.getD_eq_getD_getElem?] at h25
          refine Reg.step3_val (.string K) ?_ rfl (hI.keep _ (by omega) (by omega) (by omega) (by omega) hc) trivial
          clear hI hz hc
          go_simp
        · intro aq wq lq hz hI hl hdone hlater hold hd ho
          have h21 : aq.tmps.getD 21 undef = .string R1 := hd 21 (by kernel_rfl)
          have h26 : aq.tmps.getD 26 undef = .string K := hd 26 (by kernel_rfl)
          clear hd ho hdone hlater hold
          have hc : 27 < aq.tmps.size := (by have hz' : aq.tmps.size = 45 := hz; omega)
          have hz := HZ.out.2.1
          have hr := E2.out
          rw [Array.getD_eq_getD_getElem?] at h21 h26
          refine Reg.step3_val (.string R2) ?_ rfl (hI.keep _ (by omega) (by omega) (by omega) (by omega) hc) trivial
          clear hI hz hc
          simp [execOp, Act.eval, h21, h26]
          try go_simp
          try rw [hr]
          have hq := HZ.out.2.1
          omega
        · intro aq wq lq hz hI hl hdone hlater hold hd ho
          have h0 : aq.tmps.getD 0 undef = .slice (some ⟨g, off, none⟩) n cap := ho 0 (by kernel_rfl)
          clear hd ho hdone hlater hold
          have hc : 28 < aq.tmps.size := (by have hz' : aq.tmps.size = 45 := hz; omega)
          exact Reg.step3_move (.tmp 0) rfl h0 (hI.keep _ (by omega) (by omega) (by omega) (by omega) hc) trivial
        · intro aq wq lq hz hI hl hdone hlater hold hd ho
          have h4 : aq.tmps.getD 4 undef = .int .i64 (k : Nat) := ho 4 (by kernel_rfl)
          clear hd ho hdone hlater hold
          have hc : 29 < aq.tmps.size := (by have hz' : aq.tmps.size = 45 := hz; omega)
          exact Reg.step3_move (.tmp 4) rfl h4 (hI.keep _ (by omega) (by omega) (by omega) (by omega) hc) trivial
        · intro aq wq lq hz hI hl hdone hlater hold hd ho
          have h28 : aq.tmps.getD 28 undef = .slice (some ⟨g, off, none⟩) n cap := hd 28 (by kernel_rfl)
          have h29 : aq.tmps.getD 29 undef = .int .i64 (k : Nat) := hd 29 (by kernel_rfl)
          clear hd ho hdone hlater hold
          have hc : 30 < aq.tmps.size := (by have hz' : aq.tmps.size = 45 := hz; omega)
          rw [Array.getD_eq_getD_getElem?] at h28 h29
          refine Reg.step3_val (.pointer (some ⟨g, off + k * 2, none⟩)) ?_ rfl (hI.keep _ (by omega) (by omega) (by omega) (by omega) hc) trivial
          clear hI hz hc
          go_simp
        · intro aq wq lq hz hI hl hdone hlater hold hd ho
          have h30 : aq.tmps.getD 30 undef = .pointer (some ⟨g, off + k * 2, none⟩) := hd 30 (by kernel_rfl)
          clear hd ho hdone hlater hold
          have hc : 31 < aq.tmps.size := (by have hz' : aq.tmps.size = 45 := hz; omega)
          rw [Array.getD_eq_getD_getElem?] at h30
          refine Reg.step3_val (.pointer (some ⟨g, off + k * 2 + 1, none⟩)) ?_ rfl (hI.keep _ (by omega) (by omega) (by omega) (by omega) hc) trivial
          clear hI hz hc
          go_simp
        · intro aq wq lq hz hI hl hdone hlater hold hd ho
          have h31 : aq.tmps.getD 31 undef = .pointer (some ⟨g, off + k * 2 + 1, none⟩) := hd 31 (by kernel_rfl)
          clear hd ho hdone hlater hold
          have hc : 32 < aq.tmps.size := (by have hz' : aq.tmps.size = 45 := hz; omega)
          have e0 := (show wq.cell? ⟨g, off + k * 2 + 1, none⟩ = some (.string V) from keep1 HC1.out hI.bel)
          rw [Array.getD_eq_getD_getElem?] at h31
          refine Reg.step3_val (.string V) ?_ rfl (hI.keep _ (by omega) (by omega) (by omega) (by omega) hc) trivial
          clear hI hz hc
          go_simp
        · intro aq wq lq hz hI hl hdone hlater hold hd ho
          have h32 : aq.tmps.getD 32 undef = .string V := hd 32 (by kernel_rfl)
          clear hd ho hdone hlater hold
          have hc : 33 < aq.tmps.size := (by have hz' : aq.tmps.size = 45 := hz; omega)
          have hkz := HVZ.out
          rw [Array.getD_eq_getD_getElem?] at h32
          refine Reg.step3_val (.int .i64 (vb : Nat)) ?_ rfl (hI.keep _ (by omega) (by omega) (by omega) (by omega) hc) trivial
          clear hI hz hc
          simp [execOp]
          go_simp
        · intro aq wq lq hz hI hl hdone hlater hold hd ho
          have h33 : aq.tmps.getD 33 undef = .int .i64 (vb : Nat) := hd 33 (by kernel_rfl)
          clear hd ho hdone hlater hold
          have hc : 34 < aq.tmps.size := (by have hz' : aq.tmps.size = 45 := hz; omega)
          have hw := HW8V.out
          rw [Array.getD_eq_getD_getElem?] at h33
          refine Reg.step3_val (.int .u8 (vb : Nat)) ?_ rfl (hI.keep _ (by omega) (by omega) (by omega) (by omega) hc) trivial
          clear hI hz hc
          go_simp
        · intro aq wq lq hz hI hl hdone hlater hold hd ho
          have h34 : aq.tmps.getD 34 undef = .int .u8 (vb : Nat) := hd 34 (by kernel_rfl)
          clear hd ho hdone hlater hold
          have hc : 35 < aq.tmps.size := (by have hz' : aq.tmps.size = 45 := hz; omega)
          rw [Array.getD_eq_getD_getElem?] at h34
          refine Reg.step3_do (.slice (some ⟨wq.heap.size, 0, none⟩) 1 1) (wq.alloc (.cells #[.int .u8 vb] 5)) ?_ trivial (hI.b24 hc) trivial
          clear hI hz hc
          simp [execOp]
          go_simp
        · intro aq wq lq hz hI hl hdone hlater hold hd ho
          have hb : lq 24 = true := hdone 24 (by kernel_rfl)
          clear hd ho hdone hlater hold
          have hc : 36 < aq.tmps.size := (by have hz' : aq.tmps.size = 45 := hz; omega)
          obtain ⟨G, h1, h2⟩ := hI.q hb
          have hcv := HCQ.out wq G h2
          rw [Array.getD_eq_getD_getElem?] at h1
          refine Reg.step3_val (.string Q') ?_ rfl (hI.keep _ (by omega) (by omega) (by omega) (by omega) hc) trivial
          clear hI hz hc h2
          simp [execOp, Act.eval, h1, hcv]
        · intro aq wq lq hz hI hl hdone hlater hold hd ho
          have h27 : aq.tmps.getD 27 undef = .string R2 := hd 27 (by kernel_rfl)
          have h36 : aq.tmps.getD 36 undef = .string Q' := hd 36 (by kernel_rfl)
          clear hd ho hdone hlater hold
          have hc : 37 < aq.tmps.size := (by have hz' : aq.tmps.size = 45 := hz; omega)
          have hz := HZ.out.2.2.1
          have hr := E3.out
          rw [Array.getD_eq_getD_getElem?] at h27 h36
          refine Reg.step3_val (.string R3) ?_ rfl (hI.keep _ (by omega) (by omega) (by omega) (by omega) hc) trivial
          clear hI hz hc
          simp [execOp, Act.eval, h27, h36]
          try go_simp
          try rw [hr]
          have hq := HZ.out.2.2.1
          omega
        · intro aq wq lq hz hI hl hdone hlater hold hd ho
          have h0 : aq.tmps.getD 0 undef = .slice (some ⟨g, off, none⟩) n cap := ho 0 (by kernel_rfl)
          clear hd ho hdone hlater hold
          have hc : 38 < aq.tmps.size := (by have hz' : aq.tmps.size = 45 := hz; omega)
          exact Reg.step3_move (.tmp 0) rfl h0 (hI.keep _ (by omega) (by omega) (by omega) (by omega) hc) trivial
        · intro aq wq lq hz hI hl hdone hlater hold hd ho
          have h4 : aq.tmps.getD 4 undef = .int .i64 (k : Nat) := ho 4 (by kernel_rfl)
          clear hd ho hdone hlater hold
          have hc : 39 < aq.tmps.size := (by have hz' : aq.tmps.size = 45 := hz; omega)
          exact Reg.step3_move (.tmp 4) rfl h4 (hI.keep _ (by omega) (by omega) (by omega) (by omega) hc) trivial
        · intro aq wq lq hz hI hl hdone hlater hold hd ho
          have h38 : aq.tmps.getD 38 undef = .slice (some ⟨g, off, none⟩) n cap := hd 38 (by kernel_rfl)
          have h39 : aq.tmps.getD 39 undef = .int .i64 (k : Nat) := hd 39 (by kernel_rfl)
          clear hd ho hdone hlater hold
          have hc : 40 < aq.tmps.size := (by have hz' : aq.tmps.size = 45 := hz; omega)
          rw [Array.getD_eq_getD_getElem?] at h38 h39
          refine Reg.step3_val (.pointer (some ⟨g, off + k * 2, none⟩)) ?_ rfl (hI.keep _ (by omega) (by omega) (by omega) (by omega) hc) trivial
          clear hI hz hc
          go_simp
        · intro aq wq lq hz hI hl hdone hlater hold hd ho
          have h40 : aq.tmps.getD 40 undef = .pointer (some ⟨g, off + k * 2, none⟩) := hd 40 (by kernel_rfl)
          clear hd ho hdone hlater hold
          have hc : 41 < aq.tmps.size := (by have hz' : aq.tmps.size = 45 := hz; omega)
          rw [Array.getD_eq_getD_getElem?] at h40
          refine Reg.step3_val (.pointer (some ⟨g, off + k * 2 + 1, none⟩)) ?_ rfl (hI.keep _ (by omega) (by omega) (by omega) (by omega) hc) trivial
          clear hI hz hc
          go_simp
        · intro aq wq lq hz hI hl hdone hlater hold hd ho
          have h41 : aq.tmps.getD 41 undef = .pointer (some ⟨g, off + k * 2 + 1, none⟩) := hd 41 (by kernel_rfl)
          clear hd ho hdone hlater hold
          have hc : 42 < aq.tmps.size := (by have hz' : aq.tmps.size = 45 := hz; omega)
          have e0 := (show wq.cell? ⟨g, off + k * 2 + 1, none⟩ = some (.string V) from keep1 HC1.out hI.bel)
          rw [Array.getD_eq_getD_getElem?] at h41
          refine Reg.step3_val (.string V) ?_ rfl (hI.keep _ (by omega) (by omega) (by omega) (by omega) hc) trivial
          clear hI hz hc
          go_simp
        · intro aq wq lq hz hI hl hdone hlater hold hd ho
          have h37 : aq.tmps.getD 37 undef = .string R3 := hd 37 (by kernel_rfl)
          have h42 : aq.tmps.getD 42 undef = .string V := hd 42 (by kernel_rfl)
          clear hd ho hdone hlater hold
          have hc : 43 < aq.tmps.size := (by have hz' : aq.tmps.size = 45 := hz; omega)
          have hz := HZ.out.2.2.2
          have hr := E4.out
          rw [Array.getD_eq_getD_getElem?] at h37 h42
          refine Reg.step3_val (.string R4) ?_ rfl (hI.keep _ (by omega) (by omega) (by omega) (by omega) hc) trivial
          clear hI hz hc
          simp [execOp, Act.eval, h37, h42]
          try go_simp
          try rw [hr]
          have hq := HZ.out.2.2.2
          omega
        · intro aq wq lq hz hI hl hdone hlater hold hd ho
          have h43 : aq.tmps.getD 43 undef = .string R4 := hd 43 (by kernel_rfl)
          clear hd ho hdone hlater hold
          have hc : 3 < aq.tmps.size := (by have hz' : aq.tmps.size = 45 := hz; omega)
          exact Reg.step3_assign (.tmp 43) rfl h43 (hI.keep _ (by omega) (by omega) (by omega) (by omega) hc) trivial
      case hend =>
        intro w8 vs aq hv hI
        have HB8 := Lib.hid (below_on HB.out hI.bel)
        clear hv hI
        simp only [Reg.fill, List.map_cons, List.map_nil, List.foldl_cons, List.foldl_nil, List.setIfInBounds_toArray, List.set_cons_zero, List.set_cons_succ]
        generalize vs 19 = v19 at *
        generalize vs 35 = v35 at *
        go_wp2_with fail
        go_roundw
        case rel => exact ⟨k + 1, by omega, by go_num, by rw [HF.out], HB8.out⟩
        case measure => simp [intOf]; omega
    · obtain rfl : k = n := by omega
      have hki : ¬ (k : Int) < (k : Int) := by omega
      have htk : L.take k = L := List.take_of_length_le (by rw [← HN.out]; exact Nat.le_refl _)
      rw [htk]
      clear htk
      go_wp2_with fail
      go_ret
      exact ⟨rfl, HB.out⟩
end Go.Proofs.Ytfmbjepjmjcgeaa.Leaf
