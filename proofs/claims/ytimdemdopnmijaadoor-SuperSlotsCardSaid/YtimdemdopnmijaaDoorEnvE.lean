/- Contracts of layer 4 (env): Seal. -/
import Derived.Lib.Repeat
import Derived.Test.YtimdemdopnmijaaDoorEnvD
namespace Go.Proofs.YtimdemdopnmijaaDoor.Env
open Go.RowKit Go.Proofs.YtimdemdopnmijaaDoor Go.Proofs.YtimdemdopnmijaaDoor.Lend
set_option linter.unusedVariables false

theorem repeat_zeros (c : Nat) : (⟨(Lib.repeatL (⟨#[0]⟩ : ByteArray).data.toList c).toArray⟩ : ByteArray) = strOf (zeros c) := by
  apply strOf_ext
  show Lib.repeatL [0] c = zeros c
  induction c with
  | zero => rfl
  | succ c ih => simp only [Lib.repeatL, ih, zeros, List.replicate_succ]; rfl
/-- what 'Seal' answers -/
def sealE (size k a : Int) (pl : List UInt8) : Int := if szB size = true ∧ hdB k a = true then (if (pl.length : Int) ≤ size - 24 then 0 else 20) else 2
def sealS (size k a g : Int) (pl : List UInt8) : ByteArray := if sealE size k a pl = 0 then strOf (imgL k a g (size - 24).toNat pl) else ⟨#[]⟩
def sealA (size k a : Int) (pl : List UInt8) : Int := if sealE size k a pl = 0 then a else 0
def sealG (size k a g : Int) (pl : List UInt8) : Int := if sealE size k a pl = 0 then g else 0
def sealC (size k a g : Int) (pl : List UInt8) : Int := if sealE size k a pl = 0 then (ckL k pl.length a g (bodyL (size - 24).toNat pl) : Int) else 0
def sealV (size k a g : Int) (pl : List UInt8) : Value := .tuple #[.string (sealS size k a g pl), .agg #[.int .i64 (sealA size k a pl), .int .u64 (sealG size k a g pl), .int .u32 (sealC size k a g pl)], .int .i64 (sealE size k a pl)]
def noSeal (e : Int) : Value := .tuple #[.string ⟨#[]⟩, .agg #[.int .i64 0, .int .u64 0, .int .u32 0], .int .i64 e]
theorem sealV_no {size k a g : Int} {pl : List UInt8} {e : Int} (h : sealE size k a pl = e) (he : e ≠ 0) : sealV size k a g pl = noSeal e := by
  simp only [sealV, sealS, sealA, sealG, sealC, h, if_neg he, noSeal]
theorem sealV_yes {size k a g : Int} {pl : List UInt8} (h : sealE size k a pl = 0) :
    sealV size k a g pl = .tuple #[.string (strOf (imgL k a g (size - 24).toNat pl)), .agg #[.int .i64 a, .int .u64 g, .int .u32 (ckL k pl.length a g (bodyL (size - 24).toNat pl) : Int)], .int .i64 0] := by
  simp only [sealV, sealS, sealA, sealG, sealC, h, if_true]
theorem sealE_arg {size k a : Int} {pl : List UInt8} (h : szB size = false ∨ hdB k a = false) : sealE size k a pl = 2 := by
  rw [sealE, if_neg]; rintro ⟨h1, h2⟩; rcases h with h | h
  · rw [h] at h1; cases h1
  · rw [h] at h2; cases h2
theorem sealE_long {size k a : Int} {pl : List UInt8} (h1 : szB size = true) (h2 : hdB k a = true) (h : size - 24 < (pl.length : Int)) : sealE size k a pl = 20 := by
  rw [sealE, if_pos ⟨h1, h2⟩, if_neg (by omega)]
theorem sealE_ok {size k a : Int} {pl : List UInt8} (h1 : szB size = true) (h2 : hdB k a = true) (h : (pl.length : Int) ≤ size - 24) : sealE size k a pl = 0 := by
  rw [sealE, if_pos ⟨h1, h2⟩, if_pos h]
theorem seal_nil (size k a g : Int) (pl : ByteArray) (w : World) :
    Calls Tryd.prog 19 #[.pointer none, .int .i64 size, .agg #[.int .u8 k, .int .i64 a, .int .u64 g], .string pl] w fun e w' => e = .returned (noSeal 1) ∧ Below w.heap.size w w' := by
  go_enter Tryd.func19, Tryd.ntmps19
  go_wp2_with fail
  refine bodyPost_ret (v := noSeal 1) (by simp [results, Tryd.results19, go_sem, noSeal]) rfl ⟨rfl, ?_⟩
  repeat (first | exact Below.refl _ _ | apply below_nw | refine below_st ?_ (Nat.le_succ _) _)
theorem hdB_bd {k a : Int} (h : hdB k a = true) : 1 ≤ k ∧ k ≤ 5 ∧ 0 ≤ a ∧ a ≤ 2147483647 := by
  simp only [hdB, adB, Bool.and_eq_true, decide_eq_true_eq] at h
  exact ⟨h.1, h.2.1, h.2.2.1, h.2.2.2⟩
theorem set3_Sd {W : World} {c b : Nat} {x y z u v t : Value} (h : W.cell? ⟨c, 0, none⟩ = some x ∧ W.cell? ⟨c, 1, none⟩ = some y ∧ W.cell? ⟨c, 2, none⟩ = some z) (hn : c ≠ b) :
    (((W.setCell ⟨b, 0, none⟩ u).setCell ⟨b, 1, none⟩ v).setCell ⟨b, 2, none⟩ t).drew.cell? ⟨c, 0, none⟩ = some x ∧ (((W.setCell ⟨b, 0, none⟩ u).setCell ⟨b, 1, none⟩ v).setCell ⟨b, 2, none⟩ t).drew.cell? ⟨c, 1, none⟩ = some y ∧ (((W.setCell ⟨b, 0, none⟩ u).setCell ⟨b, 1, none⟩ v).setCell ⟨b, 2, none⟩ t).drew.cell? ⟨c, 2, none⟩ = some z := set3_S h hn
set_option maxHeartbeats 4000000 in
set_option maxRecDepth 100000 in
theorem seal_any (b : Nat) (size k a g : Int) (pl : ByteArray) (w : World) (ht : Sum.IsTab w b) (hg0 : 0 ≤ g) (hg1 : g < 18446744073709551616) (hp : pl.size ≤ 1000000) :
    Calls Tryd.prog 19 #[.pointer (some ⟨b, 0, none⟩), .int .i64 size, .agg #[.int .u8 k, .int .i64 a, .int .u64 g], .string pl] w fun e w' => e = .returned (sealV size k a g pl.data.toList) ∧ Below w.heap.size w w' := by
  have hpl : pl.data.toList.length = pl.size := by simp
  cases h1 : szB size with
  | false =>
    have HV := Lib.hid (sealV_no (g := g) (sealE_arg (k := k) (a := a) (pl := pl.data.toList) (.inl h1)) (by decide))
    have H1 := Lib.hid h1
    clear h1 hpl ht hg1
    go_enter Tryd.func19, Tryd.ntmps19
    go_wp2_with (go_at_call 33; refine (rightSize_any _ _).mono ?_; rintro e w' ⟨rfl, rfl⟩; rw [H1.out])
    refine bodyPost_ret (v := noSeal 2) (by simp [results, Tryd.results19, go_sem, noSeal]) rfl ⟨by rw [HV.out], ?_⟩
    repeat (first | exact Below.refl _ _ | apply below_nw | refine below_st ?_ (Nat.le_succ _) _)
  | true =>
    cases h2 : hdB k a with
    | false =>
      have HV := Lib.hid (sealV_no (g := g) (sealE_arg (size := size) (pl := pl.data.toList) (.inr h2)) (by decide))
      have H1 := Lib.hid h1
      have H2 := Lib.hid h2
      clear h1 h2 hpl ht hg1
      go_enter Tryd.func19, Tryd.ntmps19
      go_wp2_with fail
      refine (rightSize_any _ _).mono ?_
      rintro e w' ⟨rfl, rfl⟩
      rw [H1.out]
      go_wp2_with fail
      refine (headRight_any k a g _).mono ?_
      rintro e w1 ⟨rfl, hb1⟩
      rw [H2.out]
      have hw1 : w.heap.size + 1 < w1.heap.size := by have := hb1.size; simp at this; omega
      have r3 : w1.cell? ⟨w.heap.size + 1, 0, none⟩ = some (.int .i64 0) := by rw [hb1.cell (by simp)]; simp
      have r4 : w1.cell? ⟨w.heap.size + 1, 1, none⟩ = some (.int .u64 0) := by rw [hb1.cell (by simp)]; simp
      have r5 : w1.cell? ⟨w.heap.size + 1, 2, none⟩ = some (.int .u32 0) := by rw [hb1.cell (by simp)]; simp
      have f3 : w1.frozen? ⟨w.heap.size + 1, 0, none⟩ = false := by rw [hb1.frozen (by simp)]; simp
      have f4 : w1.frozen? ⟨w.heap.size + 1, 1, none⟩ = false := by rw [hb1.frozen (by simp)]; simp
      have f5 : w1.frozen? ⟨w.heap.size + 1, 2, none⟩ = false := by rw [hb1.frozen (by simp)]; simp
      have HB1 := Lib.hid (below_on (below_nw (below_new w _) _) hb1)
      clear hb1
      go_wp2_with fail
      refine bodyPost_ret (v := noSeal 2) (by simp [results, Tryd.results19, go_sem, r3, r4, r5, noSeal]) rfl ⟨by rw [HV.out], ?_⟩
      repeat (first | exact HB1.out | apply below_nw | refine below_st ?_ (Nat.le_succ _) _)
    | true =>
      have H1 := Lib.hid h1
      have H2 := Lib.hid h2
      obtain ⟨hr1, hr2, hr3⟩ := roomN_yes h1
      have hsz : 128 ≤ size ∧ size ≤ 1024 := by simpa [szB] using h1
      obtain ⟨hk1, hk2, ha1, ha2⟩ := hdB_bd h2
      obtain ⟨m, hm⟩ : ∃ m : Nat, size - 24 = m := ⟨(size - 24).toNat, by omega⟩
      have HR := Lib.hid (show roomN size = (m : Int) by rw [hr1, hm])
      have hm1 : m ≤ 1000 := by omega
      by_cases hle : pl.size ≤ m
      · have HV := Lib.hid (sealV_yes (g := g) (sealE_ok (pl := pl.data.toList) h1 h2 (by omega)))
        have hf : Fit k pl.size a g 0 := ⟨by omega, by omega, by omega, by omega, by omega, by omega, hg0, hg1, by decide, by decide⟩
        obtain ⟨c, hc⟩ : ∃ c : Nat, c = m - pl.size := ⟨_, rfl⟩
        have hcb : c ≤ 1000 := by omega
        have hsub : (m : Int) - (pl.size : Int) = (c : Int) := by omega
        have HREP := Lib.hid (repeat_zeros c)
        obtain ⟨zs, hzs⟩ : ∃ z, z = strOf (zeros c) := ⟨_, rfl⟩
        have hz1 : zs.size ≤ 1000 := by rw [hzs]; show (zeros c).length ≤ 1000; simp [zeros]; omega
        have hbd : (pl ++ zs).data.toList = bodyL m pl.data.toList := by rw [hzs, bodyL, hpl, ← hc]; simp [strOf]
        obtain ⟨bd, hbd0⟩ : ∃ x, x = pl ++ zs := ⟨_, rfl⟩
        rw [← hbd0] at hbd
        have hbs : bd.size ≤ 3000 := by rw [hbd0]; simp; omega
        have hbs1 : pl.size ≤ 1000 := by omega
        obtain ⟨ck, hck⟩ : ∃ x, x = ckL k pl.size a g bd.data.toList := ⟨_, rfl⟩
        have hckb : (ck : Int) ≤ 4294967295 := by have := ckL_lt k pl.size a g bd.data.toList; omega
        have himg : strOf (hdr k pl.size a g ck) ++ bd = strOf (imgL k a g m pl.data.toList) := by
          apply strOf_ext
          rw [imgL, ← hbd, hpl, ← hck]; simp [strOf]
        have hmm : (size - 24).toNat = m := by omega
        have hy : sealV size k a g pl.data.toList = .tuple #[.string (strOf (imgL k a g m pl.data.toList)), .agg #[.int .i64 a, .int .u64 g, .int .u32 (ck : Int)], .int .i64 0] := by
          rw [HV.out, hmm, ← hbd, hpl, ← hck]
        obtain ⟨V, hV⟩ : ∃ V, V = sealV size k a g pl.data.toList := ⟨_, rfl⟩
        rw [← hV] at hy ⊢
        have HY := Lib.hid hy
        have HF := Lib.hid hf
        have HF2 := Lib.hid (show Fit k pl.size a g ck from ⟨hf.k0, hf.k1, hf.n0, hf.n1, hf.a0, hf.a1, hf.g0, hf.g1, by omega, by omega⟩)
        have HIMG := Lib.hid himg
        have HPL := Lib.hid hpl
        have HZ := Lib.hid hzs
        have HBD := Lib.hid hbd0
        have HCK := Lib.hid hck
        have HSUB := Lib.hid hsub
        have HT := Lib.hid ht
        have hhs : (strOf (hdr k pl.size a g ck)).size ≤ 24 := by show List.length _ ≤ 24; rw [hdr_length]; exact Nat.le_refl _
        clear h1 h2 hpl ht hg1 hr1 hr2 hr3 hsz hm HV hV hf hc hsub hzs hbd hbd0 hck himg hmm hy
        go_enter Tryd.func19, Tryd.ntmps19
        go_wp2_with fail
        refine (rightSize_any _ _).mono ?_
        rintro e w' ⟨rfl, rfl⟩
        rw [H1.out]
        go_wp2_with fail
        refine (headRight_any k a g _).mono ?_
        rintro e w1 ⟨rfl, hb1⟩
        rw [H2.out]
        have hw1 : w.heap.size + 1 < w1.heap.size := by have := hb1.size; simp at this; omega
        have r0 : w1.cell? ⟨w.heap.size, 0, none⟩ = some (.int .u8 k) := by rw [hb1.cell (by simp; omega)]; simp
        have r1 : w1.cell? ⟨w.heap.size, 1, none⟩ = some (.int .i64 a) := by rw [hb1.cell (by simp; omega)]; simp
        have r2 : w1.cell? ⟨w.heap.size, 2, none⟩ = some (.int .u64 g) := by rw [hb1.cell (by simp; omega)]; simp
        have r3 : w1.cell? ⟨w.heap.size + 1, 0, none⟩ = some (.int .i64 0) := by rw [hb1.cell (by simp)]; simp
        have r4 : w1.cell? ⟨w.heap.size + 1, 1, none⟩ = some (.int .u64 0) := by rw [hb1.cell (by simp)]; simp
        have r5 : w1.cell? ⟨w.heap.size + 1, 2, none⟩ = some (.int .u32 0) := by rw [hb1.cell (by simp)]; simp
        have f3 : w1.frozen? ⟨w.heap.size + 1, 0, none⟩ = false := by rw [hb1.frozen (by simp)]; simp
        have f4 : w1.frozen? ⟨w.heap.size + 1, 1, none⟩ = false := by rw [hb1.frozen (by simp)]; simp
        have f5 : w1.frozen? ⟨w.heap.size + 1, 2, none⟩ = false := by rw [hb1.frozen (by simp)]; simp
        have HB1 := Lib.hid (below_on (below_nw (below_new w _) _) hb1)
        clear hb1
        go_wp2_with (go_at_call 35; refine (room_any _ _).mono ?_; rintro e w' ⟨rfl, rfl⟩; rw [HR.out])
        rw [HSUB.out]
        refine (Tryd.strings_Repeat _ c _ (by omega) (by show 1 * c ≤ _; omega)).mono ?_
        rintro e w2 ⟨rfl, hb2⟩
        rw [HREP.out, ← HZ.out]
        have hw2 : w.heap.size + 1 < w2.heap.size := Nat.lt_of_lt_of_le hw1 hb2.size
        have hw0 : w.heap.size < w1.heap.size := by omega
        have q0 : w2.cell? ⟨w.heap.size, 0, none⟩ = some (.int .u8 k) := by rw [hb2.cell hw0]; exact r0
        have q1 : w2.cell? ⟨w.heap.size, 1, none⟩ = some (.int .i64 a) := by rw [hb2.cell hw0]; exact r1
        have q2 : w2.cell? ⟨w.heap.size, 2, none⟩ = some (.int .u64 g) := by rw [hb2.cell hw0]; exact r2
        have q3 : w2.cell? ⟨w.heap.size + 1, 0, none⟩ = some (.int .i64 0) := by rw [hb2.cell hw1]; exact r3
        have q4 : w2.cell? ⟨w.heap.size + 1, 1, none⟩ = some (.int .u64 0) := by rw [hb2.cell hw1]; exact r4
        have q5 : w2.cell? ⟨w.heap.size + 1, 2, none⟩ = some (.int .u32 0) := by rw [hb2.cell hw1]; exact r5
        have y3 : w2.frozen? ⟨w.heap.size + 1, 0, none⟩ = false := by rw [hb2.frozen hw1]; exact f3
        have y4 : w2.frozen? ⟨w.heap.size + 1, 1, none⟩ = false := by rw [hb2.frozen hw1]; exact f4
        have y5 : w2.frozen? ⟨w.heap.size + 1, 2, none⟩ = false := by rw [hb2.frozen hw1]; exact f5
        have HB2 := Lib.hid (below_on HB1.out hb2)
        have HT2 := Lib.hid (tab_on HT.out HB2.out)
        clear hb2 r0 r1 r2 r3 r4 r5 f3 f4 f5
        go_wp2_with fail
        rw [← HBD.out]
        refine (checkOf_any b k pl.size a g bd _ HT2.out HF.out (by omega)).mono ?_
        rintro e w3 ⟨rfl, hb3⟩
        rw [← HCK.out]
        have hw3 : w.heap.size + 1 < w3.heap.size := Nat.lt_of_lt_of_le hw2 hb3.size
        have hw0 : w.heap.size < w2.heap.size := by omega
        have p0 : w3.cell? ⟨w.heap.size, 0, none⟩ = some (.int .u8 k) := by rw [hb3.cell hw0]; exact q0
        have p1 : w3.cell? ⟨w.heap.size, 1, none⟩ = some (.int .i64 a) := by rw [hb3.cell hw0]; exact q1
        have p2 : w3.cell? ⟨w.heap.size, 2, none⟩ = some (.int .u64 g) := by rw [hb3.cell hw0]; exact q2
        have p3 : w3.cell? ⟨w.heap.size + 1, 0, none⟩ = some (.int .i64 0) := by rw [hb3.cell hw2]; exact q3
        have p4 : w3.cell? ⟨w.heap.size + 1, 1, none⟩ = some (.int .u64 0) := by rw [hb3.cell hw2]; exact q4
        have p5 : w3.cell? ⟨w.heap.size + 1, 2, none⟩ = some (.int .u32 0) := by rw [hb3.cell hw2]; exact q5
        have z3 : w3.frozen? ⟨w.heap.size + 1, 0, none⟩ = false := by rw [hb3.frozen hw2]; exact y3
        have z4 : w3.frozen? ⟨w.heap.size + 1, 1, none⟩ = false := by rw [hb3.frozen hw2]; exact y4
        have z5 : w3.frozen? ⟨w.heap.size + 1, 2, none⟩ = false := by rw [hb3.frozen hw2]; exact y5
        have hcat : ¬ 9223372036854775807 < (strOf (hdr k pl.size a g ck)).size + bd.size := by omega
        have HB3 := Lib.hid (below_on HB2.out hb3)
        have hne : w.heap.size ≠ w.heap.size + 1 := by omega
        clear hb3 q0 q1 q2 q3 q4 q5 y3 y4 y5
        go_wp2_with fail
        go_region_held3 (fun W => W.cell? ⟨w.heap.size, 0, none⟩ = some (.int .u8 k) ∧ W.cell? ⟨w.heap.size, 1, none⟩ = some (.int .i64 a) ∧ W.cell? ⟨w.heap.size, 2, none⟩ = some (.int .u64 g))
          (first | with_reducible exact keep3 (by assumption) (by assumption) | with_reducible exact set3_S (by assumption) (by exact hne) | with_reducible exact set3_Sd (by assumption) (by exact hne) | go_keep)
          (first
            | (go_at_call 38
               refine (ahead_any k pl.size a g ck _ HF2.out).mono ?_
               rintro e w4 ⟨rfl, hb4⟩
               have t3 : w4.cell? ⟨w.heap.size + 1, 0, none⟩ = some (.int .i64 0) := by rw [hb4.cell (by exact hw3)]; exact p3
               have t4 : w4.cell? ⟨w.heap.size + 1, 1, none⟩ = some (.int .u64 0) := by rw [hb4.cell (by exact hw3)]; exact p4
               have t5 : w4.cell? ⟨w.heap.size + 1, 2, none⟩ = some (.int .u32 0) := by rw [hb4.cell (by exact hw3)]; exact p5
               have v3 : w4.frozen? ⟨w.heap.size + 1, 0, none⟩ = false := by rw [hb4.frozen (by exact hw3)]; exact z3
               have v4 : w4.frozen? ⟨w.heap.size + 1, 1, none⟩ = false := by rw [hb4.frozen (by exact hw3)]; exact z4
               have v5 : w4.frozen? ⟨w.heap.size + 1, 2, none⟩ = false := by rw [hb4.frozen (by exact hw3)]; exact z5))
        rename_i hend
        have HB5 := Lib.hid (below_on (below_dr HB3.out) hb4)
        clear hend hb4 p0 p1 p2 p3 p4 p5 z3 z4 z5
        go_wp2_with fail
        refine bodyPost_ret (v := .tuple #[.string (strOf (hdr k pl.size a g ck) ++ bd), .agg #[.int .i64 a, .int .u64 g, .int .u32 (ck : Int)], .int .i64 0]) (by simp [results, Tryd.results19, go_sem, t3, t4, t5]) rfl ⟨by rw [HIMG.out, HY.out], ?_⟩
        repeat (first | exact HB5.out | apply below_nw | refine below_st ?_ (Nat.le_succ _) _)
      · have HV := Lib.hid (sealV_no (g := g) (sealE_long (pl := pl.data.toList) h1 h2 (by omega)) (by decide))
        have hgt : m < pl.size := by omega
        clear h1 h2 hpl ht hg1 hle hr1 hr2 hr3 hsz hm
        go_enter Tryd.func19, Tryd.ntmps19
        go_wp2_with fail
        refine (rightSize_any _ _).mono ?_
        rintro e w' ⟨rfl, rfl⟩
        rw [H1.out]
        go_wp2_with fail
        refine (headRight_any k a g _).mono ?_
        rintro e w1 ⟨rfl, hb1⟩
        rw [H2.out]
        have hw1 : w.heap.size + 1 < w1.heap.size := by have := hb1.size; simp at this; omega
        have r3 : w1.cell? ⟨w.heap.size + 1, 0, none⟩ = some (.int .i64 0) := by rw [hb1.cell (by simp)]; simp
        have r4 : w1.cell? ⟨w.heap.size + 1, 1, none⟩ = some (.int .u64 0) := by rw [hb1.cell (by simp)]; simp
        have r5 : w1.cell? ⟨w.heap.size + 1, 2, none⟩ = some (.int .u32 0) := by rw [hb1.cell (by simp)]; simp
        have f3 : w1.frozen? ⟨w.heap.size + 1, 0, none⟩ = false := by rw [hb1.frozen (by simp)]; simp
        have f4 : w1.frozen? ⟨w.heap.size + 1, 1, none⟩ = false := by rw [hb1.frozen (by simp)]; simp
        have f5 : w1.frozen? ⟨w.heap.size + 1, 2, none⟩ = false := by rw [hb1.frozen (by simp)]; simp
        have HB1 := Lib.hid (below_on (below_nw (below_new w _) _) hb1)
        clear hb1
        go_wp2_with (go_at_call 35; refine (room_any _ _).mono ?_; rintro e w' ⟨rfl, rfl⟩; rw [HR.out])
        refine bodyPost_ret (v := noSeal 20) (by simp [results, Tryd.results19, go_sem, r3, r4, r5, noSeal]) rfl ⟨by rw [HV.out], ?_⟩
        repeat (first | exact HB1.out | apply below_nw | refine below_st ?_ (Nat.le_succ _) _)
end Go.Proofs.YtimdemdopnmijaaDoor.Env
