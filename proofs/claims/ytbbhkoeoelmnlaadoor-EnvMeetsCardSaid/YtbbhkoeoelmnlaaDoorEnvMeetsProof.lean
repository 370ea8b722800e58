/-
  The law EnvMeets holds: an image meets what is known of it, and nothing else; what is known is told again of its bytes. Conditions: none but the row's own.
-/
import Derived.Test.YtbbhkoeoelmnlaaDoorRows
import Derived.Test.YtbbhkoeoelmnlaaDoorEnvG
import Derived.Test.YtbbhkoeoelmnlaaDoorCards
import Derived.Test.YtbbhkoeoelmnlaaDoorTie
import Derived.Test.YtbbhkoeoelmnlaaDoorArr
import Derived.WalkKit
import Derived.ProofKit
import Derived.OpenShut
import Derived.ShutString
import Derived.ChangeOld
import Derived.Below
import Derived.Carry
import Derived.Deep.DeepHandedRow
import Derived.Lib.LaidTab
namespace Go.Proofs.YtbbhkoeoelmnlaaDoor.envMeets
open Go.ChangeShapes Go.WideShapes Go.ChangeAt Go.RowKit
open Go.Proofs.YtbbhkoeoelmnlaaDoor
open Go.ChangeMaps (open_string shut_string)
set_option linter.unusedVariables false

theorem own : ownKnob Tryd.prog.godebug = none := by kernel_rfl
theorem laidOut : laidOutB Tryd.prog = true := by kernel_rfl

theorem len3 {α : Type} : ∀ l : List α, l.length = 3 → ∃ z0 z1 z2, l = [z0, z1, z2]
  | [z0, z1, z2], _ => ⟨z0, z1, z2, rfl⟩

open Go.Proofs.YtbbhkoeoelmnlaaDoor.Env Go.Proofs.YtbbhkoeoelmnlaaDoor.Lend
theorem keep9 {w1 w2 : World} {p0 p1 p2 p3 p4 p5 p6 p7 p8 : Addr} {x0 x1 x2 x3 x4 x5 x6 x7 x8 : Value}
    (h : w1.cell? p0 = some x0 ∧ w1.cell? p1 = some x1 ∧ w1.cell? p2 = some x2 ∧ w1.cell? p3 = some x3 ∧ w1.cell? p4 = some x4 ∧ w1.cell? p5 = some x5 ∧ w1.cell? p6 = some x6 ∧ w1.cell? p7 = some x7 ∧ w1.cell? p8 = some x8) (hb : Below w1.heap.size w1 w2) :
    w2.cell? p0 = some x0 ∧ w2.cell? p1 = some x1 ∧ w2.cell? p2 = some x2 ∧ w2.cell? p3 = some x3 ∧ w2.cell? p4 = some x4 ∧ w2.cell? p5 = some x5 ∧ w2.cell? p6 = some x6 ∧ w2.cell? p7 = some x7 ∧ w2.cell? p8 = some x8 := by
  obtain ⟨h0, h1, h2, h3, h4, h5, h6, h7, h8⟩ := h
  have k : ∀ {p : Addr} {x : Value}, w1.cell? p = some x → w2.cell? p = some x := fun h => by rw [hb.cell (World.block_lt_of_cell? _ _ h)]; exact h
  exact ⟨k h0, k h1, k h2, k h3, k h4, k h5, k h6, k h7, k h8⟩

/-! ### STEP 1: THE WALK -/
set_option maxHeartbeats 4000000 in
set_option maxRecDepth 100000 in
theorem walk (a0f0 : Int) (a0f1 : Int) (a0f2 : Int) (a1 : ByteArray) (a2x0 a2x1 a2x2 : Int) (w : World) (w0f0 : (Lit.int .u8 a0f0).wf = true) (w0f1 : (Lit.int .i64 a0f1).wf = true) (w0f2 : (Lit.int .u64 a0f2).wf = true) (w1 : a1.size ≤ maxLen) (w2x0 : (Lit.int .u32 a2x0).wf = true) (w2x1 : (Lit.int .u32 a2x1).wf = true) (w2x2 : (Lit.int .u32 a2x2).wf = true) :
    Calls Tryd.prog 6 #[.agg #[.int .u8 a0f0, .int .i64 a0f1, .int .u64 a0f2], .string a1, .agg #[.int .u32 a2x0, .int .u32 a2x1, .int .u32 a2x2]] w fun e w' => e = .returned (.bool true) ∧ Below w.heap.size w w' := by
  have hb0 := bounds_u8 w0f0
  have hb1 := bounds_u64 w0f2
  have hx0 := bounds_u32 w2x0
  have hx1 := bounds_u32 w2x1
  have hx2 := bounds_u32 w2x2
  obtain ⟨n, hn⟩ : ∃ n : Nat, n = min a1.size 168 := ⟨_, rfl⟩
  have hmin : min (a1.size : Int) 168 = (n : Int) := by omega
  have hn0 : (0 : Int) ≤ (n : Int) := by omega
  have hn1 : n ≤ a1.size := by omega
  have hn2 : (n : Int) ≤ (a1.size : Int) := by omega
  have hn3 : n ≤ 168 := by omega
  obtain ⟨pl, hpl⟩ : ∃ x, x = a1.extract 0 n := ⟨_, rfl⟩
  have hps : pl.size = n := by rw [hpl]; simp; omega
  obtain ⟨g, hg⟩ : ∃ g, g = a0f2 := ⟨_, rfl⟩
  rw [← hg] at hb1 ⊢
  have hh := tam_ok a0f0 a0f1
  obtain ⟨k, hk⟩ : ∃ k, k = tamK a0f0 := ⟨_, rfl⟩
  obtain ⟨a, ha⟩ : ∃ a, a = tamA a0f1 := ⟨_, rfl⟩
  rw [← hk, ← ha] at hh
  obtain ⟨im, him⟩ : ∃ x, x = imgL k a g 168 pl.data.toList := ⟨_, rfl⟩
  obtain ⟨ck, hck⟩ : ∃ x : Nat, x = ckL k pl.data.toList.length a g (bodyL 168 pl.data.toList) := ⟨_, rfl⟩
  have hll : pl.data.toList.length ≤ 168 := by simp; omega
  have hi := img_o (m := 168) (pl := pl.data.toList) hh hb1.1 (by omega) hll (by decide) (by decide)
  rw [← hck, ← him] at hi
  have hil := imgL_length k a g 168 pl.data.toList hll
  rw [← him] at hil
  have hsv : sealV 192 k a g pl.data.toList = .tuple #[.string (strOf im), .agg #[.int .i64 a, .int .u64 g, .int .u32 (ck : Int)], .int .i64 0] := by
    rw [sealV_yes (sealE_ok rfl hh (by omega)), him, hck]; rfl
  have hckb : (ck : Int) ≤ 4294967295 := by have := ckL_lt k pl.data.toList.length a g (bodyL 168 pl.data.toList); omega
  obtain ⟨h1, h2, h3, h4⟩ := hdB_bd hh
  have HG1 := Lib.hid (show g < 18446744073709551616 by omega)
  have hg0 : 0 ≤ g := hb1.1
  have HSV := Lib.hid hsv
  have HI := Lib.hid hi
  have HK := Lib.hid hk
  have HA := Lib.hid ha
  have HPL := Lib.hid hpl
  obtain ⟨im2, him2⟩ : ∃ s, s = strOf im := ⟨_, rfl⟩
  have HIM := Lib.hid him2
  have hisz : im2.size ≤ 1000000 := by rw [him2]; show im.length ≤ _; omega
  have HPS := Lib.hid (show pl.size ≤ 1000000 by omega)
  obtain ⟨hk0, hk1⟩ := hb0
  clear w0f0 w0f1 w0f2 w1 w2x0 w2x1 w2x2 hb1 hn hpl hg hh hk ha him hck hll hi hil hsv him2
  go_enter Tryd.func6, Tryd.ntmps6
  go_wp2_with fail
  refine (Sum.make_any _).mono ?_
  rintro e w1 ⟨b, rfl, hb, ht, hb1⟩
  have HT := Lib.hid ht
  have hw1 : w.heap.size + 1 < w1.heap.size := by have := hb1.size; simp at this; omega
  have hw0 : w.heap.size < w1.heap.size := by omega
  have r0 : w1.cell? ⟨w.heap.size, 0, none⟩ = some (.int .u8 a0f0) := by rw [hb1.cell (by simp; omega)]; simp
  have r1 : w1.cell? ⟨w.heap.size, 1, none⟩ = some (.int .i64 a0f1) := by rw [hb1.cell (by simp; omega)]; simp
  have r2 : w1.cell? ⟨w.heap.size, 2, none⟩ = some (.int .u64 g) := by rw [hb1.cell (by simp; omega)]; simp
  have s0 : w1.cell? ⟨w.heap.size + 1, 0, none⟩ = some (.int .u32 a2x0) := by rw [hb1.cell (by simp)]; simp
  have s1 : w1.cell? ⟨w.heap.size + 1, 1, none⟩ = some (.int .u32 a2x1) := by rw [hb1.cell (by simp)]; simp
  have s2 : w1.cell? ⟨w.heap.size + 1, 2, none⟩ = some (.int .u32 a2x2) := by rw [hb1.cell (by simp)]; simp
  have HB1 := Lib.hid (below_on (below_nw (below_new w _) _) hb1)
  clear ht hb hb1
  go_wp2_with fail
  go_upto_region 3 with fail
  go_cut [8, 9, 10] (fun s p e wx => ∃ pb, s = .string im2 ∧ p = .pointer (some ⟨pb, 0, none⟩) ∧ e = .int .i64 0 ∧ New3 wx pb (.int .i64 a) (.int .u64 g) (.int .u32 (ck : Int)) ∧ Below w1.heap.size w1 wx)
  case first =>
    -- CUT[
    go_region_held3 (fun W => W.cell? ⟨w.heap.size, 0, none⟩ = some (.int .u8 a0f0) ∧ W.cell? ⟨w.heap.size, 1, none⟩ = some (.int .i64 a0f1) ∧ W.cell? ⟨w.heap.size, 2, none⟩ = some (.int .u64 g))
      (first | with_reducible exact keep3 (by assumption) (by assumption) | with_reducible exact keep3 (by assumption) (below_new _ _) | with_reducible exact set3_S (by assumption) (by omega) | go_keep)
      (first
        | (go_at_call 8; refine (tame_any _ _ _ _ hk0 hk1).mono ?_; rintro e w2 ⟨rfl, hb2⟩; rw [← HK.out, ← HA.out]
           first | have zc := New3.on (New3.new _ _ _ _ _) hb2 | have zc := New3.on (New3.newd _ _ _ _ _) hb2 | skip
           have hs2 := hb2.size; try simp at hs2)
        | (go_at_call 10; refine (of_head _ _ _ _).mono ?_; rintro e w3 ⟨rfl, hb3⟩
           first | have zc := New3.on zc hb3 | have zc := New3.on (New3.new _ _ _ _ _) hb3 | have zc := New3.on (New3.newd _ _ _ _ _) hb3 | skip
           have hs3 := hb3.size; try simp at hs3)
        | (go_at_call 9
           rw [← HPL.out]
           refine (seal_any b 192 k a g pl _ ?_ hg0 HG1.out HPS.out).mono ?_
           · repeat (first | with_reducible exact HT.out | with_reducible apply tab_dr | with_reducible apply tab_nw | with_reducible refine tab_on ?_ (by assumption))
           rintro e w4 ⟨rfl, hb4⟩
           have hc4 := keep3 (by assumption) hb4
           have hs4 := hb4.size
           try simp at hs4
           first
             | (have zc := New3.on zc hb4; obtain ⟨z0, z1, z2, z3, z4, z5⟩ := zc)
             | (have zc := New3.on (New3.new _ _ _ _ _) hb4; obtain ⟨z0, z1, z2, z3, z4, z5⟩ := zc)
             | (have zc := New3.on (New3.newd _ _ _ _ _) hb4; obtain ⟨z0, z1, z2, z3, z4, z5⟩ := zc)
             | skip
           rw [HSV.out, ← HIM.out]))
    all_goals
      rename_i hend
      clear hend
      go_wp2
      go_meet
      refine ⟨_, rfl, rfl, rfl, ?_, ?_⟩
      · first | with_reducible exact New3.new _ _ _ _ _ | with_reducible exact New3.set ⟨z0, z1, z2, z3, z4, z5⟩ _ _ _
      · repeat (first | exact Below.refl _ _ | with_reducible apply below_nw | with_reducible apply below_dr | with_reducible refine below_st ?_ (by first | exact Nat.le_refl _ | omega | (simp; omega)) _ | with_reducible refine below_on ?_ (by assumption))
    -- ]CUT
  case rest =>
    obtain ⟨pb, rfl, rfl, rfl, hN, hbx⟩ := hcut
    have hpl := World.block_lt_of_cell? _ _ hN.c0
    have t0 : wc.cell? ⟨w.heap.size + 1, 0, none⟩ = some (.int .u32 a2x0) := by rw [hbx.cell hw1]; exact s0
    have t1 : wc.cell? ⟨w.heap.size + 1, 1, none⟩ = some (.int .u32 a2x1) := by rw [hbx.cell hw1]; exact s1
    have t2 : wc.cell? ⟨w.heap.size + 1, 2, none⟩ = some (.int .u32 a2x2) := by rw [hbx.cell hw1]; exact s2
    have c0 := hN.c0
    have c1 := hN.c1
    have c2 := hN.c2
    have HN := Lib.hid hN
    have HB := Lib.hid (below_on HB1.out hbx)
    have HTx := Lib.hid (tab_on HT.out hbx)
    obtain ⟨m0, m1⟩ := hx0
    obtain ⟨m2, m3⟩ := hx1
    obtain ⟨m4, m5⟩ := hx2
    clear hbx r0 r1 r2 s0 s1 s2 hmin hn0 hn1 hn2 hN
    have had := adB_yes h3 h4
    obtain ⟨P, hP⟩ : ∃ P, P = ptS a g ck := ⟨_, rfl⟩
    have hP2 : P.data.toList = encL ptrW [a, g, ck] ++ [] := by rw [hP, ptS, if_pos had, List.append_nil]; rfl
    have hP3 : P.size ≤ 1000000 := by rw [sz_of hP2, List.append_nil, encL_ptr]; simp [encN_length]
    have HPV := Lib.hid (show ppV P.data.toList = .tuple #[.agg #[.int .i64 a, .int .u64 g, .int .u32 (ck : Int)], .string ⟨#[]⟩, .bool true] by rw [hP2, ppV_enc had hg0 HG1.out (by omega) (by omega)]; rfl)
    have HP := Lib.hid hP
    have HAD := Lib.hid had
    clear hP hP2 had
    have hmp : meetB im2.data.toList a g ck = true := by
      rw [HIM.out, strOf_data]
      have hi := HI.out
      rw [meetB_yes hi.1, hi.2.2.1, hi.2.2.2.1, hi.2.2.2.2.1]; simp
    have HMP := Lib.hid hmp
    have hmq : ∀ x y z : Int, ¬ (a = x ∧ g = y ∧ (ck : Int) = z) → meetB im2.data.toList x y z = false := by
      intro x y z h
      rw [HIM.out, strOf_data]
      have hi := HI.out
      rw [meetB_yes hi.1, hi.2.2.1, hi.2.2.2.1, hi.2.2.2.2.1, Bool.eq_false_iff]
      intro h2
      simp only [Bool.and_eq_true, decide_eq_true_eq] at h2
      exact h h2
    have HMQ := Lib.hid hmq
    clear hmp hmq
    go_wp2_with fail
    obtain ⟨qa, hqa⟩ : ∃ q, q = bits .xor .i64 a (a2x0 / 2) := ⟨_, rfl⟩
    obtain ⟨qg, hqg⟩ : ∃ q, q = bits .xor .u64 g a2x1 := ⟨_, rfl⟩
    obtain ⟨qc, hqc⟩ : ∃ q, q = bits .xor .u32 (ck : Int) a2x2 := ⟨_, rfl⟩
    rw [← hqa, ← hqg, ← hqc]
    clear hqa hqg hqc t0 t1 t2
    refine (text_any a g ck _ hg0 HG1.out (by omega) (by omega)).mono ?_
    rintro e w5 ⟨rfl, hb5⟩
    rw [← HP.out, HAD.out]
    go_wp2_with fail
    refine (parsePtr_any P _ hP3).mono ?_
    rintro e w6 ⟨rfl, hb6⟩
    rw [HPV.out]
    have hq := New3.on (New3.new wc (.int .i64 qa) (.int .u64 qg) (.int .u32 qc) _) hb5
    have hq6 := New3.on hq hb6
    have hp6 := New3.on (New3.on (New3.on HN.out (below_new wc _)) hb5) hb6
    have hr := New3.new w6 (.int .i64 a) (.int .u64 g) (.int .u32 (ck : Int)) 32
    have hq7 := New3.on hq6 (below_new w6 (.cells #[.int .i64 a, .int .u64 g, .int .u32 (ck : Int)] 32))
    have hp7 := New3.on hp6 (below_new w6 (.cells #[.int .i64 a, .int .u64 g, .int .u32 (ck : Int)] 32))
    have HT7 := Lib.hid (tab_nw (tab_on (tab_on (tab_nw HTx.out _) hb5) hb6) (.cells #[.int .i64 a, .int .u64 g, .int .u32 (ck : Int)] 32))
    have HB7 := Lib.hid (below_nw (below_on (below_on (below_nw HB.out _) hb5) hb6) (.cells #[.int .i64 a, .int .u64 g, .int .u32 (ck : Int)] 32))
    have hS : (w6.alloc (.cells #[.int .i64 a, .int .u64 g, .int .u32 (ck : Int)] 32)).drew.cell? ⟨pb, 0, none⟩ = some (.int .i64 a) ∧ (w6.alloc (.cells #[.int .i64 a, .int .u64 g, .int .u32 (ck : Int)] 32)).drew.cell? ⟨pb, 1, none⟩ = some (.int .u64 g) ∧ (w6.alloc (.cells #[.int .i64 a, .int .u64 g, .int .u32 (ck : Int)] 32)).drew.cell? ⟨pb, 2, none⟩ = some (.int .u32 (ck : Int)) ∧
        (w6.alloc (.cells #[.int .i64 a, .int .u64 g, .int .u32 (ck : Int)] 32)).drew.cell? ⟨wc.heap.size, 0, none⟩ = some (.int .i64 qa) ∧ (w6.alloc (.cells #[.int .i64 a, .int .u64 g, .int .u32 (ck : Int)] 32)).drew.cell? ⟨wc.heap.size, 1, none⟩ = some (.int .u64 qg) ∧ (w6.alloc (.cells #[.int .i64 a, .int .u64 g, .int .u32 (ck : Int)] 32)).drew.cell? ⟨wc.heap.size, 2, none⟩ = some (.int .u32 qc) ∧
        (w6.alloc (.cells #[.int .i64 a, .int .u64 g, .int .u32 (ck : Int)] 32)).drew.cell? ⟨w6.heap.size, 0, none⟩ = some (.int .i64 a) ∧ (w6.alloc (.cells #[.int .i64 a, .int .u64 g, .int .u32 (ck : Int)] 32)).drew.cell? ⟨w6.heap.size, 1, none⟩ = some (.int .u64 g) ∧ (w6.alloc (.cells #[.int .i64 a, .int .u64 g, .int .u32 (ck : Int)] 32)).drew.cell? ⟨w6.heap.size, 2, none⟩ = some (.int .u32 (ck : Int)) :=
      ⟨hp7.c0, hp7.c1, hp7.c2, hq7.c0, hq7.c1, hq7.c2, hr.c0, hr.c1, hr.c2⟩
    have HS := Lib.hid hS
    clear hS hq hq6 hp6 hr hq7 hp7 hb5 hb6 c0 c1 c2 hpl
    go_wp2_with fail
    by_cases hx : a = qa
    · by_cases hy : g = qg
      · by_cases hz : (ck : Int) = qc
        · subst hx hy
          rw [← hz] at HS ⊢
          clear hz
          go_region_held3 (fun W => W.cell? ⟨pb, 0, none⟩ = some (.int .i64 a) ∧ W.cell? ⟨pb, 1, none⟩ = some (.int .u64 g) ∧ W.cell? ⟨pb, 2, none⟩ = some (.int .u32 (ck : Int)) ∧ W.cell? ⟨wc.heap.size, 0, none⟩ = some (.int .i64 a) ∧ W.cell? ⟨wc.heap.size, 1, none⟩ = some (.int .u64 g) ∧ W.cell? ⟨wc.heap.size, 2, none⟩ = some (.int .u32 (ck : Int)) ∧ W.cell? ⟨w6.heap.size, 0, none⟩ = some (.int .i64 a) ∧ W.cell? ⟨w6.heap.size, 1, none⟩ = some (.int .u64 g) ∧ W.cell? ⟨w6.heap.size, 2, none⟩ = some (.int .u32 (ck : Int)))
            (first | with_reducible exact HS.out | with_reducible exact keep9 (by assumption) (by assumption) | go_keep)
            (first
              | (go_at_call 14; refine (wakes_any _).mono ?_; rintro e w8 ⟨rfl, hb8⟩)
              | (go_at_call 12
                 refine (meets_any b _ _ _ im2 _ ?_ hisz).mono ?_
                 · repeat (first | with_reducible exact HT7.out | with_reducible apply tab_dr | with_reducible refine tab_on ?_ (by assumption))
                 rintro e w9 ⟨rfl, hb9⟩
                 rw [HMP.out]))
          all_goals
            rename_i hend
            clear hend
            go_wp2_with fail
            go_ret
            refine ⟨rfl, ?_⟩
            repeat (first | with_reducible exact HB7.out | with_reducible apply below_dr | with_reducible refine below_on ?_ (by assumption))
        · subst hx hy
          have HMF := Lib.hid (HMQ.out a g qc (fun h => hz h.2.2))
          have e1 : ((ck : Int) == qc) = false := by simpa using hz
          have e2 : decide ((ck : Int) = qc) = false := by simpa using hz
          go_region_held3 (fun W => W.cell? ⟨pb, 0, none⟩ = some (.int .i64 a) ∧ W.cell? ⟨pb, 1, none⟩ = some (.int .u64 g) ∧ W.cell? ⟨pb, 2, none⟩ = some (.int .u32 (ck : Int)) ∧ W.cell? ⟨wc.heap.size, 0, none⟩ = some (.int .i64 a) ∧ W.cell? ⟨wc.heap.size, 1, none⟩ = some (.int .u64 g) ∧ W.cell? ⟨wc.heap.size, 2, none⟩ = some (.int .u32 qc) ∧ W.cell? ⟨w6.heap.size, 0, none⟩ = some (.int .i64 a) ∧ W.cell? ⟨w6.heap.size, 1, none⟩ = some (.int .u64 g) ∧ W.cell? ⟨w6.heap.size, 2, none⟩ = some (.int .u32 (ck : Int)))
            (first | with_reducible exact HS.out | with_reducible exact keep9 (by assumption) (by assumption) | go_keep)
            (first
              | (go_at_call 14; refine (wakes_any _).mono ?_; rintro e w8 ⟨rfl, hb8⟩)
              | (go_at_call 12
                 refine (meets_any b _ _ _ im2 _ ?_ hisz).mono ?_
                 · repeat (first | with_reducible exact HT7.out | with_reducible apply tab_dr | with_reducible refine tab_on ?_ (by assumption))
                 rintro e w9 ⟨rfl, hb9⟩
                 first | rw [HMP.out] | rw [HMF.out]))
          all_goals
            rename_i hend
            clear hend
            go_wp2_with fail
            go_ret
            refine ⟨rfl, ?_⟩
            repeat (first | with_reducible exact HB7.out | with_reducible apply below_dr | with_reducible refine below_on ?_ (by assumption))
      · subst hx
        have HMF := Lib.hid (HMQ.out a qg qc (fun h => hy h.2.1))
        have e1 : (g == qg) = false := by simpa using hy
        have e2 : decide (g = qg) = false := by simpa using hy
        go_region_held3 (fun W => W.cell? ⟨pb, 0, none⟩ = some (.int .i64 a) ∧ W.cell? ⟨pb, 1, none⟩ = some (.int .u64 g) ∧ W.cell? ⟨pb, 2, none⟩ = some (.int .u32 (ck : Int)) ∧ W.cell? ⟨wc.heap.size, 0, none⟩ = some (.int .i64 a) ∧ W.cell? ⟨wc.heap.size, 1, none⟩ = some (.int .u64 qg) ∧ W.cell? ⟨wc.heap.size, 2, none⟩ = some (.int .u32 qc) ∧ W.cell? ⟨w6.heap.size, 0, none⟩ = some (.int .i64 a) ∧ W.cell? ⟨w6.heap.size, 1, none⟩ = some (.int .u64 g) ∧ W.cell? ⟨w6.heap.size, 2, none⟩ = some (.int .u32 (ck : Int)))
          (first | with_reducible exact HS.out | with_reducible exact keep9 (by assumption) (by assumption) | go_keep)
          (first
            | (go_at_call 14; refine (wakes_any _).mono ?_; rintro e w8 ⟨rfl, hb8⟩)
            | (go_at_call 12
               refine (meets_any b _ _ _ im2 _ ?_ hisz).mono ?_
               · repeat (first | with_reducible exact HT7.out | with_reducible apply tab_dr | with_reducible refine tab_on ?_ (by assumption))
               rintro e w9 ⟨rfl, hb9⟩
               first | rw [HMP.out] | rw [HMF.out]))
        all_goals
          rename_i hend
          clear hend
          go_wp2_with fail
          go_ret
          refine ⟨rfl, ?_⟩
          repeat (first | with_reducible exact HB7.out | with_reducible apply below_dr | with_reducible refine below_on ?_ (by assumption))
    · have HMF := Lib.hid (HMQ.out qa qg qc (fun h => hx h.1))
      have e1 : (a == qa) = false := by simpa using hx
      have e2 : decide (a = qa) = false := by simpa using hx
      go_region_held3 (fun W => W.cell? ⟨pb, 0, none⟩ = some (.int .i64 a) ∧ W.cell? ⟨pb, 1, none⟩ = some (.int .u64 g) ∧ W.cell? ⟨pb, 2, none⟩ = some (.int .u32 (ck : Int)) ∧ W.cell? ⟨wc.heap.size, 0, none⟩ = some (.int .i64 qa) ∧ W.cell? ⟨wc.heap.size, 1, none⟩ = some (.int .u64 qg) ∧ W.cell? ⟨wc.heap.size, 2, none⟩ = some (.int .u32 qc) ∧ W.cell? ⟨w6.heap.size, 0, none⟩ = some (.int .i64 a) ∧ W.cell? ⟨w6.heap.size, 1, none⟩ = some (.int .u64 g) ∧ W.cell? ⟨w6.heap.size, 2, none⟩ = some (.int .u32 (ck : Int)))
        (first | with_reducible exact HS.out | with_reducible exact keep9 (by assumption) (by assumption) | go_keep)
        (first
          | (go_at_call 14; refine (wakes_any _).mono ?_; rintro e w8 ⟨rfl, hb8⟩)
          | (go_at_call 12
             refine (meets_any b _ _ _ im2 _ ?_ hisz).mono ?_
             · repeat (first | with_reducible exact HT7.out | with_reducible apply tab_dr | with_reducible refine tab_on ?_ (by assumption))
             rintro e w9 ⟨rfl, hb9⟩
             first | rw [HMP.out] | rw [HMF.out]))
      all_goals
        rename_i hend
        clear hend
        go_wp2_with fail
        go_ret
        refine ⟨rfl, ?_⟩
        repeat (first | with_reducible exact HB7.out | with_reducible apply below_dr | with_reducible refine below_on ?_ (by assumption))

set_option maxRecDepth 100000 in
theorem contract (H : Type) (enc : TypeId × Value → H) (W : World) (base : Nat) (args : Array Value) (ds gs : List (DataW H)) (before : List MemPlace)
    (hval0 : ∀ (j : Nat) t v, Tryd.f6.params[j]? = some t → args[j]? = some v → Value.okWide Tryd.prog W .any base t v)
    (hW : DataW.Whole enc Tryd.prog Tryd.f6.params.toList Rows.envMeetsSpec.vars false W args.toList ds gs before) :
    Calls Tryd.prog 6 args W fun e W' => ∃ v, e = .returned v ∧ Rows.envMeetsSpec.post enc Tryd.prog Tryd.f6 false true false false W args v W' := by
  have hval : ∀ (j : Nat) t v, Tryd.f6.params[j]? = some t → args[j]? = some v → Value.okWide Tryd.prog W .any base t v := hval0
  have hW' := hW
  obtain ⟨p, q, hA0, hV, rfl, hfz, hnd⟩ := hW
  have hA : DataW.TrodAll enc Tryd.prog W 0 (fun _ => true) true Tryd.f6.params.toList args.toList ds p := hA0
  rw [Tryd.params6] at hA hval
  obtain ⟨v0, vs0, d0, ds0, p0, q0, hargs, rfl, rfl, h0, r0⟩ := trodAll_cons hA
  obtain ⟨v1, vs1, d1, ds1, p1, q1, rfl, rfl, rfl, h1, r1⟩ := trodAll_cons r0
  obtain ⟨v2, vs2, d2, ds2, p2, q2, rfl, rfl, rfl, h2, r2⟩ := trodAll_cons r1
  obtain ⟨rfl, rfl, rfl⟩ := trodAll_nil r2
  obtain rfl : args = #[v0, v1, v2] := by cases args; simp_all
  obtain ⟨rfl, rfl⟩ := trodVars_none hV
  have k0 := h0
  have lt0 : ∀ x ∈ p0, x.block < W.heap.size := by obtain ⟨m, hm⟩ := k0; exact DataW.trod_lt m _ _ _ hm
  obtain ⟨cs0, rfl, hl0, hc0⟩ := open_struct_cells Tryd.underlying24 (by kernel_rfl) (by kernel_rfl) (hval 0 24 v0 rfl rfl) h0
  obtain ⟨y0_0, y0_1, y0_2, rfl⟩ := len3 cs0 hl0
  obtain ⟨a0f0, rfl, w0f0⟩ := open_int_cell Tryd.underlying5 (hc0 0 _ _ rfl rfl)
  obtain ⟨a0f1, rfl, w0f1⟩ := open_int_cell Tryd.underlying3 (hc0 1 _ _ rfl rfl)
  obtain ⟨a0f2, rfl, w0f2⟩ := open_int_cell Tryd.underlying22 (hc0 2 _ _ rfl rfl)
  obtain ⟨a1, rfl, rfl, rfl, w1⟩ := open_string Tryd.underlying9 (hval 1 9 v1 rfl rfl) h1
  have k2 := h2
  have lt2 : ∀ x ∈ p2, x.block < W.heap.size := by obtain ⟨m, hm⟩ := k2; exact DataW.trod_lt m _ _ _ hm
  obtain ⟨cs2, rfl, hl2, hc2⟩ := open_arr Tryd.underlying62 (by kernel_rfl) (by kernel_rfl) (hval 2 62 v2 rfl rfl) h2
  obtain ⟨y2_0, y2_1, y2_2, rfl⟩ := len3 cs2 hl2
  obtain ⟨a2x0, rfl, w2x0⟩ := open_int_cell Tryd.underlying30 (hc2 0 _ rfl)
  obtain ⟨a2x1, rfl, w2x1⟩ := open_int_cell Tryd.underlying30 (hc2 1 _ rfl)
  obtain ⟨a2x2, rfl, w2x2⟩ := open_int_cell Tryd.underlying30 (hc2 2 _ rfl)
  clear hA0 hval0
  refine (walk a0f0 a0f1 a0f2 a1 a2x0 a2x1 a2x2 W w0f0 w0f1 w0f2 w1 w2x0 w2x1 w2x2).mono fun e W' ⟨he, bel⟩ => ?_
  subst he
  exact ⟨_, rfl, _, _, _, [], _, [], hW', trodAll_mk1 (shut_bool Tryd.underlying4 _), (trodAll_cons_mk (Below.trod laidOut (by kernel_rfl) (of_decide_eq_true (by kernel_rfl)) k0 bel lt0) (trodAll_cons_mk (shut_string Tryd.underlying9 w1) (trodAll_cons_mk (Below.trod laidOut (by kernel_rfl) (of_decide_eq_true (by kernel_rfl)) k2 bel lt2) trodAll_mk0))), rfl, bel.frame _, fun h => by cases h⟩

noncomputable def laidWorld (os : Os) : World :=
  { World.holding Tryd.prog os ⟨#[], #[], []⟩ with heap := (((((World.holding Tryd.prog os ⟨#[], #[], []⟩).heap).modify 2 fun | .cells _ t frozen => .cells (#[.int .u8 128, .int .u8 191, .int .u8 160, .int .u8 191, .int .u8 128, .int .u8 159, .int .u8 144, .int .u8 191, .int .u8 128, .int .u8 143, .int .u8 0, .int .u8 0, .int .u8 0, .int .u8 0, .int .u8 0, .int .u8 0, .int .u8 0, .int .u8 0, .int .u8 0, .int .u8 0, .int .u8 0, .int .u8 0, .int .u8 0, .int .u8 0, .int .u8 0, .int .u8 0, .int .u8 0, .int .u8 0, .int .u8 0, .int .u8 0, .int .u8 0, .int .u8 0]) t frozen | o => o)).modify 1 fun | .cells _ t frozen => .cells ((Go.Pinned.utf8FirstZ.map fun z : Nat => Value.int .u8 (z : Int)).toArray) t frozen | o => o) }
theorem laid_met (os : Os) : laidMet Tryd.prog Rows.envMeetsRow.laid ((laidWorld os).forCall (fun _ _ => 0) ⟨#[], #[.agg #[.int .u8 0, .int .i64 0, .int .u64 0], .string ByteArray.empty, .agg #[.int .u32 0, .int .u32 0, .int .u32 0]], []⟩).memory :=
  laidMet_of_run' 8 (by kernel_rfl) (by kernel_rfl)
theorem reads (os : Os) {H : Type} (enc : TypeId × Value → H) : ∃ places, DataW.whole enc Tryd.prog ((laidWorld os).forCall (fun _ _ => 0) ⟨#[], #[.agg #[.int .u8 0, .int .i64 0, .int .u64 0], .string ByteArray.empty, .agg #[.int .u32 0, .int .u32 0, .int .u32 0]], []⟩).memory Tryd.f6.params.toList Rows.envMeetsSpec.vars false (#[.agg #[.int .u8 0, .int .i64 0, .int .u64 0], .string ByteArray.empty, .agg #[.int .u32 0, .int .u32 0, .int .u32 0]] : Array Value).toList 8 = some ([.agg [.lit (.int .u8 0), .lit (.int .i64 0), .lit (.int .u64 0)], .lit (.string []), .agg [.lit (.int .u32 0), .lit (.int .u32 0), .lit (.int .u32 0)]], [], places) :=
  ⟨[], by kernel_rfl⟩

set_option maxRecDepth 100000 in
theorem lifted (os : Os) (started : os.Started) (H : Type) (enc : TypeId × Value → H) (F : Stop.Interp) :
    ReturnsInHanded {} Tryd.checked os 6 .any ((OpenSpec.ofChange Rows.envMeetsSpec).preRow enc Tryd.prog Tryd.f6 Rows.envMeetsRow.domain false Rows.envMeetsRow.laid) (((OpenSpec.ofChange Rows.envMeetsSpec).at F).post enc Tryd.prog Tryd.f6 false true false false) := by
  obtain ⟨places, hx⟩ := reads os enc
  refine returnsInHanded_of_row (C := Tryd.checked) (s := OpenSpec.ofChange Rows.envMeetsSpec) own started (by kernel_rfl) Tryd.func6
    (witness_row_at (enc := enc) (C := Tryd.checked) false (laidWorld os) #[.agg #[.int .u8 0, .int .i64 0, .int .u64 0], .string ByteArray.empty, .agg #[.int .u32 0, .int .u32 0, .int .u32 0]] rfl (by kernel_rfl) (by kernel_rfl) (by kernel_rfl)
      (OpenSpec.preRow_of_cond 8 hx (by kernel_rfl) (fun k hk => by cases hk) (by kernel_rfl) (laid_met os))) ?_
  intro W base args ds gs before hval hW _ _ _ hL _ _
  exact contract H enc W base args ds gs before hval hW

theorem said : Rows.EnvMeetsSaid :=
  OpenClaim.holds_of_cond 6 Tryd.f6 rfl rfl rfl rfl rfl rfl rfl ⟨rfl, rfl, rfl, rfl, rfl⟩ rfl rfl rfl rfl rfl (by kernel_rfl) Tryd.func6 (by kernel_rfl)
    (of_decide_eq_true (by kernel_rfl)) (by unfold Func.isWrapper; first | (rw [if_pos (by decide +kernel)]; kernel_rfl) | (rw [if_neg (by decide +kernel)]; exact ⟨rfl, rfl⟩))
    (fun os started H enc _ F => by rw [OpenClaim.pre_eq_preRow]; exact lifted os started H enc F)

theorem plain (f : FuncId) (fn : Func) (hf : Tryd.pinned.checked.prog.funcNamed "treenail/treenaillaw04.EnvMeets" = some f) (hfn : Tryd.pinned.checked.prog.funcs[f]? = some fn) :
    false = Tryd.pinned.checked.prog.looks [] ∧ ∀ (j : Nat) t, fn.params[j]? = some t → Tryd.pinned.checked.prog.wantsStandIn t = false := by
  obtain rfl : f = 6 := Option.some.inj ((show Tryd.prog.funcNamed "treenail/treenaillaw04.EnvMeets" = some 6 by kernel_rfl).symm.trans hf) |>.symm
  obtain rfl : fn = Tryd.f6 := (Option.some.inj (Tryd.func6.symm.trans hfn)).symm
  refine ⟨by kernel_rfl, fun j t ht => ?_⟩
  rw [Tryd.params6] at ht
  rcases j with _ | _ | _ | j
  · obtain rfl : t = 24 := by simpa using ht.symm
    exact (show Tryd.prog.wantsStandIn 24 = false by kernel_rfl)
  · obtain rfl : t = 9 := by simpa using ht.symm
    exact (show Tryd.prog.wantsStandIn 9 = false by kernel_rfl)
  · obtain rfl : t = 62 := by simpa using ht.symm
    exact (show Tryd.prog.wantsStandIn 62 = false by kernel_rfl)
  · simp at ht

/-- THE STATEMENT -/
theorem proved : Rows.EnvMeetsCardSaid :=
  Claim7.holds_tied_plain_at .later [] _ _ _ _ said (fun _ h => by cases h) (by kernel_rfl) (fun _ h => by cases h) envMeets_row_tie rfl ⟨rfl, rfl⟩ (by kernel_rfl) rfl plain (by kernel_rfl)
#print axioms proved
end Go.Proofs.YtbbhkoeoelmnlaaDoor.envMeets
