/- Layers' contracts, bundled: RemC, RemD, RemE. -/
import Derived.Test.YtflanjcfkdjpjaaGreatDoorK08
/- Layer 7 (remap): opened, newest. -/
namespace Go.Proofs.YtflanjcfkdjpjaaGreatDoor.Rem
open Go Go.RowKit Go.Proofs.YtflanjcfkdjpjaaGreatDoor Dev Tab
set_option linter.unusedVariables false

/-- the bytes of an image's payload, and what Parse makes of them -/
def pyL (t : ByteArray) : List UInt8 := (Env.oP t.data.toList).data.toList
def opN (t : ByteArray) : Int := psN (pyL t) 16 4
def opK (t : ByteArray) : Int := psK (pyL t) 16 4
def opM (t : ByteArray) : List Int := paM (pyL t) 16 4
def opn (s : Nat) (t : ByteArray) : Option (List Int) := opT s t.data.toList
/-- what a result of opened is -/
def IsOp (s : Nat) (t : ByteArray) (x y : Int) (M : List Int) (b : Bool) : Prop := b = (opn s t).isSome ∧ ∀ l, opn s t = some l → x = 16 ∧ y = 4 ∧ M = l
theorem isOp_no {s : Nat} {t : ByteArray} (h : Env.opE t.data.toList ≠ 0) (x y : Int) (M : List Int) : IsOp s t x y M false := by
  have : opn s t = none := by unfold opn opT; rw [if_neg (fun e => h e.1)]
  exact ⟨by rw [this]; rfl, fun l h => by rw [this] at h; cases h⟩
theorem isOp_pa {s : Nat} {t : ByteArray} (h : paE (pyL t) 16 4 ≠ 0) (x y : Int) (M : List Int) : IsOp s t x y M false := by
  have : opn s t = none := by unfold opn opT; rw [if_neg (fun e => h e.2.2.2.1)]
  exact ⟨by rw [this]; rfl, fun l h => by rw [this] at h; cases h⟩
theorem isOp_yes {s : Nat} {t : ByteArray} (h0 : Env.opE t.data.toList = 0) (h : paE (pyL t) 16 4 = 0) {b : Bool} (hb : b = true ↔ (Env.oK t.data.toList = 2 ∧ Env.oA t.data.toList = (s : Nat) ∧ Env.oG t.data.toList = ((opM t).length : Int))) : IsOp s t (opN t) (opK t) (opM t) b := by
  have hM : opM t = paL (pyL t) := by unfold opM paM; rw [if_pos h]
  obtain ⟨p1, p2⟩ := ps_ok h
  have hc : opn s t = if b = true then some (opM t) else none := by
    unfold opn opT
    by_cases e : b = true
    · obtain ⟨e1, e2, e3⟩ := hb.1 e
      rw [hM] at e3
      rw [if_pos e, if_pos ⟨h0, e1, e2, h, e3⟩, hM]; rfl
    · rw [if_neg e, if_neg (fun x => e (hb.2 ⟨x.2.1, x.2.2.1, by rw [hM]; exact x.2.2.2.2⟩))]
  refine ⟨by rw [hc]; cases b <;> rfl, fun l hl => ?_⟩
  rw [hc] at hl
  cases b with
  | true => exact ⟨p1, p2, by simpa using hl⟩
  | false => simp at hl
theorem oP_size (t : ByteArray) : (Env.oP t.data.toList).size ≤ t.size := by
  unfold Env.oP
  split
  · show (Env.opP t.data.toList).length ≤ t.data.size
    unfold Env.opP
    rw [List.length_take, List.length_drop]
    have : t.data.toList.length = t.data.size := by simp
    omega
  · exact Nat.zero_le _
theorem opM_len (t : ByteArray) : (opM t).length ≤ 32 := by
  unfold opM paM
  split
  · rename_i h
    have h2 := (paE_zero h).2
    unfold paB paF at h2
    simp only [Bool.and_eq_true, decide_eq_true_eq] at h2
    rw [paL_length]; omega
  · exact Nat.zero_le _
/-- the last region of opened: its block of results is written at its end -/
def Op5 (w0 : World) (g h p : Nat) (x y : Int) (M : List Int) (hd : List Value) (l : Nat → Bool) (w : World) : Prop :=
  Below w0.heap.size w0 w ∧ TAt w g x y M ∧ Has w h 113 hd ∧ (l 10 = false → TAt w p 0 0 []) ∧ (l 10 = true → TAt w p x y M)
section
variable {w0 w w' : World} {g h p : Nat} {x y : Int} {M : List Int} {hd : List Value} {l : Nat → Bool}
theorem Op5.keep (hI : Op5 w0 g h p x y M hd l w) {i : Nat} (hi : i ≠ 10) (hb : Below w.heap.size w w') : Op5 w0 g h p x y M hd (Reg.lset l i) w' := by
  obtain ⟨a, b, c, d, e⟩ := hI
  refine ⟨a.trans (hb.mono a.size), b.on hb, Has.below c hb c.lt, fun hl => ?_, fun hl => ?_⟩
  · rw [lset_ne hi] at hl; exact (d hl).on hb
  · rw [lset_ne hi] at hl; exact (e hl).on hb
theorem Op5.rd (hI : Op5 w0 g h p x y M hd l w) {i : Nat} (hi : i ≠ 10) : Op5 w0 g h p x y M hd (Reg.lset l i) w := hI.keep hi (Below.refl _ _)
theorem Op5.st (hI : Op5 w0 g h p x y M hd l w) (hl : l 10 = false) (hg : g ≠ p) (hh : h ≠ p) (hp : w0.heap.size ≤ p) : Op5 w0 g h p x y M hd (Reg.lset l 10) (w.setRow p (ta x y M)) := by
  obtain ⟨a, b, c, d, e⟩ := hI
  refine ⟨b_row a hp _, b.putOther hg _, ?_, fun h => ?_, fun _ => (d hl).put _ _ _⟩
  · show (w.setRow p (ta x y M)).heap[h]? = _
    rw [setRow_other _ _ _ _ hh]; exact c
  · rw [lset_eq] at h; cases h
end
set_option maxHeartbeats 1000000 in
set_option maxRecDepth 100000 in
theorem opened_any (b : Nat) (t : ByteArray) (s : Nat) (w : World) (ht : Sum.IsTab w b) (hts : t.size ≤ 1000000) : Calls Tryz.prog 101 #[.pointer (some ⟨b, 0, none⟩), .string t, .int .i64 (s : Nat), .agg (ta 16 4 [])] w fun e w' => (∃ x y M f, e = .returned (.tuple #[.agg (ta x y M), .bool f]) ∧ IsOp s t x y M f ∧ M.length ≤ 32) ∧ Below w.heap.size w w' := by
  have hb1 := b_new w (.cells (ta 16 4 []) 88)
  have HT := Lib.hid (tab_later ht (b_nw hb1 (.cells (ta 0 0 []) 88)))
  have HF := Lib.hid ((TAt.made w 16 4 []).new (.cells (ta 0 0 []) 88))
  have HR := Lib.hid (TAt.made (w.alloc (.cells (ta 16 4 []) 88)) 0 0 [])
  have HB := Lib.hid (b_nw hb1 (.cells (ta 0 0 []) 88))
  obtain ⟨p, hp⟩ : ∃ p, p = w.heap.size := ⟨_, rfl⟩
  have hq : (w.alloc (.cells (ta 16 4 []) 88)).heap.size = p + 1 := by simp [hp]
  rw [hq] at HR
  rw [← hp] at HF
  have HP := Lib.hid hp
  clear hb1 hq ht
  go_enter Tryz.func101, Tryz.ntmps101
  go_wp2_with (first | with_reducible refine wl_alloc ?_)
  rw [← hp]
  refine (Env.open_any b t _ HT.out hts).mono ?_
  rintro e w1 ⟨rfl, hb⟩
  have HF1 := Lib.hid (HF.out.on hb)
  have HR1 := Lib.hid (HR.out.on hb)
  have HB1 := Lib.hid (b_on HB.out hb)
  clear hb HF HR HB HT hp
  obtain ⟨E, hE⟩ : ∃ E, E = Env.opE t.data.toList := ⟨_, rfl⟩
  have HE := Lib.hid hE
  unfold Env.open3V
  rw [← hE]
  obtain ⟨k0, hk0⟩ : ∃ k0, k0 = Env.oK t.data.toList := ⟨_, rfl⟩
  obtain ⟨a0, ha0⟩ : ∃ a0, a0 = Env.oA t.data.toList := ⟨_, rfl⟩
  obtain ⟨g0, hg0⟩ : ∃ g0, g0 = Env.oG t.data.toList := ⟨_, rfl⟩
  rw [← hk0, ← ha0, ← hg0]
  have HKAG := Lib.hid (And.intro hk0 (And.intro ha0 hg0))
  clear hE hk0 ha0 hg0
  obtain ⟨h, hh⟩ : ∃ h, h = w1.heap.size := ⟨_, rfl⟩
  have hH0 := Has.new w1 [.int .u8 k0, .int .i64 a0, .int .u64 g0] 113
  rw [← hh] at hH0
  have HH := Lib.hid hH0
  have HF2 := Lib.hid (HF1.out.new (.cells #[.int .u8 k0, .int .i64 a0, .int .u64 g0] 113))
  have HR2 := Lib.hid (HR1.out.new (.cells #[.int .u8 k0, .int .i64 a0, .int .u64 g0] 113))
  have HB2 := Lib.hid (b_nw HB1.out (.cells #[.int .u8 k0, .int .i64 a0, .int .u64 g0] 113))
  have hpw : w.heap.size ≤ p + 1 := by have := HP.out; omega
  clear HF1 HR1 HB1 hH0
  obtain ⟨w2, hw2⟩ : ∃ w2, w2 = w1.alloc (.cells #[.int .u8 k0, .int .i64 a0, .int .u64 g0] 113) := ⟨_, rfl⟩
  by_cases h0 : E = 0
  · subst h0
    have HPS := Lib.hid (Nat.le_trans (oP_size t) hts)
    go_wp2_with fail
    rw [← hw2] at HH HF2 HR2 HB2 ⊢
    clear hw2
    refine Reg.region_vals3 (by kernel_rfl) [(25, .string (Env.oP t.data.toList)), (26, .agg (ta 16 4 [])), (27, .int .i64 16), (28, .agg (ta 16 4 [])), (29, .int .i64 4), (30, .tuple #[.agg (ta (opN t) (opK t) (opM t)), .int .i64 (paE (pyL t) 16 4)]), (24, .tuple #[.agg (ta (opN t) (opK t) (opM t)), .int .i64 (paE (pyL t) 16 4)]), (31, .agg (ta (opN t) (opK t) (opM t))), (32, .int .i64 (paE (pyL t) 16 4)), (12, .int .i64 (paE (pyL t) 16 4))] [13] (Uno w2 13 9 10 88 (tl 0 0 []) (tl (opN t) (opK t) (opM t))) ?a1 ?a2 ?a3 ?a4 ?a5 ?a6 ?a7 ?hend
    case a1 => kernel_rfl
    case a2 => kernel_rfl
    case a3 => kernel_rfl
    case a4 => kernel_rfl
    case a5 => kernel_rfl
    case a6 => exact Uno.start _
    case a7 =>
      refine ⟨?_, ?_, ?_, ?_, ?_, ?_, ?_, ?_, ?_, ?_, ?_, ?_, trivial⟩
      · skip
        intro aq wq lq hz hI hl hdone hlater hold hd ho
        have h11 : aq.tmps.getD 11 undef = .string (Env.oP t.data.toList) := ho 11 (by kernel_rfl)
        clear hd ho hdone hlater hold
        have hc : 25 < aq.tmps.size := by have hz' : aq.tmps.size = 43 := hz; omega
        exact Reg.step3_move (.tmp 11) rfl h11 (hI.keep _ (Below.refl _ _) (by decide) (by decide) (by decide) hc) trivial
      · skip
        intro aq wq lq hz hI hl hdone hlater hold hd ho
        have h7 : aq.tmps.getD 7 undef = .pointer (some ⟨p, 0, none⟩) := ho 7 (by kernel_rfl)
        clear hd ho hdone hlater hold
        rw [Array.getD_eq_getD_getElem?] at h7
        have hc : 26 < aq.tmps.size := by have hz' : aq.tmps.size = 43 := hz; omega
        have hld := (HF2.out.on hI.1).ld
        refine Reg.step3_val (.agg (ta 16 4 [])) ?_ rfl (hI.keep _ (Below.refl _ _) (by decide) (by decide) (by decide) hc) trivial
        clear hz hc hI
        go_simp
      · skip
        intro aq wq lq hz hI hl hdone hlater hold hd ho
        have h26 : aq.tmps.getD 26 undef = .agg (ta 16 4 []) := hd 26 (by kernel_rfl)
        clear hd ho hdone hlater hold
        rw [Array.getD_eq_getD_getElem?] at h26
        have hc : 27 < aq.tmps.size := by have hz' : aq.tmps.size = 43 := hz; omega
        refine Reg.step3_call 32 #[.agg (ta 16 4 [])] ?_ ((blocks_any 16 4 [] wq).mono ?_)
        · clear hz hc hI
          simp [execOp]
          go_simp
        · rintro e w' ⟨rfl, hb⟩
          refine ⟨_, rfl, ?_, (hI.keep _ hb (by decide) (by decide) (by decide) hc), trivial⟩
          rfl
      · skip
        intro aq wq lq hz hI hl hdone hlater hold hd ho
        have h7 : aq.tmps.getD 7 undef = .pointer (some ⟨p, 0, none⟩) := ho 7 (by kernel_rfl)
        clear hd ho hdone hlater hold
        rw [Array.getD_eq_getD_getElem?] at h7
        have hc : 28 < aq.tmps.size := by have hz' : aq.tmps.size = 43 := hz; omega
        have hld := (HF2.out.on hI.1).ld
        refine Reg.step3_val (.agg (ta 16 4 [])) ?_ rfl (hI.keep _ (Below.refl _ _) (by decide) (by decide) (by decide) hc) trivial
        clear hz hc hI
        go_simp
      · skip
        intro aq wq lq hz hI hl hdone hlater hold hd ho
        have h28 : aq.tmps.getD 28 undef = .agg (ta 16 4 []) := hd 28 (by kernel_rfl)
        clear hd ho hdone hlater hold
        rw [Array.getD_eq_getD_getElem?] at h28
        have hc : 29 < aq.tmps.size := by have hz' : aq.tmps.size = 43 := hz; omega
        refine Reg.step3_call 130 #[.agg (ta 16 4 [])] ?_ ((left_any 16 4 [] wq (by omega) (by omega) (by simp)).mono ?_)
        · clear hz hc hI
          simp [execOp]
          go_simp
        · rintro e w' ⟨rfl, hb⟩
          refine ⟨_, rfl, ?_, (hI.keep _ hb (by decide) (by decide) (by decide) hc), trivial⟩
          rfl
      · skip
        intro aq wq lq hz hI hl hdone hlater hold hd ho
        have h25 : aq.tmps.getD 25 undef = .string (Env.oP t.data.toList) := hd 25 (by kernel_rfl)
        have h27 : aq.tmps.getD 27 undef = .int .i64 16 := hd 27 (by kernel_rfl)
        have h29 : aq.tmps.getD 29 undef = .int .i64 4 := hd 29 (by kernel_rfl)
        clear hd ho hdone hlater hold
        rw [Array.getD_eq_getD_getElem?] at h25 h27 h29
        have hc : 30 < aq.tmps.size := by have hz' : aq.tmps.size = 43 := hz; omega
        refine Reg.step3_call 129 #[.string (Env.oP t.data.toList), .int .i64 16, .int .i64 4] ?_ ((Tab.parse_any (Env.oP t.data.toList) 16 4 wq HPS.out).mono ?_)
        · clear hz hc hI
          simp [execOp]
          go_simp
        · rintro e w' ⟨rfl, hb⟩
          refine ⟨_, rfl, ?_, (hI.keep _ hb (by decide) (by decide) (by decide) hc), trivial⟩
          rfl
      · skip
        intro aq wq lq hz hI hl hdone hlater hold hd ho
        have h30 : aq.tmps.getD 30 undef = .tuple #[.agg (ta (opN t) (opK t) (opM t)), .int .i64 (paE (pyL t) 16 4)] := hd 30 (by kernel_rfl)
        clear hd ho hdone hlater hold
        have hc : 24 < aq.tmps.size := by have hz' : aq.tmps.size = 43 := hz; omega
        exact Reg.step3_move (.tmp 30) rfl h30 (hI.keep _ (Below.refl _ _) (by decide) (by decide) (by decide) hc) trivial
      · skip
        intro aq wq lq hz hI hl hdone hlater hold hd ho
        have h24 : aq.tmps.getD 24 undef = .tuple #[.agg (ta (opN t) (opK t) (opM t)), .int .i64 (paE (pyL t) 16 4)] := hd 24 (by kernel_rfl)
        clear hd ho hdone hlater hold
        rw [Array.getD_eq_getD_getElem?] at h24
        have hc : 31 < aq.tmps.size := by have hz' : aq.tmps.size = 43 := hz; omega
        refine Reg.step3_val (.agg (ta (opN t) (opK t) (opM t))) ?_ rfl (hI.keep _ (Below.refl _ _) (by decide) (by decide) (by decide) hc) trivial
        clear hz hc hI
        simp [execOp, Act.eval, h24]
        try go_simp
      · skip
        intro aq wq lq hz hI hl hdone hlater hold hd ho
        have h24 : aq.tmps.getD 24 undef = .tuple #[.agg (ta (opN t) (opK t) (opM t)), .int .i64 (paE (pyL t) 16 4)] := hd 24 (by kernel_rfl)
        clear hd ho hdone hlater hold
        rw [Array.getD_eq_getD_getElem?] at h24
        have hc : 32 < aq.tmps.size := by have hz' : aq.tmps.size = 43 := hz; omega
        refine Reg.step3_val (.int .i64 (paE (pyL t) 16 4)) ?_ rfl (hI.keep _ (Below.refl _ _) (by decide) (by decide) (by decide) hc) trivial
        clear hz hc hI
        simp [execOp, Act.eval, h24]
        try go_simp
      · skip
        intro aq wq lq hz hI hl hdone hlater hold hd ho
        have hst : lq 10 = false := hlater 10 (by kernel_rfl)
        clear hd ho hdone hlater hold
        have hc : 13 < aq.tmps.size := by have hz' : aq.tmps.size = 43 := hz; omega
        refine Reg.step3_do (.pointer (some ⟨wq.heap.size, 0, none⟩)) (wq.alloc (.cells (tl 0 0 []).toArray 88)) ?_ trivial (Uno.mk hI hst (by decide) hc) trivial
        clear hz hc hI
        simp [execOp, Instr.alloc, Result.andThen]
        rfl
      · skip
        intro aq wq lq hz hI hl hdone hlater hold hd ho
        have h31 : aq.tmps.getD 31 undef = .agg (ta (opN t) (opK t) (opM t)) := hd 31 (by kernel_rfl)
        have hia : lq 9 = true := hdone 9 (by kernel_rfl)
        clear hd ho hdone hlater hold
        rw [Array.getD_eq_getD_getElem?] at h31
        obtain ⟨gq, hgp, hge, hH, hBx, hU⟩ := hI.st hia hl (by decide)
        rw [Array.getD_eq_getD_getElem?] at hgp
        have st := TAt.st (hH : TAt wq gq 0 0 []) (opN t) (opK t) (opM t)
        refine Reg.step3_skip (wq.setRow gq (ta (opN t) (opK t) (opM t))) rfl ?_ (hU _ (TAt.put (hH : TAt wq gq 0 0 []) _ _ _) (b_row hBx hge _)) trivial
        clear hU hH hBx hI hz
        simp [execOp, Act.eval, h31, hgp]
        go_simp
      · skip
        intro aq wq lq hz hI hl hdone hlater hold hd ho
        have h32 : aq.tmps.getD 32 undef = .int .i64 (paE (pyL t) 16 4) := hd 32 (by kernel_rfl)
        clear hd ho hdone hlater hold
        have hc : 12 < aq.tmps.size := by have hz' : aq.tmps.size = 43 := hz; omega
        exact Reg.step3_assign (.tmp 32) rfl h32 (hI.keep _ (Below.refl _ _) (by decide) (by decide) (by decide) hc) trivial
    case hend =>
      intro wx v aq hv hI
      obtain ⟨gq, hgp, hge, hH, hBx⟩ := Uno.done hI (by decide) (by decide)
      rw [hv 13 (by decide)] at hgp
      clear hv hI
      simp only [Reg.fill, List.map_cons, List.map_nil, List.foldl_cons, List.foldl_nil, List.setIfInBounds_toArray, List.set_cons_zero, List.set_cons_succ]
      rw [hgp]
      clear hgp
      have HT3 := Lib.hid (show TAt wx gq (opN t) (opK t) (opM t) from hH)
      have HH3 := Lib.hid (Has.below HH.out hBx HH.out.lt)
      have HR3 := Lib.hid (HR2.out.on hBx)
      have HB4 := Lib.hid (b_on HB2.out hBx)
      have HGQ := Lib.hid (show gq ≠ p + 1 from fun e => by have := HR2.out.lt; omega)
      have HHQ := Lib.hid (show h ≠ p + 1 from fun e => by
        have := HR2.out.row; have h2 := HH.out; rw [e] at h2; rw [show w2.heap[p + 1]? = _ from h2] at this; simp at this)
      have HM := Lib.hid (opM_len t)
      obtain ⟨N, hN⟩ : ∃ N, N = opN t := ⟨_, rfl⟩
      obtain ⟨K, hK⟩ : ∃ K, K = opK t := ⟨_, rfl⟩
      obtain ⟨M, hM⟩ : ∃ M, M = opM t := ⟨_, rfl⟩
      obtain ⟨E2, hE2⟩ : ∃ E2, E2 = paE (pyL t) 16 4 := ⟨_, rfl⟩
      rw [← hM] at HM
      rw [← hN, ← hK, ← hM] at HT3
      rw [← hN, ← hK, ← hM, ← hE2]
      have HV := Lib.hid (And.intro hN (And.intro hK (And.intro hM hE2)))
      clear hN hK hM hE2 hH hBx hge HF2 HR2 HB2 HH hpw
      have hpw : w.heap.size ≤ p + 1 := by have := HP.out; omega
      rw [← hh]
      clear hh
      by_cases h2 : E2 = 0
      · subst h2
        obtain ⟨bb, hbb⟩ : ∃ bb : Bool, bb = decide (k0 = 2 ∧ a0 = (s : Int) ∧ g0 = (M.length : Int)) := ⟨_, rfl⟩
        obtain ⟨u, hu⟩ : ∃ u : Int, u = (M.length : Int) := ⟨_, rfl⟩
        have hO0 : Op5 w gq h (p + 1) N K M [.int .u8 k0, .int .i64 a0, .int .u64 g0] (fun _ => false) wx.drew := ⟨HB4.out.drew, HT3.out, HH3.out, fun _ => HR3.out, fun h => by cases h⟩
        go_wp2_with fail
        refine Reg.region_vals (by kernel_rfl) [(33, .agg (ta N K M)), (34, .int .i64 0), (35, .bool true), (36, .bool true), (37, .agg #[.int .u8 k0, .int .i64 a0, .int .u64 g0]), (38, .int .i64 (s : Nat)), (39, .agg (ta N K M)), (40, .agg #[.int .u8 2, .int .i64 (s : Nat), .int .u64 M.length]), (41, .bool bb), (42, .bool bb), (9, .bool bb)] (Op5 w gq h (p + 1) N K M [.int .u8 k0, .int .i64 a0, .int .u64 g0]) (by kernel_rfl) (by kernel_rfl) (by kernel_rfl) (hO0) ⟨?_, ?_, ?_, ?_, ?_, ?_, ?_, ?_, ?_, ?_, ?_, ?_, trivial⟩ ?hend
        · skip
          intro aq wq lq hI hl hdone hlater hold hd ho
          have h13 : aq.tmps.getD 13 undef = .pointer (some ⟨gq, 0, none⟩) := ho 13 (by kernel_rfl)
          clear hd ho hdone hlater hold
          rw [Array.getD_eq_getD_getElem?] at h13
          have hld := hI.2.1.ld
          refine Reg.step2_val (.agg (ta N K M)) ?_ rfl (hI.rd (by decide)) trivial
          go_simp
        · skip
          intro aq wq lq hI hl hdone hlater hold hd ho
          have h12 : aq.tmps.getD 12 undef = .int .i64 0 := ho 12 (by kernel_rfl)
          clear hd ho hdone hlater hold
          exact Reg.step2_move (.tmp 12) rfl h12 (hI.rd (by decide)) trivial
        · skip
          intro aq wq lq hI hl hdone hlater hold hd ho
          have h34 : aq.tmps.getD 34 undef = .int .i64 0 := hd 34 (by kernel_rfl)
          clear hd ho hdone hlater hold
          rw [Array.getD_eq_getD_getElem?] at h34
          refine Reg.step2_val (.bool true) ?_ rfl (hI.rd (by decide)) trivial
          simp [execOp, Act.eval, h34]
          try go_simp
        · skip
          intro aq wq lq hI hl hdone hlater hold hd ho
          have h35 : aq.tmps.getD 35 undef = .bool true := hd 35 (by kernel_rfl)
          clear hd ho hdone hlater hold
          exact Reg.step2_move (.tmp 35) rfl h35 (hI.rd (by decide)) trivial
        · skip
          intro aq wq lq hI hl hdone hlater hold hd ho
          have h10 : aq.tmps.getD 10 undef = .pointer (some ⟨h, 0, none⟩) := ho 10 (by kernel_rfl)
          clear hd ho hdone hlater hold
          rw [Array.getD_eq_getD_getElem?] at h10
          have c0 := hI.2.2.1.cell 0
          have c1 := hI.2.2.1.cell 1
          have c2 := hI.2.2.1.cell 2
          simp only [List.getElem?_cons_zero, List.getElem?_cons_succ] at c0 c1 c2
          refine Reg.step2_val (.agg #[.int .u8 k0, .int .i64 a0, .int .u64 g0]) ?_ rfl (hI.rd (by decide)) trivial
          go_simp
        · skip
          intro aq wq lq hI hl hdone hlater hold hd ho
          have h2 : aq.tmps.getD 2 undef = .int .i64 (s : Nat) := ho 2 (by kernel_rfl)
          clear hd ho hdone hlater hold
          exact Reg.step2_move (.tmp 2) rfl h2 (hI.rd (by decide)) trivial
        · skip
          intro aq wq lq hI hl hdone hlater hold hd ho
          have h13 : aq.tmps.getD 13 undef = .pointer (some ⟨gq, 0, none⟩) := ho 13 (by kernel_rfl)
          clear hd ho hdone hlater hold
          rw [Array.getD_eq_getD_getElem?] at h13
          have hld := hI.2.1.ld
          refine Reg.step2_val (.agg (ta N K M)) ?_ rfl (hI.rd (by decide)) trivial
          go_simp
        · skip
          intro aq wq lq hI hl hdone hlater hold hd ho
          have h38 : aq.tmps.getD 38 undef = .int .i64 (s : Nat) := hd 38 (by kernel_rfl)
          have h39 : aq.tmps.getD 39 undef = .agg (ta N K M) := hd 39 (by kernel_rfl)
          clear hd ho hdone hlater hold
          rw [Array.getD_eq_getD_getElem?] at h38 h39
          refine Reg.step2_call 117 #[.int .i64 (s : Nat), .agg (ta N K M)] ?_ ((headOf_any s N K M wq HM.out).mono ?_)
          · clear hI
            simp [execOp]
            go_simp
          · rintro e w2 ⟨rfl, hb⟩
            exact ⟨_, rfl, rfl, hI.keep (by decide) hb, trivial⟩
        · skip
          intro aq wq lq hI hl hdone hlater hold hd ho
          have h37 : aq.tmps.getD 37 undef = .agg #[.int .u8 k0, .int .i64 a0, .int .u64 g0] := hd 37 (by kernel_rfl)
          have h40 : aq.tmps.getD 40 undef = .agg #[.int .u8 2, .int .i64 (s : Nat), .int .u64 M.length] := hd 40 (by kernel_rfl)
          clear hd ho hdone hlater hold
          rw [Array.getD_eq_getD_getElem?] at h37 h40
          refine Reg.step2_val (.bool bb) ?_ rfl (hI.rd (by decide)) trivial
          clear hI
          simp [execOp, Act.eval, h37, h40]
          go_simp
          repeat' split
          all_goals simp_all
        · skip
          intro aq wq lq hI hl hdone hlater hold hd ho
          have h36 : aq.tmps.getD 36 undef = .bool true := hd 36 (by kernel_rfl)
          have h41 : aq.tmps.getD 41 undef = .bool bb := hd 41 (by kernel_rfl)
          clear hd ho hdone hlater hold
          rw [Array.getD_eq_getD_getElem?] at h36 h41
          refine Reg.step2_val (.bool bb) ?_ rfl (hI.rd (by decide)) trivial
          simp [execOp, Act.eval, h36, h41]
          try go_simp
        · skip
          intro aq wq lq hI hl hdone hlater hold hd ho
          have h8 : aq.tmps.getD 8 undef = .pointer (some ⟨p + 1, 0, none⟩) := ho 8 (by kernel_rfl)
          have h33 : aq.tmps.getD 33 undef = .agg (ta N K M) := hd 33 (by kernel_rfl)
          clear hd ho hdone hlater hold
          rw [Array.getD_eq_getD_getElem?] at h8 h33
          have st := (hI.2.2.2.1 hl).st N K M
          refine Reg.step2_skip (wq.setRow (p + 1) (ta N K M)) rfl ?_ (hI.st hl HGQ.out HHQ.out hpw) trivial
          clear hI
          simp [execOp, Act.eval, h8, h33]
          go_simp
        · skip
          intro aq wq lq hI hl hdone hlater hold hd ho
          have h42 : aq.tmps.getD 42 undef = .bool bb := hd 42 (by kernel_rfl)
          clear hd ho hdone hlater hold
          exact Reg.step2_assign (.tmp 42) rfl h42 (hI.rd (by decide)) trivial
        case hend =>
          intro wz hI
          simp only [Reg.fill, List.foldl_cons, List.foldl_nil, List.setIfInBounds_toArray, List.set_cons_zero, List.set_cons_succ]
          have z0 := (hI.2.2.2.2 rfl).ld
          have HZ := Lib.hid hI.1
          clear hI
          go_wp2_with fail
          refine bodyPost_ret (v := .tuple #[.agg (ta N K M), .bool bb]) (by simp [results, Tryz.results101, go_sem, z0]) rfl ⟨⟨N, K, M, bb, rfl, ?_, HM.out⟩, HZ.out⟩
          obtain ⟨v1, v2, v3, v4⟩ := HV.out
          obtain ⟨k1, k2, k3⟩ := HKAG.out
          subst v1; subst v2; subst v3
          refine isOp_yes HE.out.symm v4.symm ?_
          rw [hbb, decide_eq_true_eq, k1, k2, k3]
      · have hO0 : Op5 w gq h (p + 1) N K M [.int .u8 k0, .int .i64 a0, .int .u64 g0] (fun _ => false) wx.drew := ⟨HB4.out.drew, HT3.out, HH3.out, fun _ => HR3.out, fun h => by cases h⟩
        go_wp2_with fail
        refine Reg.region_valsG (by kernel_rfl) [(33, .agg (ta N K M)), (34, .int .i64 E2), (35, .bool false), (36, .bool false), (37, undef), (38, undef), (39, undef), (40, undef), (41, undef), (42, .bool false), (9, .bool false)] (Op5 w gq h (p + 1) N K M [.int .u8 k0, .int .i64 a0, .int .u64 g0]) (by kernel_rfl) (by kernel_rfl) [4, 5, 6, 7, 8] (by kernel_rfl) (hO0) ⟨?_, ?_, ?_, ?_, ?_, ?_, ?_, ?_, ?_, ?_, ?_, ?_, trivial⟩ ?hend
        · skip
          intro aq wq lq hI hl hdone hlater hold hd ho
          have h13 : aq.tmps.getD 13 undef = .pointer (some ⟨gq, 0, none⟩) := ho 13 (by kernel_rfl)
          clear hd ho hdone hlater hold
          rw [Array.getD_eq_getD_getElem?] at h13
          have hld := hI.2.1.ld
          refine Reg.step2_val (.agg (ta N K M)) ?_ rfl (hI.rd (by decide)) trivial
          go_simp
        · skip
          intro aq wq lq hI hl hdone hlater hold hd ho
          have h12 : aq.tmps.getD 12 undef = .int .i64 E2 := ho 12 (by kernel_rfl)
          clear hd ho hdone hlater hold
          exact Reg.step2_move (.tmp 12) rfl h12 (hI.rd (by decide)) trivial
        · skip
          intro aq wq lq hI hl hdone hlater hold hd ho
          have h34 : aq.tmps.getD 34 undef = .int .i64 E2 := hd 34 (by kernel_rfl)
          clear hd ho hdone hlater hold
          rw [Array.getD_eq_getD_getElem?] at h34
          refine Reg.step2_val (.bool false) ?_ rfl (hI.rd (by decide)) trivial
          simp [execOp, Act.eval, h34]
          try go_simp
        · skip
          intro aq wq lq hI hl hdone hlater hold hd ho
          have h35 : aq.tmps.getD 35 undef = .bool false := hd 35 (by kernel_rfl)
          clear hd ho hdone hlater hold
          exact Reg.step2_move (.tmp 35) rfl h35 (hI.rd (by decide)) trivial
        · skip
          intro aq wq lq hI hl hdone hlater hold hd ho
          exact Reg.stepG_skip rfl (hI.rd (by decide)) trivial
        · skip
          intro aq wq lq hI hl hdone hlater hold hd ho
          exact Reg.stepG_skip rfl (hI.rd (by decide)) trivial
        · skip
          intro aq wq lq hI hl hdone hlater hold hd ho
          exact Reg.stepG_skip rfl (hI.rd (by decide)) trivial
        · skip
          intro aq wq lq hI hl hdone hlater hold hd ho
          exact Reg.stepG_skip rfl (hI.rd (by decide)) trivial
        · skip
          intro aq wq lq hI hl hdone hlater hold hd ho
          exact Reg.stepG_skip rfl (hI.rd (by decide)) trivial
        · skip
          intro aq wq lq hI hl hdone hlater hold hd ho
          have h36 : aq.tmps.getD 36 undef = .bool false := hd 36 (by kernel_rfl)
          have h41 : aq.tmps.getD 41 undef = undef := hd 41 (by kernel_rfl)
          clear hd ho hdone hlater hold
          rw [Array.getD_eq_getD_getElem?] at h36 h41
          refine Reg.step2_val (.bool false) ?_ rfl (hI.rd (by decide)) trivial
          simp [execOp, Act.eval, h36, h41]
          try go_simp
        · skip
          intro aq wq lq hI hl hdone hlater hold hd ho
          have h8 : aq.tmps.getD 8 undef = .pointer (some ⟨p + 1, 0, none⟩) := ho 8 (by kernel_rfl)
          have h33 : aq.tmps.getD 33 undef = .agg (ta N K M) := hd 33 (by kernel_rfl)
          clear hd ho hdone hlater hold
          rw [Array.getD_eq_getD_getElem?] at h8 h33
          have st := (hI.2.2.2.1 hl).st N K M
          refine Reg.step2_skip (wq.setRow (p + 1) (ta N K M)) rfl ?_ (hI.st hl HGQ.out HHQ.out hpw) trivial
          clear hI
          simp [execOp, Act.eval, h8, h33]
          go_simp
        · skip
          intro aq wq lq hI hl hdone hlater hold hd ho
          have h42 : aq.tmps.getD 42 undef = .bool false := hd 42 (by kernel_rfl)
          clear hd ho hdone hlater hold
          exact Reg.step2_assign (.tmp 42) rfl h42 (hI.rd (by decide)) trivial
        case hend =>
          intro wz hI
          simp only [Reg.fill, List.foldl_cons, List.foldl_nil, List.setIfInBounds_toArray, List.set_cons_zero, List.set_cons_succ]
          have z0 := (hI.2.2.2.2 rfl).ld
          have HZ := Lib.hid hI.1
          clear hI
          go_wp2_with fail
          refine bodyPost_ret (v := .tuple #[.agg (ta N K M), .bool false]) (by simp [results, Tryz.results101, go_sem, z0]) rfl ⟨⟨N, K, M, false, rfl, ?_, HM.out⟩, HZ.out⟩
          obtain ⟨v1, v2, v3, v4⟩ := HV.out
          exact isOp_pa (by rw [← v4]; exact h2) _ _ _
  · have s0 := HR2.out.st 0 0 []
    have z0 := (HR2.out.put 0 0 []).ld
    have HB3 := Lib.hid (b_row HB2.out (p := p + 1) hpw (ta 0 0 []))
    go_wp2_with (first | with_reducible refine wl_alloc ?_ | with_reducible refine wl_build0 ?_)
    exact bodyPost_ret (v := .tuple #[.agg (ta 0 0 []), .bool false]) (by simp [results, Tryz.results101, go_sem, z0]) rfl ⟨⟨0, 0, [], false, rfl, isOp_no (by rw [← HE.out]; exact h0) 0 0 [], by simp⟩, HB3.out⟩
end Go.Proofs.YtflanjcfkdjpjaaGreatDoor.Rem

/- Layer 7 (remap): newest. -/
namespace Go.Proofs.YtflanjcfkdjpjaaGreatDoor.Rem
open Go Go.RowKit Go.Proofs.YtflanjcfkdjpjaaGreatDoor Dev Tab
set_option linter.unusedVariables false

/-- the same, but for how many reads there were -/
def EqR (D E : Nat → Dv) : Prop := ∀ t, ∃ n, E t = { D t with nr := n }
theorem EqR.refl (D : Nat → Dv) : EqR D D := fun t => ⟨(D t).nr, rfl⟩
theorem EqR.trans {D E F : Nat → Dv} (h : EqR D E) (k : EqR E F) : EqR D F := fun t => by
  obtain ⟨n, hn⟩ := h t
  obtain ⟨n', hn'⟩ := k t
  exact ⟨n', by rw [hn', hn]⟩
theorem EqR.read {D E : Nat → Dv} (h : EqR D E) (s : Nat) (i : Int) : EqR D (upd E s ((E s).readD i)) := by
  intro t
  by_cases e : t = s
  · subst e; rw [upd_same]; obtain ⟨n, hn⟩ := h t; rw [hn]; unfold Dv.readD
    split
    · exact ⟨_, rfl⟩
    · exact ⟨_, rfl⟩
  · rw [upd_ne _ _ e]; exact h t
theorem EqR.readT {D E : Nat → Dv} (h : EqR D E) (t : Nat) (i : Int) : (E t).readT i = (D t).readT i := by
  obtain ⟨n, hn⟩ := h t; rw [hn]; rfl
theorem EqR.cache {D E : Nat → Dv} (h : EqR D E) (t : Nat) : (E t).cache = (D t).cache := by
  obtain ⟨n, hn⟩ := h t; rw [hn]
/-- what the r-th slot reads that newest looks at -/
def rdT (D : Nat → Dv) (s r : Nat) : ByteArray := (D (kpP s (r / 2))).readT (r : Nat)
/-- the best table of the first r slots -/
def bst (D : Nat → Dv) (s : Nat) : Nat → Option (List Int)
  | 0 => none
  | r + 1 => best (bst D s r) (opn s (rdT D s r))
theorem bst_zero (D : Nat → Dv) (s : Nat) : bst D s 0 = none := rfl
theorem bst_succ (D : Nat → Dv) (s r : Nat) : bst D s (r + 1) = best (bst D s r) (opn s (rdT D s r)) := rfl
theorem EqR.rdT {D E : Nat → Dv} (h : EqR D E) (s r : Nat) : rdT E s r = rdT D s r := h.readT _ _
theorem readT_size {D : Dv} (h : D.Ok) (i : Int) : (D.readT i).size ≤ 1024 := by
  have hz := h.s1024
  unfold Dv.readT
  split
  · unfold Dv.reads
    split
    · rename_i x hx
      have := h.text x (List.mem_reverse.1 (List.mem_of_find?_eq_some hx))
      omega
    · cases hs : D.secs[i.toNat]? with
      | none => exact Nat.zero_le _
      | some x =>
        have := h.media x (List.mem_of_getElem? hs)
        show x.1.size ≤ 1024
        omega
  · exact Nat.zero_le _
section
variable {w0 w w' : World} {X : List Nat} {q : Nat} {pd : Nat → Nat} {m : Nat → List Int} {D E : Nat → Dv} {s r : Nat}
theorem CPe.ok (h : CPe w0 X q pd m D w) (hs : s < 2) : (D s).Ok := by
  obtain ⟨sb, cv, hd, -⟩ := h.some_
  exact (hd s hs).ok
theorem kpP_lt (hs : s < 2) {k : Nat} : kpP s k < 2 := by unfold kpP; split <;> omega
theorem nw_read (h : CPe w0 X q pd m E w) (he : EqR D E) (hs : s < 2) (hl : ∀ t, t < 2 → (D t).cache.length ≤ 10000000) (p : Nat) (hp : p = pd (kpP s (r / 2))) (v : Int) (hv : v = (r : Nat)) :
    Calls Tryz.prog 100 #[.pointer (some ⟨p, 0, none⟩), .int .i64 v] w fun e w' => (∃ x, e = .returned (.tuple #[.string (rdT D s r), .int .i64 x])) ∧ ∃ E', EqR D E' ∧ CPe w0 X q pd m E' w' ∧ Same (q :: X) w w' := by
  subst hp; subst hv
  have hP : kpP s (r / 2) < 2 := kpP_lt hs
  refine (h.dev hP (G := fun F => F = (E (kpP s (r / 2))).readD (r : Nat)) (R := fun e => ∃ x, e = .returned (.tuple #[.string (rdT D s r), .int .i64 x])) fun sb cv hd => ?_).mono ?_
  · refine (read_any _ w hd (by rw [he.cache]; have := hl _ hP; omega)).mono ?_
    rintro e w' ⟨rfl, hch, hd'⟩
    exact ⟨⟨_, by rw [he.readT]; rfl⟩, _, rfl, .same hch hd'⟩
  · rintro e w' ⟨he', F, rfl, hc, hsm⟩
    exact ⟨he', _, he.read _ _, hc, hsm⟩
theorem chg_row {R : Nat → Prop} (w : World) (p : Nat) (cs : Array Value) (hp : R p) : Chg R w (w.setRow p cs) :=
  ⟨rfl, rfl, rfl, by simp, fun i _ hi => setRow_other w p i cs (fun e => hi (e ▸ hp))⟩
theorem CPe.add (h : CPe w0 X q pd m D w) (hb : Below w.heap.size w w') {b : Nat} (h1 : w.heap.size ≤ b) (h2 : b < w'.heap.size) : CPe w0 (b :: X) q pd m D w' := by
  have h' := h.later hb
  have hql := h.lt
  obtain ⟨⟨sb0, cv0, hd0, hf0, hff0⟩, hp0, hq0, hx0, hb0⟩ := h
  obtain ⟨⟨sb, cv, hd, hf, hff⟩, hp, hq, hx, hb'⟩ := h'
  refine ⟨⟨sb0, cv0, fun s hs => (hd0 s hs).below hb (Nat.le_refl _), fun s hs k hk => ⟨(hf0 s hs k hk).1, ?_, (hf0 s hs k hk).2.2⟩, hff0⟩, hp, ⟨hq.1, ?_⟩, ?_, hb'⟩
  · intro he
    rcases List.mem_cons.1 he with rfl | he
    · exact absurd ((hd0 s hs).lt _ hk) (by omega)
    · exact (hf0 s hs k hk).2.1 he
  · intro he
    rcases List.mem_cons.1 he with rfl | he
    · omega
    · exact hq.2 he
  · intro k hk
    rcases List.mem_cons.1 hk with rfl | hk
    · exact ⟨Nat.le_trans hb0.size h1, h2⟩
    · exact hx k hk
theorem same_below (h : CPe w0 X q pd m D w) (hb : Below w.heap.size w w') : Same (q :: X) w w' := fun k hk => by
  refine hb.block k ?_
  rcases List.mem_cons.1 hk with rfl | hk
  · exact h.lt
  · exact (h.x k hk).2
end
/-- in the middle of newest: a has the first table, c the results, d the newest one, b the sums -/
structure Nw (w0 w : World) (X : List Nat) (q : Nat) (pd : Nat → Nat) (m : Nat → List Int) (D : Nat → Dv) (s a b c d r : Nat) (x y : Int) (M : List Int) (wr : World) : Prop where
  pair : ∃ E, EqR D E ∧ CPe w0 (d :: b :: c :: a :: X) q pd m E wr
  ta_ : TAt wr a 16 4 []
  tc : TAt wr c 0 0 []
  td : TAt wr d x y M
  tb_ : Sum.IsTab wr b
  is : ∀ l, bst D s r = some l → x = 16 ∧ y = 4 ∧ M = l
  len : M.length ≤ 32
  same : Same (q :: X) w wr
  ne : d ≠ a ∧ d ≠ c ∧ d ≠ b ∧ d ∉ X ∧ c ∉ X
section
variable {w0 w wr w' : World} {X : List Nat} {q : Nat} {pd : Nat → Nat} {m : Nat → List Int} {D : Nat → Dv} {s a b c d r : Nat} {x y : Int} {M : List Int}
theorem tab_same {w w' : World} {b : Nat} (h : Sum.IsTab w b) (hk : w'.heap[b]? = w.heap[b]?) : Sum.IsTab w' b := fun j hj => by
  have := h j hj
  unfold World.cell? at this ⊢
  rw [hk]; exact this
theorem Nw.later (h : Nw w0 w X q pd m D s a b c d r x y M wr) (hb : Below wr.heap.size wr w') : Nw w0 w X q pd m D s a b c d r x y M w' := by
  obtain ⟨⟨E, hE, hc⟩, h1, h2, h3, h4, h5, h6, h7, h8⟩ := h
  exact ⟨⟨E, hE, hc.later hb⟩, h1.on hb, h2.on hb, h3.on hb, tab_later h4 hb, h5, h6, h7.trans (fun k hk => same_below hc hb k (by
    rcases List.mem_cons.1 hk with rfl | hk
    · simp
    · simp [hk])), h8⟩
theorem Nw.read (h : Nw w0 w X q pd m D s a b c d r x y M wr) (hs : s < 2) (hl : ∀ t, t < 2 → (D t).cache.length ≤ 10000000) (p : Nat) (hp : p = pd (kpP s (r / 2))) (v : Int) (hv : v = (r : Nat)) :
    Calls Tryz.prog 100 #[.pointer (some ⟨p, 0, none⟩), .int .i64 v] wr fun e w' => (∃ z, e = .returned (.tuple #[.string (rdT D s r), .int .i64 z])) ∧ Nw w0 w X q pd m D s a b c d r x y M w' := by
  obtain ⟨⟨E, hE, hc⟩, h1, h2, h3, h4, h5, h6, h7, h8⟩ := h
  refine (nw_read hc hE hs hl p hp v hv).mono ?_
  rintro e w' ⟨he, E', hE', hc', hsm⟩
  exact ⟨he, ⟨E', hE', hc'⟩, h1.same (hsm a (by simp)), h2.same (hsm c (by simp)), h3.same (hsm d (by simp)), tab_same h4 (hsm b (by simp)), h5, h6, h7.trans (fun k hk => hsm k (by
    rcases List.mem_cons.1 hk with rfl | hk
    · simp
    · simp [hk])), h8⟩
theorem Nw.next (h : Nw w0 w X q pd m D s a b c d r x y M wr) (hn : ∀ l, bst D s (r + 1) = some l → x = 16 ∧ y = 4 ∧ M = l) : Nw w0 w X q pd m D s a b c d (r + 1) x y M wr := by
  obtain ⟨h0, h1, h2, h3, h4, h5, h6, h7, h8⟩ := h
  exact ⟨h0, h1, h2, h3, h4, hn, h6, h7, h8⟩
theorem Nw.set (h : Nw w0 w X q pd m D s a b c d r x y M wr) (x' y' : Int) (M' : List Int) (hl : M'.length ≤ 32) (hn : ∀ l, bst D s (r + 1) = some l → x' = 16 ∧ y' = 4 ∧ M' = l) : Nw w0 w X q pd m D s a b c d (r + 1) x' y' M' (wr.setRow d (ta x' y' M')) := by
  obtain ⟨⟨E, hE, hc⟩, h1, h2, h3, h4, h5, h6, h7, h8⟩ := h
  refine ⟨⟨E, hE, hc.chg (chg_row _ _ _ (by simp))⟩, h1.putOther (Ne.symm h8.1) _, h2.putOther (Ne.symm h8.2.1) _, h3.put _ _ _, tab_same h4 (setRow_other _ _ _ _ (Ne.symm h8.2.2.1)), hn, hl, h7.trans (fun k hk => setRow_other _ _ _ _ fun e => ?_), h8⟩
  subst e
  rcases List.mem_cons.1 hk with rfl | hk
  · exact hc.q_.2 (by simp)
  · exact h8.2.2.2.1 hk
theorem Nw.size (h : Nw w0 w X q pd m D s a b c d r x y M wr) (hs : s < 2) : (rdT D s r).size ≤ 1000000 := by
  obtain ⟨E, hE, hc⟩ := h.pair
  rw [← hE.rdT]
  exact Nat.le_trans (readT_size (hc.ok (kpP_lt hs)) _) (by omega)
end
theorem best_no (a : Option (List Int)) : best a none = a := by cases a <;> rfl
theorem bst_skip {D : Nat → Dv} {s r : Nat} (h : opn s (rdT D s r) = none) : bst D s (r + 1) = bst D s r := by rw [bst_succ, h, best_no]
theorem bst_first {D : Nat → Dv} {s r : Nat} {l : List Int} (h : opn s (rdT D s r) = some l) (h0 : bst D s r = none) : bst D s (r + 1) = some l := by rw [bst_succ, h, h0]; rfl
theorem bst_both {D : Nat → Dv} {s r : Nat} {l n : List Int} (h : opn s (rdT D s r) = some l) (h0 : bst D s r = some n) : bst D s (r + 1) = if n.length < l.length then some l else some n := by rw [bst_succ, h, h0]; rfl
theorem opn_some {s : Nat} {T : ByteArray} {x y : Int} {M : List Int} (h : IsOp s T x y M true) : opn s T = some M ∧ x = 16 ∧ y = 4 := by
  obtain ⟨h1, h2⟩ := h
  cases ho : opn s T with
  | none => rw [ho] at h1; cases h1
  | some l => obtain ⟨a, b, c⟩ := h2 l ho; exact ⟨by rw [c], a, b⟩
theorem opn_none {s : Nat} {T : ByteArray} {x y : Int} {M : List Int} (h : IsOp s T x y M false) : opn s T = none := by
  cases ho : opn s T with
  | none => rfl
  | some l => have := h.1; rw [ho] at this; cases this
set_option maxHeartbeats 2000000 in
set_option maxRecDepth 100000 in
theorem newest_e {w0 w : World} {X : List Nat} {q : Nat} {pd : Nat → Nat} {m : Nat → List Int} {D : Nat → Dv} (h : CPe w0 X q pd m D w) {s : Nat} (hs : s < 2) (hl : ∀ t, t < 2 → (D t).cache.length ≤ 10000000) :
    Calls Tryz.prog 66 #[.pointer (some ⟨q, 0, none⟩), .int .i64 (s : Nat), .agg (ta 16 4 [])] w fun e w' => ∃ x y M E, e = .returned (.tuple #[.agg (ta x y M), .bool (bst D s 4).isSome]) ∧ (∀ l, bst D s 4 = some l → x = 16 ∧ y = 4 ∧ M = l) ∧ EqR D E ∧ CPe w0 X q pd m E w' ∧ Same (q :: X) w w' := by
  have HL := Lib.hid hl
  have hb1 := b_new w (.cells (ta 16 4 []) 88)
  have hb2 := b_nw hb1 (.cells (ta 0 0 []) 88)
  have HA := Lib.hid ((TAt.made w 16 4 []).new (.cells (ta 0 0 []) 88))
  have hc0 := TAt.made (w.alloc (.cells (ta 16 4 []) 88)) 0 0 []
  have HP := Lib.hid ((h.new (.cells (ta 16 4 []) 88)).new (.cells (ta 0 0 []) 88))
  have HS0 := Lib.hid (same_below h hb2)
  have hX := fun k hk => (h.x k hk).2
  obtain ⟨a, ha⟩ : ∃ a, a = w.heap.size := ⟨_, rfl⟩
  obtain ⟨c, hc⟩ : ∃ c, c = (w.alloc (.cells (ta 16 4 []) 88)).heap.size := ⟨_, rfl⟩
  have hac : c = a + 1 := by rw [hc, ha]; simp
  rw [← hc] at hc0 HP
  rw [← ha] at HA HP hX
  have HC := Lib.hid hc0
  have HXX := Lib.hid hX
  have HAC := Lib.hid hac
  have HQ := Lib.hid h.lt
  rw [← ha] at HQ
  clear hb1 hb2 hc0 hX hl h
  go_enter Tryz.func66, Tryz.ntmps66
  go_wp2_with (first | with_reducible refine wl_alloc ?_)
  rw [← ha, ← hac]
  refine (Sum.make_any _).mono ?_
  rintro e w1 ⟨b, rfl, hb1, ht, hb⟩
  have HA1 := Lib.hid (HA.out.on hb)
  have HC1 := Lib.hid (HC.out.on hb)
  have hbl : b < w1.heap.size := World.block_lt_of_cell? w1 _ (ht 0 (by omega))
  have HP1 := Lib.hid (HP.out.add hb hb1 hbl)
  have HS1 := Lib.hid (HS0.out.trans (fun k hk => same_below HP.out hb k (by
    rcases List.mem_cons.1 hk with rfl | hk
    · simp
    · simp [hk])) : Same (q :: X) w w1)
  have HT1 := Lib.hid ht
  have hsz : a + 2 ≤ w1.heap.size := by have := hb.size; simp at this; omega
  have HBL := Lib.hid hbl
  have hldA := HA1.out.ld
  clear ha hc hac hb1 ht hb hbl HA HC HP HS0
  obtain ⟨d, hd⟩ : ∃ d, d = w1.heap.size := ⟨_, rfl⟩
  have HN := Lib.hid (show Nw w0 w X q pd m D s a b c d 0 16 4 [] (w1.alloc (.cells (ta 16 4 []) 88)) from by
    refine ⟨⟨D, EqR.refl D, ?_⟩, HA1.out.new _, HC1.out.new _, ?_, tab_later HT1.out (b_new w1 _), fun l hl => (by cases hl), by simp, ?_, ?_⟩
    · rw [hd]; exact HP1.out.new _
    · rw [hd]; exact TAt.made _ _ _ _
    · exact HS1.out.trans fun k hk => same_below HP1.out (b_new w1 _) k (by
        rcases List.mem_cons.1 hk with rfl | hk
        · simp
        · simp [hk])
    · have := HBL.out; have := HAC.out
      exact ⟨by omega, by omega, by omega, fun hk => by have := HXX.out d hk; omega, fun hk => by have := HXX.out c hk; omega⟩)
  clear hsz HAC HXX HBL HS1 HT1 HP1 HA1 HC1 HQ
  go_wp2_with (first | with_reducible refine wl_alloc ?_)
  rw [← hd]
  clear hd hldA
  obtain ⟨E0, hE0, hc0⟩ := HN.out.pair
  refine (from_e hc0.pb hs).mono ?_
  rintro e w2 ⟨rfl, hb⟩
  have HN2 := Lib.hid (HN.out.later hb)
  clear hb hc0 HN hE0
  go_wp2_with fail
  go_loopw [23, 10] (fun i f wr => ∃ (k : Nat) (x y : Int) (M : List Int), k ≤ 2 ∧ i = .int .i64 k ∧ f = .bool (bst D s (2 * k)).isSome ∧ Nw w0 w X q pd m D s a b c d (2 * k) x y M wr) (fun i _ _ => 2 - (intOf i).toNat)
  case atStart => exact ⟨0, 16, 4, [], by omega, rfl, rfl, HN2.out⟩
  case round =>
    obtain ⟨k, x, y, M, hk, rfl, rfl, hn⟩ := hrel
    clear HN2
    have HN := Lib.hid hn
    clear hn
    by_cases h2 : k = 2
    · subst h2
      have l0 := HN.out.td.ld
      have s0 := HN.out.tc.st x y M
      have z0 := (HN.out.tc.put x y M).ld
      obtain ⟨E, hE, hc⟩ := HN.out.pair
      have HE := Lib.hid (show EqR D E from hE)
      have HCC := Lib.hid (show CPe w0 X q pd m E (wr.setRow c (ta x y M)) from (hc.chg (chg_row _ _ _ (by simp))).sub fun k hk => by simp [hk])
      have HSS := Lib.hid (show Same (q :: X) w (wr.setRow c (ta x y M)) from HN.out.same.trans fun k hk => setRow_other _ _ _ _ fun e => by
        subst e
        rcases List.mem_cons.1 hk with rfl | hk
        · exact hc.q_.2 (by simp)
        · exact HN.out.ne.2.2.2.2 hk)
      have HIS := Lib.hid HN.out.is
      clear hE hc HN hk
      obtain ⟨F, hF⟩ : ∃ F, F = (bst D s (2 * 2)).isSome := ⟨_, rfl⟩
      rw [← hF]
      go_wp2_with fail
      exact bodyPost_ret (v := .tuple #[.agg (ta x y M), .bool F]) (by simp [results, Tryz.results66, go_sem, z0]) rfl ⟨x, y, M, E, by rw [hF], HIS.out, HE.out, HCC.out, HSS.out⟩
    · have hk2 : k < 2 := by omega
      have hi0 : ∀ w : World, (Instr.index 26 (.agg #[.pointer (some ⟨pd s, 0, none⟩), .pointer (some ⟨pd (1 - s), 0, none⟩)]) (.int .i64 0)).run Tryz.prog w = .ok (.pointer (some ⟨pd s, 0, none⟩)) w := fun _ => by kernel_rfl
      have hi1 : ∀ w : World, (Instr.index 26 (.agg #[.pointer (some ⟨pd s, 0, none⟩), .pointer (some ⟨pd (1 - s), 0, none⟩)]) (.int .i64 1)).run Tryz.prog w = .ok (.pointer (some ⟨pd (1 - s), 0, none⟩)) w := fun _ => by kernel_rfl
      obtain ⟨kk, hkk⟩ : ∃ kk, kk = 2 * k := ⟨_, rfl⟩
      have HKK := Lib.hid hkk
      have HKL := Lib.hid hk2
      rw [← hkk] at HN ⊢
      clear hkk hk h2
      rcases (show k = 0 ∨ k = 1 by omega) with rfl | rfl
      all_goals
        clear hk2
        first
        | rw [show ((0 : Nat) : Int) = 0 from rfl]
        | rw [show ((1 : Nat) : Int) = 1 from rfl]
        go_wp2_with fail
        clear hi0 hi1
        go_loopw [27, 10] (fun i f wv => ∃ (j : Nat) (x y : Int) (M : List Int), j ≤ 2 ∧ i = .int .i64 j ∧ f = .bool (bst D s (kk + j)).isSome ∧ Nw w0 w X q pd m D s a b c d (kk + j) x y M wv) (fun i _ _ => 2 - (intOf i).toNat)
        case atStart => exact ⟨0, x, y, M, by omega, rfl, rfl, HN.out⟩
        case round =>
          obtain ⟨j, x, y, M, hj, rfl, rfl, hn⟩ := hrel
          clear HN
          have HN := Lib.hid hn
          clear hn
          obtain ⟨F, hF⟩ : ∃ F, F = (bst D s (kk + j)).isSome := ⟨_, rfl⟩
          rw [← hF]
          have HF := Lib.hid hF
          clear hF
          by_cases h2 : j = 2
          · subst h2
            go_wp2_with fail
            go_roundw
            case rel => first
              | exact ⟨0 + 1, x, y, M, by omega, by go_num, by rw [HF.out, HKK.out], by have := HN.out; rwa [HKK.out] at this⟩
              | exact ⟨1 + 1, x, y, M, by omega, by go_num, by rw [HF.out, HKK.out], by have := HN.out; rwa [HKK.out] at this⟩
            case measure => simp [intOf]
          · have hj2 : j < 2 := by omega
            clear h2 hj
            have HJ := Lib.hid hj2
            go_wp2_with fail
            refine (HN.out.read hs HL.out _ (by
              have h1 := HKK.out; have h2 := HJ.out; have h3 := HKL.out
              first
              | (rw [show (kk + j) / 2 = 0 by omega]; rfl)
              | (rw [show (kk + j) / 2 = 1 by omega]; rfl)) _ (by have h1 := HKK.out; omega)).mono ?_
            rintro e w3 ⟨⟨z, rfl⟩, hn⟩
            have hsz := hn.size hs
            obtain ⟨T, hT⟩ : ∃ T, T = rdT D s (kk + j) := ⟨_, rfl⟩
            rw [← hT] at hsz ⊢
            have HN3 := Lib.hid hn
            have HSZ := Lib.hid hsz
            have HTT := Lib.hid hT
            have hld := hn.ta_.ld
            clear hn hsz hT HN
            go_wp2_with fail
            refine (opened_any b T s _ HN3.out.tb_ HSZ.out).mono ?_
            rintro e w4 ⟨⟨x1, y1, M1, f, rfl, hop, hm1⟩, hb⟩
            have HOP := Lib.hid hop
            have HM1 := Lib.hid hm1
            have HM := Lib.hid HN3.out.len
            have HN4 := Lib.hid (HN3.out.later (hb.trans ((b_new w4 (.cells (ta x1 y1 M1) 88)).mono hb.size)))
            obtain ⟨g, hg⟩ : ∃ g, g = w4.heap.size := ⟨_, rfl⟩
            have hgt := TAt.made w4 x1 y1 M1
            rw [← hg] at hgt
            have HG := Lib.hid hgt
            clear hgt hop hm1 hb HN3 hld
            cases f with
            | false =>
              have hO0 : Nw w0 w X q pd m D s a b c d (kk + j) x y M (w4.alloc (.cells (ta x1 y1 M1) 88)) ∧ TAt (w4.alloc (.cells (ta x1 y1 M1) 88)) g x1 y1 M1 := ⟨HN4.out, HG.out⟩
              have hdr : Below (w4.alloc (.cells (ta x1 y1 M1) 88)).heap.size (w4.alloc (.cells (ta x1 y1 M1) 88)) (w4.alloc (.cells (ta x1 y1 M1) 88)).drew := (Below.refl _ _).drew
              go_wp2_with (first | with_reducible refine wl_alloc ?_)
              rw [← hg]
              clear hg
              refine Reg.region_valsG (by kernel_rfl) [(47, .bool false), (48, .bool false), (49, undef), (50, undef), (51, undef), (52, undef), (53, undef), (54, undef), (55, undef), (56, undef), (57, undef), (58, .bool false)] (fun _ wy => Nw w0 w X q pd m D s a b c d (kk + j) x y M wy ∧ TAt wy g x1 y1 M1) (by kernel_rfl) (by kernel_rfl) [2, 3, 4, 5, 6, 7, 8, 9, 10] (by kernel_rfl) (⟨hO0.1.later hdr, hO0.2.on hdr⟩) ⟨?_, ?_, ?_, ?_, ?_, ?_, ?_, ?_, ?_, ?_, ?_, ?_, trivial⟩ ?hend
              · skip
                intro aq wq lq hI hl hdone hlater hold hd ho
                have h17 : aq.tmps.getD 17 undef = .bool false := ho 17 (by kernel_rfl)
                clear hd ho hdone hlater hold
                exact Reg.step2_move (.tmp 17) rfl h17 hI trivial
              · skip
                intro aq wq lq hI hl hdone hlater hold hd ho
                have h47 : aq.tmps.getD 47 undef = .bool false := hd 47 (by kernel_rfl)
                clear hd ho hdone hlater hold
                exact Reg.step2_move (.tmp 47) rfl h47 hI trivial
              · skip
                intro aq wq lq hI hl hdone hlater hold hd ho
                exact Reg.stepG_skip rfl hI trivial
              · skip
                intro aq wq lq hI hl hdone hlater hold hd ho
                exact Reg.stepG_skip rfl hI trivial
              · skip
                intro aq wq lq hI hl hdone hlater hold hd ho
                exact Reg.stepG_skip rfl hI trivial
              · skip
                intro aq wq lq hI hl hdone hlater hold hd ho
                exact Reg.stepG_skip rfl hI trivial
              · skip
                intro aq wq lq hI hl hdone hlater hold hd ho
                exact Reg.stepG_skip rfl hI trivial
              · skip
                intro aq wq lq hI hl hdone hlater hold hd ho
                exact Reg.stepG_skip rfl hI trivial
              · skip
                intro aq wq lq hI hl hdone hlater hold hd ho
                exact Reg.stepG_skip rfl hI trivial
              · skip
                intro aq wq lq hI hl hdone hlater hold hd ho
                exact Reg.stepG_skip rfl hI trivial
              · skip
                intro aq wq lq hI hl hdone hlater hold hd ho
                exact Reg.stepG_skip rfl hI trivial
              · skip
                intro aq wq lq hI hl hdone hlater hold hd ho
                have h48 : aq.tmps.getD 48 undef = .bool false := hd 48 (by kernel_rfl)
                have h57 : aq.tmps.getD 57 undef = undef := hd 57 (by kernel_rfl)
                clear hd ho hdone hlater hold
                rw [Array.getD_eq_getD_getElem?] at h48 h57
                refine Reg.step2_val (.bool false) ?_ rfl hI trivial
                simp [execOp, Act.eval, h48, h57]
                try go_simp
              case hend =>
                intro wz hI
                simp only [Reg.fill, List.foldl_cons, List.foldl_nil, List.setIfInBounds_toArray, List.set_cons_zero, List.set_cons_succ]
                have hbs := bst_skip (r := kk + j) (by rw [← HTT.out]; exact opn_none HOP.out)
                have HN6 := Lib.hid (hI.1.next fun l hl => hI.1.is l (by rw [← hbs]; exact hl))
                have HF6 := Lib.hid (show F = (bst D s (kk + (j + 1))).isSome by rw [← Nat.add_assoc, hbs]; exact HF.out)
                clear hI hO0 hdr hbs HOP HN4 HG
                go_wp2_with fail
                go_roundw
                case rel => exact ⟨j + 1, x, y, M, by omega, by go_num, by rw [HF6.out], HN6.out⟩
                case measure => simp [intOf]; omega
            | true =>
              obtain ⟨ho, -, -⟩ := opn_some HOP.out
              have hx1 := (opn_some HOP.out).2.1
              have hy1 := (opn_some HOP.out).2.2
              have HO := Lib.hid (show opn s (rdT D s (kk + j)) = some M1 by rw [← HTT.out]; exact ho)
              have HXY := Lib.hid (And.intro hx1 hy1)
              clear ho hx1 hy1
              have hO0 : Nw w0 w X q pd m D s a b c d (kk + j) x y M (w4.alloc (.cells (ta x1 y1 M1) 88)) ∧ TAt (w4.alloc (.cells (ta x1 y1 M1) 88)) g x1 y1 M1 := ⟨HN4.out, HG.out⟩
              have hdr : Below (w4.alloc (.cells (ta x1 y1 M1) 88)).heap.size (w4.alloc (.cells (ta x1 y1 M1) 88)) (w4.alloc (.cells (ta x1 y1 M1) 88)).drew := (Below.refl _ _).drew
              go_wp2_with (first | with_reducible refine wl_alloc ?_)
              rw [← hg]
              clear hg
              cases F with
              | false =>
                refine Reg.region_valsG (by kernel_rfl) [(47, .bool true), (48, .bool true), (49, .bool false), (50, .bool true), (51, .bool true), (52, undef), (53, undef), (54, undef), (55, undef), (56, undef), (57, .bool true), (58, .bool true)] (fun _ wy => Nw w0 w X q pd m D s a b c d (kk + j) x y M wy ∧ TAt wy g x1 y1 M1) (by kernel_rfl) (by kernel_rfl) [5, 6, 7, 8, 9] (by kernel_rfl) (⟨hO0.1.later hdr, hO0.2.on hdr⟩) ⟨?_, ?_, ?_, ?_, ?_, ?_, ?_, ?_, ?_, ?_, ?_, ?_, trivial⟩ ?hend
                · skip
                  intro aq wq lq hI hl hdone hlater hold hd ho
                  have h17 : aq.tmps.getD 17 undef = .bool true := ho 17 (by kernel_rfl)
                  clear hd ho hdone hlater hold
                  exact Reg.step2_move (.tmp 17) rfl h17 hI trivial
                · skip
                  intro aq wq lq hI hl hdone hlater hold hd ho
                  have h47 : aq.tmps.getD 47 undef = .bool true := hd 47 (by kernel_rfl)
                  clear hd ho hdone hlater hold
                  exact Reg.step2_move (.tmp 47) rfl h47 hI trivial
                · skip
                  intro aq wq lq hI hl hdone hlater hold hd ho
                  have h10 : aq.tmps.getD 10 undef = .bool false := ho 10 (by kernel_rfl)
                  clear hd ho hdone hlater hold
                  exact Reg.step2_move (.tmp 10) rfl h10 hI trivial
                · skip
                  intro aq wq lq hI hl hdone hlater hold hd ho
                  have h49 : aq.tmps.getD 49 undef = .bool false := hd 49 (by kernel_rfl)
                  clear hd ho hdone hlater hold
                  rw [Array.getD_eq_getD_getElem?] at h49
                  refine Reg.step2_val (.bool true) ?_ rfl hI trivial
                  simp [execOp, Act.eval, h49]
                  try go_simp
                · skip
                  intro aq wq lq hI hl hdone hlater hold hd ho
                  have h50 : aq.tmps.getD 50 undef = .bool true := hd 50 (by kernel_rfl)
                  clear hd ho hdone hlater hold
                  exact Reg.step2_move (.tmp 50) rfl h50 hI trivial
                · skip
                  intro aq wq lq hI hl hdone hlater hold hd ho
                  exact Reg.stepG_skip rfl hI trivial
                · skip
                  intro aq wq lq hI hl hdone hlater hold hd ho
                  exact Reg.stepG_skip rfl hI trivial
                · skip
                  intro aq wq lq hI hl hdone hlater hold hd ho
                  exact Reg.stepG_skip rfl hI trivial
                · skip
                  intro aq wq lq hI hl hdone hlater hold hd ho
                  exact Reg.stepG_skip rfl hI trivial
                · skip
                  intro aq wq lq hI hl hdone hlater hold hd ho
                  exact Reg.stepG_skip rfl hI trivial
                · skip
                  intro aq wq lq hI hl hdone hlater hold hd ho
                  have h51 : aq.tmps.getD 51 undef = .bool true := hd 51 (by kernel_rfl)
                  have h56 : aq.tmps.getD 56 undef = undef := hd 56 (by kernel_rfl)
                  clear hd ho hdone hlater hold
                  rw [Array.getD_eq_getD_getElem?] at h51 h56
                  refine Reg.step2_val (.bool true) ?_ rfl hI trivial
                  simp [execOp, Act.eval, h51, h56]
                  try go_simp
                · skip
                  intro aq wq lq hI hl hdone hlater hold hd ho
                  have h48 : aq.tmps.getD 48 undef = .bool true := hd 48 (by kernel_rfl)
                  have h57 : aq.tmps.getD 57 undef = .bool true := hd 57 (by kernel_rfl)
                  clear hd ho hdone hlater hold
                  rw [Array.getD_eq_getD_getElem?] at h48 h57
                  refine Reg.step2_val (.bool true) ?_ rfl hI trivial
                  simp [execOp, Act.eval, h48, h57]
                  try go_simp
                case hend =>
                  intro wz hI
                  simp only [Reg.fill, List.foldl_cons, List.foldl_nil, List.setIfInBounds_toArray, List.set_cons_zero, List.set_cons_succ]
                  have hbs := bst_first HO.out (by
                    have := HF.out
                    cases hq : bst D s (kk + j) with
                    | none => rfl
                    | some l => rw [hq] at this; cases this)
                  have l0 := hI.2.ld
                  have s0 := hI.1.td.st x1 y1 M1
                  have HN6 := Lib.hid (hI.1.set x1 y1 M1 HM1.out fun l hl => by rw [hbs] at hl; cases hl; exact ⟨HXY.out.1, HXY.out.2, rfl⟩)
                  have HF6 := Lib.hid (show true = (bst D s (kk + (j + 1))).isSome by rw [← Nat.add_assoc, hbs]; rfl)
                  clear hI hO0 hdr hbs HOP HN4 HG
                  go_wp2_with fail
                  go_roundw
                  case rel => exact ⟨j + 1, x1, y1, M1, by omega, by go_num, by rw [HF6.out], HN6.out⟩
                  case measure => simp [intOf]; omega
              | true =>
                obtain ⟨n0, hn0⟩ : ∃ n, bst D s (kk + j) = some n := by
                  have := HF.out
                  cases hq : bst D s (kk + j) with
                  | none => rw [hq] at this; cases this
                  | some l => exact ⟨l, rfl⟩
                have hnm : M = n0 := (HN4.out.is n0 hn0).2.2
                have HN0 := Lib.hid (show bst D s (kk + j) = some M by rw [hn0, hnm])
                clear hn0 hnm
                obtain ⟨G, hG⟩ : ∃ G : Bool, G = decide ((M.length : Int) < (M1.length : Int)) := ⟨_, rfl⟩
                refine Reg.region_vals (by kernel_rfl) [(47, .bool true), (48, .bool true), (49, .bool true), (50, .bool false), (51, .bool false), (52, .agg (ta x1 y1 M1)), (53, .int .u64 M1.length), (54, .agg (ta x y M)), (55, .int .u64 M.length), (56, .bool G), (57, .bool G), (58, .bool G)] (fun _ wy => Nw w0 w X q pd m D s a b c d (kk + j) x y M wy ∧ TAt wy g x1 y1 M1) (by kernel_rfl) (by kernel_rfl) (by kernel_rfl) (⟨hO0.1.later hdr, hO0.2.on hdr⟩) ⟨?_, ?_, ?_, ?_, ?_, ?_, ?_, ?_, ?_, ?_, ?_, ?_, trivial⟩ ?hend
                · skip
                  intro aq wq lq hI hl hdone hlater hold hd ho
                  have h17 : aq.tmps.getD 17 undef = .bool true := ho 17 (by kernel_rfl)
                  clear hd ho hdone hlater hold
                  exact Reg.step2_move (.tmp 17) rfl h17 hI trivial
                · skip
                  intro aq wq lq hI hl hdone hlater hold hd ho
                  have h47 : aq.tmps.getD 47 undef = .bool true := hd 47 (by kernel_rfl)
                  clear hd ho hdone hlater hold
                  exact Reg.step2_move (.tmp 47) rfl h47 hI trivial
                · skip
                  intro aq wq lq hI hl hdone hlater hold hd ho
                  have h10 : aq.tmps.getD 10 undef = .bool true := ho 10 (by kernel_rfl)
                  clear hd ho hdone hlater hold
                  exact Reg.step2_move (.tmp 10) rfl h10 hI trivial
                · skip
                  intro aq wq lq hI hl hdone hlater hold hd ho
                  have h49 : aq.tmps.getD 49 undef = .bool true := hd 49 (by kernel_rfl)
                  clear hd ho hdone hlater hold
                  rw [Array.getD_eq_getD_getElem?] at h49
                  refine Reg.step2_val (.bool false) ?_ rfl hI trivial
                  simp [execOp, Act.eval, h49]
                  try go_simp
                · skip
                  intro aq wq lq hI hl hdone hlater hold hd ho
                  have h50 : aq.tmps.getD 50 undef = .bool false := hd 50 (by kernel_rfl)
                  clear hd ho hdone hlater hold
                  exact Reg.step2_move (.tmp 50) rfl h50 hI trivial
                · skip
                  intro aq wq lq hI hl hdone hlater hold hd ho
                  have h16 : aq.tmps.getD 16 undef = .pointer (some ⟨g, 0, none⟩) := ho 16 (by kernel_rfl)
                  clear hd ho hdone hlater hold
                  rw [Array.getD_eq_getD_getElem?] at h16
                  have hld := hI.2.ld
                  refine Reg.step2_val (.agg (ta x1 y1 M1)) ?_ rfl hI trivial
                  go_simp
                · skip
                  intro aq wq lq hI hl hdone hlater hold hd ho
                  have h52 : aq.tmps.getD 52 undef = .agg (ta x1 y1 M1) := hd 52 (by kernel_rfl)
                  clear hd ho hdone hlater hold
                  rw [Array.getD_eq_getD_getElem?] at h52
                  refine Reg.step2_call 102 #[.agg (ta x1 y1 M1)] ?_ ((gen_any x1 y1 M1 wq HM1.out).mono ?_)
                  · clear hI
                    simp [execOp]
                    go_simp
                  · rintro e w2 ⟨rfl, hb⟩
                    exact ⟨_, rfl, rfl, ⟨hI.1.later hb, hI.2.on hb⟩, trivial⟩
                · skip
                  intro aq wq lq hI hl hdone hlater hold hd ho
                  have h9 : aq.tmps.getD 9 undef = .pointer (some ⟨d, 0, none⟩) := ho 9 (by kernel_rfl)
                  clear hd ho hdone hlater hold
                  rw [Array.getD_eq_getD_getElem?] at h9
                  have hld := hI.1.td.ld
                  refine Reg.step2_val (.agg (ta x y M)) ?_ rfl hI trivial
                  go_simp
                · skip
                  intro aq wq lq hI hl hdone hlater hold hd ho
                  have h54 : aq.tmps.getD 54 undef = .agg (ta x y M) := hd 54 (by kernel_rfl)
                  clear hd ho hdone hlater hold
                  rw [Array.getD_eq_getD_getElem?] at h54
                  refine Reg.step2_call 102 #[.agg (ta x y M)] ?_ ((gen_any x y M wq HM.out).mono ?_)
                  · clear hI
                    simp [execOp]
                    go_simp
                  · rintro e w2 ⟨rfl, hb⟩
                    exact ⟨_, rfl, rfl, ⟨hI.1.later hb, hI.2.on hb⟩, trivial⟩
                · skip
                  intro aq wq lq hI hl hdone hlater hold hd ho
                  have h53 : aq.tmps.getD 53 undef = .int .u64 M1.length := hd 53 (by kernel_rfl)
                  have h55 : aq.tmps.getD 55 undef = .int .u64 M.length := hd 55 (by kernel_rfl)
                  clear hd ho hdone hlater hold
                  rw [Array.getD_eq_getD_getElem?] at h53 h55
                  refine Reg.step2_val (.bool G) ?_ rfl hI trivial
                  simp [execOp, Act.eval, h53, h55]
                  try go_simp
                · skip
                  intro aq wq lq hI hl hdone hlater hold hd ho
                  have h51 : aq.tmps.getD 51 undef = .bool false := hd 51 (by kernel_rfl)
                  have h56 : aq.tmps.getD 56 undef = .bool G := hd 56 (by kernel_rfl)
                  clear hd ho hdone hlater hold
                  rw [Array.getD_eq_getD_getElem?] at h51 h56
                  refine Reg.step2_val (.bool G) ?_ rfl hI trivial
                  simp [execOp, Act.eval, h51, h56]
                  try go_simp
                · skip
                  intro aq wq lq hI hl hdone hlater hold hd ho
                  have h48 : aq.tmps.getD 48 undef = .bool true := hd 48 (by kernel_rfl)
                  have h57 : aq.tmps.getD 57 undef = .bool G := hd 57 (by kernel_rfl)
                  clear hd ho hdone hlater hold
                  rw [Array.getD_eq_getD_getElem?] at h48 h57
                  refine Reg.step2_val (.bool G) ?_ rfl hI trivial
                  simp [execOp, Act.eval, h48, h57]
                  try go_simp
                case hend =>
                  intro wz hI
                  simp only [Reg.fill, List.foldl_cons, List.foldl_nil, List.setIfInBounds_toArray, List.set_cons_zero, List.set_cons_succ]
                  have hbs := bst_both HO.out HN0.out
                  cases G with
                  | false =>
                    have hlt : ¬ M.length < M1.length := by
                      have := of_decide_eq_false hG.symm; omega
                    rw [if_neg hlt] at hbs
                    have HN6 := Lib.hid (hI.1.next fun l hl => hI.1.is l (by rw [HN0.out]; rw [hbs] at hl; exact hl))
                    have HF6 := Lib.hid (show true = (bst D s (kk + (j + 1))).isSome by rw [← Nat.add_assoc, hbs]; rfl)
                    clear hI hO0 hdr hbs HOP HN4 HG hG hlt
                    go_wp2_with fail
                    go_roundw
                    case rel => exact ⟨j + 1, x, y, M, by omega, by go_num, by rw [HF6.out], HN6.out⟩
                    case measure => simp [intOf]; omega
                  | true =>
                    have hlt : M.length < M1.length := by
                      have := of_decide_eq_true hG.symm; omega
                    rw [if_pos hlt] at hbs
                    have l0 := hI.2.ld
                    have s0 := hI.1.td.st x1 y1 M1
                    have HN6 := Lib.hid (hI.1.set x1 y1 M1 HM1.out fun l hl => by rw [hbs] at hl; cases hl; exact ⟨HXY.out.1, HXY.out.2, rfl⟩)
                    have HF6 := Lib.hid (show true = (bst D s (kk + (j + 1))).isSome by rw [← Nat.add_assoc, hbs]; rfl)
                    clear hI hO0 hdr hbs HOP HN4 HG hG hlt
                    go_wp2_with fail
                    go_roundw
                    case rel => exact ⟨j + 1, x1, y1, M1, by omega, by go_num, by rw [HF6.out], HN6.out⟩
                    case measure => simp [intOf]; omega
end Go.Proofs.YtflanjcfkdjpjaaGreatDoor.Rem

/- Layer 7 (remap): longest, Blocks. -/
namespace Go.Proofs.YtflanjcfkdjpjaaGreatDoor.Rem
open Go Go.RowKit Go.Proofs.YtflanjcfkdjpjaaGreatDoor Dev Tab
set_option linter.unusedVariables false

theorem good_zeros {n k : Int} (h : mayB n k = true) {j : Nat} (hj : (j : Int) ≤ k) : Tab.Good n k (List.replicate j 0) :=
  ⟨h, by simpa using hj, fun x hx => by rw [List.eq_of_mem_replicate hx]; have := mayB_parts h; omega⟩
set_option maxHeartbeats 1000000 in
set_option maxRecDepth 100000 in
theorem longest_any (n k : Int) (w : World) (h : mayB n k = true) : Calls Tryz.prog 116 #[.agg (ta n k [])] w fun e w' => e = .returned (.string (txS (List.replicate k.toNat 0))) ∧ Below w.heap.size w w' := by
  have hp := mayB_parts h
  have HM := Lib.hid h
  have HT := Lib.hid (TAt.made w n k [])
  have HB := Lib.hid (b_new w (.cells (ta n k []) 88))
  obtain ⟨K, hK⟩ : ∃ K : Nat, (K : Int) = k := ⟨k.toNat, by omega⟩
  subst hK
  obtain ⟨p, hpw⟩ : ∃ p, p = w.heap.size := ⟨_, rfl⟩
  rw [← hpw] at HT
  have HPW := Lib.hid hpw
  have hK32 : (K : Int) ≤ 32 := by omega
  have HK := Lib.hid hK32
  rw [Int.toNat_natCast]
  clear h hp hK32
  go_enter Tryz.func116, Tryz.ntmps116
  go_wp2_with fail
  rw [← hpw]
  clear hpw
  go_loopw [3] (fun _ wr => ∃ j : Nat, j ≤ K ∧ TAt wr p n K (List.replicate j 0) ∧ Below w.heap.size w wr) (fun _ wr => K - (match wr.cell? ⟨p, 2, none⟩ with | some v => (intOf v).toNat | none => 0))
  case atStart => exact ⟨0, by omega, HT.out, HB.out⟩
  case round =>
    obtain ⟨j, hj, ht, hb⟩ := hrel
    clear HT HB
    have HT := Lib.hid ht
    have HB := Lib.hid hb
    have hld := ht.ld
    have HG := Lib.hid (good_zeros (j := j) HM.out (by omega))
    have hk0 : (0 : Int) ≤ K := by omega
    have HC := Lib.hid ht.c2
    clear ht hb
    go_wp2_with fail
    refine (left_any n K _ _ hk0 HK.out (by have := HG.out.bd; omega)).mono ?_
    rintro e w1 ⟨rfl, hb⟩
    have HT1 := Lib.hid (HT.out.on hb)
    have HB1 := Lib.hid (b_on HB.out hb)
    have hld1 := HT1.out.ld
    clear hb hld hk0
    rw [List.length_replicate]
    by_cases hjk : j = K
    · subst hjk
      rw [show (j : Int) - j = 0 by omega]
      go_wp2_with fail
      refine (Tab.text_any n j _ _ HG.out).mono ?_
      rintro e w2 ⟨rfl, hb⟩
      go_wp2
      go_ret
      exact ⟨rfl, b_on HB1.out hb⟩
    · obtain ⟨u, hu⟩ : ∃ u : Int, u = (K : Int) - j := ⟨_, rfl⟩
      have hu0 : 0 < u := by omega
      rw [← hu]
      have hj2 : j < K := by omega
      have HJ := Lib.hid hj2
      have hME := mv_yes (n := n) (k := (K : Int)) (m := List.replicate j 0) (b := 0) (by omega) (by have := mayB_parts HM.out; omega) (by simp; omega)
      obtain ⟨m1, m2, m3⟩ := mv_ok hME
      have HV := Lib.hid (And.intro hME (And.intro m1 (And.intro m2 m3)))
      clear hME m1 m2 m3 hu hj2 hj hjk
      go_wp2_with fail
      refine (Tab.move_any n K 0 _ _ HG.out).mono ?_
      rintro e w2 ⟨rfl, hb⟩
      rw [HV.out.1, HV.out.2.1, HV.out.2.2.1, HV.out.2.2.2]
      have HT2 := Lib.hid (HT1.out.on hb)
      have HB2 := Lib.hid (b_on HB1.out hb)
      have hrep : List.replicate j (0 : Int) ++ [0] = List.replicate (j + 1) 0 := List.replicate_succ'.symm
      rw [hrep]
      have hst := HT2.out.st n K (List.replicate (j + 1) 0)
      have HT3 := Lib.hid (HT2.out.put n K (List.replicate (j + 1) 0))
      have HB3 := Lib.hid (b_row HB2.out (p := p) (by have := HPW.out; omega) (ta n K (List.replicate (j + 1) 0)))
      clear hb hld1 hrep
      go_wp2_with fail
      go_roundw
      case rel => exact ⟨j + 1, by have := HJ.out; omega, HT3.out, HB3.out⟩
      case measure =>
        have c1 := HT3.out.c2
        have c0 := HC.out
        simp only [c0, c1, intOf, List.length_replicate, Int.toNat_natCast]
        exact Nat.sub_lt_sub_left HJ.out (Nat.lt_succ_self j)
theorem bl_wrap {n k : Int} (hn : 8 ≤ n ∧ n ≤ 4096) (hk : 0 ≤ k ∧ k ≤ 32) : wrap64 (wrap64 (n - 4) - k) = n - 4 - k := by
  unfold wrap64; omega
/-- there may be a pair of such devices -/
def Fit (n z k : Int) : Prop := shapeR n z = true ∧ 0 ≤ k ∧ k ≤ 32 ∧ 2 ≤ n - 4 - k ∧ 8 + 2 * k ≤ z - 24
instance (n z k : Int) : Decidable (Fit n z k) := by unfold Fit; infer_instance
def blN (n z k : Int) : Int := if Fit n z k then n - 4 - k else 0
theorem shapeR_parts {n z : Int} (h : shapeR n z = true) : 8 ≤ n ∧ n ≤ 4096 ∧ 128 ≤ z ∧ z ≤ 1024 := by
  have := of_decide_eq_true (show decide (8 ≤ n ∧ n ≤ 4096 ∧ 128 ≤ z ∧ z ≤ 1024 ∧ z % 64 = 0) = true from h); omega
set_option maxHeartbeats 1000000 in
set_option maxRecDepth 100000 in
theorem blocks_any (n z k : Int) (w : World) : Calls Tryz.prog 88 #[.agg #[.int .i64 n, .int .i64 z], .int .i64 k] w fun e w' => e = .returned (.int .i64 (blN n z k)) ∧ Below w.heap.size w w' := by
  have hn0 := Has.new w [.int .i64 n, .int .i64 z] 79
  have HB := Lib.hid (b_new w (.cells #[.int .i64 n, .int .i64 z] 79))
  cases hr : shapeR n z with
  | false =>
    have HE := Lib.hid (show blN n z k = 0 from if_neg fun h => by rw [h.1] at hr; cases hr)
    have HR := Lib.hid hr
    clear hr hn0
    go_enter Tryz.func88, Tryz.ntmps88
    go_wp2_with fail
    refine (right_any n z _).mono ?_
    rintro e w1 ⟨rfl, hb⟩
    rw [HR.out]
    go_wp2
    go_ret
    exact ⟨by rw [HE.out]; rfl, b_on HB.out hb⟩
  | true =>
    have hp4 := shapeR_parts hr
    have HR := Lib.hid hr
    obtain ⟨p, hpw⟩ : ∃ p, p = w.heap.size := ⟨_, rfl⟩
    rw [← hpw] at hn0
    have HN := Lib.hid hn0
    obtain ⟨b, hb0⟩ : ∃ b, b = wrap64 (wrap64 (n - 4) - k) := ⟨_, rfl⟩
    have hbw := hb0.symm
    have HBB := Lib.hid hb0
    have HPN := Lib.hid hp4
    obtain ⟨E, hE⟩ : ∃ E, E = nwE b k := ⟨_, rfl⟩
    obtain ⟨x, hx⟩ : ∃ x, x = nwN b k := ⟨_, rfl⟩
    obtain ⟨y, hy⟩ : ∃ y, y = nwK b k := ⟨_, rfl⟩
    have HXY := Lib.hid (And.intro hE (And.intro hx hy))
    clear hr hb0 hp4 hn0
    go_enter Tryz.func88, Tryz.ntmps88
    go_wp2_with fail
    rw [← hpw]
    refine (right_any n z _).mono ?_
    rintro e w1 ⟨rfl, hb⟩
    rw [HR.out]
    have hn1 := HN.out.below hb HN.out.lt
    have c0 := hn1.cell 0
    simp only [List.getElem?_cons_zero] at c0
    have HN1 := Lib.hid hn1
    have HB1 := Lib.hid (b_on HB.out hb)
    clear hb hpw hn1 HN HB
    go_wp2_with fail
    rw [hbw]
    clear hbw c0
    refine (new_any b k _).mono ?_
    rintro e w2 ⟨rfl, hb⟩
    rw [← hE, ← hx, ← hy]
    have HN2 := Lib.hid (HN1.out.below hb HN1.out.lt)
    have HB2 := Lib.hid (b_on HB1.out hb)
    clear hb hE hx hy HN1 HB1
    obtain ⟨g, hg⟩ : ∃ g, g = w2.heap.size := ⟨_, rfl⟩
    have hO0 : Below w.heap.size w (w2.alloc (.cells (ta x y []) 88)) ∧ Has (w2.alloc (.cells (ta x y []) 88)) p 79 [.int .i64 n, .int .i64 z] ∧ TAt (w2.alloc (.cells (ta x y []) 88)) g x y [] := ⟨b_nw HB2.out _, HN2.out.alloc _, by rw [hg]; exact TAt.made _ _ _ _⟩
    clear HN2 HB2
    by_cases hbad : E ≠ 0
    · have HE := Lib.hid (show blN n z k = 0 from if_neg fun h => by
        obtain ⟨h1, h2, h3, h4, h5⟩ := h
        have hpn := HPN.out
        have e1 : b = n - 4 - k := by rw [HBB.out, bl_wrap (by omega) (by omega)]
        exact hbad (by rw [HXY.out.1]; exact (nw_yes (mayB_of (by omega) (by omega) (by omega) (by omega))).1))
      have hd : decide (E = 0) = false := decide_eq_false hbad
      have hbad' : ¬ E = 0 := hbad
      clear hbad
      go_wp2_with (first | with_reducible refine wl_alloc ?_)
      rw [← hg]
      clear hg
      refine Reg.region_valsG (by kernel_rfl) [(22, .int .i64 E), (23, .bool true), (24, .bool true), (25, undef), (26, undef), (27, .bool true), (28, .bool true), (29, undef), (30, undef), (31, undef), (32, undef), (33, undef), (34, undef), (35, undef), (36, .bool true)] (fun _ wy => Below w.heap.size w wy ∧ Has wy p 79 [.int .i64 n, .int .i64 z] ∧ TAt wy g x y []) (by kernel_rfl) (by kernel_rfl) [3, 4, 7, 8, 9, 10, 11, 12, 13] (by kernel_rfl) (⟨hO0.1.drew, hO0.2.1.drew, hO0.2.2.drew⟩) ⟨?_, ?_, ?_, ?_, ?_, ?_, ?_, ?_, ?_, ?_, ?_, ?_, ?_, ?_, ?_, trivial⟩ ?hend
      · skip
        intro aq wq lq hI hl hdone hlater hold hd ho
        have h7 : aq.tmps.getD 7 undef = .int .i64 E := ho 7 (by kernel_rfl)
        clear hd ho hdone hlater hold
        exact Reg.step2_move (.tmp 7) rfl h7 hI trivial
      · skip
        intro aq wq lq hI hl hdone hlater hold hd ho
        have h22 : aq.tmps.getD 22 undef = .int .i64 E := hd 22 (by kernel_rfl)
        clear hd ho hdone hlater hold
        rw [Array.getD_eq_getD_getElem?] at h22
        refine Reg.step2_val (.bool true) ?_ rfl hI trivial
        simp [execOp, Act.eval, h22]
        try go_simp
      · skip
        intro aq wq lq hI hl hdone hlater hold hd ho
        have h23 : aq.tmps.getD 23 undef = .bool true := hd 23 (by kernel_rfl)
        clear hd ho hdone hlater hold
        exact Reg.step2_move (.tmp 23) rfl h23 hI trivial
      · skip
        intro aq wq lq hI hl hdone hlater hold hd ho
        exact Reg.stepG_skip rfl hI trivial
      · skip
        intro aq wq lq hI hl hdone hlater hold hd ho
        exact Reg.stepG_skip rfl hI trivial
      · skip
        intro aq wq lq hI hl hdone hlater hold hd ho
        have h24 : aq.tmps.getD 24 undef = .bool true := hd 24 (by kernel_rfl)
        have h26 : aq.tmps.getD 26 undef = undef := hd 26 (by kernel_rfl)
        clear hd ho hdone hlater hold
        rw [Array.getD_eq_getD_getElem?] at h24 h26
        refine Reg.step2_val (.bool true) ?_ rfl hI trivial
        simp [execOp, Act.eval, h24, h26]
        try go_simp
      · skip
        intro aq wq lq hI hl hdone hlater hold hd ho
        have h27 : aq.tmps.getD 27 undef = .bool true := hd 27 (by kernel_rfl)
        clear hd ho hdone hlater hold
        exact Reg.step2_move (.tmp 27) rfl h27 hI trivial
      · skip
        intro aq wq lq hI hl hdone hlater hold hd ho
        exact Reg.stepG_skip rfl hI trivial
      · skip
        intro aq wq lq hI hl hdone hlater hold hd ho
        exact Reg.stepG_skip rfl hI trivial
      · skip
        intro aq wq lq hI hl hdone hlater hold hd ho
        exact Reg.stepG_skip rfl hI trivial
      · skip
        intro aq wq lq hI hl hdone hlater hold hd ho
        exact Reg.stepG_skip rfl hI trivial
      · skip
        intro aq wq lq hI hl hdone hlater hold hd ho
        exact Reg.stepG_skip rfl hI trivial
      · skip
        intro aq wq lq hI hl hdone hlater hold hd ho
        exact Reg.stepG_skip rfl hI trivial
      · skip
        intro aq wq lq hI hl hdone hlater hold hd ho
        exact Reg.stepG_skip rfl hI trivial
      · skip
        intro aq wq lq hI hl hdone hlater hold hd ho
        have h28 : aq.tmps.getD 28 undef = .bool true := hd 28 (by kernel_rfl)
        have h35 : aq.tmps.getD 35 undef = undef := hd 35 (by kernel_rfl)
        clear hd ho hdone hlater hold
        rw [Array.getD_eq_getD_getElem?] at h28 h35
        refine Reg.step2_val (.bool true) ?_ rfl hI trivial
        simp [execOp, Act.eval, h28, h35]
        try go_simp
      case hend =>
        intro wz hI
        simp only [Reg.fill, List.foldl_cons, List.foldl_nil, List.setIfInBounds_toArray, List.set_cons_zero, List.set_cons_succ]
        have HZ := Lib.hid hI.1
        clear hI hO0
        go_wp2
        go_ret
        exact ⟨by rw [HE.out]; rfl, HZ.out⟩
    · obtain rfl : E = 0 := by omega
      clear hbad
      have hmay : mayB b k = true := by
        cases hm : mayB b k with
        | true => rfl
        | false => have := HXY.out.1; rw [(nw_no hm).1] at this; cases this
      obtain ⟨m1, m2, m3, m4⟩ := mayB_parts hmay
      have e1 : b = n - 4 - k := by
        have hpn := HPN.out
        rw [HBB.out, bl_wrap (by omega) (by omega)]
      have HMAY := Lib.hid hmay
      obtain ⟨n1, n2, n3⟩ := nw_yes hmay
      rw [HXY.out.2.1, HXY.out.2.2, n2, n3] at hO0 ⊢
      by_cases hlow : b < 2
      · have HE := Lib.hid (show blN n z k = 0 from if_neg fun h => by
          obtain ⟨h1, h2, h3, h4, h5⟩ := h
          omega)
        clear HXY m1 m2 m3 m4 n1 n2 n3 HBB hmay e1
        go_wp2_with (first | with_reducible refine wl_alloc ?_)
        rw [← hg]
        clear hg
        refine Reg.region_valsG (by kernel_rfl) [(22, .int .i64 0), (23, .bool false), (24, .bool false), (25, .int .i64 b), (26, .bool true), (27, .bool true), (28, .bool true), (29, undef), (30, undef), (31, undef), (32, undef), (33, undef), (34, undef), (35, undef), (36, .bool true)] (fun _ wy => Below w.heap.size w wy ∧ Has wy p 79 [.int .i64 n, .int .i64 z] ∧ TAt wy g b k []) (by kernel_rfl) (by kernel_rfl) [7, 8, 9, 10, 11, 12, 13] (by kernel_rfl) (⟨hO0.1.drew, hO0.2.1.drew, hO0.2.2.drew⟩) ⟨?_, ?_, ?_, ?_, ?_, ?_, ?_, ?_, ?_, ?_, ?_, ?_, ?_, ?_, ?_, trivial⟩ ?hend
        · skip
          intro aq wq lq hI hl hdone hlater hold hd ho
          have h7 : aq.tmps.getD 7 undef = .int .i64 0 := ho 7 (by kernel_rfl)
          clear hd ho hdone hlater hold
          exact Reg.step2_move (.tmp 7) rfl h7 hI trivial
        · skip
          intro aq wq lq hI hl hdone hlater hold hd ho
          have h22 : aq.tmps.getD 22 undef = .int .i64 0 := hd 22 (by kernel_rfl)
          clear hd ho hdone hlater hold
          rw [Array.getD_eq_getD_getElem?] at h22
          refine Reg.step2_val (.bool false) ?_ rfl hI trivial
          simp [execOp, Act.eval, h22]
          try go_simp
        · skip
          intro aq wq lq hI hl hdone hlater hold hd ho
          have h23 : aq.tmps.getD 23 undef = .bool false := hd 23 (by kernel_rfl)
          clear hd ho hdone hlater hold
          exact Reg.step2_move (.tmp 23) rfl h23 hI trivial
        · skip
          intro aq wq lq hI hl hdone hlater hold hd ho
          have h5 : aq.tmps.getD 5 undef = .int .i64 b := ho 5 (by kernel_rfl)
          clear hd ho hdone hlater hold
          exact Reg.step2_move (.tmp 5) rfl h5 hI trivial
        · skip
          intro aq wq lq hI hl hdone hlater hold hd ho
          have h25 : aq.tmps.getD 25 undef = .int .i64 b := hd 25 (by kernel_rfl)
          clear hd ho hdone hlater hold
          rw [Array.getD_eq_getD_getElem?] at h25
          refine Reg.step2_val (.bool true) ?_ rfl hI trivial
          simp [execOp, Act.eval, h25]
          try go_simp
        · skip
          intro aq wq lq hI hl hdone hlater hold hd ho
          have h24 : aq.tmps.getD 24 undef = .bool false := hd 24 (by kernel_rfl)
          have h26 : aq.tmps.getD 26 undef = .bool true := hd 26 (by kernel_rfl)
          clear hd ho hdone hlater hold
          rw [Array.getD_eq_getD_getElem?] at h24 h26
          refine Reg.step2_val (.bool true) ?_ rfl hI trivial
          simp [execOp, Act.eval, h24, h26]
          try go_simp
        · skip
          intro aq wq lq hI hl hdone hlater hold hd ho
          have h27 : aq.tmps.getD 27 undef = .bool true := hd 27 (by kernel_rfl)
          clear hd ho hdone hlater hold
          exact Reg.step2_move (.tmp 27) rfl h27 hI trivial
        · skip
          intro aq wq lq hI hl hdone hlater hold hd ho
          exact Reg.stepG_skip rfl hI trivial
        · skip
          intro aq wq lq hI hl hdone hlater hold hd ho
          exact Reg.stepG_skip rfl hI trivial
        · skip
          intro aq wq lq hI hl hdone hlater hold hd ho
          exact Reg.stepG_skip rfl hI trivial
        · skip
          intro aq wq lq hI hl hdone hlater hold hd ho
          exact Reg.stepG_skip rfl hI trivial
        · skip
          intro aq wq lq hI hl hdone hlater hold hd ho
          exact Reg.stepG_skip rfl hI trivial
        · skip
          intro aq wq lq hI hl hdone hlater hold hd ho
          exact Reg.stepG_skip rfl hI trivial
        · skip
          intro aq wq lq hI hl hdone hlater hold hd ho
          exact Reg.stepG_skip rfl hI trivial
        · skip
          intro aq wq lq hI hl hdone hlater hold hd ho
          have h28 : aq.tmps.getD 28 undef = .bool true := hd 28 (by kernel_rfl)
          have h35 : aq.tmps.getD 35 undef = undef := hd 35 (by kernel_rfl)
          clear hd ho hdone hlater hold
          rw [Array.getD_eq_getD_getElem?] at h28 h35
          refine Reg.step2_val (.bool true) ?_ rfl hI trivial
          simp [execOp, Act.eval, h28, h35]
          try go_simp
        case hend =>
          intro wz hI
          simp only [Reg.fill, List.foldl_cons, List.foldl_nil, List.setIfInBounds_toArray, List.set_cons_zero, List.set_cons_succ]
          have HZ := Lib.hid hI.1
          clear hI hO0
          go_wp2
          go_ret
          exact ⟨by rw [HE.out]; rfl, HZ.out⟩
      · have hz := HPN.out
        have hlow' : ¬ b < 2 := hlow
        have HE := Lib.hid (show blN n z k = b by unfold blN; rw [if_pos ⟨HR.out, by omega, by omega, by omega, by omega⟩]; exact e1.symm)
        obtain ⟨LS, hLS⟩ : ∃ LS, LS = txS (List.replicate k.toNat 0) := ⟨_, rfl⟩
        have hsz : (LS.size : Int) = 8 + 2 * k := by
          have : LS.size = (txL (List.replicate k.toNat 0)).length := by rw [hLS]; rfl
          rw [this, txL_length, List.length_replicate]; omega
        obtain ⟨rz, hrz⟩ : ∃ rz, rz = Env.roomN z := ⟨_, rfl⟩
        have hle : ¬ rz < (LS.size : Int) := by
          have : Env.roomN z = z - 24 := (Env.roomN_yes (n := z) (by unfold Env.szB; simp; omega)).1
          omega
        have HLS := Lib.hid hLS
        have HRZ := Lib.hid hrz
        clear HXY m1 m2 m3 m4 n1 n2 n3 HBB hmay e1 hz hLS hsz hrz hlow
        go_wp2_with (first | with_reducible refine wl_alloc ?_)
        rw [← hg]
        clear hg
        refine Reg.region_valsG (by kernel_rfl) [(22, .int .i64 0), (23, .bool false), (24, .bool false), (25, .int .i64 b), (26, .bool false), (27, .bool false), (28, .bool false), (29, .agg (ta b k [])), (30, .string LS), (31, .int .i64 (LS.size : Nat)), (32, .pointer (some ⟨p, 1, none⟩)), (33, .int .i64 z), (34, .int .i64 rz), (35, .bool false), (36, .bool false)] (fun _ wy => Below w.heap.size w wy ∧ Has wy p 79 [.int .i64 n, .int .i64 z] ∧ TAt wy g b k []) (by kernel_rfl) (by kernel_rfl) [] (by kernel_rfl) (⟨hO0.1.drew, hO0.2.1.drew, hO0.2.2.drew⟩) ⟨?_, ?_, ?_, ?_, ?_, ?_, ?_, ?_, ?_, ?_, ?_, ?_, ?_, ?_, ?_, trivial⟩ ?hend
        · skip
          intro aq wq lq hI hl hdone hlater hold hd ho
          have h7 : aq.tmps.getD 7 undef = .int .i64 0 := ho 7 (by kernel_rfl)
          clear hd ho hdone hlater hold
          exact Reg.step2_move (.tmp 7) rfl h7 hI trivial
        · skip
          intro aq wq lq hI hl hdone hlater hold hd ho
          have h22 : aq.tmps.getD 22 undef = .int .i64 0 := hd 22 (by kernel_rfl)
          clear hd ho hdone hlater hold
          rw [Array.getD_eq_getD_getElem?] at h22
          refine Reg.step2_val (.bool false) ?_ rfl hI trivial
          simp [execOp, Act.eval, h22]
          try go_simp
        · skip
          intro aq wq lq hI hl hdone hlater hold hd ho
          have h23 : aq.tmps.getD 23 undef = .bool false := hd 23 (by kernel_rfl)
          clear hd ho hdone hlater hold
          exact Reg.step2_move (.tmp 23) rfl h23 hI trivial
        · skip
          intro aq wq lq hI hl hdone hlater hold hd ho
          have h5 : aq.tmps.getD 5 undef = .int .i64 b := ho 5 (by kernel_rfl)
          clear hd ho hdone hlater hold
          exact Reg.step2_move (.tmp 5) rfl h5 hI trivial
        · skip
          intro aq wq lq hI hl hdone hlater hold hd ho
          have h25 : aq.tmps.getD 25 undef = .int .i64 b := hd 25 (by kernel_rfl)
          clear hd ho hdone hlater hold
          rw [Array.getD_eq_getD_getElem?] at h25
          refine Reg.step2_val (.bool false) ?_ rfl hI trivial
          simp [execOp, Act.eval, h25]
          try go_simp
        · skip
          intro aq wq lq hI hl hdone hlater hold hd ho
          have h24 : aq.tmps.getD 24 undef = .bool false := hd 24 (by kernel_rfl)
          have h26 : aq.tmps.getD 26 undef = .bool false := hd 26 (by kernel_rfl)
          clear hd ho hdone hlater hold
          rw [Array.getD_eq_getD_getElem?] at h24 h26
          refine Reg.step2_val (.bool false) ?_ rfl hI trivial
          simp [execOp, Act.eval, h24, h26]
          try go_simp
        · skip
          intro aq wq lq hI hl hdone hlater hold hd ho
          have h27 : aq.tmps.getD 27 undef = .bool false := hd 27 (by kernel_rfl)
          clear hd ho hdone hlater hold
          exact Reg.step2_move (.tmp 27) rfl h27 hI trivial
        · skip
          intro aq wq lq hI hl hdone hlater hold hd ho
          have h6 : aq.tmps.getD 6 undef = .pointer (some ⟨g, 0, none⟩) := ho 6 (by kernel_rfl)
          clear hd ho hdone hlater hold
          rw [Array.getD_eq_getD_getElem?] at h6
          have hld := hI.2.2.ld
          refine Reg.step2_val (.agg (ta b k [])) ?_ rfl hI trivial
          go_simp
        · skip
          intro aq wq lq hI hl hdone hlater hold hd ho
          have h29 : aq.tmps.getD 29 undef = .agg (ta b k []) := hd 29 (by kernel_rfl)
          clear hd ho hdone hlater hold
          rw [Array.getD_eq_getD_getElem?] at h29
          refine Reg.step2_call 116 #[.agg (ta b k [])] ?_ ((longest_any b k wq HMAY.out).mono ?_)
          · clear hI
            simp [execOp]
            go_simp
          · rintro e w2 ⟨rfl, hb⟩
            exact ⟨_, rfl, by rw [HLS.out]; exact rfl, ⟨b_on hI.1 hb, hI.2.1.below hb hI.2.1.lt, hI.2.2.on hb⟩, trivial⟩
        · skip
          intro aq wq lq hI hl hdone hlater hold hd ho
          have h30 : aq.tmps.getD 30 undef = .string LS := hd 30 (by kernel_rfl)
          clear hd ho hdone hlater hold
          rw [Array.getD_eq_getD_getElem?] at h30
          refine Reg.step2_val (.int .i64 (LS.size : Nat)) ?_ rfl hI trivial
          simp [execOp]
          go_simp
        · skip
          intro aq wq lq hI hl hdone hlater hold hd ho
          have h2 : aq.tmps.getD 2 undef = .pointer (some ⟨p, 0, none⟩) := ho 2 (by kernel_rfl)
          clear hd ho hdone hlater hold
          rw [Array.getD_eq_getD_getElem?] at h2
          refine Reg.step2_val (.pointer (some ⟨p, 1, none⟩)) ?_ rfl hI trivial
          go_simp
        · skip
          intro aq wq lq hI hl hdone hlater hold hd ho
          have h32 : aq.tmps.getD 32 undef = .pointer (some ⟨p, 1, none⟩) := hd 32 (by kernel_rfl)
          clear hd ho hdone hlater hold
          rw [Array.getD_eq_getD_getElem?] at h32
          have c1 := hI.2.1.cell 1
          simp only [List.getElem?_cons_zero, List.getElem?_cons_succ] at c1
          refine Reg.step2_val (.int .i64 z) ?_ rfl hI trivial
          go_simp
        · skip
          intro aq wq lq hI hl hdone hlater hold hd ho
          have h33 : aq.tmps.getD 33 undef = .int .i64 z := hd 33 (by kernel_rfl)
          clear hd ho hdone hlater hold
          rw [Array.getD_eq_getD_getElem?] at h33
          refine Reg.step2_call 49 #[.int .i64 z] ?_ ((Env.room_any z wq).mono ?_)
          · clear hI
            simp [execOp]
            go_simp
          · rintro e w2 ⟨rfl, rfl⟩
            exact ⟨_, rfl, by rw [HRZ.out]; exact rfl, hI, trivial⟩
        · skip
          intro aq wq lq hI hl hdone hlater hold hd ho
          have h31 : aq.tmps.getD 31 undef = .int .i64 (LS.size : Nat) := hd 31 (by kernel_rfl)
          have h34 : aq.tmps.getD 34 undef = .int .i64 rz := hd 34 (by kernel_rfl)
          clear hd ho hdone hlater hold
          rw [Array.getD_eq_getD_getElem?] at h31 h34
          refine Reg.step2_val (.bool false) ?_ rfl hI trivial
          simp [execOp, Act.eval, h31, h34]
          try go_simp
        · skip
          intro aq wq lq hI hl hdone hlater hold hd ho
          have h28 : aq.tmps.getD 28 undef = .bool false := hd 28 (by kernel_rfl)
          have h35 : aq.tmps.getD 35 undef = .bool false := hd 35 (by kernel_rfl)
          clear hd ho hdone hlater hold
          rw [Array.getD_eq_getD_getElem?] at h28 h35
          refine Reg.step2_val (.bool false) ?_ rfl hI trivial
          simp [execOp, Act.eval, h28, h35]
          try go_simp
        case hend =>
          intro wz hI
          simp only [Reg.fill, List.foldl_cons, List.foldl_nil, List.setIfInBounds_toArray, List.set_cons_zero, List.set_cons_succ]
          have HZ := Lib.hid hI.1
          clear hI hO0
          go_wp2
          go_ret
          exact ⟨by rw [HE.out]; rfl, HZ.out⟩
theorem blocks_c (n z k : Int) (w : World) : Calls Tryz.prog 88 #[.agg #[.int .i64 n, .int .i64 z], .int .i64 k] w fun e w' => e = .returned (.int .i64 (if Fit n z k then n - 4 - k else 0)) ∧ Below w.heap.size w w' := blocks_any n z k w
end Go.Proofs.YtflanjcfkdjpjaaGreatDoor.Rem

