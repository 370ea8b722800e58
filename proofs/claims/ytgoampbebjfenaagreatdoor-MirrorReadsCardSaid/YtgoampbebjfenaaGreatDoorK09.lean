/- Layers' contracts, bundled: RemD, RemE, RemF, RemG, RemH, RemI, RemJ, RemR. -/
import Derived.Test.YtgoampbebjfenaaGreatDoorK08
import Derived.LaidEqlPtr
import Derived.Laws.CopyRow
/- Layer 7 (remap): newest. -/
namespace Go.Proofs.YtgoampbebjfenaaGreatDoor.Rem
open Go Go.RowKit Go.Proofs.YtgoampbebjfenaaGreatDoor Dev Tab
set_option linter.unusedVariables false

/-- the same, but for how many reads there were -/
def EqR (D E : Nat → Dv) : Prop := ∀ t, ∃ n, E t = { D t with nr := n }
theorem EqR.refl (D : Nat → Dv) : EqR D D := fun t => ⟨(D t).nr, rfl⟩
theorem EqR.trans {D E F : Nat → Dv} (h : EqR D E) (k : EqR E F) : EqR D F := fun t => by
  obtain ⟨n, hn⟩ := h t
  obtain ⟨n', hn'⟩ := k t
  exact ⟨n', by rw [hn', hn]⟩
theorem EqR.read {D E : Nat → Dv} (h : EqR D E) (s : Nat) (i : Int) : EqR D (upd E s ((E s).readD i)) := by
  intro t
  by_cases e : t = s
  · subst e; rw [upd_same]; obtain ⟨n, hn⟩ := h t; rw [hn]; unfold Dv.readD
    split
    · exact ⟨_, rfl⟩
    · exact ⟨_, rfl⟩
  · rw [upd_ne _ _ e]; exact h t
theorem EqR.readT {D E : Nat → Dv} (h : EqR D E) (t : Nat) (i : Int) : (E t).readT i = (D t).readT i := by
  obtain ⟨n, hn⟩ := h t; rw [hn]; rfl
theorem EqR.cache {D E : Nat → Dv} (h : EqR D E) (t : Nat) : (E t).cache = (D t).cache := by
  obtain ⟨n, hn⟩ := h t; rw [hn]
/-- what the r-th slot reads that newest looks at -/
def rdT (D : Nat → Dv) (s r : Nat) : ByteArray := (D (kpP s (r / 2))).readT (r : Nat)
/-- the best table of the first r slots -/
def bst (D : Nat → Dv) (s : Nat) : Nat → Option (List Int)
  | 0 => none
  | r + 1 => best (bst D s r) (opn s (rdT D s r))
theorem bst_zero (D : Nat → Dv) (s : Nat) : bst D s 0 = none := rfl
theorem bst_succ (D : Nat → Dv) (s r : Nat) : bst D s (r + 1) = best (bst D s r) (opn s (rdT D s r)) := rfl
theorem EqR.rdT {D E : Nat → Dv} (h : EqR D E) (s r : Nat) : rdT E s r = rdT D s r := h.readT _ _
theorem readT_size {D : Dv} (h : D.Ok) (i : Int) : (D.readT i).size ≤ 1024 := by
  have hz := h.s1024
  unfold Dv.readT
  split
  · unfold Dv.reads
    split
    · rename_i x hx
      have := h.text x (List.mem_reverse.1 (List.mem_of_find?_eq_some hx))
      omega
    · cases hs : D.secs[i.toNat]? with
      | none => exact Nat.zero_le _
      | some x =>
        have := h.media x (List.mem_of_getElem? hs)
        show x.1.size ≤ 1024
        omega
  · exact Nat.zero_le _
section
variable {w0 w w' : World} {X : List Nat} {q : Nat} {pd : Nat → Nat} {m : Nat → List Int} {D E : Nat → Dv} {s r : Nat}
theorem CPe.ok (h : CPe w0 X q pd m D w) (hs : s < 2) : (D s).Ok := by
  obtain ⟨sb, cv, hd, -⟩ := h.some_
  exact (hd s hs).ok
theorem kpP_lt (hs : s < 2) {k : Nat} : kpP s k < 2 := by unfold kpP; split <;> omega
theorem nw_read (h : CPe w0 X q pd m E w) (he : EqR D E) (hs : s < 2) (hl : ∀ t, t < 2 → (D t).cache.length ≤ 10000000) (p : Nat) (hp : p = pd (kpP s (r / 2))) (v : Int) (hv : v = (r : Nat)) :
    Calls Tryz.prog 132 #[.pointer (some ⟨p, 0, none⟩), .int .i64 v] w fun e w' => (∃ x, e = .returned (.tuple #[.string (rdT D s r), .int .i64 x])) ∧ ∃ E', EqR D E' ∧ CPe w0 X q pd m E' w' ∧ Same (q :: X) w w' := by
  subst hp; subst hv
  have hP : kpP s (r / 2) < 2 := kpP_lt hs
  refine (h.dev hP (G := fun F => F = (E (kpP s (r / 2))).readD (r : Nat)) (R := fun e => ∃ x, e = .returned (.tuple #[.string (rdT D s r), .int .i64 x])) fun sb cv hd => ?_).mono ?_
  · refine (read_any _ w hd (by rw [he.cache]; have := hl _ hP; omega)).mono ?_
    rintro e w' ⟨rfl, hch, hd'⟩
    exact ⟨⟨_, by rw [he.readT]; rfl⟩, _, rfl, .same hch hd'⟩
  · rintro e w' ⟨he', F, rfl, hc, hsm⟩
    exact ⟨he', _, he.read _ _, hc, hsm⟩
theorem chg_row {R : Nat → Prop} (w : World) (p : Nat) (cs : Array Value) (hp : R p) : Chg R w (w.setRow p cs) :=
  ⟨rfl, rfl, rfl, by simp, fun i _ hi => setRow_other w p i cs (fun e => hi (e ▸ hp))⟩
theorem CPe.add (h : CPe w0 X q pd m D w) (hb : Below w.heap.size w w') {b : Nat} (h1 : w.heap.size ≤ b) (h2 : b < w'.heap.size) : CPe w0 (b :: X) q pd m D w' := by
  have h' := h.later hb
  have hql := h.lt
  obtain ⟨⟨sb0, cv0, hd0, hf0, hff0⟩, hp0, hq0, hx0, hb0⟩ := h
  obtain ⟨⟨sb, cv, hd, hf, hff⟩, hp, hq, hx, hb'⟩ := h'
  refine ⟨⟨sb0, cv0, fun s hs => (hd0 s hs).below hb (Nat.le_refl _), fun s hs k hk => ⟨(hf0 s hs k hk).1, ?_, (hf0 s hs k hk).2.2⟩, hff0⟩, hp, ⟨hq.1, ?_⟩, ?_, hb'⟩
  · intro he
    rcases List.mem_cons.1 he with rfl | he
    · exact absurd ((hd0 s hs).lt _ hk) (by omega)
    · exact (hf0 s hs k hk).2.1 he
  · intro he
    rcases List.mem_cons.1 he with rfl | he
    · omega
    · exact hq.2 he
  · intro k hk
    rcases List.mem_cons.1 hk with rfl | hk
    · exact ⟨Nat.le_trans hb0.size h1, h2⟩
    · exact hx k hk
theorem same_below (h : CPe w0 X q pd m D w) (hb : Below w.heap.size w w') : Same (q :: X) w w' := fun k hk => by
  refine hb.block k ?_
  rcases List.mem_cons.1 hk with rfl | hk
  · exact h.lt
  · exact (h.x k hk).2
end
/-- in the middle of newest: a has the first table, c the results, d the newest one, b the sums -/
structure Nw (w0 w : World) (X : List Nat) (q : Nat) (pd : Nat → Nat) (m : Nat → List Int) (D : Nat → Dv) (s a b c d r : Nat) (x y : Int) (M : List Int) (wr : World) : Prop where
  pair : ∃ E, EqR D E ∧ CPe w0 (d :: b :: c :: a :: X) q pd m E wr
  ta_ : TAt wr a 14 6 []
  tc : TAt wr c 0 0 []
  td : TAt wr d x y M
  tb_ : Sum.IsTab wr b
  is : ∀ l, bst D s r = some l → x = 14 ∧ y = 6 ∧ M = l
  len : M.length ≤ 32
  same : Same (q :: X) w wr
  ne : d ≠ a ∧ d ≠ c ∧ d ≠ b ∧ d ∉ X ∧ c ∉ X
section
variable {w0 w wr w' : World} {X : List Nat} {q : Nat} {pd : Nat → Nat} {m : Nat → List Int} {D : Nat → Dv} {s a b c d r : Nat} {x y : Int} {M : List Int}
theorem tab_same {w w' : World} {b : Nat} (h : Sum.IsTab w b) (hk : w'.heap[b]? = w.heap[b]?) : Sum.IsTab w' b := fun j hj => by
  have := h j hj
  unfold World.cell? at this ⊢
  rw [hk]; exact this
theorem Nw.later (h : Nw w0 w X q pd m D s a b c d r x y M wr) (hb : Below wr.heap.size wr w') : Nw w0 w X q pd m D s a b c d r x y M w' := by
  obtain ⟨⟨E, hE, hc⟩, h1, h2, h3, h4, h5, h6, h7, h8⟩ := h
  exact ⟨⟨E, hE, hc.later hb⟩, h1.on hb, h2.on hb, h3.on hb, tab_later h4 hb, h5, h6, h7.trans (fun k hk => same_below hc hb k (by
    rcases List.mem_cons.1 hk with rfl | hk
    · simp
    · simp [hk])), h8⟩
theorem Nw.read (h : Nw w0 w X q pd m D s a b c d r x y M wr) (hs : s < 2) (hl : ∀ t, t < 2 → (D t).cache.length ≤ 10000000) (p : Nat) (hp : p = pd (kpP s (r / 2))) (v : Int) (hv : v = (r : Nat)) :
    Calls Tryz.prog 132 #[.pointer (some ⟨p, 0, none⟩), .int .i64 v] wr fun e w' => (∃ z, e = .returned (.tuple #[.string (rdT D s r), .int .i64 z])) ∧ Nw w0 w X q pd m D s a b c d r x y M w' := by
  obtain ⟨⟨E, hE, hc⟩, h1, h2, h3, h4, h5, h6, h7, h8⟩ := h
  refine (nw_read hc hE hs hl p hp v hv).mono ?_
  rintro e w' ⟨he, E', hE', hc', hsm⟩
  exact ⟨he, ⟨E', hE', hc'⟩, h1.same (hsm a (by simp)), h2.same (hsm c (by simp)), h3.same (hsm d (by simp)), tab_same h4 (hsm b (by simp)), h5, h6, h7.trans (fun k hk => hsm k (by
    rcases List.mem_cons.1 hk with rfl | hk
    · simp
    · simp [hk])), h8⟩
theorem Nw.next (h : Nw w0 w X q pd m D s a b c d r x y M wr) (hn : ∀ l, bst D s (r + 1) = some l → x = 14 ∧ y = 6 ∧ M = l) : Nw w0 w X q pd m D s a b c d (r + 1) x y M wr := by
  obtain ⟨h0, h1, h2, h3, h4, h5, h6, h7, h8⟩ := h
  exact ⟨h0, h1, h2, h3, h4, hn, h6, h7, h8⟩
theorem Nw.set (h : Nw w0 w X q pd m D s a b c d r x y M wr) (x' y' : Int) (M' : List Int) (hl : M'.length ≤ 32) (hn : ∀ l, bst D s (r + 1) = some l → x' = 14 ∧ y' = 6 ∧ M' = l) : Nw w0 w X q pd m D s a b c d (r + 1) x' y' M' (wr.setRow d (ta x' y' M')) := by
  obtain ⟨⟨E, hE, hc⟩, h1, h2, h3, h4, h5, h6, h7, h8⟩ := h
  refine ⟨⟨E, hE, hc.chg (chg_row _ _ _ (by simp))⟩, h1.putOther (Ne.symm h8.1) _, h2.putOther (Ne.symm h8.2.1) _, h3.put _ _ _, tab_same h4 (setRow_other _ _ _ _ (Ne.symm h8.2.2.1)), hn, hl, h7.trans (fun k hk => setRow_other _ _ _ _ fun e => ?_), h8⟩
  subst e
  rcases List.mem_cons.1 hk with rfl | hk
  · exact hc.q_.2 (by simp)
  · exact h8.2.2.2.1 hk
theorem Nw.size (h : Nw w0 w X q pd m D s a b c d r x y M wr) (hs : s < 2) : (rdT D s r).size ≤ 1000000 := by
  obtain ⟨E, hE, hc⟩ := h.pair
  rw [← hE.rdT]
  exact Nat.le_trans (readT_size (hc.ok (kpP_lt hs)) _) (by omega)
end
theorem best_no (a : Option (List Int)) : best a none = a := by cases a <;> rfl
theorem bst_skip {D : Nat → Dv} {s r : Nat} (h : opn s (rdT D s r) = none) : bst D s (r + 1) = bst D s r := by rw [bst_succ, h, best_no]
theorem bst_first {D : Nat → Dv} {s r : Nat} {l : List Int} (h : opn s (rdT D s r) = some l) (h0 : bst D s r = none) : bst D s (r + 1) = some l := by rw [bst_succ, h, h0]; rfl
theorem bst_both {D : Nat → Dv} {s r : Nat} {l n : List Int} (h : opn s (rdT D s r) = some l) (h0 : bst D s r = some n) : bst D s (r + 1) = if n.length < l.length then some l else some n := by rw [bst_succ, h, h0]; rfl
theorem opn_some {s : Nat} {T : ByteArray} {x y : Int} {M : List Int} (h : IsOp s T x y M true) : opn s T = some M ∧ x = 14 ∧ y = 6 := by
  obtain ⟨h1, h2⟩ := h
  cases ho : opn s T with
  | none => rw [ho] at h1; cases h1
  | some l => obtain ⟨a, b, c⟩ := h2 l ho; exact ⟨by rw [c], a, b⟩
theorem opn_none {s : Nat} {T : ByteArray} {x y : Int} {M : List Int} (h : IsOp s T x y M false) : opn s T = none := by
  cases ho : opn s T with
  | none => rfl
  | some l => have := h.1; rw [ho] at this; cases this
end Go.Proofs.YtgoampbebjfenaaGreatDoor.Rem

/- Layer 7 (remap): longest, Blocks. -/
namespace Go.Proofs.YtgoampbebjfenaaGreatDoor.Rem
open Go Go.RowKit Go.Proofs.YtgoampbebjfenaaGreatDoor Dev Tab
set_option linter.unusedVariables false

theorem good_zeros {n k : Int} (h : mayB n k = true) {j : Nat} (hj : (j : Int) ≤ k) : Tab.Good n k (List.replicate j 0) :=
  ⟨h, by simpa using hj, fun x hx => by rw [List.eq_of_mem_replicate hx]; have := mayB_parts h; omega⟩
set_option maxHeartbeats 1000000 in
set_option maxRecDepth 100000 in
theorem longest_any (n k : Int) (w : World) (h : mayB n k = true) : Calls Tryz.prog 104 #[.agg (ta n k [])] w fun e w' => e = .returned (.string (txS (List.replicate k.toNat 0))) ∧ Below w.heap.size w w' := by
  have hp := mayB_parts h
  have HM := Lib.hid h
  have HT := Lib.hid (TAt.made w n k [])
  have HB := Lib.hid (b_new w (.cells (ta n k []) 58))
  obtain ⟨K, hK⟩ : ∃ K : Nat, (K : Int) = k := ⟨k.toNat, by omega⟩
  subst hK
  obtain ⟨p, hpw⟩ : ∃ p, p = w.heap.size := ⟨_, rfl⟩
  rw [← hpw] at HT
  have HPW := Lib.hid hpw
  have hK32 : (K : Int) ≤ 32 := by omega
  have HK := Lib.hid hK32
  rw [Int.toNat_natCast]
  clear h hp hK32
  go_enter Tryz.func104, Tryz.ntmps104
  go_wp2_with fail
  rw [← hpw]
  clear hpw
  go_loopw [3] (fun _ wr => ∃ j : Nat, j ≤ K ∧ TAt wr p n K (List.replicate j 0) ∧ Below w.heap.size w wr) (fun _ wr => K - (match wr.cell? ⟨p, 2, none⟩ with | some v => (intOf v).toNat | none => 0))
  case atStart => exact ⟨0, by omega, HT.out, HB.out⟩
  case round =>
    obtain ⟨j, hj, ht, hb⟩ := hrel
    clear HT HB
    have HT := Lib.hid ht
    have HB := Lib.hid hb
    have hld := ht.ld
    have HG := Lib.hid (good_zeros (j := j) HM.out (by omega))
    have hk0 : (0 : Int) ≤ K := by omega
    have HC := Lib.hid ht.c2
    clear ht hb
    go_wp2_with fail
    refine (left_any n K _ _ hk0 HK.out (by have := HG.out.bd; omega)).mono ?_
    rintro e w1 ⟨rfl, hb⟩
    have HT1 := Lib.hid (HT.out.on hb)
    have HB1 := Lib.hid (b_on HB.out hb)
    have hld1 := HT1.out.ld
    clear hb hld hk0
    rw [List.length_replicate]
    by_cases hjk : j = K
    · subst hjk
      rw [show (j : Int) - j = 0 by omega]
      go_wp2_with fail
      refine (Tab.text_any n j _ _ HG.out).mono ?_
      rintro e w2 ⟨rfl, hb⟩
      go_wp2
      go_ret
      exact ⟨rfl, b_on HB1.out hb⟩
    · obtain ⟨u, hu⟩ : ∃ u : Int, u = (K : Int) - j := ⟨_, rfl⟩
      have hu0 : 0 < u := by omega
      rw [← hu]
      have hj2 : j < K := by omega
      have HJ := Lib.hid hj2
      have hME := mv_yes (n := n) (k := (K : Int)) (m := List.replicate j 0) (b := 0) (by omega) (by have := mayB_parts HM.out; omega) (by simp; omega)
      obtain ⟨m1, m2, m3⟩ := mv_ok hME
      have HV := Lib.hid (And.intro hME (And.intro m1 (And.intro m2 m3)))
      clear hME m1 m2 m3 hu hj2 hj hjk
      go_wp2_with fail
      refine (Tab.move_any n K 0 _ _ HG.out).mono ?_
      rintro e w2 ⟨rfl, hb⟩
      rw [HV.out.1, HV.out.2.1, HV.out.2.2.1, HV.out.2.2.2]
      have HT2 := Lib.hid (HT1.out.on hb)
      have HB2 := Lib.hid (b_on HB1.out hb)
      have hrep : List.replicate j (0 : Int) ++ [0] = List.replicate (j + 1) 0 := List.replicate_succ'.symm
      rw [hrep]
      have hst := HT2.out.st n K (List.replicate (j + 1) 0)
      have HT3 := Lib.hid (HT2.out.put n K (List.replicate (j + 1) 0))
      have HB3 := Lib.hid (b_row HB2.out (p := p) (by have := HPW.out; omega) (ta n K (List.replicate (j + 1) 0)))
      clear hb hld1 hrep
      go_wp2_with fail
      go_roundw
      case rel => exact ⟨j + 1, by have := HJ.out; omega, HT3.out, HB3.out⟩
      case measure =>
        have c1 := HT3.out.c2
        have c0 := HC.out
        simp only [c0, c1, intOf, List.length_replicate, Int.toNat_natCast]
        exact Nat.sub_lt_sub_left HJ.out (Nat.lt_succ_self j)
theorem bl_wrap {n k : Int} (hn : 8 ≤ n ∧ n ≤ 4096) (hk : 0 ≤ k ∧ k ≤ 32) : wrap64 (wrap64 (n - 4) - k) = n - 4 - k := by
  unfold wrap64; omega
/-- there may be a pair of such devices -/
def Fit (n z k : Int) : Prop := shapeR n z = true ∧ 0 ≤ k ∧ k ≤ 32 ∧ 2 ≤ n - 4 - k ∧ 8 + 2 * k ≤ z - 24
instance (n z k : Int) : Decidable (Fit n z k) := by unfold Fit; infer_instance
def blN (n z k : Int) : Int := if Fit n z k then n - 4 - k else 0
theorem shapeR_parts {n z : Int} (h : shapeR n z = true) : 8 ≤ n ∧ n ≤ 4096 ∧ 128 ≤ z ∧ z ≤ 1024 := by
  have := of_decide_eq_true (show decide (8 ≤ n ∧ n ≤ 4096 ∧ 128 ≤ z ∧ z ≤ 1024 ∧ z % 64 = 0) = true from h); omega
set_option maxHeartbeats 1000000 in
set_option maxRecDepth 100000 in
theorem blocks_any (n z k : Int) (w : World) : Calls Tryz.prog 85 #[.agg #[.int .i64 n, .int .i64 z], .int .i64 k] w fun e w' => e = .returned (.int .i64 (blN n z k)) ∧ Below w.heap.size w w' := by
  have hn0 := Has.new w [.int .i64 n, .int .i64 z] 67
  have HB := Lib.hid (b_new w (.cells #[.int .i64 n, .int .i64 z] 67))
  cases hr : shapeR n z with
  | false =>
    have HE := Lib.hid (show blN n z k = 0 from if_neg fun h => by rw [h.1] at hr; cases hr)
    have HR := Lib.hid hr
    clear hr hn0
    go_enter Tryz.func85, Tryz.ntmps85
    go_wp2_with fail
    refine (right_any n z _).mono ?_
    rintro e w1 ⟨rfl, hb⟩
    rw [HR.out]
    go_wp2
    go_ret
    exact ⟨by rw [HE.out]; rfl, b_on HB.out hb⟩
  | true =>
    have hp4 := shapeR_parts hr
    have HR := Lib.hid hr
    obtain ⟨p, hpw⟩ : ∃ p, p = w.heap.size := ⟨_, rfl⟩
    rw [← hpw] at hn0
    have HN := Lib.hid hn0
    obtain ⟨b, hb0⟩ : ∃ b, b = wrap64 (wrap64 (n - 4) - k) := ⟨_, rfl⟩
    have hbw := hb0.symm
    have HBB := Lib.hid hb0
    have HPN := Lib.hid hp4
    obtain ⟨E, hE⟩ : ∃ E, E = nwE b k := ⟨_, rfl⟩
    obtain ⟨x, hx⟩ : ∃ x, x = nwN b k := ⟨_, rfl⟩
    obtain ⟨y, hy⟩ : ∃ y, y = nwK b k := ⟨_, rfl⟩
    have HXY := Lib.hid (And.intro hE (And.intro hx hy))
    clear hr hb0 hp4 hn0
    go_enter Tryz.func85, Tryz.ntmps85
    go_wp2_with fail
    rw [← hpw]
    refine (right_any n z _).mono ?_
    rintro e w1 ⟨rfl, hb⟩
    rw [HR.out]
    have hn1 := HN.out.below hb HN.out.lt
    have c0 := hn1.cell 0
    simp only [List.getElem?_cons_zero] at c0
    have HN1 := Lib.hid hn1
    have HB1 := Lib.hid (b_on HB.out hb)
    clear hb hpw hn1 HN HB
    go_wp2_with fail
    rw [hbw]
    clear hbw c0
    refine (new_any b k _).mono ?_
    rintro e w2 ⟨rfl, hb⟩
    rw [← hE, ← hx, ← hy]
    have HN2 := Lib.hid (HN1.out.below hb HN1.out.lt)
    have HB2 := Lib.hid (b_on HB1.out hb)
    clear hb hE hx hy HN1 HB1
    obtain ⟨g, hg⟩ : ∃ g, g = w2.heap.size := ⟨_, rfl⟩
    have hO0 : Below w.heap.size w (w2.alloc (.cells (ta x y []) 58)) ∧ Has (w2.alloc (.cells (ta x y []) 58)) p 67 [.int .i64 n, .int .i64 z] ∧ TAt (w2.alloc (.cells (ta x y []) 58)) g x y [] := ⟨b_nw HB2.out _, HN2.out.alloc _, by rw [hg]; exact TAt.made _ _ _ _⟩
    clear HN2 HB2
    by_cases hbad : E ≠ 0
    · have HE := Lib.hid (show blN n z k = 0 from if_neg fun h => by
        obtain ⟨h1, h2, h3, h4, h5⟩ := h
        have hpn := HPN.out
        have e1 : b = n - 4 - k := by rw [HBB.out, bl_wrap (by omega) (by omega)]
        exact hbad (by rw [HXY.out.1]; exact (nw_yes (mayB_of (by omega) (by omega) (by omega) (by omega))).1))
      have hd : decide (E = 0) = false := decide_eq_false hbad
      have hbad' : ¬ E = 0 := hbad
      clear hbad
      go_wp2_with (first | with_reducible refine wl_alloc ?_)
      rw [← hg]
      clear hg
      refine Reg.region_valsG (by kernel_rfl) [(22, .int .i64 E), (23, .bool true), (24, .bool true), (25, undef), (26, undef), (27, .bool true), (28, .bool true), (29, undef), (30, undef), (31, undef), (32, undef), (33, undef), (34, undef), (35, undef), (36, .bool true)] (fun _ wy => Below w.heap.size w wy ∧ Has wy p 67 [.int .i64 n, .int .i64 z] ∧ TAt wy g x y []) (by kernel_rfl) (by kernel_rfl) [3, 4, 7, 8, 9, 10, 11, 12, 13] (by kernel_rfl) (⟨hO0.1.drew, hO0.2.1.drew, hO0.2.2.drew⟩) ⟨?_, ?_, ?_, ?_, ?_, ?_, ?_, ?_, ?_, ?_, ?_, ?_, ?_, ?_, ?_, trivial⟩ ?hend
      · skip
        intro aq wq lq hI hl hdone hlater hold hd ho
        have h7 : aq.tmps.getD 7 undef = .int .i64 E := ho 7 (by kernel_rfl)
        clear hd ho hdone hlater hold
        exact Reg.step2_move (.tmp 7) rfl h7 hI trivial
      · skip
        intro aq wq lq hI hl hdone hlater hold hd ho
        have h22 : aq.tmps.getD 22 undef = .int .i64 E := hd 22 (by kernel_rfl)
        clear hd ho hdone hlater hold
        rw [Array.getD_eq_getD_getElem?] at h22
        refine Reg.step2_val (.bool true) ?_ rfl hI trivial
        simp [execOp, Act.eval, h22]
        try go_simp
      · skip
        intro aq wq lq hI hl hdone hlater hold hd ho
        have h23 : aq.tmps.getD 23 undef = .bool true := hd 23 (by kernel_rfl)
        clear hd ho hdone hlater hold
        exact Reg.step2_move (.tmp 23) rfl h23 hI trivial
      · skip
        intro aq wq lq hI hl hdone hlater hold hd ho
        exact Reg.stepG_skip rfl hI trivial
      · skip
        intro aq wq lq hI hl hdone hlater hold hd ho
        exact Reg.stepG_skip rfl hI trivial
      · skip
        intro aq wq lq hI hl hdone hlater hold hd ho
        have h24 : aq.tmps.getD 24 undef = .bool true := hd 24 (by kernel_rfl)
        have h26 : aq.tmps.getD 26 undef = undef := hd 26 (by kernel_rfl)
        clear hd ho hdone hlater hold
        rw [Array.getD_eq_getD_getElem?] at h24 h26
        refine Reg.step2_val (.bool true) ?_ rfl hI trivial
        simp [execOp, Act.eval, h24, h26]
        try go_simp
      · skip
        intro aq wq lq hI hl hdone hlater hold hd ho
        have h27 : aq.tmps.getD 27 undef = .bool true := hd 27 (by kernel_rfl)
        clear hd ho hdone hlater hold
        exact Reg.step2_move (.tmp 27) rfl h27 hI trivial
      · skip
        intro aq wq lq hI hl hdone hlater hold hd ho
        exact Reg.stepG_skip rfl hI trivial
      · skip
        intro aq wq lq hI hl hdone hlater hold hd ho
        exact Reg.stepG_skip rfl hI trivial
      · skip
        intro aq wq lq hI hl hdone hlater hold hd ho
        exact Reg.stepG_skip rfl hI trivial
      · skip
        intro aq wq lq hI hl hdone hlater hold hd ho
        exact Reg.stepG_skip rfl hI trivial
      · skip
        intro aq wq lq hI hl hdone hlater hold hd ho
        exact Reg.stepG_skip rfl hI trivial
      · skip
        intro aq wq lq hI hl hdone hlater hold hd ho
        exact Reg.stepG_skip rfl hI trivial
      · skip
        intro aq wq lq hI hl hdone hlater hold hd ho
        exact Reg.stepG_skip rfl hI trivial
      · skip
        intro aq wq lq hI hl hdone hlater hold hd ho
        have h28 : aq.tmps.getD 28 undef = .bool true := hd 28 (by kernel_rfl)
        have h35 : aq.tmps.getD 35 undef = undef := hd 35 (by kernel_rfl)
        clear hd ho hdone hlater hold
        rw [Array.getD_eq_getD_getElem?] at h28 h35
        refine Reg.step2_val (.bool true) ?_ rfl hI trivial
        simp [execOp, Act.eval, h28, h35]
        try go_simp
      case hend =>
        intro wz hI
        simp only [Reg.fill, List.foldl_cons, List.foldl_nil, List.setIfInBounds_toArray, List.set_cons_zero, List.set_cons_succ]
        have HZ := Lib.hid hI.1
        clear hI hO0
        go_wp2
        go_ret
        exact ⟨by rw [HE.out]; rfl, HZ.out⟩
    · obtain rfl : E = 0 := by omega
      clear hbad
      have hmay : mayB b k = true := by
        cases hm : mayB b k with
        | true => rfl
        | false => have := HXY.out.1; rw [(nw_no hm).1] at this; cases this
      obtain ⟨m1, m2, m3, m4⟩ := mayB_parts hmay
      have e1 : b = n - 4 - k := by
        have hpn := HPN.out
        rw [HBB.out, bl_wrap (by omega) (by omega)]
      have HMAY := Lib.hid hmay
      obtain ⟨n1, n2, n3⟩ := nw_yes hmay
      rw [HXY.out.2.1, HXY.out.2.2, n2, n3] at hO0 ⊢
      by_cases hlow : b < 2
      · have HE := Lib.hid (show blN n z k = 0 from if_neg fun h => by
          obtain ⟨h1, h2, h3, h4, h5⟩ := h
          omega)
        clear HXY m1 m2 m3 m4 n1 n2 n3 HBB hmay e1
        go_wp2_with (first | with_reducible refine wl_alloc ?_)
        rw [← hg]
        clear hg
        refine Reg.region_valsG (by kernel_rfl) [(22, .int .i64 0), (23, .bool false), (24, .bool false), (25, .int .i64 b), (26, .bool true), (27, .bool true), (28, .bool true), (29, undef), (30, undef), (31, undef), (32, undef), (33, undef), (34, undef), (35, undef), (36, .bool true)] (fun _ wy => Below w.heap.size w wy ∧ Has wy p 67 [.int .i64 n, .int .i64 z] ∧ TAt wy g b k []) (by kernel_rfl) (by kernel_rfl) [7, 8, 9, 10, 11, 12, 13] (by kernel_rfl) (⟨hO0.1.drew, hO0.2.1.drew, hO0.2.2.drew⟩) ⟨?_, ?_, ?_, ?_, ?_, ?_, ?_, ?_, ?_, ?_, ?_, ?_, ?_, ?_, ?_, trivial⟩ ?hend
        · skip
          intro aq wq lq hI hl hdone hlater hold hd ho
          have h7 : aq.tmps.getD 7 undef = .int .i64 0 := ho 7 (by kernel_rfl)
          clear hd ho hdone hlater hold
          exact Reg.step2_move (.tmp 7) rfl h7 hI trivial
        · skip
          intro aq wq lq hI hl hdone hlater hold hd ho
          have h22 : aq.tmps.getD 22 undef = .int .i64 0 := hd 22 (by kernel_rfl)
          clear hd ho hdone hlater hold
          rw [Array.getD_eq_getD_getElem?] at h22
          refine Reg.step2_val (.bool false) ?_ rfl hI trivial
          simp [execOp, Act.eval, h22]
          try go_simp
        · skip
          intro aq wq lq hI hl hdone hlater hold hd ho
          have h23 : aq.tmps.getD 23 undef = .bool false := hd 23 (by kernel_rfl)
          clear hd ho hdone hlater hold
          exact Reg.step2_move (.tmp 23) rfl h23 hI trivial
        · skip
          intro aq wq lq hI hl hdone hlater hold hd ho
          have h5 : aq.tmps.getD 5 undef = .int .i64 b := ho 5 (by kernel_rfl)
          clear hd ho hdone hlater hold
          exact Reg.step2_move (.tmp 5) rfl h5 hI trivial
        · skip
          intro aq wq lq hI hl hdone hlater hold hd ho
          have h25 : aq.tmps.getD 25 undef = .int .i64 b := hd 25 (by kernel_rfl)
          clear hd ho hdone hlater hold
          rw [Array.getD_eq_getD_getElem?] at h25
          refine Reg.step2_val (.bool true) ?_ rfl hI trivial
          simp [execOp, Act.eval, h25]
          try go_simp
        · skip
          intro aq wq lq hI hl hdone hlater hold hd ho
          have h24 : aq.tmps.getD 24 undef = .bool false := hd 24 (by kernel_rfl)
          have h26 : aq.tmps.getD 26 undef = .bool true := hd 26 (by kernel_rfl)
          clear hd ho hdone hlater hold
          rw [Array.getD_eq_getD_getElem?] at h24 h26
          refine Reg.step2_val (.bool true) ?_ rfl hI trivial
          simp [execOp, Act.eval, h24, h26]
          try go_simp
        · skip
          intro aq wq lq hI hl hdone hlater hold hd ho
          have h27 : aq.tmps.getD 27 undef = .bool true := hd 27 (by kernel_rfl)
          clear hd ho hdone hlater hold
          exact Reg.step2_move (.tmp 27) rfl h27 hI trivial
        · skip
          intro aq wq lq hI hl hdone hlater hold hd ho
          exact Reg.stepG_skip rfl hI trivial
        · skip
          intro aq wq lq hI hl hdone hlater hold hd ho
          exact Reg.stepG_skip rfl hI trivial
        · skip
          intro aq wq lq hI hl hdone hlater hold hd ho
          exact Reg.stepG_skip rfl hI trivial
        · skip
          intro aq wq lq hI hl hdone hlater hold hd ho
          exact Reg.stepG_skip rfl hI trivial
        · skip
          intro aq wq lq hI hl hdone hlater hold hd ho
          exact Reg.stepG_skip rfl hI trivial
        · skip
          intro aq wq lq hI hl hdone hlater hold hd ho
          exact Reg.stepG_skip rfl hI trivial
        · skip
          intro aq wq lq hI hl hdone hlater hold hd ho
          exact Reg.stepG_skip rfl hI trivial
        · skip
          intro aq wq lq hI hl hdone hlater hold hd ho
          have h28 : aq.tmps.getD 28 undef = .bool true := hd 28 (by kernel_rfl)
          have h35 : aq.tmps.getD 35 undef = undef := hd 35 (by kernel_rfl)
          clear hd ho hdone hlater hold
          rw [Array.getD_eq_getD_getElem?] at h28 h35
          refine Reg.step2_val (.bool true) ?_ rfl hI trivial
          simp [execOp, Act.eval, h28, h35]
          try go_simp
        case hend =>
          intro wz hI
          simp only [Reg.fill, List.foldl_cons, List.foldl_nil, List.setIfInBounds_toArray, List.set_cons_zero, List.set_cons_succ]
          have HZ := Lib.hid hI.1
          clear hI hO0
          go_wp2
          go_ret
          exact ⟨by rw [HE.out]; rfl, HZ.out⟩
      · have hz := HPN.out
        have hlow' : ¬ b < 2 := hlow
        have HE := Lib.hid (show blN n z k = b by unfold blN; rw [if_pos ⟨HR.out, by omega, by omega, by omega, by omega⟩]; exact e1.symm)
        obtain ⟨LS, hLS⟩ : ∃ LS, LS = txS (List.replicate k.toNat 0) := ⟨_, rfl⟩
        have hsz : (LS.size : Int) = 8 + 2 * k := by
          have : LS.size = (txL (List.replicate k.toNat 0)).length := by rw [hLS]; rfl
          rw [this, txL_length, List.length_replicate]; omega
        obtain ⟨rz, hrz⟩ : ∃ rz, rz = Env.roomN z := ⟨_, rfl⟩
        have hle : ¬ rz < (LS.size : Int) := by
          have : Env.roomN z = z - 24 := (Env.roomN_yes (n := z) (by unfold Env.szB; simp; omega)).1
          omega
        have HLS := Lib.hid hLS
        have HRZ := Lib.hid hrz
        clear HXY m1 m2 m3 m4 n1 n2 n3 HBB hmay e1 hz hLS hsz hrz hlow
        go_wp2_with (first | with_reducible refine wl_alloc ?_)
        rw [← hg]
        clear hg
        refine Reg.region_valsG (by kernel_rfl) [(22, .int .i64 0), (23, .bool false), (24, .bool false), (25, .int .i64 b), (26, .bool false), (27, .bool false), (28, .bool false), (29, .agg (ta b k [])), (30, .string LS), (31, .int .i64 (LS.size : Nat)), (32, .pointer (some ⟨p, 1, none⟩)), (33, .int .i64 z), (34, .int .i64 rz), (35, .bool false), (36, .bool false)] (fun _ wy => Below w.heap.size w wy ∧ Has wy p 67 [.int .i64 n, .int .i64 z] ∧ TAt wy g b k []) (by kernel_rfl) (by kernel_rfl) [] (by kernel_rfl) (⟨hO0.1.drew, hO0.2.1.drew, hO0.2.2.drew⟩) ⟨?_, ?_, ?_, ?_, ?_, ?_, ?_, ?_, ?_, ?_, ?_, ?_, ?_, ?_, ?_, trivial⟩ ?hend
        · skip
          intro aq wq lq hI hl hdone hlater hold hd ho
          have h7 : aq.tmps.getD 7 undef = .int .i64 0 := ho 7 (by kernel_rfl)
          clear hd ho hdone hlater hold
          exact Reg.step2_move (.tmp 7) rfl h7 hI trivial
        · skip
          intro aq wq lq hI hl hdone hlater hold hd ho
          have h22 : aq.tmps.getD 22 undef = .int .i64 0 := hd 22 (by kernel_rfl)
          clear hd ho hdone hlater hold
          rw [Array.getD_eq_getD_getElem?] at h22
          refine Reg.step2_val (.bool false) ?_ rfl hI trivial
          simp [execOp, Act.eval, h22]
          try go_simp
        · skip
          intro aq wq lq hI hl hdone hlater hold hd ho
          have h23 : aq.tmps.getD 23 undef = .bool false := hd 23 (by kernel_rfl)
          clear hd ho hdone hlater hold
          exact Reg.step2_move (.tmp 23) rfl h23 hI trivial
        · skip
          intro aq wq lq hI hl hdone hlater hold hd ho
          have h5 : aq.tmps.getD 5 undef = .int .i64 b := ho 5 (by kernel_rfl)
          clear hd ho hdone hlater hold
          exact Reg.step2_move (.tmp 5) rfl h5 hI trivial
        · skip
          intro aq wq lq hI hl hdone hlater hold hd ho
          have h25 : aq.tmps.getD 25 undef = .int .i64 b := hd 25 (by kernel_rfl)
          clear hd ho hdone hlater hold
          rw [Array.getD_eq_getD_getElem?] at h25
          refine Reg.step2_val (.bool false) ?_ rfl hI trivial
          simp [execOp, Act.eval, h25]
          try go_simp
        · skip
          intro aq wq lq hI hl hdone hlater hold hd ho
          have h24 : aq.tmps.getD 24 undef = .bool false := hd 24 (by kernel_rfl)
          have h26 : aq.tmps.getD 26 undef = .bool false := hd 26 (by kernel_rfl)
          clear hd ho hdone hlater hold
          rw [Array.getD_eq_getD_getElem?] at h24 h26
          refine Reg.step2_val (.bool false) ?_ rfl hI trivial
          simp [execOp, Act.eval, h24, h26]
          try go_simp
        · skip
          intro aq wq lq hI hl hdone hlater hold hd ho
          have h27 : aq.tmps.getD 27 undef = .bool false := hd 27 (by kernel_rfl)
          clear hd ho hdone hlater hold
          exact Reg.step2_move (.tmp 27) rfl h27 hI trivial
        · skip
          intro aq wq lq hI hl hdone hlater hold hd ho
          have h6 : aq.tmps.getD 6 undef = .pointer (some ⟨g, 0, none⟩) := ho 6 (by kernel_rfl)
          clear hd ho hdone hlater hold
          rw [Array.getD_eq_getD_getElem?] at h6
          have hld := hI.2.2.ld
          refine Reg.step2_val (.agg (ta b k [])) ?_ rfl hI trivial
          go_simp
        · skip
          intro aq wq lq hI hl hdone hlater hold hd ho
          have h29 : aq.tmps.getD 29 undef = .agg (ta b k []) := hd 29 (by kernel_rfl)
          clear hd ho hdone hlater hold
          rw [Array.getD_eq_getD_getElem?] at h29
          refine Reg.step2_call 104 #[.agg (ta b k [])] ?_ ((longest_any b k wq HMAY.out).mono ?_)
          · clear hI
            simp [execOp]
            go_simp
          · rintro e w2 ⟨rfl, hb⟩
            exact ⟨_, rfl, by rw [HLS.out]; exact rfl, ⟨b_on hI.1 hb, hI.2.1.below hb hI.2.1.lt, hI.2.2.on hb⟩, trivial⟩
        · skip
          intro aq wq lq hI hl hdone hlater hold hd ho
          have h30 : aq.tmps.getD 30 undef = .string LS := hd 30 (by kernel_rfl)
          clear hd ho hdone hlater hold
          rw [Array.getD_eq_getD_getElem?] at h30
          refine Reg.step2_val (.int .i64 (LS.size : Nat)) ?_ rfl hI trivial
          simp [execOp]
          go_simp
        · skip
          intro aq wq lq hI hl hdone hlater hold hd ho
          have h2 : aq.tmps.getD 2 undef = .pointer (some ⟨p, 0, none⟩) := ho 2 (by kernel_rfl)
          clear hd ho hdone hlater hold
          rw [Array.getD_eq_getD_getElem?] at h2
          refine Reg.step2_val (.pointer (some ⟨p, 1, none⟩)) ?_ rfl hI trivial
          go_simp
        · skip
          intro aq wq lq hI hl hdone hlater hold hd ho
          have h32 : aq.tmps.getD 32 undef = .pointer (some ⟨p, 1, none⟩) := hd 32 (by kernel_rfl)
          clear hd ho hdone hlater hold
          rw [Array.getD_eq_getD_getElem?] at h32
          have c1 := hI.2.1.cell 1
          simp only [List.getElem?_cons_zero, List.getElem?_cons_succ] at c1
          refine Reg.step2_val (.int .i64 z) ?_ rfl hI trivial
          go_simp
        · skip
          intro aq wq lq hI hl hdone hlater hold hd ho
          have h33 : aq.tmps.getD 33 undef = .int .i64 z := hd 33 (by kernel_rfl)
          clear hd ho hdone hlater hold
          rw [Array.getD_eq_getD_getElem?] at h33
          refine Reg.step2_call 61 #[.int .i64 z] ?_ ((Env.room_any z wq).mono ?_)
          · clear hI
            simp [execOp]
            go_simp
          · rintro e w2 ⟨rfl, rfl⟩
            exact ⟨_, rfl, by rw [HRZ.out]; exact rfl, hI, trivial⟩
        · skip
          intro aq wq lq hI hl hdone hlater hold hd ho
          have h31 : aq.tmps.getD 31 undef = .int .i64 (LS.size : Nat) := hd 31 (by kernel_rfl)
          have h34 : aq.tmps.getD 34 undef = .int .i64 rz := hd 34 (by kernel_rfl)
          clear hd ho hdone hlater hold
          rw [Array.getD_eq_getD_getElem?] at h31 h34
          refine Reg.step2_val (.bool false) ?_ rfl hI trivial
          simp [execOp, Act.eval, h31, h34]
          try go_simp
        · skip
          intro aq wq lq hI hl hdone hlater hold hd ho
          have h28 : aq.tmps.getD 28 undef = .bool false := hd 28 (by kernel_rfl)
          have h35 : aq.tmps.getD 35 undef = .bool false := hd 35 (by kernel_rfl)
          clear hd ho hdone hlater hold
          rw [Array.getD_eq_getD_getElem?] at h28 h35
          refine Reg.step2_val (.bool false) ?_ rfl hI trivial
          simp [execOp, Act.eval, h28, h35]
          try go_simp
        case hend =>
          intro wz hI
          simp only [Reg.fill, List.foldl_cons, List.foldl_nil, List.setIfInBounds_toArray, List.set_cons_zero, List.set_cons_succ]
          have HZ := Lib.hid hI.1
          clear hI hO0
          go_wp2
          go_ret
          exact ⟨by rw [HE.out]; rfl, HZ.out⟩
theorem blocks_c (n z k : Int) (w : World) : Calls Tryz.prog 85 #[.agg #[.int .i64 n, .int .i64 z], .int .i64 k] w fun e w' => e = .returned (.int .i64 (if Fit n z k then n - 4 - k else 0)) ∧ Below w.heap.size w w' := blocks_any n z k w
end Go.Proofs.YtgoampbebjfenaaGreatDoor.Rem

/- Layer 7 (remap): join, Format, Open. -/
namespace Go.Proofs.YtgoampbebjfenaaGreatDoor.Rem
open Go Go.RowKit Go.Proofs.YtgoampbebjfenaaGreatDoor Dev Tab
set_option linter.unusedVariables false

theorem shape_l {p sb : Nat} {cv : Value} {D : Dv} (w : World) (h : DevAt w p sb cv D) (n z : Int) (hn : (D.n : Int) = n) (hz : (D.size : Int) = z) :
    Calls Tryz.prog 66 #[.pointer (some ⟨p, 0, none⟩)] w fun e w' => e = .returned (.agg #[.int .i64 n, .int .i64 z]) ∧ Below w.heap.size w w' := by
  subst hn; subst hz; exact shape_d w h
/-- a pair's cells -/
def pc (x y : Value) (l n : List Int) : Array Value := ([x, y] ++ tl 14 6 l ++ tl 14 6 n).toArray
theorem built78 : (Tryz.prog).built 131 [(0, .agg (ta 14 6 [])), (1, .agg (ta 14 6 []))] = some (tb [] []) := by kernel_rfl
theorem built80 (a b : Option Addr) : (Tryz.prog).built 133 [(0, .agg #[.pointer a, .pointer b]), (1, .agg (tb [] []))] = some (pc (.pointer a) (.pointer b) [] []) := by kernel_rfl
set_option maxRecDepth 100000 in
theorem wl_build78 {ops : Array Oper} {rest : List Oper} {dst : Option Tmp} {ty : TypeId} {pos : String} {after : Array Edge} {a : Act} {w : World} {Q : Exit → Act → World → Prop} {x y : Operand}
    (hx : a.eval x = .agg (ta 14 6 [])) (hy : a.eval y = .agg (ta 14 6 []))
    (h : wpList Tryz.prog ops Q rest (a.put dst (.agg (tb [] []))) w) : wpList Tryz.prog ops Q (⟨dst, .build 131 #[(0, x), (1, y)], ty, pos, after, none⟩ :: rest) a w := by
  refine wpList_plain rfl fun K' hK' => wp_build 131 #[(0, x), (1, y)] rfl ?_ ?_
  · simp only [List.map_toArray, List.map_cons, List.map_nil, hx, hy, built78]; rfl
  · simp only [List.map_toArray, List.map_cons, List.map_nil, hx, hy, built78]; exact hK' _ _ h
set_option maxRecDepth 100000 in
theorem wl_build80 {ops : Array Oper} {rest : List Oper} {dst : Option Tmp} {ty : TypeId} {pos : String} {after : Array Edge} {a : Act} {w : World} {Q : Exit → Act → World → Prop} {x y : Operand} (p q : Option Addr)
    (hx : a.eval x = .agg #[.pointer p, .pointer q]) (hy : a.eval y = .agg (tb [] []))
    (h : wpList Tryz.prog ops Q rest (a.put dst (.agg (pc (.pointer p) (.pointer q) [] []))) w) : wpList Tryz.prog ops Q (⟨dst, .build 133 #[(0, x), (1, y)], ty, pos, after, none⟩ :: rest) a w := by
  refine wpList_plain rfl fun K' hK' => wp_build 133 #[(0, x), (1, y)] rfl ?_ ?_
  · simp only [List.map_toArray, List.map_cons, List.map_nil, hx, hy, built80]; rfl
  · simp only [List.map_toArray, List.map_cons, List.map_nil, hx, hy, built80]; exact hK' _ _ h
theorem info_dev : ∃ j, (Tryz.prog).info? 92 = some j ∧ j.size ≠ 0 := by
  have : ((Tryz.prog).info? 92).any (fun j => decide (j.size ≠ 0)) = true := by kernel_rfl
  cases h : (Tryz.prog).info? 92 with
  | none => rw [h] at this; cases this
  | some j => rw [h] at this; exact ⟨j, rfl, by simpa using this⟩
theorem eq_dev {w : World} {pa pb sa sb : Nat} {ca cb : Value} {Da Db : Dv} (ha : DevAt w pa sa ca Da) (hb : DevAt w pb sb cb Db) (hab : pa ≠ pb) : (binOp .eql 24 (.pointer (some ⟨pa, 0, none⟩)) (.pointer (some ⟨pb, 0, none⟩))).run Tryz.prog w = .ok (.bool false) w := by
  obtain ⟨j, h1, h2⟩ := info_dev
  exact run_eql_ptr_other w Tryz.underlying24 h1 h2 (fun e => hab (by injection e)) ha.main hb.main
theorem same_dev (w : World) (pa : Nat) : (binOp .eql 24 (.pointer (some ⟨pa, 0, none⟩)) (.pointer (some ⟨pa, 0, none⟩))).run Tryz.prog w = .ok (.bool true) w := by
  obtain ⟨j, h1, h2⟩ := info_dev
  exact run_eql_ptr_same w ⟨pa, 0, none⟩ Tryz.underlying24 h1
def pdOf (a b : Nat) : Nat → Nat := fun s => if s = 0 then a else b
set_option maxHeartbeats 1000000 in
set_option maxRecDepth 100000 in
theorem join_ok {pa pb sa sb : Nat} {ca cb : Value} {Da Db : Dv} {w : World} (ha : DevAt w pa sa ca Da) (hb : DevAt w pb sb cb Db) (hab : pa ≠ pb) (na : (Da.n : Int) = 24) (za : (Da.size : Int) = 128) (nb : (Db.n : Int) = 24) (zb : (Db.size : Int) = 128) :
    Calls Tryz.prog 56 #[.pointer (some ⟨pa, 0, none⟩), .pointer (some ⟨pb, 0, none⟩), .int .i64 6] w fun e w' => ∃ q, e = .returned (.tuple #[.pointer (some ⟨q, 0, none⟩), .int .i64 0]) ∧ w.heap.size ≤ q ∧ PB w' q (pdOf pa pb) (fun _ => []) ∧ Below w.heap.size w w' := by
  have HA := Lib.hid ha
  have HB := Lib.hid hb
  have HAB := Lib.hid hab
  have HS := Lib.hid (And.intro na (And.intro za (And.intro nb zb)))
  have HBL := Lib.hid (show blN 24 128 6 = 14 from by decide)
  clear ha hb na za nb zb hab
  go_enter Tryz.func56, Tryz.ntmps56
  go_wp2_with fail
  refine (shape_l _ HA.out 24 128 HS.out.1 HS.out.2.1).mono ?_
  rintro e w1 ⟨rfl, hb1⟩
  have HA1 := Lib.hid (HA.out.below hb1 (Nat.le_refl _))
  have HB1 := Lib.hid (HB.out.below hb1 (Nat.le_refl _))
  have HW1 := Lib.hid hb1
  clear hb1 HA HB
  go_wp2_with fail
  refine (blocks_any 24 128 6 _).mono ?_
  rintro e w2 ⟨rfl, hb⟩
  rw [HBL.out]
  have HA2 := Lib.hid (HA1.out.below hb (Nat.le_refl _))
  have HB2 := Lib.hid (HB1.out.below hb (Nat.le_refl _))
  have HW2 := Lib.hid (b_on HW1.out hb)
  clear hb HA1 HB1 HW1
  go_wp2_with fail
  refine (shape_l _ HA2.out 24 128 HS.out.1 HS.out.2.1).mono ?_
  rintro e w3 ⟨rfl, hb⟩
  have HA3 := Lib.hid (HA2.out.below hb (Nat.le_refl _))
  have HB3 := Lib.hid (HB2.out.below hb (Nat.le_refl _))
  have HW3 := Lib.hid (b_on HW2.out hb)
  clear hb HA2 HB2 HW2
  go_wp2_with fail
  refine (shape_l _ HB3.out 24 128 HS.out.2.2.1 HS.out.2.2.2).mono ?_
  rintro e w4 ⟨rfl, hb⟩
  have HW4 := Lib.hid (b_on HW3.out hb)
  have heq := eq_dev (HA3.out.below hb (Nat.le_refl _)) (HB3.out.below hb (Nat.le_refl _)) HAB.out
  clear hb HA3 HB3 HW3
  go_wp2_with fail
  clear heq
  refine (new_any 14 6 _).mono ?_
  rintro e w5 ⟨rfl, hb⟩
  rw [show nwN 14 6 = 14 from by decide, show nwK 14 6 = 6 from by decide, show nwE 14 6 = 0 from by decide]
  have HW5 := Lib.hid (b_on HW4.out hb)
  clear hb HW4
  have hT := TAt.made w5 14 6 []
  have HW6 := Lib.hid (b_nw HW5.out (.cells (ta 14 6 []) 58))
  have hld := hT.ld
  clear hT
  go_wp2_with (first | with_reducible refine wl_alloc ?_ | with_reducible refine wl_build78 rfl rfl ?_ | with_reducible refine wl_build80 _ _ rfl rfl ?_)
  have HP := Lib.hid (show PB (((w5.alloc (.cells (ta 14 6 []) 58)).alloc (.cells (pc (.pointer (some ⟨pa, 0, none⟩)) (.pointer (some ⟨pb, 0, none⟩)) [] []) 133))) (w5.heap.size + 1) (pdOf pa pb) (fun _ => []) from by
    have := Has.new (w5.alloc (.cells (ta 14 6 []) 58)) ([.pointer (some ⟨pa, 0, none⟩), .pointer (some ⟨pb, 0, none⟩)] ++ tl 14 6 [] ++ tl 14 6 []) 133
    rw [show (w5.alloc (.cells (ta 14 6 []) 58)).heap.size = w5.heap.size + 1 by simp] at this
    exact this)
  go_ret2
  exact ⟨w5.heap.size + 1, rfl, by have := HW5.out.size; omega, HP.out, b_nw HW6.out _⟩
set_option maxHeartbeats 1000000 in
set_option maxRecDepth 100000 in
theorem join_same {pa sa : Nat} {ca : Value} {Da : Dv} {w : World} (ha : DevAt w pa sa ca Da) (na : (Da.n : Int) = 24) (za : (Da.size : Int) = 128) :
    Calls Tryz.prog 56 #[.pointer (some ⟨pa, 0, none⟩), .pointer (some ⟨pa, 0, none⟩), .int .i64 6] w fun e w' => e = .returned (.tuple #[.pointer none, .int .i64 2]) ∧ Below w.heap.size w w' := by
  have HA := Lib.hid ha
  have HS := Lib.hid (And.intro na za)
  have HBL := Lib.hid (show blN 24 128 6 = 14 from by decide)
  clear ha na za
  go_enter Tryz.func56, Tryz.ntmps56
  go_wp2_with fail
  refine (shape_l _ HA.out 24 128 HS.out.1 HS.out.2).mono ?_
  rintro e w1 ⟨rfl, hb1⟩
  have HA1 := Lib.hid (HA.out.below hb1 (Nat.le_refl _))
  have HW1 := Lib.hid hb1
  clear hb1 HA
  go_wp2_with fail
  refine (blocks_any 24 128 6 _).mono ?_
  rintro e w2 ⟨rfl, hb⟩
  rw [HBL.out]
  have HA2 := Lib.hid (HA1.out.below hb (Nat.le_refl _))
  have HW2 := Lib.hid (b_on HW1.out hb)
  clear hb HA1 HW1
  go_wp2_with fail
  refine (shape_l _ HA2.out 24 128 HS.out.1 HS.out.2).mono ?_
  rintro e w3 ⟨rfl, hb⟩
  have HA3 := Lib.hid (HA2.out.below hb (Nat.le_refl _))
  have HW3 := Lib.hid (b_on HW2.out hb)
  clear hb HA2 HW2
  go_wp2_with fail
  refine (shape_l _ HA3.out 24 128 HS.out.1 HS.out.2).mono ?_
  rintro e w4 ⟨rfl, hb⟩
  have HW4 := Lib.hid (b_on HW3.out hb)
  have heq := same_dev w4 pa
  clear hb HA3 HW3
  go_wp2_with fail
  go_ret2
  exact ⟨rfl, HW4.out⟩
set_option maxHeartbeats 1000000 in
set_option maxRecDepth 100000 in
theorem join_unlike {pa pb sa sb : Nat} {ca cb : Value} {Da Db : Dv} {w : World} (ha : DevAt w pa sa ca Da) (hb : DevAt w pb sb cb Db) (na : (Da.n : Int) = 24) (za : (Da.size : Int) = 128) (nb : (Db.n : Int) = 21) (zb : (Db.size : Int) = 128) :
    Calls Tryz.prog 56 #[.pointer (some ⟨pa, 0, none⟩), .pointer (some ⟨pb, 0, none⟩), .int .i64 6] w fun e w' => e = .returned (.tuple #[.pointer none, .int .i64 2]) ∧ Below w.heap.size w w' := by
  have HA := Lib.hid ha
  have HB := Lib.hid hb
  have HS := Lib.hid (And.intro na (And.intro za (And.intro nb zb)))
  have HBL := Lib.hid (show blN 24 128 6 = 14 from by decide)
  clear ha hb na za nb zb
  go_enter Tryz.func56, Tryz.ntmps56
  go_wp2_with fail
  refine (shape_l _ HA.out 24 128 HS.out.1 HS.out.2.1).mono ?_
  rintro e w1 ⟨rfl, hb1⟩
  have HA1 := Lib.hid (HA.out.below hb1 (Nat.le_refl _))
  have HB1 := Lib.hid (HB.out.below hb1 (Nat.le_refl _))
  have HW1 := Lib.hid hb1
  clear hb1 HA HB
  go_wp2_with fail
  refine (blocks_any 24 128 6 _).mono ?_
  rintro e w2 ⟨rfl, hb⟩
  rw [HBL.out]
  have HA2 := Lib.hid (HA1.out.below hb (Nat.le_refl _))
  have HB2 := Lib.hid (HB1.out.below hb (Nat.le_refl _))
  have HW2 := Lib.hid (b_on HW1.out hb)
  clear hb HA1 HB1 HW1
  go_wp2_with fail
  refine (shape_l _ HA2.out 24 128 HS.out.1 HS.out.2.1).mono ?_
  rintro e w3 ⟨rfl, hb⟩
  have HB3 := Lib.hid (HB2.out.below hb (Nat.le_refl _))
  have HW3 := Lib.hid (b_on HW2.out hb)
  clear hb HA2 HB2 HW2
  go_wp2_with fail
  refine (shape_l _ HB3.out 21 128 HS.out.2.2.1 HS.out.2.2.2).mono ?_
  rintro e w4 ⟨rfl, hb⟩
  have HW4 := Lib.hid (b_on HW3.out hb)
  clear hb HB3 HW3
  go_wp2_with fail
  go_ret2
  exact ⟨rfl, HW4.out⟩
theorem join_nil (v : Option Addr) (w : World) : Calls Tryz.prog 56 #[.pointer none, .pointer v, .int .i64 6] w fun e w' => e = .returned (.tuple #[.pointer none, .int .i64 1]) ∧ w = w' := by
  go_enter Tryz.func56, Tryz.ntmps56
  go_wp2
  go_ret2
  exact ⟨rfl, rfl⟩
/-! ### a table is stored into the pair -/
def prow (pd : Nat → Nat) (m : Nat → List Int) : Array Value := ([Value.pointer (some ⟨pd 0, 0, none⟩), Value.pointer (some ⟨pd 1, 0, none⟩)] ++ tl 14 6 (m 0) ++ tl 14 6 (m 1)).toArray
theorem PB.st {w : World} {q : Nat} {pd : Nat → Nat} {m : Nat → List Int} (h : PB w q pd m) {s : Nat} (hs : s < 2) (l : List Int) : (storeCells ⟨q, 2 + 35 * s, none⟩ (ta 14 6 l).toList 0).run Tryz.prog w = .ok () (w.setRow q (prow pd (upd m s l))) := by
  have hone : ∀ v ∈ tl 14 6 l, v.oneCell' = true := fun v hv => by
    have := ta_one 14 6 l
    rw [Array.all_eq_true] at this
    obtain ⟨i, hi, rfl⟩ := List.mem_iff_getElem.1 hv
    have := this i (by simpa [ta] using hi)
    simpa [ta] using this
  have := run_storeCells_at (P := Tryz.prog) q (2 + 35 * s) 133 (tl 14 6 l) 0 (prow pd m) w h (by
    have : (prow pd m).size = 72 := by unfold prow; simp [tl_length]
    rw [this, tl_length]; omega) hone
  rw [show (ta 14 6 l).toList = tl 14 6 l from rfl, this]
  congr 2
  rcases (show s = 0 ∨ s = 1 by omega) with rfl | rfl
  · unfold prow
    rw [upd_same, upd_ne _ _ (by omega)]
    congr 1
  · unfold prow
    rw [upd_same, upd_ne _ _ (by omega)]
    congr 1
theorem PB.put {w : World} {q : Nat} {pd : Nat → Nat} {m : Nat → List Int} (h : PB w q pd m) (m' : Nat → List Int) : PB (w.setRow q (prow pd m')) q pd m' := setRow_heap w q _ _ _ _ h
/-- .. and the rest of the world stays -/
theorem CPe.put {w0 w : World} {X : List Nat} {q : Nat} {pd : Nat → Nat} {m : Nat → List Int} {D : Nat → Dv} (h : CPe w0 X q pd m D w) (m' : Nat → List Int) : CPe w0 X q pd m' D (w.setRow q (prow pd m')) ∧ Same X w (w.setRow q (prow pd m')) := by
  have hc := chg_row (R := fun k => k = q) w q (prow pd m') rfl
  obtain ⟨⟨sb, cv, hd, hf, hff⟩, hp, hq, hx, hb⟩ := h
  refine ⟨⟨⟨sb, cv, fun s h2 => (hd s h2).chg hc fun k hk => (hf s h2 k hk).2.2, hf, hff⟩, hp.put m', hq, fun k hk => ⟨(hx k hk).1, Nat.lt_of_lt_of_le (hx k hk).2 hc.size⟩, hb.trans (hc.below hb.size fun k hk => by rw [hk]; exact hq.1)⟩, fun k hk => setRow_other _ _ _ _ fun e => hq.2 (e ▸ hk)⟩
end Go.Proofs.YtgoampbebjfenaaGreatDoor.Rem

/- Layer 7 (remap): Format, Open. -/
namespace Go.Proofs.YtgoampbebjfenaaGreatDoor.Rem
open Go Go.RowKit Go.Proofs.YtgoampbebjfenaaGreatDoor Dev Tab
set_option linter.unusedVariables false

section
variable {w0 w : World} {X : List Nat} {pd : Nat → Nat} {D : Nat → Dv}
/-- two devices apart, from w0's end on, and none of it in X; X lies there, too -/
structure Dvs (w0 : World) (X : List Nat) (pd : Nat → Nat) (D : Nat → Dv) (w : World) : Prop where
  some_ : ∃ (sb : Nat → Nat) (cv : Nat → Value), (∀ s, s < 2 → DevAt w (pd s) (sb s) (cv s) (D s)) ∧
    (∀ s, s < 2 → ∀ k, foot (pd s) (sb s) (cv s) k → w0.heap.size ≤ k ∧ k ∉ X) ∧ (∀ k, foot (pd 0) (sb 0) (cv 0) k → ¬ foot (pd 1) (sb 1) (cv 1) k)
  x : ∀ k ∈ X, w0.heap.size ≤ k ∧ k < w.heap.size
  below : Below w0.heap.size w0 w
theorem CPe.dvs {q : Nat} {m : Nat → List Int} (h : CPe w0 X q pd m D w) : Dvs w0 (q :: X) pd D w := by
  have hl := h.lt
  obtain ⟨⟨sb, cv, hd, hf, hff⟩, hp, hq, hx, hb⟩ := h
  refine ⟨⟨sb, cv, hd, fun s hs k hk => ⟨(hf s hs k hk).1, fun he => ?_⟩, hff⟩, fun k hk => ?_, hb⟩
  · rcases List.mem_cons.1 he with rfl | he
    · exact (hf s hs _ hk).2.2 rfl
    · exact (hf s hs k hk).2.1 he
  · rcases List.mem_cons.1 hk with rfl | hk
    · exact ⟨hq.1, hl⟩
    · exact hx k hk
theorem Dvs.pair (h : Dvs w0 X pd D w) {w' : World} (hb : Below w.heap.size w w') {q : Nat} (hq : w.heap.size ≤ q) {m : Nat → List Int} (hp : PB w' q pd m) : CPe w0 X q pd m D w' := by
  obtain ⟨⟨sb, cv, hd, hf, hff⟩, hx, hb0⟩ := h
  refine ⟨⟨sb, cv, fun s hs => (hd s hs).below hb (Nat.le_refl _), fun s hs k hk => ⟨(hf s hs k hk).1, (hf s hs k hk).2, fun e => ?_⟩, hff⟩, hp, ⟨Nat.le_trans hb0.size hq, fun e => ?_⟩, fun k hk => ⟨(hx k hk).1, Nat.lt_of_lt_of_le (hx k hk).2 hb.size⟩, hb0.trans (hb.mono hb0.size)⟩
  · have := (hd s hs).lt k hk; omega
  · have := (hx q e).2; omega
theorem Dvs.ne (h : Dvs w0 X pd D w) : pd 0 ≠ pd 1 := fun e => by
  obtain ⟨⟨sb, cv, hd, hf, hff⟩, hx, hb0⟩ := h
  exact hff (pd 0) (.inl rfl) (.inl e)
theorem Dvs.later (h : Dvs w0 X pd D w) {w' : World} (hb : Below w.heap.size w w') : Dvs w0 X pd D w' := by
  obtain ⟨⟨sb, cv, hd, hf, hff⟩, hx, hb0⟩ := h
  exact ⟨⟨sb, cv, fun s hs => (hd s hs).below hb (Nat.le_refl _), hf, hff⟩, fun k hk => ⟨(hx k hk).1, Nat.lt_of_lt_of_le (hx k hk).2 hb.size⟩, hb0.trans (hb.mono hb0.size)⟩
theorem Dvs.same (h : Dvs w0 X pd D w) {w' : World} (hb : Below w.heap.size w w') : Same X w w' := fun k hk => hb.block k (h.x k hk).2
/-- of 20 sectors of 128 bytes -/
def Sz (D : Nat → Dv) : Prop := ∀ s, s < 2 → ((D s).n : Int) = 24 ∧ ((D s).size : Int) = 128 ∧ (D s).cache.length ≤ 1000000
end
/-- a pair, where there is no error -/
def ptV (E : Int) (q : Nat) : Value := .pointer (if E = 0 then some ⟨q, 0, none⟩ else none)
set_option maxHeartbeats 1000000 in
set_option maxRecDepth 100000 in
theorem format_e {w0 w : World} {X : List Nat} {pa pb : Nat} {D : Nat → Dv} (h : Dvs w0 X (pdOf pa pb) D w) (hz : Sz D) :
    Calls Tryz.prog 21 #[.pointer (some ⟨pa, 0, none⟩), .pointer (some ⟨pb, 0, none⟩), .int .i64 6] w fun e w' => ∃ q, e = .returned (.tuple #[ptV (kbE D (fun _ => [])) q, .int .i64 (kbE D (fun _ => []))]) ∧ w.heap.size ≤ q ∧ CPe w0 X q (pdOf pa pb) (fun _ => []) (kbD D (fun _ => [])) w' ∧ Same X w w' := by
  have HD := Lib.hid h
  have HZ := Lib.hid hz
  obtain ⟨E, hE⟩ : ∃ E, E = kbE D (fun _ => []) := ⟨_, rfl⟩
  have HE := Lib.hid hE
  rw [← hE]
  clear h hz hE
  go_enter Tryz.func21, Tryz.ntmps21
  go_wp2_with fail
  obtain ⟨sb, cv, hd, -, -⟩ := HD.out.some_
  refine (join_ok (hd 0 (by omega)) (hd 1 (by omega)) HD.out.ne (HZ.out 0 (by omega)).1 (HZ.out 0 (by omega)).2.1 (HZ.out 1 (by omega)).1 (HZ.out 1 (by omega)).2.1).mono ?_
  rintro e w1 ⟨q, rfl, hq, hp, hb⟩
  have HC := Lib.hid (HD.out.pair hb hq hp)
  have HS := Lib.hid (HD.out.same hb)
  have HQ := Lib.hid hq
  clear hq hp hb hd
  go_wp2_with fail
  refine (keepBoth_e HC.out (fun s hs => Tab.Good.nil (by decide)) (fun s hs => by have := (HZ.out s hs).2.1; omega) (fun t ht => (HZ.out t ht).2.2)).mono ?_
  rintro e w2 ⟨rfl, hc, hsm⟩
  rw [← HE.out]
  have HC2 := Lib.hid hc
  have HS2 := Lib.hid (HS.out.trans (fun k hk => hsm k (List.mem_cons_of_mem _ hk) : Same X w1 w2))
  clear hc hsm HC
  by_cases h0 : E = 0
  · subst h0
    go_wp2_with fail
    go_ret2
    exact ⟨q, rfl, HQ.out, HC2.out, HS2.out⟩
  · go_wp2_with fail
    go_ret2
    exact ⟨q, by unfold ptV; rw [if_neg h0]; rfl, HQ.out, HC2.out, HS2.out⟩
set_option maxHeartbeats 1000000 in
set_option maxRecDepth 100000 in
theorem format_same {w : World} {pa sa : Nat} {ca : Value} {Da : Dv} (ha : DevAt w pa sa ca Da) (na : (Da.n : Int) = 24) (za : (Da.size : Int) = 128) :
    Calls Tryz.prog 21 #[.pointer (some ⟨pa, 0, none⟩), .pointer (some ⟨pa, 0, none⟩), .int .i64 6] w fun e w' => e = .returned (.tuple #[.pointer none, .int .i64 2]) ∧ Below w.heap.size w w' := by
  have HA := Lib.hid (And.intro ha (And.intro na za))
  clear ha na za
  go_enter Tryz.func21, Tryz.ntmps21
  go_wp2_with fail
  refine (join_same HA.out.1 HA.out.2.1 HA.out.2.2).mono ?_
  rintro e w1 ⟨rfl, hb⟩
  go_wp2
  go_ret2
  exact ⟨rfl, hb⟩
set_option maxHeartbeats 1000000 in
set_option maxRecDepth 100000 in
theorem format_unlike {w : World} {pa pb sa sb : Nat} {ca cb : Value} {Da Db : Dv} (ha : DevAt w pa sa ca Da) (hb : DevAt w pb sb cb Db) (na : (Da.n : Int) = 24) (za : (Da.size : Int) = 128) (nb : (Db.n : Int) = 21) (zb : (Db.size : Int) = 128) :
    Calls Tryz.prog 21 #[.pointer (some ⟨pa, 0, none⟩), .pointer (some ⟨pb, 0, none⟩), .int .i64 6] w fun e w' => e = .returned (.tuple #[.pointer none, .int .i64 2]) ∧ Below w.heap.size w w' := by
  have HA := Lib.hid (And.intro ha (And.intro na za))
  have HB := Lib.hid (And.intro hb (And.intro nb zb))
  clear ha na za hb nb zb
  go_enter Tryz.func21, Tryz.ntmps21
  go_wp2_with fail
  refine (join_unlike HA.out.1 HB.out.1 HA.out.2.1 HA.out.2.2 HB.out.2.1 HB.out.2.2).mono ?_
  rintro e w1 ⟨rfl, hb⟩
  go_wp2
  go_ret2
  exact ⟨rfl, hb⟩
theorem format_nil (v : Option Addr) (w : World) : Calls Tryz.prog 21 #[.pointer none, .pointer v, .int .i64 6] w fun e w' => e = .returned (.tuple #[.pointer none, .int .i64 1]) ∧ w = w' := by
  go_enter Tryz.func21, Tryz.ntmps21
  go_wp2_with fail
  refine (join_nil v _).mono ?_
  rintro e w1 ⟨rfl, rfl⟩
  go_wp2
  go_ret2
  exact ⟨rfl, rfl⟩
/-! ### Open -/
theorem PB.st0 {w : World} {q : Nat} {pd : Nat → Nat} {m : Nat → List Int} (h : PB w q pd m) (l : List Int) : (storeCells ⟨q, 2, none⟩ (ta 14 6 l).toList 0).run Tryz.prog w = .ok () (w.setRow q (prow pd (upd m 0 l))) := h.st (s := 0) (by omega) l
theorem PB.st1 {w : World} {q : Nat} {pd : Nat → Nat} {m : Nat → List Int} (h : PB w q pd m) (l : List Int) : (storeCells ⟨q, 37, none⟩ (ta 14 6 l).toList 0).run Tryz.prog w = .ok () (w.setRow q (prow pd (upd m 1 l))) := h.st (s := 1) (by omega) l
/-- behind r sides -/
def opnM (D : Nat → Dv) (r : Nat) : Nat → List Int := fun s => if s < r then (bst D s 4).getD [] else []
theorem opnM_zero (D : Nat → Dv) : opnM D 0 = fun _ => [] := by funext s; unfold opnM; rw [if_neg (by omega)]
theorem opnM_succ (D : Nat → Dv) (r : Nat) {l : List Int} (h : bst D r 4 = some l) : upd (opnM D r) r l = opnM D (r + 1) := by
  funext s
  by_cases e : s = r
  · subst e; rw [upd_same]; show l = if s < s + 1 then (bst D s 4).getD [] else []; rw [if_pos (by omega), h]; rfl
  · rw [upd_ne _ _ e]
    show (if s < r then (bst D s 4).getD [] else []) = if s < r + 1 then (bst D s 4).getD [] else []
    by_cases e2 : s < r
    · rw [if_pos e2, if_pos (by omega)]
    · rw [if_neg e2, if_neg (by omega)]
theorem EqR.bst {D E : Nat → Dv} (h : EqR D E) (s : Nat) : ∀ r, bst E s r = bst D s r
  | 0 => rfl
  | r + 1 => by rw [bst_succ, bst_succ, h.bst s r, h.rdT]
/-- what Open answers -/
def opE2 (D : Nat → Dv) : Int := if (bst D 0 4).isSome = true ∧ (bst D 1 4).isSome = true then 0 else 10
end Go.Proofs.YtgoampbebjfenaaGreatDoor.Rem

/- Layer 7 (remap): Device, Table, Alive, Read, Move, Flush, over devices as plain data. -/
namespace Go.Proofs.YtgoampbebjfenaaGreatDoor.Rem
open Go Go.RowKit Go.Proofs.YtgoampbebjfenaaGreatDoor Dev Tab
set_option linter.unusedVariables false

theorem refR_ok {s : Nat} (hs : s < 2) : refR (s : Nat) = 0 := by
  rcases (show s = 0 ∨ s = 1 by omega) with rfl | rfl <;> rfl
theorem refR_no {s : Int} (hs : s < 0 ∨ 1 < s) : refR s = 2 := by
  unfold refR sideB
  rw [if_neg]
  simp; omega
section
variable {w0 w : World} {X : List Nat} {q : Nat} {pd : Nat → Nat} {m : Nat → List Int} {D : Nat → Dv} {s : Nat}
theorem device_e (h : PB w q pd m) (hs : s < 2) : Calls Tryz.prog 65 #[.pointer (some ⟨q, 0, none⟩), .int .i64 (s : Nat)] w fun e w' => e = .returned (.pointer (some ⟨pd s, 0, none⟩)) ∧ w = w' := by
  have c0 := h.dev (s := 0) (by omega)
  have c1 := h.dev (s := 1) (by omega)
  clear h
  rcases (show s = 0 ∨ s = 1 by omega) with rfl | rfl
  all_goals
    clear hs
    go_enter Tryz.func65, Tryz.ntmps65
    go_wp2_with fail
    refine (refusal_any q _ _).mono ?_
    rintro e w' ⟨rfl, rfl⟩
    rw [show refR _ = 0 from rfl]
    go_wp2
    go_ret
    exact ⟨rfl, rfl⟩
theorem device_no (q : Nat) (s : Int) (w : World) (hs : s < 0 ∨ 1 < s) : Calls Tryz.prog 65 #[.pointer (some ⟨q, 0, none⟩), .int .i64 s] w fun e w' => e = .returned (.pointer none) ∧ w = w' := by
  have HR := Lib.hid (refR_no hs)
  clear hs
  go_enter Tryz.func65, Tryz.ntmps65
  go_wp2_with fail
  refine (refusal_any q _ _).mono ?_
  rintro e w' ⟨rfl, rfl⟩
  rw [HR.out]
  go_wp2
  go_ret
  exact ⟨rfl, rfl⟩
theorem device_nil (s : Int) (w : World) : Calls Tryz.prog 65 #[.pointer none, .int .i64 s] w fun e w' => e = .returned (.pointer none) ∧ w = w' := by
  go_enter Tryz.func65, Tryz.ntmps65
  go_wp2_with fail
  refine (refusal_nil _ _).mono ?_
  rintro e w' ⟨rfl, rfl⟩
  go_wp2
  go_ret
  exact ⟨rfl, rfl⟩
set_option maxRecDepth 100000 in
theorem table_e (h : PB w q pd m) (hs : s < 2) : Calls Tryz.prog 18 #[.pointer (some ⟨q, 0, none⟩), .int .i64 (s : Nat)] w fun e w' => e = .returned (.agg (ta 14 6 (m s))) ∧ Below w.heap.size w w' := by
  have h2 := h.later (b_new w (.cells (ta 0 0 []) 58))
  have hl := h2.ld hs
  have HT := Lib.hid (TAt.made w 0 0 [])
  have s0 := HT.out.st 14 6 (m s)
  have z0 := (HT.out.put 14 6 (m s)).ld
  have HB := Lib.hid (b_row (b_new w (.cells (ta 0 0 []) 58)) (p := w.heap.size) (Nat.le_refl _) (ta 14 6 (m s)))
  obtain ⟨l, hm⟩ : ∃ l, l = m s := ⟨_, rfl⟩
  rw [World.setRow_alloc_new] at s0 z0 HB
  rw [← hm] at hl s0 z0 HB ⊢
  clear h h2 hm
  rcases (show s = 0 ∨ s = 1 by omega) with rfl | rfl
  all_goals
    clear hs
    go_enter Tryz.func18, Tryz.ntmps18
    go_wp2_with (first | with_reducible refine wl_alloc ?_)
    refine (refusal_any q _ _).mono ?_
    rintro e w' ⟨rfl, rfl⟩
    rw [show refR _ = 0 from rfl]
    go_wp2_with fail
    exact bodyPost_ret (v := .agg (ta 14 6 l)) (by simp [results, Tryz.results18, go_sem, z0]) rfl ⟨rfl, HB.out⟩
set_option maxRecDepth 100000 in
theorem table_nil (s : Int) (w : World) : Calls Tryz.prog 18 #[.pointer none, .int .i64 s] w fun e w' => e = .returned (.agg (ta 0 0 [])) ∧ Below w.heap.size w w' := by
  have HT := Lib.hid (TAt.made w 0 0 [])
  have s0 := HT.out.st 0 0 []
  have z0 := HT.out.ld
  have HB := Lib.hid (b_new w (.cells (ta 0 0 []) 58))
  rw [World.setRow_alloc_new] at s0
  go_enter Tryz.func18, Tryz.ntmps18
  go_wp2_with (first | with_reducible refine wl_alloc ?_)
  refine (refusal_nil _ _).mono ?_
  rintro e w' ⟨rfl, rfl⟩
  go_wp2_with (first | with_reducible refine wl_build0 ?_)
  exact bodyPost_ret (v := .agg (ta 0 0 [])) (by simp [results, Tryz.results18, go_sem, z0]) rfl ⟨rfl, HB.out⟩
theorem alive_e (h : CPe w0 X q pd m D w) (hs : s < 2) : Calls Tryz.prog 44 #[.pointer (some ⟨q, 0, none⟩), .int .i64 (s : Nat)] w fun e w' => e = .returned (.bool (!(D s).dead)) ∧ w = w' := by
  have HC := Lib.hid h
  obtain ⟨u, hu⟩ : ∃ u, u = (D s).dead := ⟨_, rfl⟩
  have HU := Lib.hid hu
  rw [← hu]
  clear h hu
  go_enter Tryz.func44, Tryz.ntmps44
  go_wp2_with fail
  refine (device_e HC.out.pb hs).mono ?_
  rintro e w' ⟨rfl, rfl⟩
  go_wp2_with fail
  obtain ⟨sb, cv, hd, -, -⟩ := HC.out.some_
  refine (dead_any _ (hd s hs)).mono ?_
  rintro e w' ⟨rfl, rfl⟩
  rw [← HU.out]
  clear hd
  go_wp2
  go_ret
  exact ⟨rfl, rfl⟩
theorem alive_no (q : Nat) (s : Int) (w : World) (hs : s < 0 ∨ 1 < s) : Calls Tryz.prog 44 #[.pointer (some ⟨q, 0, none⟩), .int .i64 s] w fun e w' => e = .returned (.bool false) ∧ w = w' := by
  have HS := Lib.hid hs
  clear hs
  go_enter Tryz.func44, Tryz.ntmps44
  go_wp2_with fail
  refine (device_no q s w HS.out).mono ?_
  rintro e w' ⟨rfl, rfl⟩
  go_wp2
  go_ret
  exact ⟨rfl, rfl⟩
theorem alive_nil (s : Int) (w : World) : Calls Tryz.prog 44 #[.pointer none, .int .i64 s] w fun e w' => e = .returned (.bool false) ∧ w = w' := by
  go_enter Tryz.func44, Tryz.ntmps44
  go_wp2_with fail
  refine (device_nil _ _).mono ?_
  rintro e w' ⟨rfl, rfl⟩
  go_wp2
  go_ret
  exact ⟨rfl, rfl⟩
theorem dflush_e (h : CPe w0 X q pd m D w) (hs : s < 2) (hl : (D s).cache.length ≤ 1000000) (p : Nat) (hp : p = pd s) : Calls Tryz.prog 68 #[.pointer (some ⟨p, 0, none⟩)] w fun e w' => e = .returned (.int .i64 (D s).flushE) ∧ CPe w0 X q pd m (upd D s (D s).flushD) w' ∧ Same (q :: X) w w' := by
  subst hp
  refine (h.dev (R := fun e => e = .returned (.int .i64 (D s).flushE)) (G := fun E => E = (D s).flushD) hs fun sb cv hd => (flush_any _ hd (by omega)).mono ?_).mono ?_
  · rintro e w' ⟨rfl, hn⟩
    exact ⟨rfl, _, rfl, hn⟩
  · rintro e w' ⟨rfl, E, rfl, hc, hsm⟩
    exact ⟨rfl, hc, hsm⟩
theorem dread_e (h : CPe w0 X q pd m D w) (hs : s < 2) (hl : (D s).cache.length ≤ 1000000) (i : Int) (p : Nat) (hp : p = pd s) : Calls Tryz.prog 132 #[.pointer (some ⟨p, 0, none⟩), .int .i64 i] w fun e w' => e = .returned (.tuple #[.string ((D s).readT i), .int .i64 ((D s).readE i)]) ∧ CPe w0 X q pd m (upd D s ((D s).readD i)) w' ∧ Same (q :: X) w w' := by
  subst hp
  refine (h.dev (R := fun e => e = .returned (.tuple #[.string ((D s).readT i), .int .i64 ((D s).readE i)])) (G := fun E => E = (D s).readD i) hs fun sb cv hd => (read_any i _ hd (by omega)).mono ?_).mono ?_
  · rintro e w' ⟨rfl, hch, hd'⟩
    exact ⟨rfl, _, rfl, .same hch hd'⟩
  · rintro e w' ⟨rfl, E, rfl, hc, hsm⟩
    exact ⟨rfl, hc, hsm⟩
theorem dwrite_e (h : CPe w0 X q pd m D w) (hs : s < 2) (hl : (D s).cache.length ≤ 1000000) (i : Int) (t : ByteArray) (ht : t.size ≤ 1000000) (p : Nat) (hp : p = pd s) : Calls Tryz.prog 12 #[.pointer (some ⟨p, 0, none⟩), .int .i64 i, .string t] w fun e w' => e = .returned (.int .i64 ((D s).writeE i t)) ∧ CPe w0 X q pd m (upd D s ((D s).writeD i t)) w' ∧ Same (q :: X) w w' := by
  subst hp
  refine (h.dev (R := fun e => e = .returned (.int .i64 ((D s).writeE i t))) (G := fun E => E = (D s).writeD i t) hs fun sb cv hd => (write_any i t _ hd (by omega) (by omega)).mono ?_).mono ?_
  · rintro e w' ⟨rfl, hn⟩
    exact ⟨rfl, _, rfl, hn⟩
  · rintro e w' ⟨rfl, E, rfl, hc, hsm⟩
    exact ⟨rfl, hc, hsm⟩
theorem flush_e (h : CPe w0 X q pd m D w) (hs : s < 2) (hl : (D s).cache.length ≤ 1000000) : Calls Tryz.prog 29 #[.pointer (some ⟨q, 0, none⟩), .int .i64 (s : Nat)] w fun e w' => e = .returned (.int .i64 (D s).flushE) ∧ CPe w0 X q pd m (upd D s (D s).flushD) w' ∧ Same (q :: X) w w' := by
  have HC := Lib.hid h
  have c0 := h.pb.dev (s := 0) (by omega)
  have c1 := h.pb.dev (s := 1) (by omega)
  have HL := Lib.hid hl
  have HS := Lib.hid hs
  obtain ⟨u, hu⟩ : ∃ u, u = (D s).flushE := ⟨_, rfl⟩
  have HU := Lib.hid hu
  rw [← hu]
  clear h hl hu
  rcases (show s = 0 ∨ s = 1 by omega) with rfl | rfl
  all_goals
    clear hs
    go_enter Tryz.func29, Tryz.ntmps29
    go_wp2_with fail
    refine (refusal_any q _ _).mono ?_
    rintro e w' ⟨rfl, rfl⟩
    rw [show refR _ = 0 from rfl]
    go_wp2_with fail
    clear c0 c1
    refine (dflush_e HC.out HS.out HL.out _ rfl).mono ?_
    rintro e w' ⟨rfl, hc, hsm⟩
    rw [← HU.out]
    have HC2 := Lib.hid hc
    have HS2 := Lib.hid hsm
    clear hc hsm
    go_wp2
    go_ret
    exact ⟨rfl, HC2.out, HS2.out⟩
/-- what Read reads: the block's sector -/
def sec (m : Nat → List Int) (s b : Nat) : Int := 4 + plc 14 (m s) b
theorem read_e (h : CPe w0 X q pd m D w) (hs : s < 2) (hg : Tab.Good 14 6 (m s)) (hl : (D s).cache.length ≤ 1000000) {b : Nat} (hb : b < 14) : Calls Tryz.prog 116 #[.pointer (some ⟨q, 0, none⟩), .int .i64 (s : Nat), .int .i64 (b : Nat)] w fun e w' => e = .returned (.tuple #[.string ((D s).readT (sec m s b)), .int .i64 ((D s).readE (sec m s b))]) ∧ CPe w0 X q pd m (upd D s ((D s).readD (sec m s b))) w' ∧ Same (q :: X) w w' := by
  have HC := Lib.hid h
  have HG := Lib.hid hg
  have HL := Lib.hid hl
  have HS := Lib.hid hs
  obtain ⟨p, hp⟩ : ∃ p, p = pd s := ⟨_, rfl⟩
  have HP := Lib.hid hp
  have hat := at_yes (n := 14) (m := m s) (b := (b : Int)) (by omega) (by omega)
  have HA := Lib.hid hat
  obtain ⟨v, hv⟩ : ∃ v, v = sec m s b := ⟨_, rfl⟩
  have HV := Lib.hid hv
  rw [← hv]
  clear h hg hl hat hv hp
  go_enter Tryz.func116, Tryz.ntmps116
  go_wp2_with fail
  refine (sector_e HC.out.pb hs HG.out b).mono ?_
  rintro e w1 ⟨rfl, hb1⟩
  rw [HA.out.2.1, HA.out.2.2, show 4 + plc 14 (m s) (b : Int) = v from HV.out.symm]
  have HC1 := Lib.hid (HC.out.later hb1)
  have HS1 := Lib.hid (same_below HC.out hb1)
  have c1 := HC1.out.pb.dev hs
  rw [← HP.out] at c1
  have hs0 : 0 ≤ (s : Int) := by omega
  have hs2 : (s : Int) < 2 := by omega
  clear hb1 HC
  go_wp2_with fail
  clear c1
  refine (dread_e HC1.out hs HL.out v p HP.out).mono ?_
  rintro e w2 ⟨rfl, hc, hsm⟩
  have HC2 := Lib.hid hc
  have HS2 := Lib.hid (HS1.out.trans hsm)
  clear hc hsm
  obtain ⟨t, ht⟩ : ∃ t, t = (D s).readT v := ⟨_, rfl⟩
  obtain ⟨e, he⟩ : ∃ e, e = (D s).readE v := ⟨_, rfl⟩
  rw [← ht, ← he]
  go_wp2
  go_ret2
  exact ⟨rfl, HC2.out, HS2.out⟩
theorem read_no (h : CPe w0 X q pd m D w) (s b : Int) (E : Int) (hE : E ≠ 0) (hsec : Calls Tryz.prog 93 #[.pointer (some ⟨q, 0, none⟩), .int .i64 s, .int .i64 b] w fun e w' => (∃ x, e = .returned (.tuple #[.int .i64 x, .int .i64 E])) ∧ Below w.heap.size w w') : Calls Tryz.prog 116 #[.pointer (some ⟨q, 0, none⟩), .int .i64 s, .int .i64 b] w fun e w' => e = .returned (.tuple #[.string ⟨#[]⟩, .int .i64 E]) ∧ Below w.heap.size w w' := by
  have HX := Lib.hid hsec
  clear h hsec
  go_enter Tryz.func116, Tryz.ntmps116
  go_wp2_with fail
  refine HX.out.mono ?_
  rintro e w1 ⟨⟨x, rfl⟩, hb1⟩
  go_wp2
  go_ret2
  exact ⟨rfl, hb1⟩
theorem write_no (h : CPe w0 X q pd m D w) (s b : Int) (t : ByteArray) (E : Int) (hE : E ≠ 0) (hsec : Calls Tryz.prog 93 #[.pointer (some ⟨q, 0, none⟩), .int .i64 s, .int .i64 b] w fun e w' => (∃ x, e = .returned (.tuple #[.int .i64 x, .int .i64 E])) ∧ Below w.heap.size w w') : Calls Tryz.prog 67 #[.pointer (some ⟨q, 0, none⟩), .int .i64 s, .int .i64 b, .string t] w fun e w' => e = .returned (.int .i64 E) ∧ Below w.heap.size w w' := by
  have HX := Lib.hid hsec
  clear h hsec
  go_enter Tryz.func67, Tryz.ntmps67
  go_wp2_with fail
  go_loopw [11] (fun _ wr => wr = w) (fun _ _ => 0)
  case atStart => rfl
  case round =>
    subst hrel
    go_wp2_with fail
    refine HX.out.mono ?_
    rintro e w1 ⟨⟨x, rfl⟩, hb1⟩
    go_wp2
    go_ret
    exact ⟨rfl, hb1⟩
theorem flush_nil (s : Int) (w : World) : Calls Tryz.prog 29 #[.pointer none, .int .i64 s] w fun e w' => e = .returned (.int .i64 1) ∧ w = w' := by
  go_enter Tryz.func29, Tryz.ntmps29
  go_wp2_with fail
  refine (refusal_nil _ _).mono ?_
  rintro e w' ⟨rfl, rfl⟩
  go_wp2
  go_ret
  exact ⟨rfl, rfl⟩
theorem move_nil (s b : Int) (w : World) : Calls Tryz.prog 94 #[.pointer none, .int .i64 s, .int .i64 b] w fun e w' => e = .returned (.int .i64 1) ∧ w = w' := by
  go_enter Tryz.func94, Tryz.ntmps94
  go_wp2_with fail
  refine (refusal_nil _ _).mono ?_
  rintro e w' ⟨rfl, rfl⟩
  go_wp2
  go_ret
  exact ⟨rfl, rfl⟩
theorem read_nil (s b : Int) (w : World) : Calls Tryz.prog 116 #[.pointer none, .int .i64 s, .int .i64 b] w fun e w' => e = .returned (.tuple #[.string ⟨#[]⟩, .int .i64 1]) ∧ Below w.heap.size w w' := by
  go_enter Tryz.func116, Tryz.ntmps116
  go_wp2_with fail
  refine (sector_nil s b _).mono ?_
  rintro e w' ⟨rfl, hb⟩
  go_wp2
  go_ret2
  exact ⟨rfl, hb⟩
theorem write_nil (s b : Int) (t : ByteArray) (w : World) : Calls Tryz.prog 67 #[.pointer none, .int .i64 s, .int .i64 b, .string t] w fun e w' => e = .returned (.int .i64 1) ∧ Below w.heap.size w w' := by
  go_enter Tryz.func67, Tryz.ntmps67
  go_wp2_with fail
  go_loopw [11] (fun _ wr => wr = w) (fun _ _ => 0)
  case atStart => rfl
  case round =>
    subst hrel
    go_wp2_with fail
    refine (sector_nil s b _).mono ?_
    rintro e w' ⟨rfl, hb⟩
    go_wp2
    go_ret
    exact ⟨rfl, hb⟩
end
end Go.Proofs.YtgoampbebjfenaaGreatDoor.Rem

/- Layer 7 (remap): Move, Replace. -/
namespace Go.Proofs.YtgoampbebjfenaaGreatDoor.Rem
open Go Go.RowKit Go.Proofs.YtgoampbebjfenaaGreatDoor Dev Tab
set_option linter.unusedVariables false

section
variable {w0 w : World} {X : List Nat} {q : Nat} {pd : Nat → Nat} {m : Nat → List Int} {D : Nat → Dv} {s : Nat}
set_option maxHeartbeats 1000000 in
set_option maxRecDepth 100000 in
theorem move_full (h : PB w q pd m) (hs : s < 2) (hg : Tab.Good 14 6 (m s)) {b : Nat} (hb : b < 14) (hm : ¬ (m s).length < 6) : Calls Tryz.prog 94 #[.pointer (some ⟨q, 0, none⟩), .int .i64 (s : Nat), .int .i64 (b : Nat)] w fun e w' => e = .returned (.int .i64 9) ∧ Below w.heap.size w w' := by
  have hld := h.ld hs
  have HG := Lib.hid hg
  have hE := mv_full (n := 14) (k := 6) (m := m s) (b := (b : Int)) (by omega) (by omega) (by omega)
  obtain ⟨b1, b2, b3⟩ := mv_bad (n := 14) (k := 6) (m := m s) (b := (b : Int)) (by rw [hE]; decide)
  have HV := Lib.hid (And.intro hE (And.intro b1 (And.intro b2 b3)))
  clear h hg hE b1 b2 b3 hm hb
  rcases (show s = 0 ∨ s = 1 by omega) with rfl | rfl
  all_goals
    clear hs
    go_enter Tryz.func94, Tryz.ntmps94
    go_wp2_with fail
    refine (refusal_any q _ _).mono ?_
    rintro e w' ⟨rfl, rfl⟩
    rw [show refR _ = 0 from rfl]
    go_wp2_with fail
    clear hld
    refine (Tab.move_any 14 6 b _ _ HG.out).mono ?_
    rintro e w1 ⟨rfl, hb⟩
    rw [HV.out.1, HV.out.2.1, HV.out.2.2.1, HV.out.2.2.2]
    have HB := Lib.hid (b_nw hb (.cells (ta 0 0 []) 58))
    clear hb
    go_wp2_with (first | with_reducible refine wl_alloc ?_)
    go_ret
    exact ⟨rfl, HB.out⟩
set_option maxHeartbeats 1000000 in
set_option maxRecDepth 100000 in
theorem move_e (h : CPe w0 X q pd m D w) (hs : s < 2) (hg : Tab.Good 14 6 (m s)) (hz : Sz D) {b : Nat} (hb : b < 14) (hm : (m s).length < 6) {l : List Int} (hl : l = m s ++ [(b : Int)]) : Calls Tryz.prog 94 #[.pointer (some ⟨q, 0, none⟩), .int .i64 (s : Nat), .int .i64 (b : Nat)] w fun e w' => e = .returned (.int .i64 (kpE D s l)) ∧ (∃ m', (kpE D s l = 0 → m' = upd m s l) ∧ (kpE D s l ≠ 0 → m' = m) ∧ CPe w0 X q pd m' (kpD D s l) w') ∧ Same X w w' := by
  have HC := Lib.hid h
  have hld := h.pb.ld hs
  have HG := Lib.hid hg
  have HZ := Lib.hid hz
  have HS := Lib.hid hs
  have hE := mv_yes (n := 14) (k := 6) (m := m s) (b := (b : Int)) (by omega) (by omega) (by omega)
  have HG2 := Lib.hid (show Tab.Good 14 6 l by rw [hl]; exact (hg.push hE).1)
  obtain ⟨b1, b2, b3⟩ := mv_ok hE
  have HV := Lib.hid (show mvE 14 6 (m s) b = 0 ∧ mvN 14 6 (m s) b = 14 ∧ mvK 14 6 (m s) b = 6 ∧ mvM 14 6 (m s) b = l from ⟨hE, b1, b2, b3.trans hl.symm⟩)
  obtain ⟨E, hEE⟩ : ∃ E, E = kpE D s l := ⟨_, rfl⟩
  have HE := Lib.hid hEE
  rw [← hEE]
  clear h hg hz hE b1 b2 b3 hl hEE hm hb
  rcases (show s = 0 ∨ s = 1 by omega) with rfl | rfl
  all_goals
    clear hs
    go_enter Tryz.func94, Tryz.ntmps94
    go_wp2_with fail
    refine (refusal_any q _ _).mono ?_
    rintro e w' ⟨rfl, rfl⟩
    rw [show refR _ = 0 from rfl]
    go_wp2_with fail
    clear hld
    refine (Tab.move_any 14 6 b _ _ HG.out).mono ?_
    rintro e w1 ⟨rfl, hb⟩
    rw [HV.out.1, HV.out.2.1, HV.out.2.2.1, HV.out.2.2.2]
    obtain ⟨g, hg⟩ : ∃ g, g = w1.heap.size := ⟨_, rfl⟩
    have HC1 := Lib.hid (HC.out.later hb)
    have HC2 := Lib.hid (show CPe w0 (g :: X) q pd m D (w1.alloc (.cells (ta 14 6 l) 58)) from by rw [hg]; exact HC1.out.new _)
    have HT2 := Lib.hid (show TAt (w1.alloc (.cells (ta 14 6 l) 58)) g 14 6 l from by rw [hg]; exact TAt.made _ _ _ _)
    have HS2 := Lib.hid (show Same X w (w1.alloc (.cells (ta 14 6 l) 58)) from fun k hk => (Below.heap_alloc _ _ _ (HC1.out.x k hk).2).trans (hb.block k (HC.out.x k hk).2))
    have hl2 := (TAt.made w1 14 6 l).ld
    clear hb HC HC1
    go_wp2_with (first | with_reducible refine wl_alloc ?_)
    rw [← hg]
    clear hg hl2
    refine (keep_e HC2.out HS.out HG2.out (by have := (HZ.out _ HS.out).2.1; omega) (fun t ht => by have := (HZ.out t ht).2.2; omega)).mono ?_
    rintro e w3 ⟨rfl, hc, hsm⟩
    rw [← HE.out]
    have HC3 := Lib.hid (hc.sub (Y := X) fun k hk => List.mem_cons_of_mem _ hk)
    have HT3 := Lib.hid (show TAt w3 g 14 6 l from HT2.out.same (hsm g (by simp)))
    have HS3 := Lib.hid (HS2.out.trans (fun k hk => hsm k (by simp [hk]) : Same X _ w3))
    clear hc hsm HC2 HT2 HS2
    by_cases h0 : E = 0
    · subst h0
      have HCd := Lib.hid (HC3.out.later (Below.refl _ _).drew)
      have hl3 := (HT3.out.on (Below.refl _ _).drew).ld
      first
      | (have hst := HCd.out.pb.st0 l
         have hput := HCd.out.put (upd m 0 l)
         have HP := Lib.hid hput
         clear hput
         go_wp2_with fail
         refine Reg.still_tail 6 (by kernel_rfl) (by kernel_rfl) ?_
         simp only [List.take_succ_cons, List.take_zero, List.drop_succ_cons, List.drop_zero]
         repeat still_step
         try refine wpStill_nil ?_
         go_wp2_with fail
         go_ret
         exact ⟨rfl, HP.out.1, HS3.out.trans ((show Same X w3 w3.drew from fun _ _ => rfl).trans HP.out.2)⟩)
      | (have hst := HCd.out.pb.st1 l
         have hput := HCd.out.put (upd m 1 l)
         have HP := Lib.hid hput
         clear hput
         go_wp2_with fail
         refine Reg.still_tail 6 (by kernel_rfl) (by kernel_rfl) ?_
         simp only [List.take_succ_cons, List.take_zero, List.drop_succ_cons, List.drop_zero]
         repeat still_step
         try refine wpStill_nil ?_
         go_wp2_with fail
         go_ret
         exact ⟨rfl, HP.out.1, HS3.out.trans ((show Same X w3 w3.drew from fun _ _ => rfl).trans HP.out.2)⟩)
    · go_wp2_with fail
      go_ret
      exact ⟨rfl, ⟨m, fun h => absurd h h0, fun _ => rfl, HC3.out⟩, HS3.out⟩
end
end Go.Proofs.YtgoampbebjfenaaGreatDoor.Rem

/- Layer 7 (remap): Replace. -/
namespace Go.Proofs.YtgoampbebjfenaaGreatDoor.Rem
open Go Go.RowKit Go.Proofs.YtgoampbebjfenaaGreatDoor Dev Tab
set_option linter.unusedVariables false

/-- where the first of two that are equal is -/
def ixV (x y : Bool) : Int := if x = true then 0 else if y = true then 1 else -1
section
variable {w0 w wa : World} {X : List Nat} {q : Nat} {pd : Nat → Nat} {m : Nat → List Int} {D : Nat → Dv} {s : Nat}
end
end Go.Proofs.YtgoampbebjfenaaGreatDoor.Rem

/- Layer 7 (remap): Replace, where it is done. -/
namespace Go.Proofs.YtgoampbebjfenaaGreatDoor.Rem
open Go Go.RowKit Go.Proofs.YtgoampbebjfenaaGreatDoor Dev Tab
set_option linter.unusedVariables false

def ldP (a : Addr) : Sem (Array Value) := loadCells a 72
@[simp ↓ high, go_sem ↓ high] theorem load_from72 (a : Addr) : loadCellsFrom a 0 72 #[] = ldP a := rfl
@[simp] theorem prow_size (pd : Nat → Nat) (m : Nat → List Int) : (prow pd m).size = 72 := by simp [prow, tl_length]
@[simp] theorem prow_ne (pd : Nat → Nat) (m : Nat → List Int) : prow pd m ≠ #[] := by intro h; have := congrArg Array.size h; simp at this
/-- the zero pair's cells -/
def p0 : Array Value := ([Value.pointer none, Value.pointer none] ++ tl 0 0 [] ++ tl 0 0 []).toArray
@[simp] theorem p0_size : p0.size = 72 := by simp [p0, tl_length]
theorem prow_one (pd : Nat → Nat) (m : Nat → List Int) : ∀ v ∈ (prow pd m).toList, v.oneCell' = true := by
  intro v hv
  have hone : ∀ l : List Int, ∀ v ∈ tl 14 6 l, v.oneCell' = true := fun l v hv => by
    have := ta_one 14 6 l
    rw [Array.all_eq_true] at this
    obtain ⟨i, hi, rfl⟩ := List.mem_iff_getElem.1 hv
    have := this i (by simpa [ta] using hi)
    simpa [ta] using this
  have hv' : v ∈ [Value.pointer (some ⟨pd 0, 0, none⟩), Value.pointer (some ⟨pd 1, 0, none⟩)] ++ tl 14 6 (m 0) ++ tl 14 6 (m 1) := hv
  rw [List.mem_append, List.mem_append] at hv'
  rcases hv' with (h | h) | h
  · simp at h
    rcases h with rfl | rfl <;> rfl
  · exact hone _ v h
  · exact hone _ v h
theorem zc80 : p0 = Tryz.zeroCells133 := by kernel_rfl
theorem wl_alloc80 {ops : Array Oper} {rest : List Oper} {dst : Option Tmp} {ty : TypeId} {pos : String} {after : Array Edge} {a : Act} {w : World} {Q : Exit → Act → World → Prop}
    (h : wpList Tryz.prog ops Q rest (a.put dst (.pointer (some ⟨w.heap.size, 0, none⟩))) (w.alloc (.cells p0 133))) : wpList Tryz.prog ops Q (⟨dst, .alloc 133, ty, pos, after, none⟩ :: rest) a w := by
  refine wpList_plain rfl fun K' hK' => ?_
  unfold Oper.wp
  simp [execOp, Instr.alloc, Result.andThen]
  rw [zc80] at h
  exact hK' _ _ h
theorem prow_set (pd : Nat → Nat) (m : Nat → List Int) {s : Nat} (hs : s < 2) (d : Nat) : (prow pd m).setIfInBounds s (.pointer (some ⟨d, 0, none⟩)) = prow (upd pd s d) m := by
  rcases (show s = 0 ∨ s = 1 by omega) with rfl | rfl
  · unfold prow; rw [upd_same, upd_ne _ _ (by omega)]; simp
  · unfold prow; rw [upd_same, upd_ne _ _ (by omega)]; simp
section
variable {w0 w wa : World} {X : List Nat} {q : Nat} {pd : Nat → Nat} {m : Nat → List Int} {D : Nat → Dv} {s : Nat}
theorem PB.ldp (h : PB w q pd m) : (ldP ⟨q, 0, none⟩).run Tryz.prog w = .ok (prow pd m) w := by
  have := run_loadCells_list (P := Tryz.prog) w ⟨q, 0, none⟩ (prow pd m).toList (fun j v hv => by
    have hadd : (⟨q, 0, none⟩ : Addr).add j = ⟨q, j, none⟩ := by unfold Addr.add; split <;> simp_all
    rw [hadd]; exact (Has.cell h j).trans hv)
  rw [show (prow pd m).toList.length = 72 by simp] at this
  exact this
theorem row_st (w : World) (q : Nat) (cs : Array Value) (hc : w.heap[q]? = some (.cells cs 133 (0, 0))) (hz : cs.size = 72) (pd : Nat → Nat) (m : Nat → List Int) : (storeCells ⟨q, 0, none⟩ (prow pd m).toList 0).run Tryz.prog w = .ok () (w.setRow q (prow pd m)) := by
  have := run_storeCells_at (P := Tryz.prog) q 0 133 (prow pd m).toList 0 cs w hc (by simp [hz]) (prow_one pd m)
  rw [this]
  congr 2
  have h1 : (prow pd m).toList.length = 72 := by simp
  rw [h1]
  simp [List.drop_of_length_le (show cs.toList.length ≤ 72 by simp [hz])]
theorem Dvs.chg (h : Dvs w0 X pd D w) {w' : World} (hc : Chg (fun k => k ∈ X) w w') : Dvs w0 X pd D w' := by
  obtain ⟨⟨sb, cv, hd, hf, hff⟩, hx, hb⟩ := h
  exact ⟨⟨sb, cv, fun s h2 => (hd s h2).chg hc fun k hk => (hf s h2 k hk).2, hf, hff⟩, fun k hk => ⟨(hx k hk).1, Nat.lt_of_lt_of_le (hx k hk).2 hc.size⟩, hb.trans (hc.below hb.size fun k hk => (hx k hk).1)⟩
theorem Dvs.own {X' : List Nat} (h : Dvs w0 X' pd D w) (hq : q ∈ X') (hqX : q ∉ X) (hs : ∀ k ∈ X, k ∈ X') (hp : PB w q pd m) : CPe w0 X q pd m D w := by
  obtain ⟨⟨sb, cv, hd, hf, hff⟩, hx, hb⟩ := h
  exact ⟨⟨sb, cv, hd, fun s hs2 k hk => ⟨(hf s hs2 k hk).1, fun e => (hf s hs2 k hk).2 (hs k e), fun e => (hf s hs2 k hk).2 (e ▸ hq)⟩, hff⟩, hp, ⟨(hx q hq).1, hqX⟩, fun k hk => hx k (hs k hk), hb⟩
/-- another device stands there -/
theorem CPe.other (h : CPe w0 X q pd m D wa) (hs : s < 2) (hb : Below wa.heap.size wa w) {d sd : Nat} {cd : Value} {Dd : Dv} (hd : DevAt w d sd cd Dd) (hf : ∀ k, foot d sd cd k → wa.heap.size ≤ k) : Dvs w0 (q :: X) (upd pd s d) (upd D s Dd) w := by
  have hl := h.lt
  obtain ⟨⟨sb, cv, hdv, hfv, hff⟩, hp, hq, hx, hb0⟩ := h
  have hxs : ∀ k ∈ q :: X, w0.heap.size ≤ k ∧ k < wa.heap.size := fun k hk => by
    rcases List.mem_cons.1 hk with rfl | hk
    · exact ⟨hq.1, hl⟩
    · exact hx k hk
  refine ⟨⟨upd sb s sd, upd cv s cd, fun t ht => ?_, fun t ht k hk => ?_, fun k hk hk2 => ?_⟩, fun k hk => ⟨(hxs k hk).1, Nat.lt_of_lt_of_le (hxs k hk).2 hb.size⟩, hb0.trans (hb.mono hb0.size)⟩
  · by_cases e : t = s
    · subst e; simp only [upd_same]; exact hd
    · simp only [upd_ne _ _ e]; exact (hdv t ht).below hb (Nat.le_refl _)
  · by_cases e : t = s
    · subst e; simp only [upd_same] at hk
      exact ⟨Nat.le_trans hb0.size (hf k hk), fun hm => by have := hf k hk; have := (hxs k hm).2; omega⟩
    · simp only [upd_ne _ _ e] at hk
      refine ⟨(hfv t ht k hk).1, fun hm => ?_⟩
      rcases List.mem_cons.1 hm with rfl | hm
      · exact (hfv t ht _ hk).2.2 rfl
      · exact (hfv t ht k hk).2.1 hm
  · rcases (show s = 0 ∨ s = 1 by omega) with rfl | rfl
    · rw [upd_same, upd_same, upd_same] at hk
      rw [upd_ne _ _ (by omega), upd_ne _ _ (by omega), upd_ne _ _ (by omega)] at hk2
      have := hf k hk; have := (hdv 1 (by omega)).lt k hk2; omega
    · rw [upd_same, upd_same, upd_same] at hk2
      rw [upd_ne _ _ (by omega), upd_ne _ _ (by omega), upd_ne _ _ (by omega)] at hk
      have := hf k hk2; have := (hdv 0 (by omega)).lt k hk; omega
theorem PB.dvset (h : PB w q pd m) (hs : s < 2) (d : Nat) : PB (w.setCell ⟨q, s, none⟩ (.pointer (some ⟨d, 0, none⟩))) q (upd pd s d) m := by
  have := Has.set h s (.pointer (some ⟨d, 0, none⟩))
  rcases (show s = 0 ∨ s = 1 by omega) with rfl | rfl
  · unfold PB; rw [upd_same, upd_ne _ _ (by omega)]; exact this
  · unfold PB; rw [upd_same, upd_ne _ _ (by omega)]; exact this
end
end Go.Proofs.YtgoampbebjfenaaGreatDoor.Rem

