/- Layer 17 (node): the law's of. -/
import Derived.Test.YtfclecbhfamomaaNoC
import Derived.Test.YtfclecbhfamomaaBufI
import Derived.Test.YtfclecbhfamomaaRefRecP
import Derived.Test.YtfclecbhfamomaaRegion
import Derived.Test.YtfclecbhfamomaaRegionW
import Derived.Test.YtfclecbhfamomaaRegionV
namespace Go.Proofs.Ytfclecbhfamomaa.Node
open Go Go.RowKit Go.Proofs.Ytfclecbhfamomaa Go.Proofs.Ytfclecbhfamomaa.Lend Go.Proofs.Ytfclecbhfamomaa.Rec Go.Proofs.Ytfclecbhfamomaa.Msg Go.Proofs.Ytfclecbhfamomaa.Buf
set_option linter.unusedVariables false
set_option linter.unusedSimpArgs false

/-- what of makes -/
def ct (k : Nat) (c : Ch) : Ch := { c with low := c.low.take k }
def ofC (cs : List Ch) : List Ch := (cs.take 20).map (ct 20)
def upD (u : Up) : Up := ⟨1 + u.kind % 2, u.key.take 20, [], 0⟩
def fwU (l : List Up) : List Up := l.foldl withU []
def ofM (ms : List Up) : List Up := fwU ((ms.take 10).map upD)
theorem fwU_snoc (l : List Up) (u : Up) : fwU (l ++ [u]) = withU (fwU l) u := by unfold fwU; rw [List.foldl_append]; rfl
theorem fwU_all : ∀ (l acc : List Up), Srt acc → (∀ x ∈ acc, Tm x) → (∀ u ∈ l, Tm u) → Srt (l.foldl withU acc) ∧ (∀ x ∈ l.foldl withU acc, Tm x) ∧ (l.foldl withU acc).length ≤ acc.length + l.length
  | [], acc, h1, h2, _ => ⟨h1, h2, by simp⟩
  | u :: l, acc, h1, h2, h3 => by
    obtain ⟨i1, i2, i3⟩ := fwU_all l (withU acc u) (with_srt h1 u) (with_tm h2 (h3 u (by simp))) (fun x hx => h3 x (by simp [hx]))
    refine ⟨i1, i2, ?_⟩
    have := with_len acc u
    rw [List.foldl_cons, List.length_cons]
    omega
theorem fwU_ok {l : List Up} (h : ∀ u ∈ l, Tm u) : Srt (fwU l) ∧ (∀ x ∈ fwU l, Tm x) ∧ (fwU l).length ≤ l.length := by
  obtain ⟨h1, h2, h3⟩ := fwU_all l [] List.Pairwise.nil (fun x hx => by cases hx) h
  exact ⟨h1, h2, by show (l.foldl withU []).length ≤ _; simpa using h3⟩
theorem upD_tm {u : Up} (h : 0 ≤ u.kind) : Tm (upD u) := ⟨by show 1 ≤ 1 + u.kind % 2; omega, by show 1 + u.kind % 2 ≤ 3; omega, Int.le_refl _, by show (0 : Int) < _; decide, fun _ => rfl, Nat.zero_le _⟩
theorem takeS (l : List UInt8) (m : Nat) : (Lend.strOf l).extract 0 (min (Lend.strOf l).size m) = Lend.strOf (l.take m) := by
  apply Lend.strOf_ext
  rw [Lib.extract_data, Lend.strOf_data, List.drop_zero, Nat.sub_zero, ssize]
  rw [List.take_eq_take_iff]; omega
/-- rows of unlike elements -/
theorem own_ne {w : World} {B B' : Nat} {T T' : TypeId} {s s' : Nat} {v v' : Value} {n n' : Nat} {xs xs' : List Value} (hT : T ≠ T') (h : w.ownsRow B T s v n xs) (h' : w.ownsRow B' T' s' v' n' xs') : ∀ k, v.ownBlock = some k → v'.ownBlock ≠ some k := by
  intro k hk hk'
  rcases h.2 with ⟨rfl, _⟩ | ⟨g, cap, cur, rfl, hb, hg, _⟩
  · cases hk
  · rcases h'.2 with ⟨rfl, _⟩ | ⟨g', cap', cur', rfl, hb', hg', _⟩
    · cases hk'
    · have e1 : g = k := by simpa [Value.ownBlock] using hk
      have e2 : g' = k := by simpa [Value.ownBlock] using hk'
      rw [e1] at hg
      rw [e2, hg] at hg'
      simp only [Option.some.injEq, Obj.cells.injEq] at hg'
      exact hT hg'.2.1
theorem row_grown {w w2 : World} {B B' : Nat} {T T' : TypeId} {s s' : Nat} {v v' : Value} {n n' : Nat} {xs xs' : List Value} (hT : T ≠ T') (h : w.ownsRow B T s v n xs) (h' : w.ownsRow B' T' s' v' n' xs') (hg : w.grownBy w2 v.ownBlock) : w2.ownsRow B' T' s' v' n' xs' := by
  refine h'.kept hg ?_
  cases hv : v'.ownBlock with
  | none => exact .inl rfl
  | some k => exact .inr fun e => own_ne hT h h' k e.symm hv
theorem row_st1 {w : World} {p i B s n : Nat} {T : TypeId} {v : Value} {xs : List Value} (h : w.ownsRow B T s v n xs) (hp : p < B) (x : Value) : (w.setCell ⟨p, i, none⟩ x).ownsRow B T s v n xs :=
  owns_same h fun q e => Below.heap_setCell _ _ _ _ (fun e' => by have := (h.lt q e).1; simp at e'; omega)
theorem tn1 : (76 : TypeId) ≠ 50 := by decide
theorem tn2 : (76 : TypeId) ≠ 70 := by decide
theorem tn3 : (76 : TypeId) ≠ 78 := by decide
theorem tn4 : (50 : TypeId) ≠ 70 := by decide
theorem tn5 : (50 : TypeId) ≠ 78 := by decide
theorem tn6 : (78 : TypeId) ≠ 70 := by decide
/-- of's four blocks, and the rows so far -/
structure O4 (w0 : World) (kv bv kv' bv' : Value) (C D : List Ch) (L M : List Up) (w : World) : Prop where
  r : Has w w0.heap.size 31 [.slice none 0 0, .slice none 0 0]
  z : Has w (w0.heap.size + 1) 35 [.slice none 0 0, .slice none 0 0]
  n : Has w (w0.heap.size + 2) 31 [kv, bv]
  x : Has w (w0.heap.size + 3) 35 [kv', bv']
  ck : CO 76 w (w0.heap.size + 4) kv C
  dk : CO 50 w (w0.heap.size + 4) kv' D
  cb : RA w (w0.heap.size + 4) bv L
  db : RU w (w0.heap.size + 4) bv' M
  bel : Below w0.heap.size w0 w
section
variable {w0 w w' : World} {kv bv kv' bv' v : Value} {C D E : List Ch} {L M N : List Up}
theorem O4.new (w : World) : O4 w (.slice none 0 0) (.slice none 0 0) (.slice none 0 0) (.slice none 0 0) [] [] [] [] ((((w.alloc (.cells #[.slice none 0 0, .slice none 0 0] 31)).alloc (.cells #[.slice none 0 0, .slice none 0 0] 35)).alloc (.cells #[.slice none 0 0, .slice none 0 0] 31)).alloc (.cells #[.slice none 0 0, .slice none 0 0] 35)) := by
  have h1 := Has.new w [.slice none 0 0, .slice none 0 0] 31
  have h2 := Has.new (w.alloc (.cells [.slice none 0 0, .slice none 0 0].toArray 31)) [.slice none 0 0, .slice none 0 0] 35
  have h3 := Has.new ((w.alloc (.cells [.slice none 0 0, .slice none 0 0].toArray 31)).alloc (.cells [.slice none 0 0, .slice none 0 0].toArray 35)) [.slice none 0 0, .slice none 0 0] 31
  have h4 := Has.new (((w.alloc (.cells [.slice none 0 0, .slice none 0 0].toArray 31)).alloc (.cells [.slice none 0 0, .slice none 0 0].toArray 35)).alloc (.cells [.slice none 0 0, .slice none 0 0].toArray 31)) [.slice none 0 0, .slice none 0 0] 35
  simp only [World.size_alloc] at h2 h3 h4
  exact ⟨((h1.alloc _).alloc _).alloc _, (h2.alloc _).alloc _, h3.alloc _, h4, World.ownsRow_nil _ _ _ _, World.ownsRow_nil _ _ _ _, World.ownsRow_nil _ _ _ _, World.ownsRow_nil _ _ _ _, below_nw (below_nw (below_nw (below_new w _) _) _) _⟩
theorem O4.on (h : O4 w0 kv bv kv' bv' C D L M w) (hb : Below w.heap.size w w') : O4 w0 kv bv kv' bv' C D L M w' :=
  ⟨h.r.below hb h.r.lt, h.z.below hb h.z.lt, h.n.below hb h.n.lt, h.x.below hb h.x.lt, own_bel h.ck hb, own_bel h.dk hb, own_bel h.cb hb, own_bel h.db hb, below_on h.bel hb⟩
theorem hk_grown {w w' : World} {B b : Nat} {T : TypeId} {cs : List Value} {u : Value} (h : Has w b T cs) (hg : w.grownBy w' u.ownBlock) (hu : ∀ k, u.ownBlock = some k → B ≤ k) (hb : b < B) : Has w' b T cs :=
  h.same (hg.block b h.lt (fun e => by have := hu b e.symm; omega))
/-- one more child of the program's -/
theorem O4.setK (h : O4 w0 kv bv kv' bv' C D L M w) (hr : CO 76 w' (w0.heap.size + 4) v E) (hg : w.grownBy w' kv.ownBlock) : O4 w0 v bv kv' bv' E D L M (w'.setCell ⟨w0.heap.size + 2, 0, none⟩ v) := by
  have hu : ∀ k, kv.ownBlock = some k → w0.heap.size + 4 ≤ k := fun k e => (h.ck.lt k e).1
  exact ⟨(hk_grown h.r hg hu (by omega)).setOther (by show w0.heap.size + 2 ≠ w0.heap.size; omega) _, (hk_grown h.z hg hu (by omega)).setOther (by show w0.heap.size + 2 ≠ w0.heap.size + 1; omega) _, (hk_grown h.n hg hu (by omega)).set 0 v, (hk_grown h.x hg hu (by omega)).setOther (by show w0.heap.size + 2 ≠ w0.heap.size + 3; omega) _,
    row_st1 hr (by omega) _, row_st1 (row_grown tn1 h.ck h.dk hg) (by omega) _, row_st1 (row_grown tn2 h.ck h.cb hg) (by omega) _, row_st1 (row_grown tn3 h.ck h.db hg) (by omega) _, (h.bel.grown hg h.bel.size (fun k e => by have := hu k e; omega)).setCell (by show w0.heap.size ≤ w0.heap.size + 2; omega) _⟩
/-- one more child of the document's -/
theorem O4.setD (h : O4 w0 kv bv kv' bv' C D L M w) (hr : CO 50 w' (w0.heap.size + 4) v E) (hg : w.grownBy w' kv'.ownBlock) : O4 w0 kv bv v bv' C E L M (w'.setCell ⟨w0.heap.size + 3, 0, none⟩ v) := by
  have hu : ∀ k, kv'.ownBlock = some k → w0.heap.size + 4 ≤ k := fun k e => (h.dk.lt k e).1
  exact ⟨(hk_grown h.r hg hu (by omega)).setOther (by show w0.heap.size + 3 ≠ w0.heap.size; omega) _, (hk_grown h.z hg hu (by omega)).setOther (by show w0.heap.size + 3 ≠ w0.heap.size + 1; omega) _, (hk_grown h.n hg hu (by omega)).setOther (by show w0.heap.size + 3 ≠ w0.heap.size + 2; omega) _, (hk_grown h.x hg hu (by omega)).set 0 v,
    row_st1 (row_grown tn1.symm h.dk h.ck hg) (by omega) _, row_st1 hr (by omega) _, row_st1 (row_grown tn4 h.dk h.cb hg) (by omega) _, row_st1 (row_grown tn5 h.dk h.db hg) (by omega) _, (h.bel.grown hg h.bel.size (fun k e => by have := hu k e; omega)).setCell (by show w0.heap.size ≤ w0.heap.size + 3; omega) _⟩
/-- one more message of the document's -/
theorem O4.setM (h : O4 w0 kv bv kv' bv' C D L M w) (hr : RU w' (w0.heap.size + 4) v N) (hg : w.grownBy w' bv'.ownBlock) : O4 w0 kv bv kv' v C D L N (w'.setCell ⟨w0.heap.size + 3, 1, none⟩ v) := by
  have hu : ∀ k, bv'.ownBlock = some k → w0.heap.size + 4 ≤ k := fun k e => (h.db.lt k e).1
  exact ⟨(hk_grown h.r hg hu (by omega)).setOther (by show w0.heap.size + 3 ≠ w0.heap.size; omega) _, (hk_grown h.z hg hu (by omega)).setOther (by show w0.heap.size + 3 ≠ w0.heap.size + 1; omega) _, (hk_grown h.n hg hu (by omega)).setOther (by show w0.heap.size + 3 ≠ w0.heap.size + 2; omega) _, (hk_grown h.x hg hu (by omega)).set 1 v,
    row_st1 (row_grown tn3.symm h.db h.ck hg) (by omega) _, row_st1 (row_grown tn5.symm h.db h.dk hg) (by omega) _, row_st1 (row_grown tn6 h.db h.cb hg) (by omega) _, row_st1 hr (by omega) _, (h.bel.grown hg h.bel.size (fun k e => by have := hu k e; omega)).setCell (by show w0.heap.size ≤ w0.heap.size + 3; omega) _⟩
/-- another buffer of the program's -/
theorem O4.setB (h : O4 w0 kv bv kv' bv' C D L M w) (hr : RA w (w0.heap.size + 4) v N) : O4 w0 kv v kv' bv' C D N M (w.setCell ⟨w0.heap.size + 2, 1, none⟩ v) :=
  ⟨h.r.setOther (by show w0.heap.size + 2 ≠ w0.heap.size; omega) _, h.z.setOther (by show w0.heap.size + 2 ≠ w0.heap.size + 1; omega) _, h.n.set 1 v, h.x.setOther (by show w0.heap.size + 2 ≠ w0.heap.size + 3; omega) _,
    row_st1 h.ck (by omega) _, row_st1 h.dk (by omega) _, row_st1 hr (by omega) _, row_st1 h.db (by omega) _, h.bel.setCell (by show w0.heap.size ≤ w0.heap.size + 2; omega) _⟩
end
/-- a region that looks, calls (i1, its value in slot d), and stores (i2), in any order -/
structure Iy (W0 : World) (i1 i2 d : Nat) (X : Value → World → Prop) (Y : World → Prop) (l : Nat → Bool) (a : Act) (w : World) : Prop where
  o2 : l i2 = true → l i1 = true
  w0 : l i1 = false → w = W0.drew
  w2 : l i1 = true → l i2 = false → X (a.tmps.getD d undef) w
  w3 : l i2 = true → Y w
section
variable {W0 w w' : World} {i1 i2 d : Nat} {X : Value → World → Prop} {Y : World → Prop} {l : Nat → Bool} {a : Act}
theorem Iy.start (a : Act) (W0 : World) : Iy W0 i1 i2 d X Y (fun _ => false) a W0.drew := ⟨(fun e => by cases e), (fun _ => rfl), (fun e => by cases e), (fun e => by cases e)⟩
theorem Iy.no2 (h : Iy W0 i1 i2 d X Y l a w) (hl : l i1 = false) : l i2 = false := by
  cases e : l i2 with
  | false => rfl
  | true => rw [h.o2 e] at hl; cases hl
theorem Iy.still (h : Iy W0 i1 i2 d X Y l a w) {k t : Nat} (v : Value) (h1 : k ≠ i1) (h2 : k ≠ i2) (ht : t ≠ d) (hs : t < a.tmps.size) : Iy W0 i1 i2 d X Y (Reg.lset l k) (a.put (some t) v) w := by
  have e1 : Reg.lset l k i1 = l i1 := lsetw_ne h1
  have e2 : Reg.lset l k i2 = l i2 := lsetw_ne h2
  refine ⟨?_, ?_, ?_, ?_⟩
  · rw [e1, e2]; exact h.o2
  · rw [e1]; exact h.w0
  · rw [e1, e2, Reg.getD_put _ _ _ _ hs, if_neg ht]; exact h.w2
  · rw [e2]; exact h.w3
theorem Iy.call (h : Iy W0 i1 i2 d X Y l a w) (h12 : i1 ≠ i2) (hl : l i1 = false) {v : Value} (hs : d < a.tmps.size) (hx : X v w') : Iy W0 i1 i2 d X Y (Reg.lset l i1) (a.put (some d) v) w' := by
  have n2 := h.no2 hl
  have e1 : Reg.lset l i1 i1 = true := lsetw_eq
  have e2 : Reg.lset l i1 i2 = false := by rw [lsetw_ne h12]; exact n2
  exact ⟨(fun e => by rw [e2] at e; cases e), (fun e => by rw [e1] at e; cases e), fun _ _ => by rw [Reg.getD_put _ _ _ _ hs, if_pos rfl]; exact hx, (fun e => by rw [e2] at e; cases e)⟩
theorem Iy.stored (h : Iy W0 i1 i2 d X Y l a w) (h21 : i2 ≠ i1) (h1 : l i1 = true) (hy : Y w') : Iy W0 i1 i2 d X Y (Reg.lset l i2) a w' := by
  have e1 : Reg.lset l i2 i1 = true := by rw [lsetw_ne h21]; exact h1
  have e2 : Reg.lset l i2 i2 = true := lsetw_eq
  exact ⟨fun _ => e1, (fun e => by rw [e1] at e; cases e), (fun _ e => by rw [e2] at e; cases e), fun _ => hy⟩
theorem Iy.any (h : Iy W0 i1 i2 d X Y l a w) (Z : World → Prop) (z0 : Z W0.drew) (zx : ∀ v w, X v w → Z w) (zy : ∀ w, Y w → Z w) : Z w := by
  cases e1 : l i1 with
  | false => rw [h.w0 e1]; exact z0
  | true =>
    cases e2 : l i2 with
    | false => exact zx _ _ (h.w2 e1 e2)
    | true => exact zy _ (h.w3 e2)
theorem Iy.done {n : Nat} (h : Iy W0 i1 i2 d X Y (fun j => decide (j < n)) a w) (hn : i2 < n) : Y w := h.w3 (by simpa using hn)
end
end Go.Proofs.Ytfclecbhfamomaa.Node
/- Layer 17 (node): the law's of (written by mknof.py). -/
namespace Go.Proofs.Ytfclecbhfamomaa.Node
open Go Go.RowKit Go.Proofs.Ytfclecbhfamomaa Go.Proofs.Ytfclecbhfamomaa.Lend Go.Proofs.Ytfclecbhfamomaa.Rec Go.Proofs.Ytfclecbhfamomaa.Msg Go.Proofs.Ytfclecbhfamomaa.Buf
set_option linter.unusedVariables false
set_option linter.unusedSimpArgs false

/-- what of leaves -/
def OfP (w : World) (cs : List Ch) (ms : List Up) (e : Ending) (w' : World) : Prop := ∃ kv bv kv' bv', e = .returned (.tuple #[.agg #[kv, bv], .agg #[kv', bv']]) ∧ CO 76 w' w.heap.size kv (ofC cs) ∧ RA w' w.heap.size bv (ofM ms) ∧ CO 50 w' w.heap.size kv' (ofC cs) ∧ RU w' w.heap.size bv' (ofM ms) ∧ Below w.heap.size w w'
theorem ofC_step {cs : List Ch} {j : Nat} (hj : j < cs.length) (h : j < 20) : (cs.take (j + 1)).map (ct 20) = (cs.take j).map (ct 20) ++ [ct 20 cs[j]] := by
  rw [List.take_succ_eq_append_getElem hj, List.map_append]; rfl
theorem rem2 {k : Int} (h0 : 0 ≤ k) (h1 : k ≤ 255) : ∃ x : Int, (x = 0 ∨ x = 1) ∧ k % 2 = x ∧ Int.tmod k 2 = x := ⟨k % 2, by omega, rfl, by rw [Int.tmod_eq_emod_of_nonneg h0]⟩
set_option maxRecDepth 100000 in
set_option maxHeartbeats 16000000 in
theorem of_any {w : World} {a b : Option Addr} {cap bcp : Nat} {cs : List Ch} {ms : List Up} (h : CR w (.slice a cs.length cap) cs) (hu : UR w (.slice b ms.length bcp) ms) (hc1 : cs.length ≤ cap) (hc2 : cap ≤ 9223372036854775807) (hm1 : ms.length ≤ bcp) (hm2 : bcp ≤ 9223372036854775807)
    (hq : ∀ c ∈ cs, c.low.length ≤ 140737488355327) (hwf : ∀ u ∈ ms, WfU u) (hv : ∀ u ∈ ms, u.key.length ≤ 140737488355327) :
    Calls Try.prog 8 #[.slice a cs.length cap, .slice b ms.length bcp] w (OfP w cs ms) := by
  have HO4 := Lib.hid (O4.new w)
  obtain ⟨w1, hw1⟩ : ∃ z, z = ((((w.alloc (.cells #[.slice none 0 0, .slice none 0 0] 31)).alloc (.cells #[.slice none 0 0, .slice none 0 0] 35)).alloc (.cells #[.slice none 0 0, .slice none 0 0] 31)).alloc (.cells #[.slice none 0 0, .slice none 0 0] 35)) := ⟨_, rfl⟩
  rw [← hw1] at HO4
  have HC := Lib.hid (fun (W : World) (hb : Below w.heap.size w W) => h.below hb)
  have HU := Lib.hid (fun (W : World) (hb : Below w.heap.size w W) => hu.below hb)
  have HQ := Lib.hid hq
  have HWF := Lib.hid hwf
  have HV := Lib.hid hv
  have HCA := Lib.hid (And.intro hc1 hc2)
  have HMA := Lib.hid (And.intro hm1 hm2)
  obtain ⟨G, hG⟩ : ∃ G, G = w.heap.size := ⟨_, rfl⟩
  have HG := Lib.hid hG
  obtain ⟨p, hp⟩ : ∃ n, n = cs.length := ⟨_, rfl⟩
  obtain ⟨q, hq'⟩ : ∃ n, n = ms.length := ⟨_, rfl⟩
  have HP := Lib.hid hp
  have HQQ := Lib.hid hq'
  rw [← hp] at HC HCA ⊢
  rw [← hq'] at HU HMA ⊢
  obtain ⟨n, hn⟩ : ∃ n, n = min p 20 := ⟨_, rfl⟩
  obtain ⟨m, hm⟩ : ∃ n, n = min q 10 := ⟨_, rfl⟩
  have HNN := Lib.hid hn
  have HMM := Lib.hid hm
  clear h hu hc1 hc2 hm1 hm2 hq hwf hv hp hq' hn hm
  go_enter Try.func8, Try.ntmps8
  go_upto_region 3 with fail
  rw [← hw1, ← hG]
  clear hw1 hG
  go_cut [18, 19, 20] (fun s t i wx => ∃ a' cap', s = .slice a' n cap' ∧ t = .int .i64 n ∧ i = .int .i64 ((0 : Nat) : Int) ∧ (0 < n → a' = a) ∧ wx = w1)
  case first =>
    have hnc := HCA.out
    go_wp2_with fail
    all_goals
      go_meet
      first
      | (have e : n = 20 := by have := HNN.out; omega
         exact ⟨_, _, by rw [e], by rw [e]; rfl, rfl, fun _ => rfl, rfl⟩)
      | (have e1 : (min (p : Int) 20).toNat = n := by have := HNN.out; omega
         have e2 : max (min (p : Int) 20) 0 = (n : Int) := by have := HNN.out; omega
         exact ⟨_, _, by rw [e1], by rw [e2], rfl, fun _ => rfl, rfl⟩)
      | (have e : n = p := by have := HNN.out; omega
         exact ⟨_, _, by rw [e], by rw [e], rfl, fun _ => rfl, rfl⟩)
  case rest =>
    obtain ⟨s, c, rfl, rfl, rfl, haa, hww⟩ := hcut
    have hww := hww.symm
    subst hww
    have hnl : n ≤ cs.length ∧ n ≤ 20 := by have := HNN.out; have := HP.out; omega
    obtain ⟨hnl, hn20⟩ := hnl
    have HAA := Lib.hid haa
    clear haa
    go_wp2_with fail
    go_loopw [20] (fun i wr => ∃ (j : Nat) (kv kv' : Value), j ≤ n ∧ i = .int .i64 j ∧ O4 w kv (.slice none 0 0) kv' (.slice none 0 0) ((cs.take j).map (ct 20)) ((cs.take j).map (ct 20)) [] [] wr) (fun i _ => n - (intOf i).toNat)
    case atStart => exact ⟨0, _, _, Nat.zero_le _, rfl, HO4.out⟩
    case round =>
      obtain ⟨j, kv, kv', hj, rfl, ho4⟩ := hrel
      rename World => wr
      have HO := Lib.hid ho4
      clear ho4
      by_cases hlt : j < n
      · have hji : (j : Int) < (n : Int) := by omega
        have hj0 : 0 ≤ (j : Int) := by omega
        have hjl : j < cs.length := by omega
        obtain ⟨g, off, ha, c0, c1, c2, c3⟩ := cr_cells (HC.out wr HO.out.bel) j hjl
        have hs := HAA.out (by omega)
        rw [ha] at hs
        subst hs
        clear ha
        have hst := ofC_step hjl (by omega)
        obtain ⟨Cj, hCj⟩ : ∃ z, z = (cs.take j).map (ct 20) := ⟨_, rfl⟩
        obtain ⟨Ck, hCk⟩ : ∃ z, z = (cs.take (j + 1)).map (ct 20) := ⟨_, rfl⟩
        have HJL := Lib.hid (show Cj.length ≤ 1000 by rw [hCj, List.length_map, List.length_take]; omega)
        have HCK := Lib.hid hCk
        rw [← hCj, ← hCk] at hst
        rw [← hCj] at HO
        clear hCj hCk
        have HST := Lib.hid hst
        clear hst
        have hlow := HQ.out _ (List.getElem_mem hjl)
        obtain ⟨x, hx⟩ : ∃ x, x = cs[j] := ⟨_, rfl⟩
        rw [← hx] at c0 c1 c2 c3 HST hlow
        have HTK := Lib.hid (takeS x.low 20)
        have hsz := ssize x.low
        obtain ⟨w2, hw2⟩ : ∃ z, z = wr.alloc (.cells #[.string (Lend.strOf x.low), .int .i64 x.addr, .int .u64 x.gen, .int .u32 x.sum] 72) := ⟨_, rfl⟩
        have HX2 := Lib.hid (show Has w2 wr.heap.size 72 (encC x) by rw [hw2]; exact Has.new wr _ _)
        have HO2 := Lib.hid (HO.out.on (show Below wr.heap.size wr w2 by rw [hw2]; exact below_new _ _))
        have HB2 := Lib.hid (show Below wr.heap.size wr w2 by rw [hw2]; exact below_new _ _)
        have HGE := Lib.hid (Nat.le_trans (show w.heap.size + 4 ≤ wr.heap.size from HO.out.x.lt) (Nat.le_refl _))
        clear hx
        go_upto_region 6 with fail
        rw [← hw2]
        clear hw2 c0 c1 c2 c3
        obtain ⟨K, hK⟩ : ∃ z, z = Lend.strOf x.low := ⟨_, rfl⟩
        obtain ⟨K2, hK2⟩ : ∃ z, z = Lend.strOf (x.low.take 20) := ⟨_, rfl⟩
        obtain ⟨kn, hkn⟩ : ∃ z, z = min K.size 20 := ⟨_, rfl⟩
        rw [← hK] at HTK hsz
        rw [← hK2, ← hkn] at HTK
        have y0 : w2.cell? ⟨wr.heap.size, 0, none⟩ = some (.string K) := by rw [hK]; exact HX2.out.cell 0
        have f0 : w2.frozen? ⟨wr.heap.size, 0, none⟩ = false := HX2.out.frozen 0
        have hKS : K.size ≤ 9223372036854775807 := by omega
        clear hsz hlow
        have HKN := Lib.hid hkn
        have HK2 := Lib.hid hK2
        have HKK := Lib.hid hK
        clear hK hK2 hkn
        go_cut [] (fun wx => Has wx wr.heap.size 72 [.string K2, .int .i64 x.addr, .int .u64 x.gen, .int .u32 x.sum] ∧ Below wr.heap.size wr wx)
        case first =>
          go_wp2_with fail
          all_goals go_meet
          all_goals first
          | (have e : kn = 20 := by have := HKN.out; omega
             have ht := HTK.out
             rw [e] at ht
             rw [ht]
             exact ⟨HX2.out.set 0 _, HB2.out.setCell (Nat.le_refl _) _⟩)
          | (have h20 : K.size ≤ 20 := by omega
             have e : K = K2 := by
               rw [HKK.out, ssize] at h20
               rw [HK2.out, HKK.out, List.take_of_length_le h20]
             rw [e]
             exact ⟨HX2.out.set 0 _, HB2.out.setCell (Nat.le_refl _) _⟩)
        case rest =>
          obtain ⟨hx3, hb3⟩ := hcut
          rename World => w3
          have HO3 := Lib.hid (HO.out.on hb3)
          have HX3 := Lib.hid (show Has w3 wr.heap.size 72 (encC (ct 20 x)) by
            have e : encC (ct 20 x) = [.string K2, .int .i64 x.addr, .int .u64 x.gen, .int .u32 x.sum] := by rw [HK2.out]; rfl
            rw [e]; exact hx3)
          have HB3 := Lib.hid hb3
          clear hx3 hb3 y0 f0 hKS
          have HN2 := Lib.hid HK2.out
          obtain ⟨y, hy⟩ : ∃ z, z = ct 20 x := ⟨_, rfl⟩
          rw [← hy] at HX3 HST
          have hk2 : K2 = Lend.strOf y.low := by rw [HK2.out, hy]; rfl
          clear hy HN2
          subst hk2
          have y0 : w3.cell? ⟨wr.heap.size, 0, none⟩ = some (.string (Lend.strOf y.low)) := HX3.out.cell 0
          have y1 : w3.cell? ⟨wr.heap.size, 1, none⟩ = some (.int .i64 y.addr) := HX3.out.cell 1
          have y2 : w3.cell? ⟨wr.heap.size, 2, none⟩ = some (.int .u64 y.gen) := HX3.out.cell 2
          have y3 : w3.cell? ⟨wr.heap.size, 3, none⟩ = some (.int .u32 y.sum) := HX3.out.cell 3
          obtain ⟨ka, kc, hkv, _⟩ := own_shape HO3.out.ck
          subst hkv
          obtain ⟨da, dc, hdv, _⟩ := own_shape HO3.out.dk
          subst hdv
          obtain ⟨jn, hjn⟩ : ∃ z, z = Cj.length := ⟨_, rfl⟩
          have HJN := Lib.hid hjn
          rw [← hjn] at HJL
          have z0 : w3.cell? ⟨G + 1 + 1, 0, none⟩ = some (.slice ka jn kc) := by rw [hjn, HG.out]; exact HO3.out.n.cell 0
          clear hjn
          obtain ⟨i0, hi, hz0, hz1, hz2⟩ := info_parts isC_p
          have HNW := Lib.hid (has_news (Has.new w3 (encC y) 76))
          go_wp2_with (at_builtin; refine wpList_append_own _ rfl _ _ 26 rfl (w.heap.size + 4) 76 i0 _ 4 40 und_p hi hz0 hz1 hz2 rfl (by decide) _ jn (flatC Cj) rfl (by rw [HJN.out]; exact HO3.out.ck.alloc _) ⟨w3.heap.size, 0, none⟩ 1 1 (encC y) rfl rfl HNW.out (encC_one y) ?c1 ?c2 ?c3 ?_)
          case c1 => unfold maxLen; have := HJL.out; omega
          case c2 => have := HJL.out; omega
          case c3 => exact Nat.le_trans (show w.heap.size + 4 ≤ w3.heap.size from HO3.out.x.lt) (by simp)
          intro v4 w4 hown4 hgr4 _
          have HO4 := Lib.hid (HO3.out.on (below_new w3 (.cells #[.string (Lend.strOf y.low), .int .i64 y.addr, .int .u64 y.gen, .int .u32 y.sum] 76)))
          have hck : CO 76 w4 (w.heap.size + 4) v4 Ck := by
            rw [HST.out]
            unfold CO
            rw [flatC_snoc, List.length_append, ← HJN.out]
            exact hown4
          rw [HJN.out] at hgr4
          have HO5 := Lib.hid (HO4.out.setK hck hgr4)
          have z5 : w4.cell? ⟨G + 1 + 1, 0, none⟩ = some (.slice ka jn kc) := by rw [HJN.out, HG.out]; exact (hk_grown HO4.out.n hgr4 (fun k e => (HO4.out.ck.lt k e).1) (by omega)).cell 0
          have z6 : w4.frozen? ⟨G + 1 + 1, 0, none⟩ = false := by rw [HG.out]; exact (hk_grown HO4.out.n hgr4 (fun k e => (HO4.out.ck.lt k e).1) (by omega)).frozen 0
          have HX4 := Lib.hid ((HX3.out.alloc (.cells #[.string (Lend.strOf y.low), .int .i64 y.addr, .int .u64 y.gen, .int .u32 y.sum] 76)).same (hgr4.block _ (HX3.out.alloc (.cells #[.string (Lend.strOf y.low), .int .i64 y.addr, .int .u64 y.gen, .int .u32 y.sum] 76)).lt (fun e => by have := (HO.out.ck.lt _ e.symm).2; omega)))
          obtain ⟨va, vc, hv4, _⟩ := own_shape hck
          subst hv4
          clear hck hgr4 hown4 y0 y1 y2 y3 z0 hi hz0 hz1 hz2
          obtain ⟨w5, hw5⟩ : ∃ z, z = w4.setCell ⟨w.heap.size + 2, 0, none⟩ (.slice va Ck.length vc) := ⟨_, rfl⟩
          rw [← hw5] at HO5
          have hw5' : w5 = w4.setCell ⟨G + 1 + 1, 0, none⟩ (.slice va Ck.length vc) := by rw [hw5, HG.out]
          have HX5 := Lib.hid (show Has w5 wr.heap.size 72 (encC y) by rw [hw5]; exact HX4.out.setOther (by show w.heap.size + 2 ≠ wr.heap.size; have := HGE.out; omega) _)
          clear hw5
          go_upto_region 8 with fail
          rw [← hw5']
          clear hw5' z5 z6
          have y0 : w5.cell? ⟨wr.heap.size, 0, none⟩ = some (.string (Lend.strOf y.low)) := HX5.out.cell 0
          have y1 : w5.cell? ⟨wr.heap.size, 1, none⟩ = some (.int .i64 y.addr) := HX5.out.cell 1
          have y2 : w5.cell? ⟨wr.heap.size, 2, none⟩ = some (.int .u64 y.gen) := HX5.out.cell 2
          have y3 : w5.cell? ⟨wr.heap.size, 3, none⟩ = some (.int .u32 y.sum) := HX5.out.cell 3
          have z0 : w5.cell? ⟨G + 1 + 1 + 1, 0, none⟩ = some (.slice da jn dc) := by rw [HJN.out, HG.out]; exact HO5.out.x.cell 0
          obtain ⟨i0, hi, hz0, hz1, hz2⟩ := info_parts isC_d
          have HNW := Lib.hid (has_news (Has.new w5 (encC y) 50))
          go_wp2_with (at_builtin; refine wpList_append_own _ rfl _ _ 32 rfl (w.heap.size + 4) 50 i0 _ 4 40 und_c hi hz0 hz1 hz2 rfl (by decide) _ jn (flatC Cj) rfl (by rw [HJN.out]; exact HO5.out.dk.alloc _) ⟨w5.heap.size, 0, none⟩ 1 1 (encC y) rfl rfl HNW.out (encC_one y) ?c1 ?c2 ?c3 ?_)
          case c1 => unfold maxLen; have := HJL.out; omega
          case c2 => have := HJL.out; omega
          case c3 => exact Nat.le_trans (show w.heap.size + 4 ≤ w5.heap.size from HO5.out.x.lt) (by simp)
          intro v6 w6 hown6 hgr6 _
          have HO6 := Lib.hid (HO5.out.on (below_new w5 (.cells #[.string (Lend.strOf y.low), .int .i64 y.addr, .int .u64 y.gen, .int .u32 y.sum] 50)))
          have hdk : CO 50 w6 (w.heap.size + 4) v6 Ck := by
            rw [HST.out]
            unfold CO
            rw [flatC_snoc, List.length_append, ← HJN.out]
            exact hown6
          rw [HJN.out] at hgr6
          have HO7 := Lib.hid (HO6.out.setD hdk hgr6)
          have z5 : w6.cell? ⟨G + 1 + 1 + 1, 0, none⟩ = some (.slice da jn dc) := by rw [HJN.out, HG.out]; exact (hk_grown HO6.out.x hgr6 (fun k e => (HO6.out.dk.lt k e).1) (by omega)).cell 0
          have z6 : w6.frozen? ⟨G + 1 + 1 + 1, 0, none⟩ = false := by rw [HG.out]; exact (hk_grown HO6.out.x hgr6 (fun k e => (HO6.out.dk.lt k e).1) (by omega)).frozen 0
          obtain ⟨ua, uc, hv6, _⟩ := own_shape hdk
          subst hv6
          clear hdk hgr6 hown6 y0 y1 y2 y3 z0 hi hz0 hz1 hz2
          obtain ⟨w7, hw7⟩ : ∃ z, z = w6.setCell ⟨w.heap.size + 3, 0, none⟩ (.slice ua Ck.length uc) := ⟨_, rfl⟩
          rw [← hw7] at HO7
          have hw7' : w7 = w6.setCell ⟨G + 1 + 1 + 1, 0, none⟩ (.slice ua Ck.length uc) := by rw [hw7, HG.out]
          clear hw7
          go_wp2_with fail
          rw [← hw7']
          clear hw7'
          go_roundw
          case rel => exact ⟨j + 1, _, _, by omega, by go_num, by have h := HO7.out; rw [HCK.out] at h; exact h⟩
          case measure => simp [intOf]; omega
      · obtain rfl : j = n := by omega
        have hji : ¬ ((j : Int) < (j : Int)) := by omega
        have hoc : (cs.take j).map (ct 20) = ofC cs := by
          unfold ofC
          congr 1
          by_cases h : cs.length ≤ 20
          · rw [List.take_of_length_le (show cs.length ≤ j by have := HNN.out; have := HP.out; omega), List.take_of_length_le h]
          · rw [show j = 20 by have := HNN.out; have := HP.out; omega]
        rw [hoc] at HO
        obtain ⟨C, hC⟩ : ∃ z, z = ofC cs := ⟨_, rfl⟩
        rw [← hC] at HO
        have HCC := Lib.hid hC
        clear hC hoc
        go_upto_region 10 with fail
        go_cut [58, 59, 60] (fun s t i wx => ∃ a' cap', s = .slice a' m cap' ∧ t = .int .i64 m ∧ i = .int .i64 ((0 : Nat) : Int) ∧ (0 < m → a' = b) ∧ wx = wr)
        case first =>
          have hnc := HMA.out
          go_wp2_with fail
          all_goals
            go_meet
            first
            | (have e : m = 10 := by have := HMM.out; omega
               exact ⟨_, _, by rw [e], by rw [e]; rfl, rfl, fun _ => rfl, rfl⟩)
            | (have e1 : (min (q : Int) 10).toNat = m := by have := HMM.out; omega
               have e2 : max (min (q : Int) 10) 0 = (m : Int) := by have := HMM.out; omega
               exact ⟨_, _, by rw [e1], by rw [e2], rfl, fun _ => rfl, rfl⟩)
            | (have e : m = q := by have := HMM.out; omega
               exact ⟨_, _, by rw [e], by rw [e], rfl, fun _ => rfl, rfl⟩)
        case rest =>
          obtain ⟨s2, c2, rfl, rfl, rfl, haa2, hww⟩ := hcut
          subst hww
          have hml : m ≤ ms.length ∧ m ≤ 10 := by have := HMM.out; have := HQQ.out; omega
          obtain ⟨hml, hm10⟩ := hml
          have HAA2 := Lib.hid haa2
          clear haa2
          go_wp2_with fail
          go_loopw [60] (fun i wr => ∃ (j : Nat) (bv : Value), j ≤ m ∧ i = .int .i64 j ∧ O4 w kv bv kv' (.slice none 0 0) C C (fwU ((ms.take j).map upD)) [] wr) (fun i _ => m - (intOf i).toNat)
          case atStart => exact ⟨0, _, Nat.zero_le _, rfl, HO.out⟩
          case round =>
            obtain ⟨j2, bv, hj, rfl, ho4⟩ := hrel
            rename World => wq
            have HO := Lib.hid ho4
            clear ho4
            by_cases hlt : j2 < m
            · have hji : (j2 : Int) < (m : Int) := by omega
              have hj0 : 0 ≤ (j2 : Int) := by omega
              have hjl : j2 < ms.length := by omega
              obtain ⟨g2, off2, ha⟩ : ∃ g off, b = some ⟨g, off, none⟩ := by
                obtain ⟨g', off', e, _⟩ := UR.at_ (HU.out wq HO.out.bel) (by omega)
                exact ⟨g', off', e⟩
              obtain ⟨c0, c1, c2, c3⟩ := ur_cells (by have h := HU.out wq HO.out.bel; rw [ha] at h; exact h) j2 hjl
              have hs := HAA2.out (by omega)
              rw [ha] at hs
              subst hs
              clear ha
              have hst : (ms.take (j2 + 1)).map upD = (ms.take j2).map upD ++ [upD ms[j2]] := by rw [List.take_succ_eq_append_getElem hjl, List.map_append]; rfl
              have hwf := HWF.out _ (List.getElem_mem hjl)
              have hkl := HV.out _ (List.getElem_mem hjl)
              have hok := fwU_ok (l := (ms.take j2).map upD) (fun u hu => by
                obtain ⟨v, hv, rfl⟩ := List.mem_map.1 hu
                exact upD_tm (HWF.out v (List.mem_of_mem_take hv)).1)
              have hln : ((ms.take j2).map upD).length ≤ 10 := by rw [List.length_map, List.length_take]; omega
              obtain ⟨u, hu⟩ : ∃ u, u = ms[j2] := ⟨_, rfl⟩
              rw [← hu] at c0 c1 c2 c3 hst hwf hkl
              have HFW := Lib.hid (show fwU ((ms.take (j2 + 1)).map upD) = withU (fwU ((ms.take j2).map upD)) (upD u) by rw [hst, fwU_snoc])
              obtain ⟨L, hL⟩ : ∃ z, z = fwU ((ms.take j2).map upD) := ⟨_, rfl⟩
              obtain ⟨y, hy⟩ : ∃ z, z = upD u := ⟨_, rfl⟩
              rw [← hL, ← hy] at HFW
              rw [← hL] at HO hok
              have HTY := Lib.hid (show Tm y by rw [hy]; exact upD_tm hwf.1)
              have HLO := Lib.hid hok
              have HLL := Lib.hid (show L.length ≤ 100000 by omega)
              obtain ⟨r, hr01, hr1, hr2⟩ := rem2 (k := u.kind) hwf.1 hwf.2.1
              obtain ⟨K, hK⟩ : ∃ z, z = Lend.strOf u.key := ⟨_, rfl⟩
              obtain ⟨K2, hK2⟩ : ∃ z, z = Lend.strOf (u.key.take 20) := ⟨_, rfl⟩
              obtain ⟨kn, hkn⟩ : ∃ z, z = min K.size 20 := ⟨_, rfl⟩
              have HTK := Lib.hid (takeS u.key 20)
              rw [← hK, ← hK2, ← hkn] at HTK
              have HKN := Lib.hid hkn
              have HKS := Lib.hid (show K.size ≤ 140737488355327 by rw [hK, ssize]; exact hkl)
              have HAY : Hid (agU y = .agg #[.int .u8 (1 + r), .string K2, .string ⟨#[]⟩, .int .u64 0]) := Lib.hid (by rw [hy, hK2]; unfold agU upD; rw [← hr1]; rfl)
              rw [← hK] at c1
              obtain ⟨kd, hkd⟩ : ∃ z, z = u.kind := ⟨_, rfl⟩
              rw [← hkd] at c0 hr1 hr2
              have HRM := Lib.hid (And.intro hr01 (And.intro hr1 hr2))
              obtain ⟨w2, hw2⟩ : ∃ z, z = wq.alloc (.cells #[.int .u8 kd, .string K, .string (Lend.strOf u.val), .int .u64 u.delta] 66) := ⟨_, rfl⟩
              have HX2 := Lib.hid (show Has w2 wq.heap.size 66 [.int .u8 kd, .string K, .string (Lend.strOf u.val), .int .u64 u.delta] by rw [hw2]; exact Has.new wq _ _)
              have HO2 := Lib.hid (HO.out.on (show Below wq.heap.size wq w2 by rw [hw2]; exact below_new _ _))
              clear hst hwf hkl hok hln hL hy hr01 hr1 hr2 hK hK2 hkn hkd hu
              obtain ⟨ba, bc, hbv, _⟩ := own_shape HO2.out.cb
              subst hbv
              obtain ⟨bn, hbn⟩ : ∃ z, z = L.length := ⟨_, rfl⟩
              have HWI := Lib.hid (with_any (w := w2.drew) (UR.of_own (HO2.out.on (below_dr (Below.refl _ w2))).cb) (cp_own HO2.out.cb) HLO.out.1 HLL.out HLO.out.2.1 HTY.out)
              rw [HAY.out, ← hbn] at HWI
              rw [← hbn] at HO2
              have HZ := Lib.hid (show w2.cell? ⟨G + 1 + 1, 1, none⟩ = some (.slice ba bn bc) by rw [HG.out]; exact HO2.out.n.cell 1)
              have HGE := Lib.hid (show w.heap.size + 4 ≤ w2.drew.heap.size from HO2.out.x.lt)
              have HGX := Lib.hid (show G + 4 ≤ wq.heap.size by rw [HG.out]; exact HO.out.x.lt)
              clear hbn
              go_upto_region 13 with fail
              rw [← hw2]
              clear hw2 c0 c1 c2 c3
              refine Reg.region_vals3 (by kernel_rfl) [(64, .pointer (some ⟨G + 1 + 1, 1, none⟩)), (65, .agg #[.slice ba bn bc]), (66, .pointer (some ⟨wq.heap.size, 0, none⟩)), (67, .int .u8 kd), (68, .int .u8 r), (69, .int .u8 (1 + r)), (70, .pointer (some ⟨wq.heap.size, 1, none⟩)), (71, .string K), (72, .pointer (some ⟨wq.heap.size, 1, none⟩)), (73, .string K), (74, .int .i64 (K.size : Nat)), (75, .int .i64 (kn : Nat)), (76, .string K2), (77, .agg #[.int .u8 (1 + r), .string K2, .string ⟨#[]⟩, .int .u64 0]), (79, .pointer (some ⟨G + 1 + 1, 1, none⟩))] [78] (Iy w2 14 16 78 (fun v W => (∃ cv, v = .agg #[cv] ∧ O4 w kv (.slice ba bn bc) kv' (.slice none 0 0) C C L [] W ∧ RA W (w.heap.size + 4) cv (withU L y)) ∧ Has W wq.heap.size 66 [.int .u8 kd, .string K, .string (Lend.strOf u.val), .int .u64 u.delta]) (fun W => (∃ cv, O4 w kv cv kv' (.slice none 0 0) C C (withU L y) [] W) ∧ Has W wq.heap.size 66 [.int .u8 kd, .string K, .string (Lend.strOf u.val), .int .u64 u.delta])) ?a1 ?a2 ?a3 ?a4 ?a5 ?a6 ?a7 ?hend
              case a1 => kernel_rfl
              case a2 => kernel_rfl
              case a3 => kernel_rfl
              case a4 => kernel_rfl
              case a5 => kernel_rfl
              case a6 => exact Iy.start _ _
              case a7 =>
                refine ⟨?_, ?_, ?_, ?_, ?_, ?_, ?_, ?_, ?_, ?_, ?_, ?_, ?_, ?_, ?_, ?_, ?_, trivial⟩
                · intro aq wq_ lq hz hI hl hdone hlater hold hd ho
                  have h6 : aq.tmps.getD 6 undef = .pointer (some ⟨G + 1 + 1, 0, none⟩) := ho 6 (by kernel_rfl)
                  clear hd ho hdone hlater hold
                  rw [Array.getD_eq_getD_getElem?] at h6
                  have hc : 64 < aq.tmps.size := by have hz' : aq.tmps.size = 106 := hz; omega
                  refine Reg.step3_val (.pointer (some ⟨G + 1 + 1, 1, none⟩)) ?_ rfl (hI.still _ (by decide) (by decide) (by decide) hc) trivial
                  clear hz hc hI
                  go_simp
                · intro aq wq_ lq hz hI hl hdone hlater hold hd ho
                  have h64 : aq.tmps.getD 64 undef = .pointer (some ⟨G + 1 + 1, 1, none⟩) := hd 64 (by kernel_rfl)
                  have gl : lq 14 = false := hlater 14 (by kernel_rfl)
                  clear hd ho hdone hlater hold
                  rw [Array.getD_eq_getD_getElem?] at h64
                  have hc : 65 < aq.tmps.size := by have hz' : aq.tmps.size = 106 := hz; omega
                  have e0 : w2.cell? ⟨G + 1 + 1, 1, none⟩ = some (.slice ba bn bc) := HZ.out
                  have hw := hI.w0 gl
                  refine Reg.step3_val (.agg #[.slice ba bn bc]) ?_ rfl (hI.still _ (by decide) (by decide) (by decide) hc) trivial
                  clear hz hc hI
                  subst hw
                  go_simp
                · intro aq wq_ lq hz hI hl hdone hlater hold hd ho
                  have h11 : aq.tmps.getD 11 undef = .pointer (some ⟨wq.heap.size, 0, none⟩) := ho 11 (by kernel_rfl)
                  clear hd ho hdone hlater hold
                  rw [Array.getD_eq_getD_getElem?] at h11
                  have hc : 66 < aq.tmps.size := by have hz' : aq.tmps.size = 106 := hz; omega
                  refine Reg.step3_val (.pointer (some ⟨wq.heap.size, 0, none⟩)) ?_ rfl (hI.still _ (by decide) (by decide) (by decide) hc) trivial
                  clear hz hc hI
                  go_simp
                · intro aq wq_ lq hz hI hl hdone hlater hold hd ho
                  have h66 : aq.tmps.getD 66 undef = .pointer (some ⟨wq.heap.size, 0, none⟩) := hd 66 (by kernel_rfl)
                  clear hd ho hdone hlater hold
                  rw [Array.getD_eq_getD_getElem?] at h66
                  have hc : 67 < aq.tmps.size := by have hz' : aq.tmps.size = 106 := hz; omega
                  have e0 : wq_.cell? ⟨wq.heap.size, 0, none⟩ = some (.int .u8 kd) := (Iy.any hI (fun W => Has W wq.heap.size 66 [.int .u8 kd, .string K, .string (Lend.strOf u.val), .int .u64 u.delta]) HX2.out.drew (fun v w h => h.2) (fun w h => h.2)).cell 0
                  refine Reg.step3_val (.int .u8 kd) ?_ rfl (hI.still _ (by decide) (by decide) (by decide) hc) trivial
                  clear hz hc hI
                  go_simp
                · intro aq wq_ lq hz hI hl hdone hlater hold hd ho
                  have h67 : aq.tmps.getD 67 undef = .int .u8 kd := hd 67 (by kernel_rfl)
                  clear hd ho hdone hlater hold
                  rw [Array.getD_eq_getD_getElem?] at h67
                  have hc : 68 < aq.tmps.size := by have hz' : aq.tmps.size = 106 := hz; omega
                  refine Reg.step3_val (.int .u8 r) ?_ rfl (hI.still _ (by decide) (by decide) (by decide) hc) trivial
                  clear hz hc hI
                  simp [execOp, Act.eval, h67]
                  try go_simp
                  first | done | (rw [HRM.out.2.2]) | (have := HRM.out; omega)
                · intro aq wq_ lq hz hI hl hdone hlater hold hd ho
                  have h68 : aq.tmps.getD 68 undef = .int .u8 r := hd 68 (by kernel_rfl)
                  clear hd ho hdone hlater hold
                  rw [Array.getD_eq_getD_getElem?] at h68
                  have hc : 69 < aq.tmps.size := by have hz' : aq.tmps.size = 106 := hz; omega
                  refine Reg.step3_val (.int .u8 (1 + r)) ?_ rfl (hI.still _ (by decide) (by decide) (by decide) hc) trivial
                  clear hz hc hI
                  simp [execOp, Act.eval, h68]
                  try go_simp
                  rcases HRM.out.1 with e | e <;> (rw [e]; rfl)
                · intro aq wq_ lq hz hI hl hdone hlater hold hd ho
                  have h11 : aq.tmps.getD 11 undef = .pointer (some ⟨wq.heap.size, 0, none⟩) := ho 11 (by kernel_rfl)
                  clear hd ho hdone hlater hold
                  rw [Array.getD_eq_getD_getElem?] at h11
                  have hc : 70 < aq.tmps.size := by have hz' : aq.tmps.size = 106 := hz; omega
                  refine Reg.step3_val (.pointer (some ⟨wq.heap.size, 1, none⟩)) ?_ rfl (hI.still _ (by decide) (by decide) (by decide) hc) trivial
                  clear hz hc hI
                  go_simp
                · intro aq wq_ lq hz hI hl hdone hlater hold hd ho
                  have h70 : aq.tmps.getD 70 undef = .pointer (some ⟨wq.heap.size, 1, none⟩) := hd 70 (by kernel_rfl)
                  clear hd ho hdone hlater hold
                  rw [Array.getD_eq_getD_getElem?] at h70
                  have hc : 71 < aq.tmps.size := by have hz' : aq.tmps.size = 106 := hz; omega
                  have e0 : wq_.cell? ⟨wq.heap.size, 1, none⟩ = some (.string K) := (Iy.any hI (fun W => Has W wq.heap.size 66 [.int .u8 kd, .string K, .string (Lend.strOf u.val), .int .u64 u.delta]) HX2.out.drew (fun v w h => h.2) (fun w h => h.2)).cell 1
                  refine Reg.step3_val (.string K) ?_ rfl (hI.still _ (by decide) (by decide) (by decide) hc) trivial
                  clear hz hc hI
                  go_simp
                · intro aq wq_ lq hz hI hl hdone hlater hold hd ho
                  have h11 : aq.tmps.getD 11 undef = .pointer (some ⟨wq.heap.size, 0, none⟩) := ho 11 (by kernel_rfl)
                  clear hd ho hdone hlater hold
                  rw [Array.getD_eq_getD_getElem?] at h11
                  have hc : 72 < aq.tmps.size := by have hz' : aq.tmps.size = 106 := hz; omega
                  refine Reg.step3_val (.pointer (some ⟨wq.heap.size, 1, none⟩)) ?_ rfl (hI.still _ (by decide) (by decide) (by decide) hc) trivial
                  clear hz hc hI
                  go_simp
                · intro aq wq_ lq hz hI hl hdone hlater hold hd ho
                  have h72 : aq.tmps.getD 72 undef = .pointer (some ⟨wq.heap.size, 1, none⟩) := hd 72 (by kernel_rfl)
                  clear hd ho hdone hlater hold
                  rw [Array.getD_eq_getD_getElem?] at h72
                  have hc : 73 < aq.tmps.size := by have hz' : aq.tmps.size = 106 := hz; omega
                  have e0 : wq_.cell? ⟨wq.heap.size, 1, none⟩ = some (.string K) := (Iy.any hI (fun W => Has W wq.heap.size 66 [.int .u8 kd, .string K, .string (Lend.strOf u.val), .int .u64 u.delta]) HX2.out.drew (fun v w h => h.2) (fun w h => h.2)).cell 1
                  refine Reg.step3_val (.string K) ?_ rfl (hI.still _ (by decide) (by decide) (by decide) hc) trivial
                  clear hz hc hI
                  go_simp
                · intro aq wq_ lq hz hI hl hdone hlater hold hd ho
                  have h73 : aq.tmps.getD 73 undef = .string K := hd 73 (by kernel_rfl)
                  clear hd ho hdone hlater hold
                  rw [Array.getD_eq_getD_getElem?] at h73
                  have hc : 74 < aq.tmps.size := by have hz' : aq.tmps.size = 106 := hz; omega
                  refine Reg.step3_val (.int .i64 (K.size : Nat)) ?_ rfl (hI.still _ (by decide) (by decide) (by decide) hc) trivial
                  clear hz hc hI
                  simp [execOp, Act.eval, h73]
                  try go_simp
                · intro aq wq_ lq hz hI hl hdone hlater hold hd ho
                  have h74 : aq.tmps.getD 74 undef = .int .i64 (K.size : Nat) := hd 74 (by kernel_rfl)
                  clear hd ho hdone hlater hold
                  rw [Array.getD_eq_getD_getElem?] at h74
                  have hc : 75 < aq.tmps.size := by have hz' : aq.tmps.size = 106 := hz; omega
                  refine Reg.step3_val (.int .i64 (kn : Nat)) ?_ rfl (hI.still _ (by decide) (by decide) (by decide) hc) trivial
                  clear hz hc hI
                  simp [execOp, Act.eval, h74]
                  try go_simp
                  have := HKN.out
                  omega
                · intro aq wq_ lq hz hI hl hdone hlater hold hd ho
                  have h71 : aq.tmps.getD 71 undef = .string K := hd 71 (by kernel_rfl)
                  have h75 : aq.tmps.getD 75 undef = .int .i64 (kn : Nat) := hd 75 (by kernel_rfl)
                  clear hd ho hdone hlater hold
                  rw [Array.getD_eq_getD_getElem?] at h71 h75
                  have hc : 76 < aq.tmps.size := by have hz' : aq.tmps.size = 106 := hz; omega
                  refine Reg.step3_val (.string K2) ?_ rfl (hI.still _ (by decide) (by decide) (by decide) hc) trivial
                  clear hz hc hI
                  simp [execOp, Act.eval, h71, h75]
                  try go_simp
                  rw [if_pos (by rw [HKN.out]; exact Nat.min_le_left _ _), HTK.out]
                · intro aq wq_ lq hz hI hl hdone hlater hold hd ho
                  have h69 : aq.tmps.getD 69 undef = .int .u8 (1 + r) := hd 69 (by kernel_rfl)
                  have h76 : aq.tmps.getD 76 undef = .string K2 := hd 76 (by kernel_rfl)
                  clear hd ho hdone hlater hold
                  rw [Array.getD_eq_getD_getElem?] at h69 h76
                  have hc : 77 < aq.tmps.size := by have hz' : aq.tmps.size = 106 := hz; omega
                  refine Reg.step3_val (.agg #[.int .u8 (1 + r), .string K2, .string ⟨#[]⟩, .int .u64 0]) ?_ rfl (hI.still _ (by decide) (by decide) (by decide) hc) trivial
                  clear hz hc hI
                  simp [execOp, Act.eval, h69, h76]
                  try go_simp
                · intro aq wq_ lq hz hI hl hdone hlater hold hd ho
                  have h65 : aq.tmps.getD 65 undef = .agg #[.slice ba bn bc] := hd 65 (by kernel_rfl)
                  have h77 : aq.tmps.getD 77 undef = .agg #[.int .u8 (1 + r), .string K2, .string ⟨#[]⟩, .int .u64 0] := hd 77 (by kernel_rfl)
                  clear hd ho hdone hlater hold
                  rw [Array.getD_eq_getD_getElem?] at h65 h77
                  have hc : 78 < aq.tmps.size := by have hz' : aq.tmps.size = 106 := hz; omega
                  have hw := hI.w0 hl
                  subst hw
                  refine Reg.step3_call 22 #[.agg #[.slice ba bn bc], .agg #[.int .u8 (1 + r), .string K2, .string ⟨#[]⟩, .int .u64 0]] ?_ ((HWI.out).mono ?_)
                  · clear hI hz hc
                    simp [execOp]
                    go_simp
                  · rintro e w' ⟨cv, rfl, hcv, hb⟩
                    exact ⟨_, rfl, trivial, hI.call (by decide) hl hc ⟨⟨cv, rfl, HO2.out.on ((below_dr (Below.refl _ w2)).trans (hb.mono (Nat.le_refl _))), own_base hcv HGE.out⟩, HX2.out.drew.below hb HX2.out.lt⟩, trivial⟩
                · intro aq wq_ lq hz hI hl hdone hlater hold hd ho
                  have h6 : aq.tmps.getD 6 undef = .pointer (some ⟨G + 1 + 1, 0, none⟩) := ho 6 (by kernel_rfl)
                  clear hd ho hdone hlater hold
                  rw [Array.getD_eq_getD_getElem?] at h6
                  have hc : 79 < aq.tmps.size := by have hz' : aq.tmps.size = 106 := hz; omega
                  refine Reg.step3_val (.pointer (some ⟨G + 1 + 1, 1, none⟩)) ?_ rfl (hI.still _ (by decide) (by decide) (by decide) hc) trivial
                  clear hz hc hI
                  go_simp
                · intro aq wq_ lq hz hI hl hdone hlater hold hd ho
                  have h79 : aq.tmps.getD 79 undef = .pointer (some ⟨G + 1 + 1, 1, none⟩) := hd 79 (by kernel_rfl)
                  have g1 : lq 14 = true := hdone 14 (by kernel_rfl)
                  clear hd ho hdone hlater hold
                  rw [Array.getD_eq_getD_getElem?] at h79
                  obtain ⟨⟨cv, hcv, hx, hr⟩, hgx⟩ := hI.w2 g1 hl
                  obtain ⟨ca, cc, rfl, _⟩ := own_shape hr
                  have z4 : wq_.frozen? ⟨G + 1 + 1, 1, none⟩ = false := by rw [HG.out]; exact hx.n.frozen 1
                  have z5 : wq_.cell? ⟨G + 1 + 1, 1, none⟩ = some (.slice ba bn bc) := by rw [HG.out]; exact hx.n.cell 1
                  rw [Array.getD_eq_getD_getElem?] at hcv
                  refine Reg.step3_skip (wq_.setCell ⟨G + 1 + 1, 1, none⟩ (.slice ca (withU L y).length cc)) rfl ?_ (hI.stored (by decide) g1 ⟨⟨_, by have h := hx.setB hr; rw [HG.out]; exact h⟩, hgx.setOther (by show G + 1 + 1 ≠ wq.heap.size; have := HGX.out; omega) _⟩) trivial
                  clear hx hr hgx hI hz
                  simp [execOp]
                  go_simp
              case hend =>
                intro wz v aq hv hI
                have hy := Iy.done hI (by decide)
                clear hv hI
                simp only [Reg.fill, List.map_cons, List.map_nil, List.foldl_cons, List.foldl_nil, List.setIfInBounds_toArray, List.set_cons_zero, List.set_cons_succ]
                generalize v 78 = vz at *
                obtain ⟨⟨cv, ho5⟩, _⟩ := hy
                have HO5 := Lib.hid ho5
                clear ho5
                go_wp2_with fail
                go_roundw
                case rel => exact ⟨j2 + 1, _, by omega, by go_num, by rw [HFW.out]; exact HO5.out⟩
                case measure => simp [intOf]; omega
            · obtain rfl : j2 = m := by omega
              have hji : ¬ ((j2 : Int) < (j2 : Int)) := by omega
              have hom : fwU ((ms.take j2).map upD) = ofM ms := by
                unfold ofM
                congr 2
                by_cases h : ms.length ≤ 10
                · rw [List.take_of_length_le (show ms.length ≤ j2 by have := HMM.out; have := HQQ.out; omega), List.take_of_length_le h]
                · rw [show j2 = 10 by have := HMM.out; have := HQQ.out; omega]
              have hok := fwU_ok (l := (ms.take j2).map upD) (fun u hu => by
                obtain ⟨v, hv, rfl⟩ := List.mem_map.1 hu
                exact upD_tm (HWF.out v (List.mem_of_mem_take hv)).1)
              have hln : ((ms.take j2).map upD).length ≤ 10 := by rw [List.length_map, List.length_take]; omega
              rw [hom] at HO hok
              obtain ⟨L, hL⟩ : ∃ z, z = ofM ms := ⟨_, rfl⟩
              rw [← hL] at HO hok
              have HLC := Lib.hid hL
              have HLL := Lib.hid (show L.length ≤ 10 by omega)
              clear hL hom hok hln
              obtain ⟨ba, bc, hbv, _⟩ := own_shape HO.out.cb
              subst hbv
              obtain ⟨bn, hbn⟩ : ∃ z, z = L.length := ⟨_, rfl⟩
              have HBN := Lib.hid hbn
              have HLI := Lib.hid (list_any (UR.of_own HO.out.cb) (by have := HLL.out; omega))
              rw [← hbn] at HO HLI
              have HGE := Lib.hid (show w.heap.size + 4 ≤ wq.heap.size from HO.out.x.lt)
              have z0 : wq.cell? ⟨G + 1 + 1, 1, none⟩ = some (.slice ba bn bc) := by rw [HG.out]; exact HO.out.n.cell 1
              clear hbn
              go_wp2_with fail
              refine HLI.out.mono ?_
              clear HLI z0
              rintro e w2 ⟨lv, rfl, hlv, hb2⟩
              have HLV := Lib.hid (own_base hlv HGE.out)
              have HO2 := Lib.hid (HO.out.on hb2)
              obtain ⟨la, lc, hls, _⟩ := own_shape hlv
              subst hls
              have HRW : Hid (RA w2 (w.heap.size + 4) (.slice la L.length lc) L) := Lib.hid HLV.out
              rw [← HBN.out]
              clear hlv hb2
              have hbn10 : bn ≤ 10 := by have := HBN.out; have := HLL.out; omega
              go_wp2_with fail
              go_loopw [85] (fun i wr => ∃ (j : Nat) (bv' : Value), j ≤ bn ∧ i = .int .i64 j ∧ O4 w kv (.slice ba bn bc) kv' bv' C C L (L.take j) wr ∧ RA wr (w.heap.size + 4) (.slice la L.length lc) L) (fun i _ => bn - (intOf i).toNat)
              case atStart => exact ⟨0, _, Nat.zero_le _, rfl, HO2.out, HRW.out⟩
              case round =>
                obtain ⟨j3, bv', hj3, rfl, ho4, hb3⟩ := hrel
                rename World => wz
                have HO := Lib.hid ho4
                have HBZ := Lib.hid hb3
                clear ho4 hb3
                by_cases hlt : j3 < bn
                · have hji : (j3 : Int) < (bn : Int) := by omega
                  have hj0 : 0 ≤ (j3 : Int) := by omega
                  have hjl : j3 < L.length := by rw [← HBN.out]; exact hlt
                  obtain ⟨g2, off2, hg2⟩ : ∃ g off, la = some ⟨g, off, none⟩ := by
                    obtain ⟨g', off', e, _⟩ := UR.at_ (UR.of_own HBZ.out) (by omega)
                    exact ⟨g', off', e⟩
                  subst hg2
                  obtain ⟨c0, c1, c2, c3⟩ := ur_cells (UR.of_own HBZ.out) j3 hjl
                  have HLT := Lib.hid hlt
                  have hst : L.take (j3 + 1) = L.take j3 ++ [L[j3]] := List.take_succ_eq_append_getElem hjl
                  have htl : (L.take j3).length ≤ 10 := by rw [List.length_take]; have := HLL.out; omega
                  obtain ⟨y, hy⟩ : ∃ u, u = L[j3] := ⟨_, rfl⟩
                  rw [← hy] at c0 c1 c2 c3 hst
                  have HST := Lib.hid hst
                  obtain ⟨Lj, hLj⟩ : ∃ z, z = L.take j3 := ⟨_, rfl⟩
                  rw [← hLj] at HO HST htl
                  have HTL := Lib.hid htl
                  obtain ⟨ma, mc, hmv, _⟩ := own_shape HO.out.db
                  subst hmv
                  obtain ⟨jn, hjn⟩ : ∃ z, z = Lj.length := ⟨_, rfl⟩
                  have HJN := Lib.hid hjn
                  rw [← hjn] at HTL
                  obtain ⟨w3, hw3⟩ : ∃ z, z = wz.alloc (.cells #[.int .u8 y.kind, .string (Lend.strOf y.key), .string (Lend.strOf y.val), .int .u64 y.delta] 70) := ⟨_, rfl⟩
                  have hb3 : Below wz.heap.size wz w3 := by rw [hw3]; exact below_new _ _
                  have HX3 := Lib.hid (show Has w3 wz.heap.size 70 (encU y) by rw [hw3]; exact Has.new wz _ _)
                  have HO3 := Lib.hid (HO.out.on hb3)
                  have HB3 := Lib.hid (own_bel HBZ.out hb3)
                  have HDB := Lib.hid (show w3.ownsRow (w.heap.size + 4) 78 4 (.slice ma jn mc) jn (flatU Lj) by rw [hjn]; exact HO3.out.db)
                  clear hst htl hy hLj hjn hb3
                  go_upto_region 18 with fail
                  rw [← hw3]
                  clear hw3 c0 c1 c2 c3
                  have y0 : w3.cell? ⟨wz.heap.size, 0, none⟩ = some (.int .u8 y.kind) := HX3.out.cell 0
                  have y1 : w3.cell? ⟨wz.heap.size, 1, none⟩ = some (.string (Lend.strOf y.key)) := HX3.out.cell 1
                  have y2 : w3.cell? ⟨wz.heap.size, 2, none⟩ = some (.string (Lend.strOf y.val)) := HX3.out.cell 2
                  have y3 : w3.cell? ⟨wz.heap.size, 3, none⟩ = some (.int .u64 y.delta) := HX3.out.cell 3
                  have z0 : w3.cell? ⟨G + 1 + 1 + 1, 1, none⟩ = some (.slice ma jn mc) := by rw [HJN.out, HG.out]; exact HO3.out.x.cell 1
                  obtain ⟨i0, hi, hz0, hz1, hz2⟩ := info_parts info_ur
                  have HNW := Lib.hid (has_news (Has.new w3 (encU y) 78))
                  go_wp2_with (at_builtin; refine wpList_append_own _ rfl _ _ 33 rfl (w.heap.size + 4) 78 i0 _ 4 48 Try.underlying33 hi hz0 hz1 hz2 rfl (by decide) _ jn (flatU Lj) rfl (HDB.out.alloc _) ⟨w3.heap.size, 0, none⟩ 1 1 (encU y) rfl rfl HNW.out (enc_one y) ?c1 ?c2 ?c3 ?_)
                  case c1 => unfold maxLen; have := HTL.out; omega
                  case c2 => have := HTL.out; omega
                  case c3 => exact Nat.le_trans (show w.heap.size + 4 ≤ w3.heap.size from HO3.out.x.lt) (by simp)
                  intro v6 w6 hown6 hgr6 _
                  have HO6 := Lib.hid (HO3.out.on (below_new w3 (.cells #[.int .u8 y.kind, .string (Lend.strOf y.key), .string (Lend.strOf y.val), .int .u64 y.delta] 78)))
                  have hdk : RU w6 (w.heap.size + 4) v6 (L.take (j3 + 1)) := by
                    rw [HST.out]
                    unfold RU
                    rw [flatU_snoc, List.length_append, ← HJN.out]
                    exact hown6
                  have HB4 := Lib.hid (own_bel HB3.out (below_new w3 (.cells #[.int .u8 y.kind, .string (Lend.strOf y.key), .string (Lend.strOf y.val), .int .u64 y.delta] 78)))
                  rw [HJN.out] at hgr6
                  have HO7 := Lib.hid (HO6.out.setM hdk hgr6)
                  have HB7 := Lib.hid (row_st1 (p := w.heap.size + 3) (i := 1) (row_grown tn6 HO6.out.db HB4.out hgr6) (by omega) v6)
                  have z5 : w6.cell? ⟨G + 1 + 1 + 1, 1, none⟩ = some (.slice ma jn mc) := by rw [HJN.out, HG.out]; exact (hk_grown HO6.out.x hgr6 (fun k e => (HO6.out.db.lt k e).1) (by omega)).cell 1
                  have z6 : w6.frozen? ⟨G + 1 + 1 + 1, 1, none⟩ = false := by rw [HG.out]; exact (hk_grown HO6.out.x hgr6 (fun k e => (HO6.out.db.lt k e).1) (by omega)).frozen 1
                  obtain ⟨ua, uc, hv6, _⟩ := own_shape hdk
                  subst hv6
                  clear hdk hgr6 hown6 y0 y1 y2 y3 z0 hi hz0 hz1 hz2
                  obtain ⟨Lk, hLk⟩ : ∃ z, z = L.take (j3 + 1) := ⟨_, rfl⟩
                  have HLK := Lib.hid hLk
                  rw [← hLk] at HO7 HB7 ⊢
                  clear hLk
                  obtain ⟨w7, hw7⟩ : ∃ z, z = w6.setCell ⟨w.heap.size + 3, 1, none⟩ (.slice ua Lk.length uc) := ⟨_, rfl⟩
                  rw [← hw7] at HO7 HB7
                  have hw7' : w7 = w6.setCell ⟨G + 1 + 1 + 1, 1, none⟩ (.slice ua Lk.length uc) := by rw [hw7, HG.out]
                  clear hw7
                  go_wp2_with fail
                  rw [← hw7']
                  clear hw7'
                  go_roundw
                  case rel => exact ⟨j3 + 1, _, HLT.out, by go_num, by have h := HO7.out; rw [HLK.out] at h; exact h, HB7.out⟩
                  case measure => simp [intOf]; have := HLT.out; omega
                · obtain rfl : j3 = bn := by omega
                  have hji : ¬ ((j3 : Int) < (j3 : Int)) := by omega
                  have htk : L.take j3 = L := List.take_of_length_le (by rw [← HBN.out]; exact Nat.le_refl _)
                  rw [htk] at HO
                  obtain ⟨ka, kc, hkv, _⟩ := own_shape HO.out.ck
                  subst hkv
                  obtain ⟨da, dc, hdv, _⟩ := own_shape HO.out.dk
                  subst hdv
                  obtain ⟨ma, mc, hmv, _⟩ := own_shape HO.out.db
                  subst hmv
                  rw [← HBN.out] at HO
                  obtain ⟨cn, hcn⟩ : ∃ z, z = C.length := ⟨_, rfl⟩
                  have HCN := Lib.hid hcn
                  rw [← hcn] at HO
                  clear hcn
                  have n0 : wz.cell? ⟨G + 1 + 1, 0, none⟩ = some (.slice ka cn kc) := by rw [HG.out]; exact HO.out.n.cell 0
                  have n1 : wz.cell? ⟨G + 1 + 1, 1, none⟩ = some (.slice ba j3 bc) := by rw [HG.out]; exact HO.out.n.cell 1
                  have m0 : wz.cell? ⟨G + 1 + 1 + 1, 0, none⟩ = some (.slice da cn dc) := by rw [HG.out]; exact HO.out.x.cell 0
                  have m1 : wz.cell? ⟨G + 1 + 1 + 1, 1, none⟩ = some (.slice ma j3 mc) := by rw [HG.out]; exact HO.out.x.cell 1
                  have r0 : wz.cell? ⟨G, 0, none⟩ = some (.slice none 0 0) := by rw [HG.out]; exact HO.out.r.cell 0
                  have r1 : wz.cell? ⟨G, 1, none⟩ = some (.slice none 0 0) := by rw [HG.out]; exact HO.out.r.cell 1
                  have r2 : wz.frozen? ⟨G, 0, none⟩ = false := by rw [HG.out]; exact HO.out.r.frozen 0
                  have r3 : wz.frozen? ⟨G, 1, none⟩ = false := by rw [HG.out]; exact HO.out.r.frozen 1
                  have s0 : wz.cell? ⟨G + 1, 0, none⟩ = some (.slice none 0 0) := by rw [HG.out]; exact HO.out.z.cell 0
                  have s1 : wz.cell? ⟨G + 1, 1, none⟩ = some (.slice none 0 0) := by rw [HG.out]; exact HO.out.z.cell 1
                  have s2 : wz.frozen? ⟨G + 1, 0, none⟩ = false := by rw [HG.out]; exact HO.out.z.frozen 0
                  have s3 : wz.frozen? ⟨G + 1, 1, none⟩ = false := by rw [HG.out]; exact HO.out.z.frozen 1
                  go_upto_region 20 with fail
                  go_region
                  go_wp2_with fail
                  have hst : ∀ {B s k : Nat} {T : TypeId} {v : Value} {xs : List Value}, wz.ownsRow B T s v k xs → G + 1 < B → ((((wz.setCell ⟨G, 0, none⟩ (.slice ka cn kc)).setCell ⟨G, 1, none⟩ (.slice ba j3 bc)).setCell ⟨G + 1, 0, none⟩ (.slice da cn dc)).setCell ⟨G + 1, 1, none⟩ (.slice ma j3 mc)).drew.ownsRow B T s v k xs :=
                    fun h hB => row_st1 (row_st1 (row_st1 (row_st1 h (by omega) _) (by omega) _) (by omega) _) (by omega) _
                  have hbe := HO.out.bel
                  have hgg := HG.out
                  refine bodyPost_ret (v := .tuple #[.agg #[.slice ka cn kc, .slice ba j3 bc], .agg #[.slice da cn dc, .slice ma j3 mc]]) (by simp [results, Try.results8, go_sem, r0, r1, r2, r3, s0, s1, s2, s3]) rfl ⟨_, _, _, _, rfl, ?_, ?_, ?_, ?_, ?_⟩
                  · have h := own_base (hst HO.out.ck (by omega)) (show w.heap.size ≤ w.heap.size + 4 by omega)
                    rw [← HCC.out]; exact h
                  · have h := own_base (hst HO.out.cb (by omega)) (show w.heap.size ≤ w.heap.size + 4 by omega)
                    rw [← HLC.out]; exact h
                  · have h := own_base (hst HO.out.dk (by omega)) (show w.heap.size ≤ w.heap.size + 4 by omega)
                    rw [← HCC.out]; exact h
                  · have h := own_base (hst HO.out.db (by omega)) (show w.heap.size ≤ w.heap.size + 4 by omega)
                    rw [← HLC.out]; exact h
                  · exact ((((hbe.setCell (by show w.heap.size ≤ G; omega) _).setCell (by show w.heap.size ≤ G; omega) _).setCell (by show w.heap.size ≤ G + 1; omega) _).setCell (by show w.heap.size ≤ G + 1; omega) _).drew
end Go.Proofs.Ytfclecbhfamomaa.Node
