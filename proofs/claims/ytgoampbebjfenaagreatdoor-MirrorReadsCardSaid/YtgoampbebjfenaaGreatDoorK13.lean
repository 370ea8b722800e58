/- Layers' contracts, bundled: MirM, MirBad, MirSort, MirBadN, MirH, MirR, MirX, Structs, Texts. -/
import Derived.Test.YtgoampbebjfenaaGreatDoorK12
import Derived.Maps.Views
import Derived.Maps.OwnSet
import Derived.Maps.RangeWalk
import Derived.Maps.StringElems
import Derived.RangeFuncBox
import Derived.RangeFuncNested
import Derived.RangeFuncBound
import Derived.RangeFuncCalls
import Derived.RangeFuncLeaves
import Derived.Shelf.Abstract
import Derived.Shelf.RegionOpen
import Derived.WalkKit
import Derived.OwnWalkIn
import Derived.TacticsInMore
import Derived.LoopNIn
import Derived.LoopIn
import Derived.Maps.OwnIn
import Derived.Sort.MapsRangeIn
import Derived.Outline
import Derived.Test.YtgoampbebjfenaaGreatDoorK01
import Derived.Deep.Slices
import Derived.Deep.Fields
import Derived.ChangeSame
/- Layer 8's laws: what is known of blocks, in maps. -/
namespace Go.Proofs.YtgoampbebjfenaaGreatDoor.Mir
open Go Go.RowKit Go.Proofs.YtgoampbebjfenaaGreatDoor Dev Tab Rem Go.Maps Go.WideMaps
set_option linter.unusedVariables false

section
variable {w w' : World} {P : Program} {k : TypeId} {R : Value → Option (DataW Unit × List MemPlace)} {b r n cnt : Nat} {D : DataW Unit} {left : Lit → Bool} {X : List Nat}
theorem owns_same8 (h : w.ownsMap P k R b n D) (hk : w'.heap[b]? = w.heap[b]?) : w'.ownsMap P k R b n D := by
  obtain ⟨es, clock, hb, F, hs, hD⟩ := h
  exact ⟨es, clock, hk.trans hb, F, hs, hD⟩
theorem owns_lt8 (h : w.ownsMap P k R b n D) : b < w.heap.size := by
  obtain ⟨es, clock, hb, _⟩ := h
  exact (Array.getElem?_eq_some_iff.1 hb).1
theorem owns_on8 (h : w.ownsMap P k R b n D) (hb : Below w.heap.size w w') : w'.ownsMap P k R b n D := owns_same8 h (hb.block _ (owns_lt8 h))
theorem owns_keep8 (h : w.ownsMap P k R b n D) (hs : Same X w w') (hx : b ∈ X) : w'.ownsMap P k R b n D := owns_same8 h (hs b hx)
theorem ranges_same8 (h : w.ranges P k R b r n D left cnt) (hb : w'.heap[b]? = w.heap[b]?) (hr : w'.heap[r]? = w.heap[r]?) : w'.ranges P k R b r n D left cnt := by
  obtain ⟨es, clock, since, seen, c0, h1, h2, h3, h4, h5, h6⟩ := h
  exact ⟨es, clock, since, seen, c0, hb.trans h1, h2, h3, h4, hr.trans h5, h6⟩
theorem ranges_keep8 (h : w.ranges P k R b r n D left cnt) (hs : Same X w w') (hb : b ∈ X) (hr : r ∈ X) : w'.ranges P k R b r n D left cnt := ranges_same8 h (hs b hb) (hs r hr)
theorem ranges_on8 (h : w.ranges P k R b r n D left cnt) (hb : Below w.heap.size w w') : w'.ranges P k R b r n D left cnt := ranges_same8 h (hb.block _ (owns_lt8 h.owns)) (hb.block _ h.lt)
theorem below_grown (hg : w.grownBy w' none) : Below w.heap.size w w' := ⟨hg.os, hg.tape, hg.output, hg.size, fun k hk => hg.block k hk (by simp)⟩
end
theorem run_minM (w : World) (a c : Nat) : ∀ W ts, (Builtin.min_ ts 3 #[.int .i64 (a : Nat), .int .i64 (c : Nat)]).run Tryz.prog W = .ok (.int .i64 ((min a c : Nat) : Int)) W := fun W ts => run_minC _ _ _ _ a c
/-! ### what is known of a block, as a map's element -/
def PV (a g k : Int) : DataW Unit := .agg [.lit (.int .i64 a), .lit (.int .u64 g), .lit (.int .u32 k)]
def ptrL : List Value → Option (DataW Unit × List MemPlace)
  | [.int .i64 a, .int .u64 g, .int .u32 k] => some (PV a g k, [])
  | _ => none
def ptrRd : Value → Option (DataW Unit × List MemPlace)
  | .agg cs => ptrL cs.toList
  | _ => none
def ptrMk (c : Int × Int × Int) : Value := ptrV c.1 c.2.1 c.2.2
theorem ptrL_inv (l : List Value) (y : DataW Unit × List MemPlace) (h : ptrL l = some y) : ∃ a g k : Int, l = [.int .i64 a, .int .u64 g, .int .u32 k] := by
  unfold ptrL at h
  split at h
  · exact ⟨_, _, _, rfl⟩
  · cases h
theorem ptrRd_inv (v : Value) (y : DataW Unit × List MemPlace) (h : ptrRd v = some y) : ∃ c : Int × Int × Int, v = ptrMk c := by
  cases v with
  | agg cs =>
    obtain ⟨a, g, k, e⟩ := ptrL_inv cs.toList y h
    refine ⟨(a, g, k), ?_⟩
    show Value.agg cs = .agg #[.int .i64 a, .int .u64 g, .int .u32 k]
    rw [show cs = #[.int .i64 a, .int .u64 g, .int .u32 k] from Array.toList_inj.1 e]
  | _ => cases h
theorem ptrRd_mk (a g k : Int) : ptrRd (ptrV a g k) = some (PV a g k, []) := rfl
theorem PV_inj {a g k a' g' k' : Int} (h : PV a g k = PV a' g' k') : a = a' ∧ g = g' ∧ k = k' := by
  unfold PV at h
  injection h with h
  simp at h
  exact h
theorem keyI : Keyed Tryz.prog 3 := int_keyed Tryz.underlying3
theorem key_i {b : Nat} (hb : b < 1000000) : keyOf Tryz.prog 3 (.int .i64 (b : Nat)) = some (.int .i64 (b : Nat)) := keyOf_int_mk Tryz.underlying3 (wf_i64 hb)
/-- each block that is known has its image on each side that isn't gone -/
structure Kn (F : Lit → ByteArray → Prop) (S : Nat → Sd) (G : Nat → Bool) (N : Nat) (D : DataW Unit) : Prop where
  map : IsMap D
  at_ : ∀ z, Maps.has D z = true → ∃ (b g : Nat) (t : ByteArray), b < 14 ∧ g < N ∧ z = .int .i64 (b : Nat) ∧ F z t ∧ t.size ≤ 104 ∧ (∀ zd, D.atKey z zd = PV b g (ckT b g t)) ∧ ∀ s, s < 2 → G s = false → cont S G s b = some (imT b g t)
section
variable {F F' : Lit → ByteArray → Prop} {S S' : Nat → Sd} {G G' : Nat → Bool} {N N' : Nat} {D : DataW Unit} {b : Nat} {t d : ByteArray} {P : Nat → Prop}
theorem Kn.start : Kn F S G N (.map []) := ⟨isMap_empty, fun z h => by cases h⟩
theorem Kn.go (h : Kn F S G N D) (hN : N ≤ N') (hS : ∀ s b, s < 2 → b < 14 → G' s = false → G s = false ∧ cont S' G' s b = cont S G s b) : Kn F S' G' N' D :=
  ⟨h.map, fun z hz => by
    obtain ⟨b, g, t, h1, h2, h3, h4, h5, h6, h7⟩ := h.at_ z hz
    exact ⟨b, g, t, h1, by omega, h3, h4, h5, h6, fun s hs hG => (hS s b hs h1 hG).2.trans (h7 s hs (hS s b hs h1 hG).1)⟩⟩
/-- nothing was written -/
theorem St.idle (h : St S S' G b d P) (hP : ∀ s, s < 2 → ¬ P s) {s b' : Nat} (hs : s < 2) (hb : b' < 14) : cont S' G s b' = cont S G s b' := by
  by_cases e : b' = b
  · subst e; exact h.kept hs (hP s hs)
  · exact h.far s hs b' hb e
theorem Kn.idle (h : Kn F S G N D) (k : St S S' G b d P) (hP : ∀ s, s < 2 → ¬ P s) : Kn F S' G N D := h.go (Nat.le_refl _) fun s b hs hb hG => ⟨hG, k.idle hP hs hb⟩
theorem Kn.wrote (h : Kn F S G N D) (hn : NoBad S) (hg : GoodS S) (hb : b < 14) (ht : t.size ≤ 104) (k : St S S' G b (imT b N t) (fun u => u ∈ al G)) (hF : F' (.int .i64 (b : Nat)) t) (hFF : ∀ z u, z ≠ .int .i64 (b : Nat) → F z u → F' z u) : Kn F' S' G (N + 1) (D.put (.int .i64 (b : Nat)) (PV b N (ckT b N t))) := by
  refine ⟨h.map.put _ _, fun z hz => ?_⟩
  by_cases e : z = .int .i64 (b : Nat)
  · subst e
    exact ⟨b, N, t, hb, by omega, rfl, hF, ht, fun zd => atKey_put_same h.map (show WideAt.IsKeyLit (.int .i64 (b : Nat)) from trivial) _ _, fun s hs hG => k.got hn hg hs hb (al_mem.2 ⟨hs, hG⟩) hG⟩
  · rw [has_put_other e] at hz
    obtain ⟨b', g, t', h1, h2, h3, h4, h5, h6, h7⟩ := h.at_ z hz
    have hne : b' ≠ b := fun e2 => e (by rw [h3, e2])
    exact ⟨b', g, t', h1, by omega, h3, hFF z t' e h4, h5, fun zd => by rw [atKey_put_other e]; exact h6 zd, fun s hs hG => (k.far s hs b' h1 hne).trans (h7 s hs hG)⟩
/-- all that are there have it: the first one is found, and nothing is written anew -/
theorem fnd_all {g K : Int} {T : ByteArray} (hal : al G ≠ []) (hc : ∀ s, s < 2 → G s = false → cont S G s b = some T) (hw : wh (some T) (b : Int) g K = true) : ∃ s, fnd S G b g K = some s ∧ cont S G s b = some T ∧ rdN S G s b = 0 ∧ ∀ u, ¬ rdP G s u := by
  cases h0 : G 0 with
  | false =>
    refine ⟨0, ?_, hc 0 (by omega) h0, by unfold rdN; rw [if_neg (by omega)], fun u hu => by have := hu.2.1; omega⟩
    unfold fnd
    have : al G = 0 :: ([1].filter fun s => !G s) := by unfold al; simp [List.filter_cons, h0]
    rw [this, List.find?_cons, hc 0 (by omega) h0, hw]
  | true =>
    cases h1 : G 1 with
    | true => exact absurd (by unfold al; simp [h0, h1]) hal
    | false =>
      refine ⟨1, ?_, hc 1 (by omega) h1, by unfold rdN; rw [if_neg (by rw [h0]; simp)], fun u hu => by have := hu.2.2; rw [h0] at this; cases this⟩
      unfold fnd
      have : al G = [1] := by unfold al; simp [h0, h1]
      rw [this, List.find?_cons, hc 1 (by omega) h1, hw]
theorem sum_zeros : ∀ l : List Nat, (l.map fun _ => 0).sum = 0
  | [] => rfl
  | _ :: l => by rw [List.map_cons, List.sum_cons, sum_zeros l]
theorem hSum_zero (hc : ∀ s, s < 2 → G s = false → cont S G s b = some d) : hSum S G b d (al G) = 0 := by
  unfold hSum
  have : (al G).map (fun s => hlN S G s b d) = (al G).map (fun _ => 0) := List.map_congr_left fun s hs => by
    obtain ⟨h1, h2⟩ := al_mem.1 hs
    unfold hlN; rw [if_pos (hc s h1 h2)]
  rw [this]
  exact sum_zeros _
set_option maxRecDepth 100000 in
theorem Kn.entry {kl : Lit} {kx : Value} {c1 : Int × Int × Int} {y : DataW Unit × List MemPlace} (h : Kn F S G N D) (hh : Maps.has D kl = true) (hx : keyOf Tryz.prog 3 kx = some kl) (hR : ptrRd (ptrMk c1) = some y) (hat : ∀ zd, D.atKey kl zd = y.1) :
    ∃ (b g : Nat) (t : ByteArray), b < 14 ∧ g < N ∧ kl = .int .i64 (b : Nat) ∧ kx = .int .i64 (b : Nat) ∧ F kl t ∧ t.size ≤ 104 ∧ ptrMk c1 = ptrV (b : Nat) (g : Nat) (ckT b g t) ∧ ∀ s, s < 2 → G s = false → cont S G s b = some (imT b g t) := by
  obtain ⟨b, g, t, h1, h2, h3, h4, h5, h6, h7⟩ := h.at_ kl hh
  refine ⟨b, g, t, h1, h2, h3, ?_, h4, h5, ?_, h7⟩
  · exact keyI.inj hx (by rw [h3]; exact key_i (by omega))
  · have e1 : y.1 = PV b g (ckT b g t) := by rw [← hat (.lit (.bool true))]; exact h6 _
    have e2 : ptrRd (ptrMk c1) = some (PV c1.1 c1.2.1 c1.2.2, []) := rfl
    rw [e2] at hR
    have hR2 := Option.some.inj hR
    rw [← hR2] at e1
    obtain ⟨q1, q2, q3⟩ := PV_inj e1
    unfold ptrMk; rw [q1, q2, q3]
section
variable {w w' : World} {Pr : Program} {k : TypeId} {R : Value → Option (DataW Unit × List MemPlace)} {mb r n cnt u : Nat} {left : Lit → Bool} {ty : TypeId} {cs : List Value}
theorem owns_ne_has (h : w.ownsMap Pr k R mb n D) (hh : Has w u ty cs) : u ≠ mb := fun e => by
  obtain ⟨es, clock, hb, _⟩ := h
  unfold Has at hh
  rw [e, hb] at hh; cases hh
theorem owns_ne_tab (h : w.ownsMap Pr k R mb n D) (hh : Sum.IsTab w u) : u ≠ mb := fun e => by
  obtain ⟨es, clock, hb, _⟩ := h
  have := hh 0 (by omega)
  unfold World.cell? at this
  rw [e, hb] at this; cases this
theorem ranges_ne_has (h : w.ranges Pr k R mb r n D left cnt) (hh : Has w u ty cs) : u ≠ r := fun e => by
  obtain ⟨es, clock, since, seen, c0, h1, h2, h3, h4, h5, h6⟩ := h
  unfold Has at hh
  rw [e, h5] at hh; cases hh
theorem ranges_ne_tab (h : w.ranges Pr k R mb r n D left cnt) (hh : Sum.IsTab w u) : u ≠ r := fun e => by
  obtain ⟨es, clock, since, seen, c0, h1, h2, h3, h4, h5, h6⟩ := h
  have := hh 0 (by omega)
  unfold World.cell? at this
  rw [e, h5] at this; cases this
theorem has_row {row : Option Nat} (hh : Has w u ty cs) (hg : w.grownBy w' row) (hn : some u ≠ row) : Has w' u ty cs := hh.same (hg.block u hh.lt hn)
theorem tab_row {row : Option Nat} (hh : Sum.IsTab w u) (hg : w.grownBy w' row) (hn : some u ≠ row) : Sum.IsTab w' u := Mir.tab_same hh (hg.block u (isTab_lt hh) hn)
end
end
end Go.Proofs.YtgoampbebjfenaaGreatDoor.Mir

/- Layer 8 (mirror): Bad, where no place is. -/
namespace Go.Proofs.YtgoampbebjfenaaGreatDoor.Mir
open Go Go.RowKit Go.Shelf Go.Proofs.YtgoampbebjfenaaGreatDoor Dev Tab Rem Go.Maps Go.WideMaps
set_option linter.unusedVariables false
attribute [local go_sem] Oper.semAt_some

set_option maxRecDepth 100000 in
set_option maxHeartbeats 2000000 in
theorem keys0_in (F : Fence) (d : Nat) (h7 : F.fn 82) (hro : F.round = none) (l Bs bb n : Nat) (D : DataW Unit) (J : List Empty → World → Prop) (W : World) (hJ : AbidesFrom W.heap.size J)
    (hBs : W.cell? ⟨Bs, 0, none⟩ = some (.map (some bb))) (hm : MapB W bb n D) (he : ∀ z, Maps.has D z = false) (h0 : J [] W) :
    CallsIn F d Tryz.prog 82 #[.func (.yield l) #[] #[], .pointer (some ⟨Bs, 0, none⟩)] W fun e W' => (∃ v, e = .returned v) ∧ J [] W' := by
  refine callsIn_of_wp Tryz.func82 rfl h7 ?_ hro
  simp only [Tryz.ntmps82, List.size_toArray, List.length_cons, List.length_nil, Nat.reduceAdd, Nat.reduceSub, Array.replicate_succ, Array.replicate_zero, List.push_toArray, List.append_toArray, List.nil_append, List.cons_append]
  gi_wp2_with (first
    | (gi_at_range; refine wpListIn_range_own _ rfl _ 82 rfl 123 127 keyedP Tryz.underlying82 _ bb n _ rfl hm ?_; intro w0 hrg0 hg0 hs0)
    | gi_in)
  go_frame
  gi_loopw [3] (fun _ wr => wr.ranges Tryz.prog 123 badR bb W.heap.size n D (Maps.has D) (Maps.size D) ∧ J [] wr) (fun _ wr => 0)
  case atStart => exact ⟨hrg0, hJ [] W w0 none h0 hg0 (fun r e => by cases e)⟩
  case round =>
    obtain ⟨hrg, hJs⟩ := hrel
    gi_wp2_with (first
      | (gi_at_next; refine wpListIn_next_ranges _ rfl _ rfl 123 keyedP badR (fun x : Value => x) (fun x : Value => x) (fun key kl hk => ⟨key, rfl⟩) (fun v _ _ => ⟨v, rfl⟩) bb W.heap.size n _ _ _ rfl hrg ?_ ?_)
      | gi_in)
    intro hc0
    clear hc0
    gi_wp2
    go_end0
    exact ⟨⟨_, rfl⟩, hJs⟩
theorem keys_stops0 (F : Fence) (d : Nat) (h7 : F.fn 82) (hro : F.round = none) (Bs bb n : Nat) (D : DataW Unit) (w : World) (hBs : Bs < w.heap.size) (hc : w.cell? ⟨Bs, 0, none⟩ = some (.map (some bb))) (hm : MapB w bb n D) (he : ∀ z, Maps.has D z = false) :
    SeqStopsK (α := Empty) F d Tryz.prog 82 #[.pointer (some ⟨Bs, 0, none⟩)] (fun x => x.elim) (fun _ _ => True) (fun _ => True) (fun _ => False) 0 w := fun l J Jx W hW hJ _ _ h0 =>
  (keys0_in F d h7 hro l Bs bb n D J W hJ ((hW.cell (p := ⟨Bs, 0, none⟩) hBs).trans hc) (mapB_same hm (hW.block bb (mapB_lt hm))) he h0).mono fun _ _ ⟨h1, h2⟩ => ⟨h1, .inl ⟨[], trivial, h2⟩⟩
set_option maxRecDepth 100000 in
set_option maxHeartbeats 4000000 in
theorem appendSeq0 (Bs bb n : Nat) (D : DataW Unit) (w : World) (hBs : Bs < w.heap.size) (hc : w.cell? ⟨Bs, 0, none⟩ = some (.map (some bb))) (hm : MapB w bb n D) (he : ∀ z, Maps.has D z = false) :
    Calls Tryz.prog 101 #[.slice none 0 0, .func (.func 82) #[] #[.pointer (some ⟨Bs, 0, none⟩)]] w fun e w' => e = .returned (.slice none 0 0) ∧ Below w.heap.size w w' := by
  refine (callsIn_wide (n := 6)).1 ?_
  obtain ⟨F, hF⟩ : ∃ F, F = Fence.wide := ⟨_, rfl⟩
  obtain ⟨d, hd6⟩ : ∃ d, d = 6 := ⟨_, rfl⟩
  rw [← hF, ← hd6]
  have h1 : F.fn 101 := by rw [hF]; trivial
  have h3 : F.fn 82 := by rw [hF]; trivial
  have hro : F.round = none := by rw [hF]; rfl
  have hd1 : 1 ≤ d := by omega
  clear hF hd6
  have hbx := Boxed.new w 54 (.slice none 0 0)
  have hst := keys_stops0 F (d - 1) h3 hro Bs bb n D (w.alloc (.cells #[.slice none 0 0] 54)) (by simp; omega) (by rw [(Tab.b_new w _).cell (p := ⟨Bs, 0, none⟩) hBs]; exact hc) (mapB_same hm (Below.heap_alloc _ _ _ (mapB_lt hm))) he
  refine callsIn_of_wp_marks Tryz.func101 rfl h1 ?_ hro
  simp only [Tryz.ntmps101, List.size_toArray, List.length_cons, List.length_nil, Nat.reduceAdd, Nat.reduceSub, Array.replicate_succ, Array.replicate_zero, List.push_toArray, List.append_toArray, List.nil_append, List.cons_append]
  gi_wp2
  have hB0 := Tab.b_new w (.cells #[.slice none 0 0] 54)
  have hsz : (w.alloc (.cells #[.slice none 0 0] 54)).heap.size = w.heap.size + 1 := by simp
  obtain ⟨W0, hW0⟩ : ∃ W0, W0 = w.alloc (.cells #[.slice none 0 0] 54) := ⟨_, rfl⟩
  rw [← hW0] at hbx hst hB0 hsz ⊢
  clear hW0
  refine wpIn_rangeFunc_ownH hro hd1 (gf := 82) (lb := #[.pointer (some ⟨Bs, 0, none⟩)]) rfl h3 (enters_of Tryz.func82 (by kernel_rfl) rfl)
    hst (fun _ _ => trivial) (fun _ _ _ _ _ _ _ _ => trivial) (Below.refl _ _) (fun x => x.elim)
    (fun _ W => Below W0.heap.size W0 W) (fun _ _ W => Below W0.heap.size W0 W) (ownFrom_below (Nat.le_refl _) (Nat.le_refl _)) (fun _ => ownFrom_below (Nat.le_refl _) (Nat.le_refl _)) (Below.refl _ _)
    (fun _ _ _ => True) (fun x _ => x.elim) (fun _ _ x => x.elim) (fun _ _ x => x.elim) ?done (fun _ _ _ _ _ h => h.elim)
  case done =>
    rintro Dd ys W hD - hb hK
    have hx : W.cell? ⟨w.heap.size, 0, none⟩ = some (.slice none 0 0) := (Boxed.cell (show Boxed W w.heap.size _ _ from (hb.block w.heap.size (by omega)).trans hbx))
    gi_wp2
    have hB := hB0.trans (hb.mono (by omega))
    refine ⟨by simp, .inl ⟨_, _, rfl, run_takeDeferred hK, ?_⟩⟩
    refine ⟨.slice none 0 0, ?_, rfl, hB.trans (belowK_b (w := w) (Nat.le_refl _) W Dd _ _ (by omega) hK rfl rfl)⟩
    simp [results, Tryz.f101, go_sem]
theorem collect0 (Bs bb n : Nat) (D : DataW Unit) (w : World) (hBs : Bs < w.heap.size) (hc : w.cell? ⟨Bs, 0, none⟩ = some (.map (some bb))) (hm : MapB w bb n D) (he : ∀ z, Maps.has D z = false) :
    Calls Tryz.prog 80 #[.func (.func 82) #[] #[.pointer (some ⟨Bs, 0, none⟩)]] w fun e w' => e = .returned (.slice none 0 0) ∧ Below w.heap.size w w' := by
  have H := Lib.hid (appendSeq0 Bs bb n D w hBs hc hm he)
  clear hBs hc hm he
  go_enter Tryz.func80, Tryz.ntmps80
  go_wp2_with fail
  refine H.out.mono ?_
  rintro e w1 ⟨rfl, hb⟩
  have HB := Lib.hid hb
  clear hb
  go_wp2
  go_ret
  exact ⟨rfl, HB.out⟩
set_option maxRecDepth 100000 in
theorem len0 (w : World) : Calls Tryz.prog 128 #[.int .u64 0] w fun e w' => e = .returned (.int .i64 0) ∧ w = w' := by
  go_enter Tryz.func128, Tryz.ntmps128
  go_wp2
  go_ret
  exact ⟨by kernel_rfl, rfl⟩
theorem lenU0 (w : World) : Calls Tryz.prog 103 #[.int .u64 0] w fun e w' => e = .returned (.int .i64 0) ∧ w = w' := by
  go_enter Tryz.func103, Tryz.ntmps103
  go_wp2_with fail
  refine (len0 _).mono ?_
  rintro e w' ⟨rfl, rfl⟩
  go_wp2
  go_ret
  exact ⟨rfl, rfl⟩
theorem ins0 (v : Value) (w : World) : Calls Tryz.prog 119 #[.slice none 0 0, .int .i64 0, .int .i64 0, v] w fun e w' => e = .returned (.tuple #[]) ∧ w = w' := by
  go_enter Tryz.func119, Tryz.ntmps119
  go_wp2_with fail
  go_loopw [8] (fun i wr => i = .int .i64 1 ∧ wr = w) (fun _ _ => 0)
  case atStart => exact ⟨rfl, rfl⟩
  case round =>
    obtain ⟨rfl, rfl⟩ := hrel
    go_wp2
    go_end0
    exact ⟨rfl, rfl⟩
theorem pdq0 (v : Value) (w : World) : Calls Tryz.prog 102 #[.slice none 0 0, .int .i64 0, .int .i64 0, .int .i64 0, v] w fun e w' => e = .returned (.tuple #[]) ∧ w = w' := by
  go_enter Tryz.func102, Tryz.ntmps102
  go_wp2_with fail
  go_loopw [1, 2] (fun i j wr => i = .int .i64 0 ∧ j = .int .i64 0 ∧ wr = w) (fun _ _ _ => 0)
  case atStart => exact ⟨rfl, rfl, rfl⟩
  case round =>
    obtain ⟨rfl, rfl, rfl⟩ := hrel
    go_wp2_with fail
    refine (ins0 _ _).mono ?_
    rintro e w' ⟨rfl, rfl⟩
    go_wp2
    refine bodyPost_ret (results_none rfl _ _ _) rfl ?_
    exact ⟨rfl, rfl⟩
theorem sort0 (v : Value) (w : World) : Calls Tryz.prog 81 #[.slice none 0 0, v] w fun e w' => e = .returned (.tuple #[]) ∧ w = w' := by
  go_enter Tryz.func81, Tryz.ntmps81
  go_wp2_with fail
  refine (lenU0 _).mono ?_
  rintro e w' ⟨rfl, rfl⟩
  go_wp2_with fail
  refine (pdq0 _ _).mono ?_
  rintro e w' ⟨rfl, rfl⟩
  go_wp2
  go_end0
  exact ⟨rfl, rfl⟩
theorem sorted0 (v : Value) (Bs bb n : Nat) (D : DataW Unit) (w : World) (hBs : Bs < w.heap.size) (hc : w.cell? ⟨Bs, 0, none⟩ = some (.map (some bb))) (hm : MapB w bb n D) (he : ∀ z, Maps.has D z = false) :
    Calls Tryz.prog 48 #[.func (.func 82) #[] #[.pointer (some ⟨Bs, 0, none⟩)], v] w fun e w' => e = .returned (.slice none 0 0) ∧ Below w.heap.size w w' := by
  have H := Lib.hid (collect0 Bs bb n D w hBs hc hm he)
  clear hBs hc hm he
  go_enter Tryz.func48, Tryz.ntmps48
  go_wp2_with fail
  refine H.out.mono ?_
  rintro e w1 ⟨rfl, hb⟩
  have HB := Lib.hid hb
  clear hb
  go_wp2_with fail
  refine (sort0 _ _).mono ?_
  rintro e w' ⟨rfl, rfl⟩
  go_wp2
  go_ret
  exact ⟨rfl, HB.out⟩
theorem keysM (bb : Nat) (w : World) : Calls Tryz.prog 49 #[.map (some bb)] w fun e w' => e = .returned (.func (.func 82) #[] #[.pointer (some ⟨w.heap.size, 0, none⟩)]) ∧ w' = w.alloc (.cells #[.map (some bb)] 82) := by
  go_enter Tryz.func49, Tryz.ntmps49
  go_wp2
  go_ret
  exact ⟨rfl, rfl⟩
section
variable {w0 w : World} {Y : List Nat} {q c mm tb bb R : Nat} {pd : Nat → Nat} {S : Nat → Sd} {G : Nat → Bool}
/-- as long as there are spares on both sides, no place is bad -/
theorem Bad_0 (h : MG w0 Y mm tb bb q pd S G c R w) (hm : ∀ t, t < 2 → (S t).m.length < 6) : Calls Tryz.prog 16 #[.pointer (some ⟨mm, 0, none⟩)] w fun e w' => e = .returned (.slice none 0 0) ∧ Below w.heap.size w w' := by
  obtain ⟨n, D, hn, hmap, hbad⟩ := h.map
  have he : ∀ z, Maps.has D z = false := fun z => by
    cases hz : Maps.has D z with
    | false => rfl
    | true =>
      obtain ⟨s, b, h1, h2, h3, h4⟩ := hbad.2 z hz
      have := hm s h1; omega
  have c3 := h.c3
  have HE := Lib.hid he
  have HMP := Lib.hid (mapB_same hmap (Below.heap_alloc w (.cells #[.map (some bb)] 82) _ (mapB_lt hmap)))
  have HC := Lib.hid ((Has.new w [.map (some bb)] 82).cell 0)
  have HB0 := Lib.hid (Tab.b_new w (.cells #[.map (some bb)] 82))
  clear hn hmap hbad he h
  go_enter Tryz.func16, Tryz.ntmps16
  go_wp2_with fail
  refine (keysM bb _).mono ?_
  rintro e w1 ⟨rfl, rfl⟩
  go_wp2_with fail
  refine (sorted0 _ w.heap.size bb n D _ (by simp) HC.out HMP.out HE.out).mono ?_
  rintro e w2 ⟨rfl, hb⟩
  have HB := Lib.hid (HB0.out.trans (hb.mono HB0.out.size))
  clear hb
  go_wp2
  go_ret
  exact ⟨rfl, HB.out⟩
end
end Go.Proofs.YtgoampbebjfenaaGreatDoor.Mir

/- Layer 8 (mirror): places sorted. -/
namespace Go.Proofs.YtgoampbebjfenaaGreatDoor.Mir
open Go Go.RowKit Go.Shelf Go.Lib Go.Sort Go.Proofs Go.Proofs.YtgoampbebjfenaaGreatDoor Dev Tab Rem Go.Maps Go.WideMaps
set_option linter.unusedVariables false

def orI (a b : Int) : Int := if a = 0 then b else a
theorem or_any (s : Nat) (a b : Int) (w : World) (h0 : w.cell? ⟨s, 0, none⟩ = some (.int .i64 a)) (h1 : w.cell? ⟨s, 1, none⟩ = some (.int .i64 b)) :
    Calls Tryz.prog 51 #[.slice (some ⟨s, 0, none⟩) 2 2] w fun e w' => e = .returned (.int .i64 (orI a b)) ∧ w' = w := by
  have H0 := Lib.hid h0
  have H1 := Lib.hid h1
  clear h0 h1
  go_enter Tryz.func51, Tryz.ntmps51
  go_wp2_with fail
  go_loopw [8] (fun i wr => ∃ j : Nat, j ≤ 2 ∧ i = .int .i64 j ∧ wr = w ∧ (0 < j → a = 0) ∧ (1 < j → b = 0)) (fun i _ => 2 - (intOf i).toNat)
  case atStart => exact ⟨0, by omega, rfl, rfl, fun h => by omega, fun h => by omega⟩
  case round =>
    obtain ⟨j, hj, rfl, rfl, ha, hb⟩ := hrel
    rcases (show j = 0 ∨ j = 1 ∨ j = 2 by omega) with rfl | rfl | rfl
    · rw [show ((0 : Nat) : Int) = 0 from rfl]
      have c0 := H0.out
      clear ha hb
      by_cases h : a = 0
      · subst h
        go_wp2_with fail
        go_roundw
        case rel => exact ⟨1, by omega, by go_num, trivial, by simp, by simp⟩
        case measure => simp [intOf]
      · have hn : (a == 0) = false := by simpa using h
        have he : orI a b = a := if_neg h
        go_wp2
        go_ret
        exact ⟨by rw [he]; rfl, rfl⟩
    · rw [show ((1 : Nat) : Int) = 1 from rfl]
      have c1 := H1.out
      have ha0 := ha (by omega)
      subst ha0
      clear ha hb
      by_cases h : b = 0
      · subst h
        go_wp2_with fail
        go_roundw
        case rel => exact ⟨2, by omega, by go_num, trivial, by simp, by simp⟩
        case measure => simp [intOf]
      · have hn : (b == 0) = false := by simpa using h
        have he : orI 0 b = b := if_pos rfl
        go_wp2
        go_ret
        exact ⟨by rw [he]; rfl, rfl⟩
    · rw [show ((2 : Nat) : Int) = 2 from rfl]
      have ha0 := ha (by omega)
      have hb0 := hb (by omega)
      subst ha0 hb0
      clear ha hb
      go_wp2
      go_ret
      exact ⟨rfl, rfl⟩
/-- a place's two cells -/
def encQ (x : Int × Int) : List Value := [.int .i64 x.1, .int .i64 x.2]
def cmpQ (x y : Int × Int) : Int := orI (Lib.compareInt x.1 y.1) (Lib.compareInt x.2 y.2)
theorem cmpQ_lt (x y : Int × Int) : ltOf cmpQ x y = decide (x.1 < y.1 ∨ (x.1 = y.1 ∧ x.2 < y.2)) := by
  unfold ltOf cmpQ orI Lib.compareInt
  by_cases h1 : x.1 < y.1
  · simp [h1]
  · by_cases h2 : y.1 < x.1
    · have h3 : ¬ x.1 = y.1 := by omega
      simp [h1, h2, h3]
    · have h3 : x.1 = y.1 := by omega
      by_cases h4 : x.2 < y.2
      · simp [h3, h4]
      · by_cases h5 : y.2 < x.2 <;> simp [h3, h4, h5]
theorem cmpQ_swo : SWO (ltOf cmpQ) where
  irrefl x := by rw [cmpQ_lt]; simp
  trans x y z h1 h2 := by rw [cmpQ_lt] at *; simp at *; omega
  ntrans x y z h1 h2 := by rw [cmpQ_lt] at *; simp at *; omega
theorem bxQ {W2 wq : World} {b k : Nat} {t : TypeId} {cs : List Value} {m : Bool} {o : Obj} (h : Has W2 b t cs) (hk : wq = (bif m then (W2.drewN k).alloc o else W2.drewN k)) : Has wq b t cs := by
  have h0 : Has (W2.drewN k) b t cs := h
  cases m with
  | false => rw [hk]; exact h0
  | true => rw [hk]; exact h0.alloc o
set_option maxRecDepth 100000 in
set_option maxHeartbeats 2000000 in
theorem closeQ (x y : Int × Int) (W : World) : Calls Tryz.prog 50 #[.agg #[.int .i64 x.1, .int .i64 x.2], .agg #[.int .i64 y.1, .int .i64 y.2]] W fun e w' => e = .returned (.int .i64 (cmpQ x y)) ∧ ∃ q os', w' = grow (W.drewN q) os' := by
  have hcon := fun a b W' => AnyG.cmp_Compare_int Tryz.cmpInt a b W'
  change ∀ a b W', Calls Tryz.prog 52 _ _ _ at hcon
  have HC := Lib.hid hcon
  have hq : cmpQ x y = orI (Lib.compareInt x.1 y.1) (Lib.compareInt x.2 y.2) := rfl
  rw [hq]
  obtain ⟨r1, hr1⟩ : ∃ r, r = Lib.compareInt x.1 y.1 := ⟨_, rfl⟩
  obtain ⟨r2, hr2⟩ : ∃ r, r = Lib.compareInt x.2 y.2 := ⟨_, rfl⟩
  have HR1 := Lib.hid hr1
  have HR2 := Lib.hid hr2
  rw [← hr1, ← hr2]
  clear hcon hq hr1 hr2
  go_enter Tryz.func50, Tryz.ntmps50
  go_wp2_with fail
  have hX := (Has.new W [.int .i64 x.1, .int .i64 x.2] 123).alloc (.cells #[.int .i64 y.1, .int .i64 y.2] 123)
  have hY := Has.new (W.alloc (.cells #[.int .i64 x.1, .int .i64 x.2] 123)) [.int .i64 y.1, .int .i64 y.2] 123
  have hG : (W.alloc (.cells #[.int .i64 x.1, .int .i64 x.2] 123)).alloc (.cells #[.int .i64 y.1, .int .i64 y.2] 123) = grow W (#[.cells #[.int .i64 x.1, .int .i64 x.2] 123] ++ #[.cells #[.int .i64 y.1, .int .i64 y.2] 123]) := by rw [alloc_eq_grow, alloc_eq_grow, grow_grow]
  simp only [World.size_alloc] at hY
  have hsz : ((W.alloc (.cells #[.int .i64 x.1, .int .i64 x.2] 123)).alloc (.cells #[.int .i64 y.1, .int .i64 y.2] 123)).heap.size = W.heap.size + 2 := by simp
  obtain ⟨W2, hW2⟩ : ∃ W2, W2 = (W.alloc (.cells #[.int .i64 x.1, .int .i64 x.2] 123)).alloc (.cells #[.int .i64 y.1, .int .i64 y.2] 123) := ⟨_, rfl⟩
  rw [← hW2] at hG hsz ⊢
  have hX : Has W2 W.heap.size 123 [.int .i64 x.1, .int .i64 x.2] := by rw [hW2]; exact hX
  have hY : Has W2 (W.heap.size + 1) 123 [.int .i64 y.1, .int .i64 y.2] := by rw [hW2]; exact hY
  have HX := Lib.hid hX
  have HY := Lib.hid hY
  have HG := Lib.hid hG
  have HSZ := Lib.hid hsz
  clear hX hY hG hsz hW2
  refine Reg.region_vals (by kernel_rfl) [(5, .pointer (some ⟨W.heap.size, 0, none⟩)), (6, .int .i64 x.1), (7, .pointer (some ⟨W.heap.size + 1, 0, none⟩)), (8, .int .i64 y.1), (9, .int .i64 r1), (10, .pointer (some ⟨W.heap.size, 1, none⟩)), (11, .int .i64 x.2), (12, .pointer (some ⟨W.heap.size + 1, 1, none⟩)), (13, .int .i64 y.2), (14, .int .i64 r2), (15, .slice (some ⟨W2.heap.size, 0, none⟩) 2 2), (16, .int .i64 (orI r1 r2)), (4, .int .i64 (orI r1 r2))] (fun l wy => ∃ k, wy = (bif l 10 then (W2.drewN k).alloc (.cells #[.int .i64 r1, .int .i64 r2] 3) else W2.drewN k)) (by kernel_rfl) (by kernel_rfl) (by kernel_rfl) (⟨1, rfl⟩) ⟨?_, ?_, ?_, ?_, ?_, ?_, ?_, ?_, ?_, ?_, ?_, ?_, ?_, trivial⟩ ?hend
  · skip
    intro aq wq lq hI hl hdone hlater hold hd ho
    have h2 : aq.tmps.getD 2 undef = .pointer (some ⟨W.heap.size, 0, none⟩) := ho 2 (by kernel_rfl)
    clear hd ho hdone hlater hold
    rw [Array.getD_eq_getD_getElem?] at h2
    refine Reg.step2_val (.pointer (some ⟨W.heap.size, 0, none⟩)) ?_ rfl hI trivial
    go_simp
  · skip
    intro aq wq lq hI hl hdone hlater hold hd ho
    have h5 : aq.tmps.getD 5 undef = .pointer (some ⟨W.heap.size, 0, none⟩) := hd 5 (by kernel_rfl)
    clear hd ho hdone hlater hold
    rw [Array.getD_eq_getD_getElem?] at h5
    have c0 := (bxQ HX.out hI.choose_spec).cell 0
    simp only [List.getElem?_cons_zero] at c0
    refine Reg.step2_val (.int .i64 x.1) ?_ rfl hI trivial
    go_simp
  · skip
    intro aq wq lq hI hl hdone hlater hold hd ho
    have h3 : aq.tmps.getD 3 undef = .pointer (some ⟨W.heap.size + 1, 0, none⟩) := ho 3 (by kernel_rfl)
    clear hd ho hdone hlater hold
    rw [Array.getD_eq_getD_getElem?] at h3
    refine Reg.step2_val (.pointer (some ⟨W.heap.size + 1, 0, none⟩)) ?_ rfl hI trivial
    go_simp
  · skip
    intro aq wq lq hI hl hdone hlater hold hd ho
    have h7 : aq.tmps.getD 7 undef = .pointer (some ⟨W.heap.size + 1, 0, none⟩) := hd 7 (by kernel_rfl)
    clear hd ho hdone hlater hold
    rw [Array.getD_eq_getD_getElem?] at h7
    have c0 := (bxQ HY.out hI.choose_spec).cell 0
    simp only [List.getElem?_cons_zero] at c0
    refine Reg.step2_val (.int .i64 y.1) ?_ rfl hI trivial
    go_simp
  · skip
    intro aq wq lq hI hl hdone hlater hold hd ho
    have h6 : aq.tmps.getD 6 undef = .int .i64 x.1 := hd 6 (by kernel_rfl)
    have h8 : aq.tmps.getD 8 undef = .int .i64 y.1 := hd 8 (by kernel_rfl)
    clear hd ho hdone hlater hold
    rw [Array.getD_eq_getD_getElem?] at h6 h8
    refine Reg.step2_call 52 #[.int .i64 x.1, .int .i64 y.1] ?_ ((HC.out x.1 y.1 wq).mono ?_)
    · clear hI
      simp [execOp]
      go_simp
    · rintro e w' ⟨rfl, rfl⟩
      exact ⟨_, rfl, by rw [← HR1.out]; rfl, hI, trivial⟩
  · skip
    intro aq wq lq hI hl hdone hlater hold hd ho
    have h2 : aq.tmps.getD 2 undef = .pointer (some ⟨W.heap.size, 0, none⟩) := ho 2 (by kernel_rfl)
    clear hd ho hdone hlater hold
    rw [Array.getD_eq_getD_getElem?] at h2
    refine Reg.step2_val (.pointer (some ⟨W.heap.size, 1, none⟩)) ?_ rfl hI trivial
    go_simp
  · skip
    intro aq wq lq hI hl hdone hlater hold hd ho
    have h10 : aq.tmps.getD 10 undef = .pointer (some ⟨W.heap.size, 1, none⟩) := hd 10 (by kernel_rfl)
    clear hd ho hdone hlater hold
    rw [Array.getD_eq_getD_getElem?] at h10
    have c0 := (bxQ HX.out hI.choose_spec).cell 1
    simp only [List.getElem?_cons_zero, List.getElem?_cons_succ] at c0
    refine Reg.step2_val (.int .i64 x.2) ?_ rfl hI trivial
    go_simp
  · skip
    intro aq wq lq hI hl hdone hlater hold hd ho
    have h3 : aq.tmps.getD 3 undef = .pointer (some ⟨W.heap.size + 1, 0, none⟩) := ho 3 (by kernel_rfl)
    clear hd ho hdone hlater hold
    rw [Array.getD_eq_getD_getElem?] at h3
    refine Reg.step2_val (.pointer (some ⟨W.heap.size + 1, 1, none⟩)) ?_ rfl hI trivial
    go_simp
  · skip
    intro aq wq lq hI hl hdone hlater hold hd ho
    have h12 : aq.tmps.getD 12 undef = .pointer (some ⟨W.heap.size + 1, 1, none⟩) := hd 12 (by kernel_rfl)
    clear hd ho hdone hlater hold
    rw [Array.getD_eq_getD_getElem?] at h12
    have c0 := (bxQ HY.out hI.choose_spec).cell 1
    simp only [List.getElem?_cons_zero, List.getElem?_cons_succ] at c0
    refine Reg.step2_val (.int .i64 y.2) ?_ rfl hI trivial
    go_simp
  · skip
    intro aq wq lq hI hl hdone hlater hold hd ho
    have h11 : aq.tmps.getD 11 undef = .int .i64 x.2 := hd 11 (by kernel_rfl)
    have h13 : aq.tmps.getD 13 undef = .int .i64 y.2 := hd 13 (by kernel_rfl)
    clear hd ho hdone hlater hold
    rw [Array.getD_eq_getD_getElem?] at h11 h13
    refine Reg.step2_call 52 #[.int .i64 x.2, .int .i64 y.2] ?_ ((HC.out x.2 y.2 wq).mono ?_)
    · clear hI
      simp [execOp]
      go_simp
    · rintro e w' ⟨rfl, rfl⟩
      exact ⟨_, rfl, by rw [← HR2.out]; rfl, hI, trivial⟩
  · skip
    intro aq wq lq hI hl hdone hlater hold hd ho
    have h9 : aq.tmps.getD 9 undef = .int .i64 r1 := hd 9 (by kernel_rfl)
    have h14 : aq.tmps.getD 14 undef = .int .i64 r2 := hd 14 (by kernel_rfl)
    clear hd ho hdone hlater hold
    rw [Array.getD_eq_getD_getElem?] at h9 h14
    have hJ := hI
    rw [show lq 10 = false from hl] at hJ
    obtain ⟨k, hk0⟩ := hJ
    have hk : wq = W2.drewN k := hk0
    have hs : wq.heap.size = W2.heap.size := by rw [hk]; rfl
    clear hI hk0
    refine Reg.step2_do (.slice (some ⟨wq.heap.size, 0, none⟩) 2 2) (wq.alloc (.cells #[.int .i64 r1, .int .i64 r2] 3)) ?_ (by rw [hs]; rfl) ⟨k, by rw [hk]; rfl⟩ trivial
    clear hs hk
    simp [execOp]
    go_simp
  · skip
    intro aq wq lq hI hl hdone hlater hold hd ho
    have h15 : aq.tmps.getD 15 undef = .slice (some ⟨W2.heap.size, 0, none⟩) 2 2 := hd 15 (by kernel_rfl)
    have gd10 : lq 10 = true := hdone 10 (by kernel_rfl)
    clear hd ho hdone hlater hold
    rw [Array.getD_eq_getD_getElem?] at h15
    have hJ := hI
    rw [gd10] at hJ
    obtain ⟨k, hk0⟩ := hJ
    have hk : wq = (W2.drewN k).alloc (.cells #[.int .i64 r1, .int .i64 r2] 3) := hk0
    clear hk0
    have hh : Has wq W2.heap.size 3 [.int .i64 r1, .int .i64 r2] := by rw [hk]; exact Has.new (W2.drewN k) [.int .i64 r1, .int .i64 r2] 3
    refine Reg.step2_call 51 #[.slice (some ⟨W2.heap.size, 0, none⟩) 2 2] ?_ ((or_any W2.heap.size r1 r2 wq (hh.cell 0) (hh.cell 1)).mono ?_)
    · clear hI hh hk
      simp [execOp]
      go_simp
    · rintro e w' ⟨rfl, rfl⟩
      exact ⟨_, rfl, rfl, hI, trivial⟩
  · skip
    intro aq wq lq hI hl hdone hlater hold hd ho
    have h16 : aq.tmps.getD 16 undef = .int .i64 (orI r1 r2) := hd 16 (by kernel_rfl)
    clear hd ho hdone hlater hold
    exact Reg.step2_assign (.tmp 16) rfl h16 hI trivial
  case hend =>
    intro wz hI
    simp only [Reg.fill, List.foldl_cons, List.foldl_nil, List.setIfInBounds_toArray, List.set_cons_zero, List.set_cons_succ]
    obtain ⟨k, hk0⟩ := hI
    have hk : wz = (W2.drewN k).alloc (.cells #[.int .i64 r1, .int .i64 r2] 3) := hk0
    have HK := Lib.hid hk
    clear hk0 hk
    go_wp2
    go_ret
    exact ⟨rfl, k, _, by rw [HK.out, alloc_eq_grow, HG.out]; exact grow_grow (W.drewN k) _ _⟩
theorem laysQ (blk off size : Nat) (w : World) : CmpLays Tryz.prog 50 #[] encQ 2 cmpQ blk off size w := fun _ _ _ _ x y => closeQ x y _
theorem below_sorted {α : Type} [Inhabited α] (enc : α → List Value) (k : Nat) (w : World) (base blk off m : Nat) (dk : Array α) (os : Array Obj) (hb : base ≤ blk) (hB : base ≤ w.heap.size) : Below base w (sortWorldK enc k w blk off m dk os) := by
  refine ⟨rfl, rfl, rfl, ?_, fun j hj => ?_⟩
  · show w.heap.size ≤ ((w.heap.modify blk _) ++ os).size
    rw [Array.size_append, Array.size_modify]; omega
  · show ((w.heap.modify blk _) ++ os)[j]? = w.heap[j]?
    rw [Array.getElem?_append_left (by rw [Array.size_modify]; omega), Array.getElem?_modify, if_neg (by omega)]
set_option maxHeartbeats 2000000 in
theorem sort_any (blk cap base : Nat) (d : Array (Int × Int)) (w : World) (hH : HoldsK encQ 2 w blk 0 d) (hblk : blk < w.heap.size) (hsz : d.size < 4611686018427387904) (hb : base ≤ blk) :
    Calls Tryz.prog 81 #[.slice (some ⟨blk, 0, none⟩) d.size cap, .func (.func 50) #[] #[]] w fun e w' => e = .returned (.tuple #[]) ∧ Below base w w' := by
  have eg : ∀ args w, (callFunc 50 args).run Tryz.prog w = .ok (.enter 50 args) w := enters_of Tryz.func50 (by kernel_rfl) rfl
  have hcon := AnyQ.slices_SortFunc Tryz.sortP 2 Tryz.isAgg123 Tryz.sizeOf123 encQ (fun _ => rfl) (fun x v hv => by simp [encQ] at hv; rcases hv with rfl | rfl <;> rfl) cmpQ cmpQ_swo 50 #[] blk 0 cap d w eg (laysQ blk 0 d.size w) hH hblk hsz
  change Calls Tryz.prog 81 _ _ _ at hcon
  refine hcon.mono ?_
  rintro e w' ⟨rfl, d', n, os, _, _, rfl⟩
  exact ⟨rfl, below_sorted encQ 2 w base blk 0 n d' os hb (by omega)⟩
end Go.Proofs.YtgoampbebjfenaaGreatDoor.Mir

/- Layer 8 (mirror): Bad, whatever places there are. -/
namespace Go.Proofs.YtgoampbebjfenaaGreatDoor.Mir
open Go Go.RowKit Go.Shelf Go.Lib Go.Sort Go.Proofs Go.Proofs.YtgoampbebjfenaaGreatDoor Dev Tab Rem Go.Maps Go.WideMaps
set_option linter.unusedVariables false
attribute [local go_sem] Oper.semAt_some
abbrev placeV (x : Int × Int) : Value := .agg #[.int .i64 x.1, .int .i64 x.2]
/-- all keys are places -/
def KeyQ (D : DataW Unit) : Prop := ∀ z, Maps.has D z = true → ∃ s b, s < 2 ∧ b < 1000000 ∧ z = kl s b
set_option maxRecDepth 100000 in
set_option maxHeartbeats 2000000 in
theorem keysN_in (F : Fence) (d : Nat) (h7 : F.fn 82) (hro : F.round = none) (hd1 : 1 ≤ d) (l Bs bb n : Nat) (D : DataW Unit) (J Jx : List (Int × Int) → World → Prop)
    (hY : ∀ pre x W1, J pre W1 → pre.length < n → YieldAt F (d - 1) Tryz.prog l #[placeV x] W1 fun e W' => (e = .returned (.bool true) ∧ J (pre ++ [x]) W' ∧ KeepsWalks W1 W') ∨ (e = .returned (.bool false) ∧ Jx (pre ++ [x]) W'))
    (W : World) (hJ : AbidesFrom W.heap.size J)
    (hBs : W.cell? ⟨Bs, 0, none⟩ = some (.map (some bb))) (hm : MapB W bb n D) (hK : KeyQ D) (h0 : J [] W) :
    CallsIn F d Tryz.prog 82 #[.func (.yield l) #[] #[], .pointer (some ⟨Bs, 0, none⟩)] W fun e W' => (∃ v, e = .returned v) ∧ ((∃ xs, True ∧ J xs W') ∨ (∃ pre, True ∧ Jx pre W')) := by
  have hsz := hm.size_le
  refine callsIn_of_wp Tryz.func82 rfl h7 ?_ hro
  simp only [Tryz.ntmps82, List.size_toArray, List.length_cons, List.length_nil, Nat.reduceAdd, Nat.reduceSub, Array.replicate_succ, Array.replicate_zero, List.push_toArray, List.append_toArray, List.nil_append, List.cons_append]
  gi_wp2_with (first
    | (gi_at_range; refine wpListIn_range_own _ rfl _ 82 rfl 123 127 keyedP Tryz.underlying82 _ bb n _ rfl hm ?_; intro w0 hrg0 hg0 hs0)
    | gi_in)
  go_frame
  gi_loopw [3] (fun _ wr => ∃ (left : Lit → Bool) (cnt : Nat) (ss : List (Int × Int)), wr.ranges Tryz.prog 123 badR bb W.heap.size n D left cnt ∧ (∀ z, left z = true → Maps.has D z = true) ∧ ss.length + cnt ≤ n ∧ J ss wr) (fun _ wr => wr.rangeLeft bb W.heap.size)
  case atStart => exact ⟨_, _, [], hrg0, fun z hz => hz, by simpa using hsz, hJ [] W w0 none h0 hg0 (fun r e => by cases e)⟩
  case round =>
    obtain ⟨left, cnt, ss, hrg, hlf, hcs, hJs⟩ := hrel
    gi_wp2_with (first
      | (gi_at_next; refine wpListIn_next_ranges _ rfl _ rfl 123 keyedP badR (fun x : Value => x) (fun x : Value => x) (fun key kl hk => ⟨key, rfl⟩) (fun v _ _ => ⟨v, rfl⟩) bb W.heap.size n _ _ _ rfl hrg ?_ ?_)
      | gi_in)
    · intro hc0 hl0
      clear hc0 hl0
      gi_wp2
      go_end0
      exact ⟨⟨_, rfl⟩, .inl ⟨ss, trivial, hJs⟩⟩
    · intro x c z yd yp w2 cnt2 hkey hlk hv hat hrg2 hlt hg2 hs2 hen
      obtain ⟨s, b, hs2', hb2, hz⟩ := hK z (hlf z hlk)
      have hx : x = placeV ((s : Int), (b : Int)) := keyedP.inj hkey (by rw [hz]; exact keyP hs2' hb2)
      subst hx
      have hJ2 : J ss w2 := hJ ss wr w2 (some W.heap.size) hJs hg2 (fun r e => by cases e; exact ⟨Nat.le_refl _, hrg.iter_walk⟩)
      have hJ3 := hJ ss w2 _ none hJ2 (World.grownBy_alloc w2 (.cells #[.int .i64 (s : Int), .int .i64 (b : Int)] 123) none) (fun r e => by cases e)
      have hrg4 := hrg2.of_walks (KeepsWalks.alloc w2 (.cells #[.int .i64 (s : Int), .int .i64 (b : Int)] 123))
      obtain ⟨fn, tmps, assign, body, hy, hR⟩ := hY ss ((s : Int), (b : Int)) _ hJ3 (by omega)
      clear hs2
      gi_wp2
      refine hR.mono ?_
      rintro e W3 (⟨rfl, hJ3, hk3⟩ | ⟨rfl, hJx3⟩)
      · gi_wp2
        have hrg3 := hrg4.of_walks hk3
        go_roundw
        case rel => exact ⟨_, cnt2, ss ++ [((s : Int), (b : Int))], hrg3, fun z hz => hlf z (by simp at hz; exact hz.1), by simp; omega, hJ3⟩
        case measure => rw [hrg3.left_eq, hrg.left_eq]; exact hlt
      · gi_wp2
        refine bodyPost_ret (results_none rfl _ _ _) rfl ?_
        exact ⟨⟨_, rfl⟩, .inr ⟨_, trivial, hJx3⟩⟩
theorem keys_stopsN (F : Fence) (d : Nat) (h7 : F.fn 82) (hro : F.round = none) (hd1 : 1 ≤ d) (Bs bb n : Nat) (D : DataW Unit) (w : World) (hBs : Bs < w.heap.size) (hc : w.cell? ⟨Bs, 0, none⟩ = some (.map (some bb))) (hm : MapB w bb n D) (hK : KeyQ D) :
    SeqStopsK (α := Int × Int) F d Tryz.prog 82 #[.pointer (some ⟨Bs, 0, none⟩)] (fun x => #[placeV x]) KeepsWalks (fun _ => True) (fun _ => True) n w := fun l J Jx W hW hJ _ hY h0 =>
  keysN_in F d h7 hro hd1 l Bs bb n D J Jx hY W hJ ((hW.cell (p := ⟨Bs, 0, none⟩) hBs).trans hc) (mapB_same hm (hW.block bb (mapB_lt hm))) hK h0
/-! ### collecting -/
def encF (xs : List (Int × Int)) : List Value := xs.flatMap encQ
theorem encF_snoc (xs : List (Int × Int)) (x : Int × Int) : encF (xs ++ [x]) = encF xs ++ [.int .i64 x.1, .int .i64 x.2] := by simp [encF, encQ]
/-- between two rounds: the box at B holds a slice that owns what has come -/
def CollQ (w0 : World) (B : Nat) (xs : List (Int × Int)) (W : World) : Prop := ∃ v, Boxed W B 54 v ∧ W.ownsRow w0.heap.size 123 2 v xs.length (encF xs) ∧ Below w0.heap.size w0 W
theorem own_kept {W W' : World} {row : Option Nat} {base k : Nat} {e : TypeId} {v : Value} {xs : List Value} (h : W.ownsRow base e 2 v k xs) (hg : W.grownBy W' row) (hr : ∀ r, row = some r → ∃ o : Obj, W.heap[r]? = some o ∧ o.isCells = false) : W'.ownsRow base e 2 v k xs := by
  refine h.kept hg ?_
  rcases h.2 with ⟨rfl, _⟩ | ⟨g, cap, cur, rfl, _, hgb, _⟩
  · exact .inl rfl
  · refine .inr fun e' => ?_
    obtain ⟨o, ho, hw⟩ := hr g (by simpa [Value.ownBlock] using e'.symm)
    rw [hgb] at ho; cases ho; cases hw
theorem own_cells {W : World} {base k : Nat} {e : TypeId} {v : Value} {xs : List Value} (h : W.ownsRow base e 2 v k xs) : ∀ (j : Nat) (o : Obj), v.ownBlock = some j → W.heap[j]? = some o → o.isCells = true := by
  intro j o hj ho
  rcases h.2 with ⟨rfl, _⟩ | ⟨g, cap, cur, rfl, _, hgb, _⟩
  · simp [Value.ownBlock] at hj
  · have : g = j := by simpa [Value.ownBlock] using hj
    subst this; rw [hgb] at ho; cases ho; rfl
theorem collQ_own (w0 : World) (B B' : Nat) (hB : w0.heap.size ≤ B') : OwnFrom B' (CollQ w0 B) := fun xs W W' row ⟨v, hb, ho, hl⟩ hg hr =>
  ⟨v, hb.kept hg (fun e' => by
      obtain ⟨_, o, h1, h2⟩ := hr B e'.symm
      have := hb; unfold Boxed at this; rw [this] at h1; cases h1; cases h2), own_kept ho hg (fun r e => (hr r e).2), hl.grown hg hl.size (fun k e => Nat.le_trans hB (hr k e).1)⟩
theorem infoQ : (Tryz.prog.info? 123).map (fun i => (i.zero, i.size, i.bytes)) = some (some (.agg #[.int .i64 0, .int .i64 0]), 2, 16) := by kernel_rfl
def AXT (B Bs be : Nat) (x : Int × Int) : Act := { tmps := #[.slice none 0 0, .func (.func 82) #[] #[.pointer (some ⟨Bs, 0, none⟩)], .pointer (some ⟨B, 0, none⟩), undef, .slice none 0 0, .pointer (some ⟨be, 0, none⟩), .func (.func 82) #[] #[.pointer (some ⟨Bs, 0, none⟩)], placeV x, undef, undef, undef, undef, undef], defers := [] }
set_option maxRecDepth 100000 in
set_option maxHeartbeats 4000000 in
theorem appendSeqN (Bs bb n : Nat) (D : DataW Unit) (w : World) (hBs : Bs < w.heap.size) (hc : w.cell? ⟨Bs, 0, none⟩ = some (.map (some bb))) (hm : MapB w bb n D) (hK : KeyQ D) (hn : n ≤ 1000000) :
    Calls Tryz.prog 101 #[.slice none 0 0, .func (.func 82) #[] #[.pointer (some ⟨Bs, 0, none⟩)]] w fun e w' => ∃ v xs, e = .returned v ∧ xs.length ≤ n ∧ w'.ownsRow w.heap.size 123 2 v xs.length (encF xs) ∧ Below w.heap.size w w' := by
  obtain ⟨i0, hi, hz0, hz1, hz2⟩ := info_parts infoQ
  refine (callsIn_wide (n := 6)).1 ?_
  obtain ⟨F, hF⟩ : ∃ F, F = Fence.wide := ⟨_, rfl⟩
  obtain ⟨d, hd6⟩ : ∃ d, d = 6 := ⟨_, rfl⟩
  rw [← hF, ← hd6]
  have h1 : F.fn 101 := by rw [hF]; trivial
  have h3 : F.fn 82 := by rw [hF]; trivial
  have hro : F.round = none := by rw [hF]; rfl
  have hd1 : 1 ≤ d := by omega
  have hd2 : 1 ≤ d - 1 := by omega
  clear hF hd6
  have hbx := Boxed.new w 54 (.slice none 0 0)
  have hst := keys_stopsN F (d - 1) h3 hro hd2 Bs bb n D (w.alloc (.cells #[.slice none 0 0] 54)) (by simp; omega) (by rw [(Tab.b_new w _).cell (p := ⟨Bs, 0, none⟩) hBs]; exact hc) (mapB_same hm (Below.heap_alloc _ _ _ (mapB_lt hm))) hK
  refine callsIn_of_wp_marks Tryz.func101 rfl h1 ?_ hro
  simp only [Tryz.ntmps101, List.size_toArray, List.length_cons, List.length_nil, Nat.reduceAdd, Nat.reduceSub, Array.replicate_succ, Array.replicate_zero, List.push_toArray, List.append_toArray, List.nil_append, List.cons_append]
  gi_wp2
  have hB0 := Tab.b_new w (.cells #[.slice none 0 0] 54)
  have hsz : (w.alloc (.cells #[.slice none 0 0] 54)).heap.size = w.heap.size + 1 := by simp
  obtain ⟨W0, hW0⟩ : ∃ W0, W0 = w.alloc (.cells #[.slice none 0 0] 54) := ⟨_, rfl⟩
  rw [← hW0] at hbx hst hB0 hsz ⊢
  clear hW0 hm hc hBs
  refine wpIn_rangeFunc_ownH hro hd1 (gf := 82) (lb := #[.pointer (some ⟨Bs, 0, none⟩)]) rfl h3 (enters_of Tryz.func82 (by kernel_rfl) rfl)
    hst KeepsWalks.trans (fun W l o o' _ h _ hw => KeepsWalks.putObj o' h hw) (Below.refl _ _) (fun x => rfl)
    (fun xs W => CollQ w w.heap.size xs W ∧ xs.length ≤ n) (fun _ _ _ => False) ((collQ_own w w.heap.size W0.heap.size (by omega)).and (ownFrom_pure _ _)) (fun _ _ _ _ _ h _ _ => h.elim) ⟨⟨_, hbx, ⟨rfl, .inl ⟨rfl, rfl⟩⟩, hB0⟩, Nat.zero_le _⟩
    (fun x a' W => ∃ be, a' = AXT w.heap.size Bs be x ∧ w.heap.size < be ∧ Has W be 123 (encQ x)) ?ax ?assign ?body ?done (fun _ _ _ _ _ _ h => h.elim)
  case ax =>
    rintro x a' s A B row ⟨be, e1, e2, e3⟩ hg hr
    exact ⟨be, e1, e2, e3.same (hg.block be e3.lt (fun e' => by
      obtain ⟨_, o, h1, h2⟩ := hr be e'.symm
      have := e3; unfold Has at this; rw [this] at h1; cases h1; cases h2))⟩
  case assign =>
    rintro l pre x W K hI hA
    have hI0 := hI
    obtain ⟨⟨v, hb, ho, hl'⟩, hle⟩ := hI
    gi_wp2
    exact hA _ _ ((KeepsOthers.alloc _ _).from _) (KeepsWalks.alloc _ _) ⟨(collQ_own w w.heap.size W0.heap.size (by omega)).alloc _ hI0.1, hle⟩ ⟨W.heap.size, rfl, hb.lt, Has.new W (encQ x) 123⟩
  case body =>
    rintro l pre x a' W hl hr ⟨⟨v, hb, ho, hlw⟩, hle⟩ ⟨be, rfl, hbe, hE⟩ hlt
    clear hr
    unfold AXT
    have hc := hb.cell
    have e0 := hE.cell 0
    have e1 := hE.cell 1
    simp only [encQ, List.getElem?_cons_zero, List.getElem?_cons_succ] at e0 e1
    have hws := hlw.size
    gi_wp2_with (first
      | (gi_at_builtin; refine wpListIn_append_own _ rfl _ _ 54 rfl w.heap.size 123 i0 (.agg #[.int .i64 0, .int .i64 0]) 2 16 Tryz.underlying54 hi hz0 hz1 hz2 rfl (by decide) v pre.length (encF pre) rfl (ho.alloc _) ⟨W.heap.size, 0, none⟩ 1 1 [.int .i64 x.1, .int .i64 x.2] rfl rfl ?c1 ?c2 ?c3 ?c4 ?c5 ?_
         case c1 =>
           intro j q hj
           match j, hj with
           | 0, hj => simp at hj; subst hj; simp [Addr.add]
           | 1, hj => simp at hj; subst hj; simp [Addr.add]
         case c2 => intro q hq; simp at hq; rcases hq with rfl | rfl <;> rfl
         case c3 => unfold maxLen; omega
         case c4 => omega
         case c5 => simp; omega
         intro v' w3 hown' hg3 hnil3
         obtain ⟨g', cap', rfl⟩ := ownsRow_succ hown'
         obtain ⟨hb3, hb4, ho4, hk4, hl4⟩ := Boxed.appended hb (by decide) ho hws (Nat.le_refl _) hown' hg3
         have hc3 := hb3.cell
         have hf3 := hb3.frozen
         go_frame)
      | gi_in)
    have hlen : (pre ++ [x]).length = pre.length + 1 := by simp
    exact ⟨hk4.from _, hk4.walks, ⟨_, hb4, by rw [hlen, encF_snoc]; exact ho4, hlw.trans hl4⟩, by rw [hlen]; omega⟩
  case done =>
    rintro Dd xs W hD - ⟨⟨v, hb, ho, hl⟩, hle⟩ hKd
    have hx := hb.cell
    gi_wp2
    refine ⟨by simp, .inl ⟨_, _, rfl, run_takeDeferred hKd, ?_⟩⟩
    refine ⟨v, ?_, v, xs, rfl, hle, ?_⟩
    · simp [results, Tryz.f101, go_sem]
    · exact ⟨ownsRow_putObj ho _ hKd rfl, hl.trans (belowK_b (w := w) (Nat.le_refl _) W Dd _ _ (by omega) hKd rfl rfl)⟩
theorem collectN (Bs bb n : Nat) (D : DataW Unit) (w : World) (hBs : Bs < w.heap.size) (hc : w.cell? ⟨Bs, 0, none⟩ = some (.map (some bb))) (hm : MapB w bb n D) (hK : KeyQ D) (hn : n ≤ 1000000) :
    Calls Tryz.prog 80 #[.func (.func 82) #[] #[.pointer (some ⟨Bs, 0, none⟩)]] w fun e w' => ∃ v xs, e = .returned v ∧ xs.length ≤ n ∧ w'.ownsRow w.heap.size 123 2 v xs.length (encF xs) ∧ Below w.heap.size w w' := by
  have H := Lib.hid (appendSeqN Bs bb n D w hBs hc hm hK hn)
  clear hBs hc hm hK
  go_enter Tryz.func80, Tryz.ntmps80
  go_wp2_with fail
  refine H.out.mono ?_
  rintro e w1 ⟨v, xs, rfl, hle, ho, hb⟩
  have HB := Lib.hid hb
  have HO := Lib.hid ho
  clear hb ho
  go_wp2
  go_ret
  exact ⟨v, xs, rfl, hle, HO.out, HB.out⟩
theorem encF_get : ∀ (xs : List (Int × Int)) (j : Nat), j < xs.length * 2 → (encF xs)[j]? = some ((encQ (xs[j / 2]!))[j % 2]!)
  | [], j, h => by simp at h
  | x :: xs, 0, _ => rfl
  | x :: xs, 1, _ => rfl
  | x :: xs, j + 2, h => by
    have ih := encF_get xs j (by simp at h; omega)
    have e1 : (j + 2) / 2 = j / 2 + 1 := by omega
    have e2 : (j + 2) % 2 = j % 2 := by omega
    rw [e1, e2]
    show (encF xs)[j]? = _
    rw [ih]
    rfl
theorem holdsQ {w : World} {g : Nat} {cur : Array Value} {xs : List (Int × Int)} (hg : w.heap[g]? = some (.cells cur 123 (0, 0))) (ht : cur.toList.take (xs.length * 2) = encF xs) : HoldsK encQ 2 w g 0 xs.toArray := by
  intro j hj
  have hj' : j < xs.length * 2 := by simpa using hj
  have h1 : cur[j]? = some ((encQ (xs[j / 2]!))[j % 2]!) := by
    rw [← encF_get xs j hj', ← ht, List.getElem?_take, if_pos hj', Array.getElem?_toList]
  refine ⟨?_, ?_⟩
  · rw [get_flatK encQ 2 xs.toArray j (by simpa using hj')]
    simp only [World.cell?, hg, Nat.zero_add]
    simpa using h1
  · simp [World.frozen?, hg]
theorem sortedN (Bs bb n : Nat) (D : DataW Unit) (w : World) (hBs : Bs < w.heap.size) (hc : w.cell? ⟨Bs, 0, none⟩ = some (.map (some bb))) (hm : MapB w bb n D) (hK : KeyQ D) (hn : n ≤ 1000000) :
    Calls Tryz.prog 48 #[.func (.func 82) #[] #[.pointer (some ⟨Bs, 0, none⟩)], .func (.func 50) #[] #[]] w fun e w' => (∃ a k cap, e = .returned (.slice a k cap)) ∧ Below w.heap.size w w' := by
  have H := Lib.hid (collectN Bs bb n D w hBs hc hm hK hn)
  clear hBs hc hm hK
  go_enter Tryz.func48, Tryz.ntmps48
  go_wp2_with fail
  refine H.out.mono ?_
  rintro e w1 ⟨v, xs, rfl, hle, ho, hb⟩
  have HB := Lib.hid hb
  clear hb
  rcases ho.2 with ⟨rfl, h0⟩ | ⟨g, cap, cur, rfl, hbg, hg, hk1, hk2, hk3, ht⟩
  · clear ho
    go_wp2_with fail
    refine (sort0 _ _).mono ?_
    rintro e w' ⟨rfl, rfl⟩
    go_wp2
    go_ret
    exact ⟨⟨_, _, _, rfl⟩, HB.out⟩
  · have hs := sort_any g cap w.heap.size xs.toArray w1 (holdsQ hg ht) ((Array.getElem?_eq_some_iff.1 hg).1) (by simp; omega) hbg
    rw [List.size_toArray] at hs
    have HS := Lib.hid hs
    clear ho hg hk3 ht hs
    go_wp2_with fail
    refine HS.out.mono ?_
    rintro e w' ⟨rfl, hb2⟩
    have HB2 := Lib.hid (HB.out.trans hb2)
    clear hb2
    go_wp2
    go_ret
    exact ⟨⟨_, _, _, rfl⟩, HB2.out⟩
section
variable {w0 w : World} {Y : List Nat} {q c mm tb bb R : Nat} {pd : Nat → Nat} {S : Nat → Sd} {G : Nat → Bool}
/-- whatever places are bad: they are told -/
theorem Bad_m (h : MG w0 Y mm tb bb q pd S G c R w) (hc : c ≤ 900000) : Calls Tryz.prog 16 #[.pointer (some ⟨mm, 0, none⟩)] w fun e w' => (∃ a k cap, e = .returned (.slice a k cap)) ∧ Below w.heap.size w w' := by
  obtain ⟨n, D, hn, hmap, hbad⟩ := h.map
  have hk : KeyQ D := fun z hz => by
    obtain ⟨s, b, h1, h2, h3, h4⟩ := hbad.2 z hz
    exact ⟨s, b, h1, by omega, by first | exact h3 | exact h4⟩
  have c3 := h.c3
  have HE := Lib.hid hk
  have HN := Lib.hid (show n ≤ 1000000 by omega)
  have HMP := Lib.hid (mapB_same hmap (Below.heap_alloc w (.cells #[.map (some bb)] 82) _ (mapB_lt hmap)))
  have HC := Lib.hid ((Has.new w [.map (some bb)] 82).cell 0)
  have HB0 := Lib.hid (Tab.b_new w (.cells #[.map (some bb)] 82))
  clear hn hmap hbad hk h hc
  go_enter Tryz.func16, Tryz.ntmps16
  go_wp2_with fail
  refine (keysM bb _).mono ?_
  rintro e w1 ⟨rfl, rfl⟩
  go_wp2_with fail
  refine (sortedN w.heap.size bb n D _ (by simp) HC.out HMP.out HE.out HN.out).mono ?_
  rintro e w2 ⟨⟨a, k, cap, rfl⟩, hb⟩
  have HB := Lib.hid (HB0.out.trans (hb.mono HB0.out.size))
  clear hb
  go_wp2
  go_ret
  exact ⟨⟨_, _, _, rfl⟩, HB.out⟩
end
end Go.Proofs.YtgoampbebjfenaaGreatDoor.Mir

/- Layer 8's law MirrorReads: harms. -/
namespace Go.Proofs.YtgoampbebjfenaaGreatDoor.Mir
open Go Go.RowKit Go.Proofs.YtgoampbebjfenaaGreatDoor Dev Tab Rem Go.Maps Go.WideMaps
set_option linter.unusedVariables false

section
variable {w0 w w' : World} {X Y Z : List Nat} {q c mm tb bb R s b i : Nat} {pd : Nat → Nat} {S S' : Nat → Sd} {G : Nat → Bool}
theorem stk_fit (h : Stk S S' s i) (hs : s < 2) (hi : i < 18) (hf : Fit S noG) : Fit S' noG := by
  refine ⟨fun t ht j h1 h2 => ?_, .inl (fun t ht => rfl)⟩
  by_cases e : t = s
  · subst e
    rw [h.2.1] at h1
    rw [h.2.2.1, upd_ne _ _ (by omega)]
    exact hf.1 t ht j h1 h2
  · rw [h.1 t e] at h1 ⊢
    exact hf.1 t ht j h1 h2
theorem stick_m (h : MG w0 Y mm tb bb q pd S noG c R w) (hs : s < 2) (hi4 : 4 ≤ i) (hi : i < 18) (hc : c ≤ 1000000) (v : Int) (hv : v = i) (p : Nat) (hp : p = pd s) :
    Calls Tryz.prog 11 #[.pointer (some ⟨p, 0, none⟩), .int .i64 v] w fun e w' => ∃ S', e = .returned (.tuple #[]) ∧ Stk S S' s i ∧ MG w0 Y mm tb bb q pd S' noG c R w' ∧ Same Y w w' := by
  subst hp
  refine (stick_c (h.cg.cp rfl rfl) hs hi4 (by omega) hc v hv).mono ?_
  rintro e w' ⟨S', he, hk, h2, h3⟩
  exact ⟨S', he, hk, h.go h2.cg h3 (stk_fit hk hs hi h.fit) (fun t ht => by
    by_cases e : t = s
    · subst e; rw [hk.2.1]; omega
    · rw [hk.1 t e]; omega) (Nat.le_refl _), same_y h3⟩
/-- what a side reads behind a sector that sticks, where nothing was moved -/
theorem stk_cont (h : Stk S S' s (4 + b)) (hm : ∀ t, t < 2 → (S t).m = []) {u b' : Nat} (hu : u < 2) (hb' : b' < 14) : cont S' noG u b' = if u = s ∧ b' = b then none else cont S noG u b' := by
  have hp : ∀ (A : Sd), A.m = [] → pl A b' = 4 + b' := fun A hA => by
    unfold Rem.pl
    rw [hA]
    have : plc 14 [] (b' : Int) = b' := rfl
    rw [this]; omega
  have h1 := hp (S u) (hm u hu)
  have h2 : pl (S' u) b' = 4 + b' := hp (S' u) (by
    by_cases e : u = s
    · subst e; rw [h.2.1]; exact hm u hu
    · rw [h.1 u e]; exact hm u hu)
  unfold cont
  rw [h1, h2]
  by_cases e : u = s
  · subst e
    by_cases eb : b' = b
    · subst eb
      rw [h.2.2.1, upd_same]; simp
    · rw [h.2.2.1, upd_ne _ _ (by omega), h.2.2.2 _ (by omega)]; simp [eb]
  · rw [h.1 u e]; simp [e]
/-- a block of which one copy at most is hurt: each side reads the image or nothing that meets what is known, and one of them reads the image -/
structure Hurt (S : Nat → Sd) (b : Nat) (g K : Int) (T : ByteArray) (hd : Bool) : Prop where
  each : ∀ u, u < 2 → cont S noG u b = some T ∨ wh (cont S noG u b) (b : Int) g K = false
  one : ∃ u, u < 2 ∧ cont S noG u b = some T
  all : hd = false → ∀ u, u < 2 → cont S noG u b = some T
variable {g K : Int} {T : ByteArray} {hd : Bool}
theorem Hurt.whole (h : ∀ u, u < 2 → cont S noG u b = some T) : Hurt S b g K T hd := ⟨fun u hu => .inl (h u hu), ⟨0, by omega, h 0 (by omega)⟩, fun _ => h⟩
/-- blocks of which nothing was changed are as they were -/
theorem Hurt.same (h : Hurt S b g K T hd) (hc : ∀ u, u < 2 → cont S' noG u b = cont S noG u b) : Hurt S' b g K T hd :=
  ⟨fun u hu => by rw [hc u hu]; exact h.each u hu, by obtain ⟨u, hu, e⟩ := h.one; exact ⟨u, hu, (hc u hu).trans e⟩, fun hh u hu => (hc u hu).trans (h.all hh u hu)⟩
/-- one side of a whole block is hurt -/
theorem Hurt.side (h : Hurt S b g K T false) (hs : s < 2) (ho : ∀ u, u < 2 → u ≠ s → cont S' noG u b = cont S noG u b) (hx : cont S' noG s b = some T ∨ wh (cont S' noG s b) (b : Int) g K = false) : Hurt S' b g K T true := by
  refine ⟨fun u hu => ?_, ⟨1 - s, by omega, (ho (1 - s) (by omega) (by omega)).trans (h.all rfl (1 - s) (by omega))⟩, fun hh => by cases hh⟩
  by_cases e : u = s
  · subst e; exact hx
  · exact .inl ((ho u hu e).trans (h.all rfl u hu))
/-- what is found of it is the image -/
theorem Hurt.found (h : Hurt S b g K T hd) (hw : wh (some T) (b : Int) g K = true) : ∃ u, u < 2 ∧ fnd S noG b g K = some u ∧ cont S noG u b = some T := by
  rcases h.each 0 (by omega) with h0 | h0
  · exact ⟨0, by omega, fnd_0 (by rw [h0]; exact hw), h0⟩
  · rcases h.each 1 (by omega) with h1 | h1
    · exact ⟨1, by omega, fnd_1 h0 (by rw [h1]; exact hw), h1⟩
    · obtain ⟨u, hu, e⟩ := h.one
      rcases (show u = 0 ∨ u = 1 by omega) with rfl | rfl
      · rw [e] at h0; rw [hw] at h0; cases h0
      · rw [e] at h1; rw [hw] at h1; cases h1
theorem hSum_two (S : Nat → Sd) (b : Nat) (T : ByteArray) : hSum S noG b T (al noG) = hlN S noG 0 b T + hlN S noG 1 b T := by
  unfold hSum; rw [al_no]; simp
/-- a block goes on through a write of its image to sides of it -/
theorem Hurt.st {P : Nat → Prop} (h : Hurt S b g K T hd) (k : St S S' noG b T P) : Hurt S' b g K T hd := by
  have hk : ∀ u, u < 2 → cont S' noG u b = some T ∨ cont S' noG u b = cont S noG u b := fun u hu => by
    rcases k.at_ u hu with ⟨_, _, h3⟩ | ⟨_, h2, _⟩
    · exact .inl h3
    · exact .inr h2
  refine ⟨fun u hu => ?_, ?_, fun hh u hu => ?_⟩
  · rcases hk u hu with h1 | h1
    · exact .inl h1
    · rw [h1]; exact h.each u hu
  · obtain ⟨u, hu, e⟩ := h.one
    refine ⟨u, hu, ?_⟩
    rcases hk u hu with h1 | h1
    · exact h1
    · rw [h1]; exact e
  · rcases hk u hu with h1 | h1
    · exact h1
    · rw [h1]; exact h.all hh u hu
/-- other blocks, too -/
theorem Hurt.far {P : Nat → Prop} {b' : Nat} {T' : ByteArray} (h : Hurt S b g K T hd) (hb : b < 14) (hne : b ≠ b') (k : St S S' noG b' T' P) : Hurt S' b g K T hd := h.same fun u hu => k.far u hu b hb hne
theorem Hurt.count (h : Hurt S b g K T hd) : hSum S noG b T (al noG) ≤ 1 ∧ (hd = false → hSum S noG b T (al noG) = 0) := by
  refine ⟨?_, fun hh => hSum_zero (fun u hu _ => h.all hh u hu)⟩
  rw [hSum_two]
  obtain ⟨u, hu, e⟩ := h.one
  have h0 := hlN_le (S := S) (G := noG) (s := 0) (b := b) (d := T)
  have h1 := hlN_le (S := S) (G := noG) (s := 1) (b := b) (d := T)
  have hz : hlN S noG u b T = 0 := by unfold hlN; rw [if_pos e]
  rcases (show u = 0 ∨ u = 1 by omega) with rfl | rfl <;> omega
/-- behind a Check nothing is left that could be mended -/
theorem check_done (k : St S S' noG b T (fun u => u ∈ al noG ∧ cont S noG u b ≠ some T)) : hSum S' noG b T (al noG) = 0 := by
  have hz : ∀ u, u < 2 → hlN S' noG u b T = 0 := fun u hu => by
    rcases k.at_ u hu with ⟨_, _, h3⟩ | ⟨h1, h2, h3⟩
    · unfold hlN; rw [if_pos h3]
    · unfold hlN
      rw [h2]
      by_cases e : cont S noG u b = some T
      · rw [if_pos e]
      · rw [if_neg e]
        unfold rpN
        rw [h3, if_neg (h1 ⟨al_mem.2 ⟨hu, rfl⟩, e⟩)]
  rw [hSum_two, hz 0 (by omega), hz 1 (by omega)]
/-- does a side have a spare left, and how many are there -/
theorem spares_left (h : MG w0 Y mm tb bb q pd S G c R w) (hs : s < 2) : (S s).m.length ≤ 6 := by
  have := (h.good s hs).len
  omega
end
end Go.Proofs.YtgoampbebjfenaaGreatDoor.Mir

/- Layer 8's law MirrorReads: what its arrays hold between the rounds. -/
namespace Go.Proofs.YtgoampbebjfenaaGreatDoor.Mir
open Go Go.RowKit Go.Proofs.YtgoampbebjfenaaGreatDoor Dev Tab Rem Go.Maps Go.WideMaps
set_option linter.unusedVariables false

/-! ### rows of three cells each -/
section
variable {g h : Nat → List Value}
theorem tri_len (hg : ∀ j, (g j).length = 3) : ∀ m, ((List.range m).flatMap g).length = 3 * m
  | 0 => rfl
  | m + 1 => by rw [List.range_succ, List.flatMap_append, List.length_append, tri_len hg m]; simp [hg]; omega
theorem tri_get (hg : ∀ j, (g j).length = 3) : ∀ (m j r : Nat), j < m → r < 3 → ((List.range m).flatMap g)[3 * j + r]? = (g j)[r]?
  | 0, j, r, h, _ => by omega
  | m + 1, j, r, hj, hr => by
    rw [List.range_succ, List.flatMap_append]
    by_cases e : j < m
    · rw [List.getElem?_append_left (by rw [tri_len hg]; omega)]
      exact tri_get hg m j r e hr
    · obtain rfl : j = m := by omega
      rw [List.getElem?_append_right (by rw [tri_len hg]; omega), tri_len hg]
      simp
theorem tri_set (hg : ∀ j, (g j).length = 3) (hh : ∀ j, (h j).length = 3) {b m : Nat} (hb : b < m) (he : ∀ j, j < m → j ≠ b → g j = h j) {x0 x1 x2 : Value} (hx : h b = [x0, x1, x2]) :
    ((((List.range m).flatMap g).set (3 * b) x0).set (3 * b + 1) x1).set (3 * b + 2) x2 = (List.range m).flatMap h := by
  apply List.ext_getElem?
  intro i
  by_cases hi : i < 3 * m
  · obtain ⟨j, r, rfl, hr⟩ : ∃ j r, i = 3 * j + r ∧ r < 3 := ⟨i / 3, i % 3, by omega, by omega⟩
    have hj : j < m := by omega
    rw [tri_get hh m j r hj hr]
    simp only [List.getElem?_set, List.length_set, tri_len hg]
    by_cases e : j = b
    · subst e
      rw [hx]
      rcases (show r = 0 ∨ r = 1 ∨ r = 2 by omega) with rfl | rfl | rfl
      · rw [if_neg (by omega), if_neg (by omega), if_pos (by omega), if_pos (by omega)]; rfl
      · rw [if_neg (by omega), if_pos (by omega), if_pos (by omega)]; rfl
      · rw [if_pos (by omega), if_pos (by omega)]; rfl
    · rw [if_neg (by omega), if_neg (by omega), if_neg (by omega), tri_get hg m j r hj hr, he j hj e]
  · rw [List.getElem?_eq_none (by simp [tri_len hg]; omega), List.getElem?_eq_none (by rw [tri_len hh]; omega)]
theorem one_set {g h : Nat → Value} {b : Nat} (hb : b < 14) (hh : ∀ j, j < 14 → j ≠ b → g j = h j) : ((List.range 14).map g).set b (h b) = (List.range 14).map h := by
  apply List.ext_getElem?
  intro j
  rw [List.getElem?_set]
  by_cases e : b = j
  · subst e; simp [hb]
  · rw [if_neg e, List.getElem?_map, List.getElem?_map]
    by_cases hj : j < 14
    · rw [List.getElem?_range hj]; simp [hh j hj (fun k => e k.symm)]
    · rw [List.getElem?_eq_none (by simp; omega)]; rfl
end
/-! ### what is written -/
/-- the image of the k'th writing -/
def imgK (f : Nat → ByteArray) (k b : Nat) : ByteArray := if k = 0 then ⟨#[]⟩ else imT (b : Nat) (k : Nat) (f b)
def ptrK (f : Nat → ByteArray) (k b : Nat) : List Value := if k = 0 then [.int .i64 0, .int .u64 0, .int .u32 0] else [.int .i64 (b : Nat), .int .u64 (k : Nat), .int .u32 (ckT (b : Nat) (k : Nat) (f b))]
theorem ptrK_len (f : Nat → ByteArray) (k b : Nat) : (ptrK f k b).length = 3 := by unfold ptrK; split <;> rfl
/-- how often block j was written, ahead of block b's n'th writing -/
def kOf (n b j : Nat) : Nat := if j < b then n + 1 else n
def nowL (f : Nat → ByteArray) (n b : Nat) : List Value := (List.range 14).map fun j => .string (imgK f (kOf n b j) j)
def oldL (f : Nat → ByteArray) (n b : Nat) : List Value := (List.range 14).map fun j => .string (imgK f (kOf n b j - 1) j)
def ptrsL (f : Nat → ByteArray) (n b : Nat) : List Value := (List.range 14).flatMap fun j => ptrK f (kOf n b j) j
theorem kOf_next {n b j : Nat} (h : j ≠ b) : kOf n (b + 1) j = kOf n b j := by unfold kOf; by_cases e : j < b <;> simp [e] <;> omega
theorem kOf_at (n b : Nat) : kOf n b b = n ∧ kOf n (b + 1) b = n + 1 := by unfold kOf; simp
theorem kOf_turn {n j : Nat} (h : j < 14) : kOf n 14 j = kOf (n + 1) 0 j := by unfold kOf; simp [h]
theorem now_next (f : Nat → ByteArray) {n b : Nat} (hb : b < 14) : (nowL f n b).set b (.string (imT (b : Nat) ((n + 1 : Nat) : Int) (f b))) = nowL f n (b + 1) := by
  have h : Value.string (imT (b : Nat) ((n + 1 : Nat) : Int) (f b)) = (fun j => Value.string (imgK f (kOf n (b + 1) j) j)) b := by
    show _ = Value.string (imgK f (kOf n (b + 1) b) b)
    rw [(kOf_at n b).2]; unfold imgK; rw [if_neg (by omega)]
  rw [h]
  exact one_set (h := fun j => Value.string (imgK f (kOf n (b + 1) j) j)) hb fun j _ hj => by show _ = Value.string (imgK f (kOf n (b + 1) j) j); rw [kOf_next hj]
theorem old_next (f : Nat → ByteArray) {n b : Nat} (hb : b < 14) : (oldL f n b).set b (.string (imgK f n b)) = oldL f n (b + 1) := by
  have h : Value.string (imgK f n b) = (fun j => Value.string (imgK f (kOf n (b + 1) j - 1) j)) b := by
    show _ = Value.string (imgK f (kOf n (b + 1) b - 1) b)
    rw [(kOf_at n b).2]; rfl
  rw [h]
  exact one_set (h := fun j => Value.string (imgK f (kOf n (b + 1) j - 1) j)) hb fun j _ hj => by show _ = Value.string (imgK f (kOf n (b + 1) j - 1) j); rw [kOf_next hj]
theorem ptrs_next (f : Nat → ByteArray) {n b : Nat} (hb : b < 14) : (((ptrsL f n b).set (3 * b) (.int .i64 (b : Nat))).set (3 * b + 1) (.int .u64 ((n + 1 : Nat) : Int))).set (3 * b + 2) (.int .u32 (ckT (b : Nat) ((n + 1 : Nat) : Int) (f b))) = ptrsL f n (b + 1) := by
  refine tri_set (fun j => ptrK_len _ _ _) (fun j => ptrK_len _ _ _) hb (fun j _ hj => by rw [kOf_next hj]) ?_
  rw [(kOf_at n b).2]; unfold ptrK; rw [if_neg (by omega)]
theorem now_get (f : Nat → ByteArray) {n b j : Nat} (hj : j < 14) : (nowL f n b)[j]? = some (.string (imgK f (kOf n b j) j)) := by unfold nowL; rw [List.getElem?_map, List.getElem?_range hj]; rfl
theorem old_get (f : Nat → ByteArray) {n b j : Nat} (hj : j < 14) : (oldL f n b)[j]? = some (.string (imgK f (kOf n b j - 1) j)) := by unfold oldL; rw [List.getElem?_map, List.getElem?_range hj]; rfl
theorem ptrs_get (f : Nat → ByteArray) {n b j r : Nat} (hj : j < 14) (hr : r < 3) : (ptrsL f n b)[3 * j + r]? = (ptrK f (kOf n b j) j)[r]? := tri_get (fun j => ptrK_len _ _ _) 14 j r hj hr
/-! ### harms, where nothing was moved -/
section
variable {S S' : Nat → Sd} {s b u b' : Nat} {T x : ByteArray}
theorem pl0 {A : Sd} (h : A.m = []) (b : Nat) : pl A b = 4 + b := by
  unfold Rem.pl
  rw [h]
  have : plc 14 [] (b : Int) = b := rfl
  rw [this]; omega
theorem cont_was (hm : ∀ t, t < 2 → (S t).m = []) (hs : s < 2) (h : cont S noG s b = some T) : (S s).B (4 + b) = false ∧ (S s).V (4 + b) = T := by
  unfold cont at h
  rw [pl0 (hm s hs)] at h
  by_cases e : noG s = true ∨ (S s).B (4 + b) = true
  · rw [if_pos e] at h; cases h
  · rw [if_neg e] at h
    refine ⟨?_, Option.some.inj h⟩
    cases hb : (S s).B (4 + b) with
    | false => rfl
    | true => exact absurd (.inr hb) e
theorem setV_cont_m (hm : ∀ t, t < 2 → (S t).m = []) (hs : s < 2) (hT : cont S noG s b = some T) (x : ByteArray) (hu : u < 2) : cont (setV S s (4 + b) x) noG u b' = if u = s ∧ b' = b then some x else cont S noG u b' := by
  obtain ⟨h1, h2⟩ := cont_was hm hs hT
  have hm' : ∀ t, t < 2 → (setV S s (4 + b) x t).m = [] := fun t ht => by rw [setV_m]; exact hm t ht
  unfold cont
  rw [pl0 (hm' u hu), pl0 (hm u hu), setV_B]
  by_cases e : u = s
  · subst e
    unfold Mir.setV
    rw [setS_same]
    by_cases eb : b' = b
    · subst eb
      rw [h1]
      show (if noG u = true ∨ false = true then none else some (upd (S u).V (4 + b') x (4 + b'))) = _
      rw [upd_same]; simp [noG]
    · show (if noG u = true ∨ (S u).B (4 + b') = true then none else some (upd (S u).V (4 + b) x (4 + b'))) = _
      rw [upd_ne _ _ (by omega)]; simp [eb]
  · unfold Mir.setV
    rw [setS_ne _ _ _ e]; simp [e]
/-- a copy that was written over, or of which a byte was garbled -/
theorem Hurt.setV {g K : Int} (hm : ∀ t, t < 2 → (S t).m = []) (hs : s < 2) (h : Hurt S b g K T false) (hx : x = T ∨ wh (some x) (b : Int) g K = false) : Hurt (Mir.setV S s (4 + b) x) b g K T true := by
  have hc := fun u (hu : u < 2) => setV_cont_m (b' := b) hm hs (h.all rfl s hs) x hu
  refine h.side hs (fun u hu hne => by rw [hc u hu, if_neg (fun k => hne k.1)]) ?_
  rw [hc s hs, if_pos ⟨rfl, rfl⟩]
  rcases hx with rfl | hx
  · exact .inl rfl
  · exact .inr hx
theorem Hurt.setV_far {g K : Int} {c : Nat} {hd : Bool} {g' K' : Int} {T' : ByteArray} (hm : ∀ t, t < 2 → (S t).m = []) (hs : s < 2) (h : Hurt S b g K T false) (h' : Hurt S c g' K' T' hd) (hne : c ≠ b) : Hurt (Mir.setV S s (4 + b) x) c g' K' T' hd :=
  h'.same fun u hu => by rw [setV_cont_m (b' := c) hm hs (h.all rfl s hs) x hu, if_neg (fun k => hne k.2)]
theorem Hurt.stick {g K : Int} (hm : ∀ t, t < 2 → (S t).m = []) (hs : s < 2) (hb : b < 14) (h : Hurt S b g K T false) (hk : Stk S S' s (4 + b)) : Hurt S' b g K T true := by
  refine h.side hs (fun u hu hne => by rw [stk_cont hk hm hu hb, if_neg (fun k => hne k.1)]) (.inr ?_)
  rw [stk_cont hk hm hs hb, if_pos ⟨rfl, rfl⟩]; rfl
theorem Hurt.stick_far {g K : Int} {c : Nat} {hd : Bool} (hm : ∀ t, t < 2 → (S t).m = []) (hs : s < 2) (hc : c < 14) (h' : Hurt S c g K T hd) (hne : c ≠ b) (hk : Stk S S' s (4 + b)) : Hurt S' c g K T hd :=
  h'.same fun u hu => by rw [stk_cont hk hm hu hc, if_neg (fun k => hne k.2)]
theorem stick_m0 (hm : ∀ t, t < 2 → (S t).m = []) (hk : Stk S S' s (4 + b)) : ∀ t, t < 2 → (S' t).m = [] := fun t ht => by
  by_cases e : t = s
  · subst e; rw [hk.2.1]; exact hm t ht
  · rw [hk.1 t e]; exact hm t ht
/-- a block of zeros meets nothing that is known -/
theorem zeros_no (a g K : Int) : wh (some (⟨(List.replicate 128 (0 : UInt8)).toArray⟩ : ByteArray)) a g K = false := wh_no (by decide +kernel) _ _ _
theorem turn_zero (t : ByteArray) (a : Nat) : turnB t a 0 = t := by
  have h : t.data.toList.set a (t.data.toList.getD a 0 ^^^ 0) = t.data.toList := by
    apply List.ext_getElem?
    intro j
    rw [List.getElem?_set]
    by_cases e : a = j
    · subst e
      by_cases hl : a < t.data.toList.length
      · rw [if_pos rfl, if_pos hl, List.getD_eq_getElem?_getD, List.getElem?_eq_getElem hl]; simp
      · rw [if_pos rfl, if_neg hl, List.getElem?_eq_none (by omega)]
    · rw [if_neg e]
  unfold turnB
  rw [h]
  exact (Lend.strOf_ext rfl).symm
theorem turned_or {a g : Int} {f : ByteArray} (h : Okay a g f) (p : Nat) (hp : p < 128) (y : UInt8) (K : Int) : turnB (imT a g f) p y = imT a g f ∨ wh (some (turnB (imT a g f) p y)) a g K = false := by
  by_cases e : y = 0
  · subst e; exact .inl (turn_zero _ _)
  · exact .inr (h.turned hp e _ _ _)
end
end Go.Proofs.YtgoampbebjfenaaGreatDoor.Mir

/- Layer 8's law MirrorReads: what stands between the harms, and between the reads. -/
namespace Go.Proofs.YtgoampbebjfenaaGreatDoor.Mir
open Go Go.RowKit Go.Proofs.YtgoampbebjfenaaGreatDoor Dev Tab Rem Go.Maps Go.WideMaps
set_option linter.unusedVariables false

theorem run_max0 (P : Program) (w : World) (t : TypeId) (ts : Array TypeId) (f : Int) (c : Nat) (h : (f ≤ 0 ∧ c = 0) ∨ f = c) : (Builtin.max_ ts t #[.int .i64 0, .int .i64 f]).run P w = .ok (.int .i64 (c : Nat)) w := by
  simp only [Builtin.max_, Builtin.max2, List.foldlM, Sem.run_bind, Sem.run_pure, Result.andThen]
  have e : (if (0 : Int) < f then f else 0) = (c : Int) := by split <;> omega
  first | rw [e] | (simp; omega)
/-- max 0 x, as a number -/
theorem max0_of (x : Int) : ∃ c : Nat, ((x ≤ 0 ∧ c = 0) ∨ x = c) := by
  by_cases h : x ≤ 0
  · exact ⟨0, .inl ⟨h, rfl⟩⟩
  · exact ⟨x.toNat, .inr (by omega)⟩
theorem of_u8 {x : Int} (h : (Lit.int .u8 x).wf = true) : ∃ y : UInt8, x = (y.toNat : Nat) := by
  have hb := bounds_u8 h
  exact ⟨UInt8.ofNat x.toNat, by rw [UInt8.toNat_ofNat']; omega⟩
/-- a map of bools that knows the hurt blocks -/
def Hm (hd : Nat → Bool) (D : DataW Unit) : Prop := IsMap D ∧ ∀ b, b < 14 → D.atKey (.int .i64 (b : Nat)) (.lit (.bool false)) = .lit (.bool (hd b))
theorem Hm.start : Hm (fun _ => false) (.map []) := ⟨isMap_empty, fun b _ => rfl⟩
theorem Hm.put {hd : Nat → Bool} {D : DataW Unit} (h : Hm hd D) (b : Nat) : Hm (upd hd b true) (D.put (.int .i64 (b : Nat)) (.lit (.bool true))) := by
  refine ⟨h.1.put _ _, fun c hc => ?_⟩
  by_cases e : c = b
  · subst e
    rw [upd_same]
    exact atKey_put_same h.1 (show WideAt.IsKeyLit (.int .i64 (c : Nat)) from trivial) _ _
  · rw [upd_ne _ _ e, atKey_put_other (by intro k; injection k with _ k; omega)]
    exact h.2 c hc
theorem plainBool8 (b : Bool) : plainElem (H := Unit) Tryz.prog 4 (.bool b) = some (.lit (.bool b), []) := by
  unfold plainElem; rw [Tryz.underlying4]
theorem plainBool_inv8 {P : Program} {e : TypeId} (he : P.underlying e = some .bool) {v : Value} {z : DataW Unit × List MemPlace} (h : plainElem P e v = some z) : ∃ x, v = .bool x ∧ z = (.lit (.bool x), []) := by
  unfold plainElem at h
  rw [he] at h
  cases v <;> simp at h
  subst h
  exact ⟨_, rfl, rfl⟩
theorem plainBool8_inv {v : Value} {z : DataW Unit × List MemPlace} (h : plainElem (H := Unit) Tryz.prog 4 v = some z) : ∃ x, v = .bool x ∧ z = (.lit (.bool x), []) := plainBool_inv8 Tryz.underlying4 h
/-- what it tells of a block -/
theorem Hm.look {hd : Nat → Bool} {D : DataW Unit} {w : World} {mb n b : Nat} (h : Hm hd D) (hm : w.ownsMap Tryz.prog 3 (plainElem (H := Unit) Tryz.prog 4) mb n D) (hb : b < 14) :
    (Instr.lookup 43 (.map (some mb)) (.int .i64 (b : Nat)) false).run Tryz.prog w = .ok (.bool (hd b)) w := by
  obtain ⟨v, ps, hrun, hv⟩ := hm.lookup keyI Tryz.underlying43 (z := .bool false) (by kernel_rfl) (plainBool8 false) (key_i (b := b) (by omega))
  obtain ⟨c, rfl, e2⟩ := plainBool8_inv hv
  rw [h.2 b hb] at e2
  have : hd b = c := by simpa using (Prod.mk.inj e2).1
  rw [this]; exact hrun
theorem Hurt.weak {S : Nat → Sd} {b : Nat} {g K : Int} {T : ByteArray} {hd : Bool} (h : Hurt S b g K T false) : Hurt S b g K T hd := ⟨h.each, h.one, fun _ => h.all rfl⟩
/-- the image, and what is known of it, of the second writing -/
def T2 (f : Nat → ByteArray) (b : Nat) : ByteArray := imT (b : Nat) 2 (f b)
def K2 (f : Nat → ByteArray) (b : Nat) : Int := ckT (b : Nat) 2 (f b)
theorem img2 (f : Nat → ByteArray) (b : Nat) : imgK f 2 b = T2 f b := rfl
/-- all that stands between the harms -/
def HW (w : World) (f : Nat → ByteArray) (hb ob nb pt u mm tb bb q pa pb n cc : Nat) (S : Nat → Sd) (hd : Nat → Bool) (D : DataW Unit) (wr : World) : Prop :=
  Has wr u 25 [.pointer (some ⟨pa, 0, none⟩), .pointer (some ⟨pb, 0, none⟩)] ∧ Has wr pt 36 (ptrsL f 2 0) ∧ Has wr nb 37 (nowL f 2 0) ∧ Has wr ob 37 (oldL f 2 0) ∧ (∀ t, t < 2 → (S t).m = []) ∧
  (∀ b, b < 14 → Hurt S b 2 (K2 f b) (T2 f b) (hd b)) ∧ Hm hd D ∧ wr.ownsMap Tryz.prog 3 (plainElem (H := Unit) Tryz.prog 4) hb n D ∧ MG w [hb, ob, nb, pt, u] mm tb bb q (pdOf pa pb) S noG cc 0 wr
section
variable {w wr w' : World} {f : Nat → ByteArray} {hb ob nb pt u mm tb bb q pa pb n cc cc' b s : Nat} {S S' : Nat → Sd} {hd : Nat → Bool} {D : DataW Unit}
theorem HW.dv (h : HW w f hb ob nb pt u mm tb bb q pa pb n cc S hd D wr) : Has wr u 25 [.pointer (some ⟨pa, 0, none⟩), .pointer (some ⟨pb, 0, none⟩)] := h.1
theorem HW.dev (h : HW w f hb ob nb pt u mm tb bb q pa pb n cc S hd D wr) (hs : s < 2) : wr.cell? ⟨u, s, none⟩ = some (.pointer (some ⟨pdOf pa pb s, 0, none⟩)) := by
  rcases (show s = 0 ∨ s = 1 by omega) with rfl | rfl
  · exact Has.cell h.1 0
  · exact Has.cell h.1 1
theorem HW.now (h : HW w f hb ob nb pt u mm tb bb q pa pb n cc S hd D wr) : Has wr nb 37 (nowL f 2 0) := h.2.2.1
theorem HW.old (h : HW w f hb ob nb pt u mm tb bb q pa pb n cc S hd D wr) : Has wr ob 37 (oldL f 2 0) := h.2.2.2.1
theorem now_cell (h : Has wr nb 37 (nowL f 2 0)) (hb4 : b < 14) : wr.cell? ⟨nb, b, none⟩ = some (.string (T2 f b)) := by
  rw [Has.cell h, now_get f hb4, show kOf 2 0 b = 2 by unfold kOf; simp]; rfl
theorem HW.nowc (h : HW w f hb ob nb pt u mm tb bb q pa pb n cc S hd D wr) (hb4 : b < 14) : wr.cell? ⟨nb, b, none⟩ = some (.string (T2 f b)) := by
  rw [Has.cell h.now, now_get f hb4, show kOf 2 0 b = 2 by unfold kOf; simp]; rfl
theorem HW.oldc (h : HW w f hb ob nb pt u mm tb bb q pa pb n cc S hd D wr) (hb4 : b < 14) : wr.cell? ⟨ob, b, none⟩ = some (.string (imT (b : Nat) 1 (f b))) := by
  rw [Has.cell h.old, old_get f hb4, show kOf 2 0 b - 1 = 1 by unfold kOf; simp]; rfl
theorem HW.m0 (h : HW w f hb ob nb pt u mm tb bb q pa pb n cc S hd D wr) : ∀ t, t < 2 → (S t).m = [] := h.2.2.2.2.1
theorem HW.hurt (h : HW w f hb ob nb pt u mm tb bb q pa pb n cc S hd D wr) : ∀ b, b < 14 → Hurt S b 2 (K2 f b) (T2 f b) (hd b) := h.2.2.2.2.2.1
theorem HW.hm (h : HW w f hb ob nb pt u mm tb bb q pa pb n cc S hd D wr) : Hm hd D := h.2.2.2.2.2.2.1
theorem HW.map (h : HW w f hb ob nb pt u mm tb bb q pa pb n cc S hd D wr) : wr.ownsMap Tryz.prog 3 (plainElem (H := Unit) Tryz.prog 4) hb n D := h.2.2.2.2.2.2.2.1
theorem HW.mg (h : HW w f hb ob nb pt u mm tb bb q pa pb n cc S hd D wr) : MG w [hb, ob, nb, pt, u] mm tb bb q (pdOf pa pb) S noG cc 0 wr := h.2.2.2.2.2.2.2.2
theorem HW.later (h : HW w f hb ob nb pt u mm tb bb q pa pb n cc S hd D wr) (k : Below wr.heap.size wr w') : HW w f hb ob nb pt u mm tb bb q pa pb n cc S hd D w' := by
  obtain ⟨h1, h2, h3, h4, h5, h6, h7, h8, h9⟩ := h
  exact ⟨h1.below k h1.lt, h2.below k h2.lt, h3.below k h3.lt, h4.below k h4.lt, h5, h6, h7, owns_on8 h8 k, h9.later k⟩
/-- a block's number is put into the map -/
theorem HW.mark (h : HW w f hb ob nb pt u mm tb bb q pa pb n cc S hd D wr) (hn : hd b = false) (hg : wr.grownBy w' (some hb)) (ho : w'.ownsMap Tryz.prog 3 (plainElem (H := Unit) Tryz.prog 4) hb (n + 1) (D.put (.int .i64 (b : Nat)) (.lit (.bool true)))) :
    HW w f hb ob nb pt u mm tb bb q pa pb (n + 1) cc S (upd hd b true) (D.put (.int .i64 (b : Nat)) (.lit (.bool true))) w' := by
  obtain ⟨h1, h2, h3, h4, h5, h6, h7, h8, h9⟩ := h
  have hne : ∀ {x : Nat} {ty : TypeId} {cs : List Value}, Has wr x ty cs → some x ≠ some hb := fun hx e => owns_ne_has h8 hx (by cases e; rfl)
  refine ⟨has_row h1 hg (hne h1), has_row h2 hg (hne h2), has_row h3 hg (hne h3), has_row h4 hg (hne h4), h5, fun c hc => ?_, h7.put b, ho, h9.grow hg (fun k hk => by cases hk; simp)⟩
  by_cases e : c = b
  · subst e
    rw [upd_same]
    have := h6 c hc
    rw [hn] at this
    exact this.weak
  · rw [upd_ne _ _ e]; exact h6 c hc
/-- one copy of a block is hurt -/
theorem HW.harm (h : HW w f hb ob nb pt u mm tb bb q pa pb n cc S hd D wr) (hm0 : ∀ t, t < 2 → (S' t).m = []) (hdb : hd b = true) (hx : Hurt S' b 2 (K2 f b) (T2 f b) true)
    (far : ∀ c, c < 14 → c ≠ b → Hurt S' c 2 (K2 f c) (T2 f c) (hd c)) (hm : MG w [hb, ob, nb, pt, u] mm tb bb q (pdOf pa pb) S' noG cc' 0 w') (hsm : Same [hb, ob, nb, pt, u] wr w') : HW w f hb ob nb pt u mm tb bb q pa pb n cc' S' hd D w' := by
  obtain ⟨h1, h2, h3, h4, h5, h6, h7, h8, h9⟩ := h
  refine ⟨h1.same (hsm u (by simp)), h2.same (hsm pt (by simp)), h3.same (hsm nb (by simp)), h4.same (hsm ob (by simp)), hm0, fun c hc => ?_, h7, owns_keep8 h8 hsm (by simp), hm⟩
  by_cases e : c = b
  · subst e; rw [hdb]; exact hx
  · exact far c hc e
theorem HW.setV {x : ByteArray} (h : HW w f hb ob nb pt u mm tb bb q pa pb n cc S hd D wr) (h0 : Hurt S b 2 (K2 f b) (T2 f b) false) (hdb : hd b = true) (hs : s < 2) (hx : x = T2 f b ∨ wh (some x) (b : Int) 2 (K2 f b) = false)
    (hm : MG w [hb, ob, nb, pt, u] mm tb bb q (pdOf pa pb) (setV S s (4 + b) x) noG cc' 0 w') (hsm : Same [hb, ob, nb, pt, u] wr w') : HW w f hb ob nb pt u mm tb bb q pa pb n cc' (setV S s (4 + b) x) hd D w' :=
  h.harm (fun t ht => by rw [setV_m]; exact h.m0 t ht) hdb (Hurt.setV h.m0 hs h0 hx) (fun c hc hne => Hurt.setV_far h.m0 hs h0 (h.hurt c hc) hne) hm hsm
theorem HW.stick (h : HW w f hb ob nb pt u mm tb bb q pa pb n cc S hd D wr) (h0 : Hurt S b 2 (K2 f b) (T2 f b) false) (hdb : hd b = true) (hs : s < 2) (hb4 : b < 14) (hk : Stk S S' s (4 + b))
    (hm : MG w [hb, ob, nb, pt, u] mm tb bb q (pdOf pa pb) S' noG cc' 0 w') (hsm : Same [hb, ob, nb, pt, u] wr w') : HW w f hb ob nb pt u mm tb bb q pa pb n cc' S' hd D w' :=
  h.harm (stick_m0 h.m0 hk) hdb (Hurt.stick h.m0 hs hb4 h0 hk) (fun c hc hne => Hurt.stick_far h.m0 hs hc (h.hurt c hc) hne hk) hm hsm
end
/-- all that stands between the reads: the blocks from c on are as they were hurt -/
def VW (w : World) (f : Nat → ByteArray) (hb pt mm tb bb q pa pb n c cc R : Nat) (S : Nat → Sd) (hd : Nat → Bool) (D : DataW Unit) (wr : World) : Prop :=
  Has wr pt 36 (ptrsL f 2 0) ∧ (∀ b, c ≤ b → b < 14 → Hurt S b 2 (K2 f b) (T2 f b) (hd b)) ∧ Hm hd D ∧ wr.ownsMap Tryz.prog 3 (plainElem (H := Unit) Tryz.prog 4) hb n D ∧ MG w [hb, pt] mm tb bb q (pdOf pa pb) S noG cc R wr
section
variable {w wr w' : World} {f : Nat → ByteArray} {hb ob nb pt u mm tb bb q pa pb n c cc cc' R R' : Nat} {S S' : Nat → Sd} {hd : Nat → Bool} {D : DataW Unit}
theorem HW.vw (h : HW w f hb ob nb pt u mm tb bb q pa pb n cc S hd D wr) : VW w f hb pt mm tb bb q pa pb n 0 cc 0 S hd D wr := by
  obtain ⟨h1, h2, h3, h4, h5, h6, h7, h8, h9⟩ := h
  exact ⟨h2, fun b _ hb => h6 b hb, h7, h8, h9.sub (fun k hk => by simp at hk ⊢; rcases hk with rfl | rfl <;> simp)⟩
theorem VW.hm (h : VW w f hb pt mm tb bb q pa pb n c cc R S hd D wr) : Hm hd D := h.2.2.1
theorem VW.map (h : VW w f hb pt mm tb bb q pa pb n c cc R S hd D wr) : wr.ownsMap Tryz.prog 3 (plainElem (H := Unit) Tryz.prog 4) hb n D := h.2.2.2.1
theorem VW.mg (h : VW w f hb pt mm tb bb q pa pb n c cc R S hd D wr) : MG w [hb, pt] mm tb bb q (pdOf pa pb) S noG cc R wr := h.2.2.2.2
theorem VW.hurt (h : VW w f hb pt mm tb bb q pa pb n c cc R S hd D wr) (hc : c < 14) : Hurt S c 2 (K2 f c) (T2 f c) (hd c) := h.2.1 c (Nat.le_refl _) hc
theorem VW.later (h : VW w f hb pt mm tb bb q pa pb n c cc R S hd D wr) (k : Below wr.heap.size wr w') : VW w f hb pt mm tb bb q pa pb n c cc R S hd D w' := by
  obtain ⟨h2, h6, h7, h8, h9⟩ := h
  exact ⟨h2.below k h2.lt, h6, h7, owns_on8 h8 k, h9.later k⟩
theorem VW.st {P : Nat → Prop} (h : VW w f hb pt mm tb bb q pa pb n c cc R S hd D wr) (hc : c < 14) (k : St S S' noG c (T2 f c) P) (hm : MG w [hb, pt] mm tb bb q (pdOf pa pb) S' noG cc' R' w') (hsm : Same [hb, pt] wr w') : VW w f hb pt mm tb bb q pa pb n c cc' R' S' hd D w' := by
  obtain ⟨h2, h6, h7, h8, h9⟩ := h
  refine ⟨h2.same (hsm pt (by simp)), fun b h1 hb => ?_, h7, owns_keep8 h8 hsm (by simp), hm⟩
  by_cases e : b = c
  · subst e; exact (h6 b h1 hb).st k
  · exact (h6 b h1 hb).far hb e k
theorem VW.next (h : VW w f hb pt mm tb bb q pa pb n c cc R S hd D wr) : VW w f hb pt mm tb bb q pa pb n (c + 1) cc R S hd D wr := by
  obtain ⟨h2, h6, h7, h8, h9⟩ := h
  exact ⟨h2, fun b h1 hb => h6 b (by omega) hb, h7, h8, h9⟩
theorem VW.ptr (h : VW w f hb pt mm tb bb q pa pb n c cc R S hd D wr) (hc : c < 14) : wr.cell? ⟨pt, c * 3, none⟩ = some (.int .i64 (c : Nat)) ∧ wr.cell? ⟨pt, c * 3 + 1, none⟩ = some (.int .u64 2) ∧ wr.cell? ⟨pt, c * 3 + 2, none⟩ = some (.int .u32 (K2 f c)) := by
  have hx := fun r (hr : r < 3) => ptrs_get f (n := 2) (b := 0) hc hr
  have hk : kOf 2 0 c = 2 := by unfold kOf; simp
  simp only [hk] at hx
  have h0 := hx 0 (by omega)
  have h1 := hx 1 (by omega)
  have h2 := hx 2 (by omega)
  rw [Nat.mul_comm 3 c] at h0 h1 h2
  exact ⟨(Has.cell h.1 (c * 3)).trans h0, (Has.cell h.1 (c * 3 + 1)).trans h1, (Has.cell h.1 (c * 3 + 2)).trans h2⟩
end
end Go.Proofs.YtgoampbebjfenaaGreatDoor.Mir

/- A slice of structs that came in, opened into its elements' cells. -/
namespace Go.Proofs.YtgoampbebjfenaaGreatDoor
open Go.ChangeShapes Go.WideShapes Go.RowKit Go.Deep
theorem open_structs {H : Type} {enc : TypeId × Value → H} {P : Program} {w : World} {held : Bool} {t e : TypeId} {fs : Array Field} {c : Value}
    (ht : P.underlying t = some (.slice e)) (he : P.underlying e = some (.struct fs)) (hone : oneCellFields P fs = true) (hC : P.cellsOf e = fs.size) (hpos : 0 < fs.size)
    (h : ∃ m y, DataW.trod enc P w 0 (fun _ => true) held m t [c] = some y) :
    ∃ a len cap, c = .slice a len cap ∧ len ≤ cap ∧ cap ≤ maxLen ∧ (0 < len → ∃ b off, a = some ⟨b, off, none⟩ ∧ ∀ i, i < len → ∀ (j : Nat) (f : Field), fs[j]? = some f →
      ∃ v, w.cell? ⟨b, off + (i * fs.size + j), none⟩ = some v ∧ ∃ m y, DataW.trod enc P w 0 (fun _ => true) held m f.type [v] = some y) := by
  obtain ⟨m, y, h⟩ := h
  rcases open_slice ht h with ⟨hcs, _⟩ | ⟨a, len, cap, m', n, D, Pl, hcs, _, hl, hm, hmm, _, hel⟩
  · simp at hcs
    exact ⟨none, 0, 0, hcs, Nat.le_refl _, by unfold maxLen; omega, fun h => absurd h (by decide)⟩
  · simp at hcs
    refine ⟨some a, len, cap, hcs, hl, hm, fun hlen => ?_⟩
    have hm' : m' = cap := by simpa using hmm
    have key : ∀ i, i < len → ∀ (j : Nat) (f : Field), fs[j]? = some f → ∃ v, w.cell? (a.add (i * fs.size + j)) = some v ∧ ∃ m y, DataW.trod enc P w 0 (fun _ => true) held m f.type [v] = some y := by
      intro i hi j f hj
      obtain ⟨cs, hcells, htr⟩ := hel i (by omega)
      rw [hC] at hcells
      obtain ⟨ys, k, _, _, _, hys, hg⟩ := DataW.trod_struct he htr
      obtain ⟨_, hcl, hat⟩ := World.cells?_some hcells
      obtain ⟨ho, hk⟩ := hone_of hone j f hj
      have hjl : j < fs.size := (Array.getElem?_eq_some_iff.1 hj).1
      have h1 := hg j f hj
      rw [ho, hk] at h1
      have hv : cs[j]? = some (cs[j]'(by omega)) := List.getElem?_eq_getElem (by omega)
      rw [show (cs.drop j).take 1 = [cs[j]'(by omega)] by rw [List.drop_eq_getElem_cons (by omega)]; rfl] at h1
      refine ⟨cs[j]'(by omega), ?_, k, _, h1.trans (List.getElem?_eq_getElem (show j < ys.length by omega))⟩
      have := hat j (by omega)
      rw [Go.Deep.add_add] at this
      rw [this, hv]
    obtain ⟨b, off, spot⟩ := a
    obtain ⟨v0, hv0, _⟩ := key 0 hlen 0 _ (Array.getElem?_eq_getElem hpos)
    have hs : spot = none := by simpa [Addr.add] using World.cell?_spot hv0
    subst hs
    refine ⟨b, off, rfl, fun i hi j f hj => ?_⟩
    obtain ⟨v, hv, hx⟩ := key i hi j f hj
    rw [Addr.add_lit] at hv
    exact ⟨v, hv, hx⟩
theorem open_bool_cell {H : Type} {enc : TypeId × Value → H} {P : Program} {w : World} {base : Nat} {sp : Nat → Bool} {held : Bool} {e : TypeId} {c : Value} (he : P.underlying e = some .bool) (h : ∃ m y, DataW.trod enc P w base sp held m e [c] = some y) : ∃ b : Bool, c = .bool b := by
  obtain ⟨m, y, h⟩ := h
  obtain ⟨b, hb, _⟩ := DataW.trod_bool he h
  exact ⟨b, by simpa using hb⟩
end Go.Proofs.YtgoampbebjfenaaGreatDoor

/- A slice of texts that came in, opened into its cells. -/
namespace Go.Proofs.YtgoampbebjfenaaGreatDoor
open Go.ChangeShapes Go.WideShapes Go.RowKit Go.Deep
/-- a slice's texts -/
def TextsAt (w : World) (a : Option Addr) (len : Nat) : Prop := 0 < len → ∃ b off, a = some ⟨b, off, none⟩ ∧ ∀ i, i < len → ∃ s : ByteArray, w.cell? ⟨b, off + i, none⟩ = some (.string s) ∧ s.size ≤ maxLen
theorem open_texts {H : Type} {enc : TypeId × Value → H} {P : Program} {w : World} {held : Bool} {t e : TypeId} {c : Value}
    (ht : P.underlying t = some (.slice e)) (he : P.underlying e = some .string) (hC : P.cellsOf e = 1)
    (h : ∃ m y, DataW.trod enc P w 0 (fun _ => true) held m t [c] = some y) :
    ∃ a len cap, c = .slice a len cap ∧ TextsAt w a len ∧ len ≤ cap ∧ cap ≤ maxLen := by
  obtain ⟨m, y, h⟩ := h
  rcases open_slice ht h with ⟨hcs, _⟩ | ⟨a, len, cap, m', n, D, Pl, hcs, _, hl, hm, hmm, _, hel⟩
  · simp at hcs
    exact ⟨none, 0, 0, hcs, fun h => absurd h (by decide), Nat.le_refl _, by unfold maxLen; omega⟩
  · simp at hcs
    refine ⟨some a, len, cap, hcs, fun hlen => ?_, hl, hm⟩
    have hm' : m' = cap := by simpa using hmm
    have key : ∀ i, i < len → ∃ s : ByteArray, w.cell? (a.add i) = some (.string s) ∧ s.size ≤ maxLen := by
      intro i hi
      obtain ⟨cs, hcells, htr⟩ := hel i (by omega)
      rw [hC, Nat.mul_one] at hcells
      obtain ⟨s, hs, _, hw⟩ := DataW.trod_string he htr
      obtain ⟨_, hcl, hat⟩ := World.cells?_some hcells
      have := hat 0 (by omega)
      rw [Go.Deep.add_add, Nat.add_zero] at this
      exact ⟨s, by rw [this, hs]; rfl, hw⟩
    obtain ⟨b, off, spot⟩ := a
    obtain ⟨v0, hv0, _⟩ := key 0 hlen
    have hs : spot = none := by simpa [Addr.add] using World.cell?_spot hv0
    subst hs
    refine ⟨b, off, rfl, fun i hi => ?_⟩
    obtain ⟨v, hv, hx⟩ := key i hi
    rw [Addr.add_lit] at hv
    exact ⟨v, hv, hx⟩
end Go.Proofs.YtgoampbebjfenaaGreatDoor

