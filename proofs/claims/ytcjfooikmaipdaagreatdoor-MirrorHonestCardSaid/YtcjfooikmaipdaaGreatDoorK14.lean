/- Layers' contracts, bundled: MirM. -/
import Derived.Test.YtcjfooikmaipdaaGreatDoorK13
import Derived.Maps.Views
import Derived.Maps.OwnSet
import Derived.Maps.RangeWalk
import Derived.Maps.StringElems
/- Layer 8's laws: what is known of blocks, in maps. -/
namespace Go.Proofs.YtcjfooikmaipdaaGreatDoor.Mir
open Go Go.RowKit Go.Proofs.YtcjfooikmaipdaaGreatDoor Dev Tab Rem Go.Maps Go.WideMaps
set_option linter.unusedVariables false

section
variable {w w' : World} {P : Program} {k : TypeId} {R : Value → Option (DataW Unit × List MemPlace)} {b r n cnt : Nat} {D : DataW Unit} {left : Lit → Bool} {X : List Nat}
theorem owns_same8 (h : w.ownsMap P k R b n D) (hk : w'.heap[b]? = w.heap[b]?) : w'.ownsMap P k R b n D := by
  obtain ⟨es, clock, hb, F, hs, hD⟩ := h
  exact ⟨es, clock, hk.trans hb, F, hs, hD⟩
theorem owns_lt8 (h : w.ownsMap P k R b n D) : b < w.heap.size := by
  obtain ⟨es, clock, hb, _⟩ := h
  exact (Array.getElem?_eq_some_iff.1 hb).1
theorem owns_on8 (h : w.ownsMap P k R b n D) (hb : Below w.heap.size w w') : w'.ownsMap P k R b n D := owns_same8 h (hb.block _ (owns_lt8 h))
theorem owns_keep8 (h : w.ownsMap P k R b n D) (hs : Same X w w') (hx : b ∈ X) : w'.ownsMap P k R b n D := owns_same8 h (hs b hx)
theorem ranges_same8 (h : w.ranges P k R b r n D left cnt) (hb : w'.heap[b]? = w.heap[b]?) (hr : w'.heap[r]? = w.heap[r]?) : w'.ranges P k R b r n D left cnt := by
  obtain ⟨es, clock, since, seen, c0, h1, h2, h3, h4, h5, h6⟩ := h
  exact ⟨es, clock, since, seen, c0, hb.trans h1, h2, h3, h4, hr.trans h5, h6⟩
theorem ranges_keep8 (h : w.ranges P k R b r n D left cnt) (hs : Same X w w') (hb : b ∈ X) (hr : r ∈ X) : w'.ranges P k R b r n D left cnt := ranges_same8 h (hs b hb) (hs r hr)
theorem ranges_on8 (h : w.ranges P k R b r n D left cnt) (hb : Below w.heap.size w w') : w'.ranges P k R b r n D left cnt := ranges_same8 h (hb.block _ (owns_lt8 h.owns)) (hb.block _ h.lt)
theorem below_grown (hg : w.grownBy w' none) : Below w.heap.size w w' := ⟨hg.os, hg.tape, hg.output, hg.size, fun k hk => hg.block k hk (by simp)⟩
end
theorem full8_any (s : ByteArray) (w : World) (hs : s.size ≤ 1000000) :
    Calls Tryz.prog 29 #[.string s] w fun e w' => e = .returned (.string (fullN s)) ∧ Below w.heap.size w w' := by
  have HF := Lib.hid (show fullN s = (s ++ stars).extract 0 128 from rfl)
  have HS := Lib.hid (show (⟨(Lib.repeatL (⟨#[42]⟩ : ByteArray).data.toList 128).toArray⟩ : ByteArray) = stars from rfl)
  have h1 := stars_size
  have h2 : (s ++ stars).size = s.size + 128 := by rw [ByteArray.size_append, h1]
  have h3 : ¬ 9223372036854775807 < s.size + 128 := by omega
  have h4 : (128 : Int) ≤ (s.size : Int) + 128 := by omega
  have h5 : 128 ≤ s.size + 128 := by omega
  go_enter Tryz.func29, Tryz.ntmps29
  go_wp2_with fail
  refine (Tryz.strings_Repeat _ 128 _ (by omega) (show 1 * 128 ≤ _ by omega)).mono ?_
  rintro e w1 ⟨rfl, hb⟩
  rw [HS.out]
  have HB := Lib.hid hb
  clear hb
  go_wp2
  go_ret
  exact ⟨by rw [HF.out]; rfl, HB.out⟩
theorem run_minM (w : World) (a c : Nat) : ∀ W ts, (Builtin.min_ ts 3 #[.int .i64 (a : Nat), .int .i64 (c : Nat)]).run Tryz.prog W = .ok (.int .i64 ((min a c : Nat) : Int)) W := fun W ts => run_minC _ _ _ _ a c
/-! ### what is known of a block, as a map's element -/
def PV (a g k : Int) : DataW Unit := .agg [.lit (.int .i64 a), .lit (.int .u64 g), .lit (.int .u32 k)]
def ptrL : List Value → Option (DataW Unit × List MemPlace)
  | [.int .i64 a, .int .u64 g, .int .u32 k] => some (PV a g k, [])
  | _ => none
def ptrRd : Value → Option (DataW Unit × List MemPlace)
  | .agg cs => ptrL cs.toList
  | _ => none
def ptrMk (c : Int × Int × Int) : Value := ptrV c.1 c.2.1 c.2.2
theorem ptrL_inv (l : List Value) (y : DataW Unit × List MemPlace) (h : ptrL l = some y) : ∃ a g k : Int, l = [.int .i64 a, .int .u64 g, .int .u32 k] := by
  unfold ptrL at h
  split at h
  · exact ⟨_, _, _, rfl⟩
  · cases h
theorem ptrRd_inv (v : Value) (y : DataW Unit × List MemPlace) (h : ptrRd v = some y) : ∃ c : Int × Int × Int, v = ptrMk c := by
  cases v with
  | agg cs =>
    obtain ⟨a, g, k, e⟩ := ptrL_inv cs.toList y h
    refine ⟨(a, g, k), ?_⟩
    show Value.agg cs = .agg #[.int .i64 a, .int .u64 g, .int .u32 k]
    rw [show cs = #[.int .i64 a, .int .u64 g, .int .u32 k] from Array.toList_inj.1 e]
  | _ => cases h
theorem ptrRd_mk (a g k : Int) : ptrRd (ptrV a g k) = some (PV a g k, []) := rfl
theorem PV_inj {a g k a' g' k' : Int} (h : PV a g k = PV a' g' k') : a = a' ∧ g = g' ∧ k = k' := by
  unfold PV at h
  injection h with h
  simp at h
  exact h
theorem keyI : Keyed Tryz.prog 3 := int_keyed Tryz.underlying3
theorem key_i {b : Nat} (hb : b < 1000000) : keyOf Tryz.prog 3 (.int .i64 (b : Nat)) = some (.int .i64 (b : Nat)) := keyOf_int_mk Tryz.underlying3 (wf_i64 hb)
/-- each block that is known has its image on each side that isn't gone -/
structure Kn (F : Lit → ByteArray → Prop) (S : Nat → Sd) (G : Nat → Bool) (N : Nat) (D : DataW Unit) : Prop where
  map : IsMap D
  at_ : ∀ z, Maps.has D z = true → ∃ (b g : Nat) (t : ByteArray), b < 14 ∧ g < N ∧ z = .int .i64 (b : Nat) ∧ F z t ∧ t.size ≤ 104 ∧ (∀ zd, D.atKey z zd = PV b g (ckT b g t)) ∧ ∀ s, s < 2 → G s = false → cont S G s b = some (imT b g t)
section
variable {F F' : Lit → ByteArray → Prop} {S S' : Nat → Sd} {G G' : Nat → Bool} {N N' : Nat} {D : DataW Unit} {b : Nat} {t d : ByteArray} {P : Nat → Prop}
theorem Kn.start : Kn F S G N (.map []) := ⟨isMap_empty, fun z h => by cases h⟩
theorem Kn.go (h : Kn F S G N D) (hN : N ≤ N') (hS : ∀ s b, s < 2 → b < 14 → G' s = false → G s = false ∧ cont S' G' s b = cont S G s b) : Kn F S' G' N' D :=
  ⟨h.map, fun z hz => by
    obtain ⟨b, g, t, h1, h2, h3, h4, h5, h6, h7⟩ := h.at_ z hz
    exact ⟨b, g, t, h1, by omega, h3, h4, h5, h6, fun s hs hG => (hS s b hs h1 hG).2.trans (h7 s hs (hS s b hs h1 hG).1)⟩⟩
/-- nothing was written -/
theorem St.idle (h : St S S' G b d P) (hP : ∀ s, s < 2 → ¬ P s) {s b' : Nat} (hs : s < 2) (hb : b' < 14) : cont S' G s b' = cont S G s b' := by
  by_cases e : b' = b
  · subst e; exact h.kept hs (hP s hs)
  · exact h.far s hs b' hb e
theorem Kn.idle (h : Kn F S G N D) (k : St S S' G b d P) (hP : ∀ s, s < 2 → ¬ P s) : Kn F S' G N D := h.go (Nat.le_refl _) fun s b hs hb hG => ⟨hG, k.idle hP hs hb⟩
theorem Kn.wrote (h : Kn F S G N D) (hn : NoBad S) (hg : GoodS S) (hb : b < 14) (ht : t.size ≤ 104) (k : St S S' G b (imT b N t) (fun u => u ∈ al G)) (hF : F' (.int .i64 (b : Nat)) t) (hFF : ∀ z u, z ≠ .int .i64 (b : Nat) → F z u → F' z u) : Kn F' S' G (N + 1) (D.put (.int .i64 (b : Nat)) (PV b N (ckT b N t))) := by
  refine ⟨h.map.put _ _, fun z hz => ?_⟩
  by_cases e : z = .int .i64 (b : Nat)
  · subst e
    exact ⟨b, N, t, hb, by omega, rfl, hF, ht, fun zd => atKey_put_same h.map (show WideAt.IsKeyLit (.int .i64 (b : Nat)) from trivial) _ _, fun s hs hG => k.got hn hg hs hb (al_mem.2 ⟨hs, hG⟩) hG⟩
  · rw [has_put_other e] at hz
    obtain ⟨b', g, t', h1, h2, h3, h4, h5, h6, h7⟩ := h.at_ z hz
    have hne : b' ≠ b := fun e2 => e (by rw [h3, e2])
    exact ⟨b', g, t', h1, by omega, h3, hFF z t' e h4, h5, fun zd => by rw [atKey_put_other e]; exact h6 zd, fun s hs hG => (k.far s hs b' h1 hne).trans (h7 s hs hG)⟩
/-- all that are there have it: the first one is found, and nothing is written anew -/
theorem fnd_all {g K : Int} {T : ByteArray} (hal : al G ≠ []) (hc : ∀ s, s < 2 → G s = false → cont S G s b = some T) (hw : wh (some T) (b : Int) g K = true) : ∃ s, fnd S G b g K = some s ∧ cont S G s b = some T ∧ rdN S G s b = 0 ∧ ∀ u, ¬ rdP G s u := by
  cases h0 : G 0 with
  | false =>
    refine ⟨0, ?_, hc 0 (by omega) h0, by unfold rdN; rw [if_neg (by omega)], fun u hu => by have := hu.2.1; omega⟩
    unfold fnd
    have : al G = 0 :: ([1].filter fun s => !G s) := by unfold al; simp [List.filter_cons, h0]
    rw [this, List.find?_cons, hc 0 (by omega) h0, hw]
  | true =>
    cases h1 : G 1 with
    | true => exact absurd (by unfold al; simp [h0, h1]) hal
    | false =>
      refine ⟨1, ?_, hc 1 (by omega) h1, by unfold rdN; rw [if_neg (by rw [h0]; simp)], fun u hu => by have := hu.2.2; rw [h0] at this; cases this⟩
      unfold fnd
      have : al G = [1] := by unfold al; simp [h0, h1]
      rw [this, List.find?_cons, hc 1 (by omega) h1, hw]
theorem sum_zeros : ∀ l : List Nat, (l.map fun _ => 0).sum = 0
  | [] => rfl
  | _ :: l => by rw [List.map_cons, List.sum_cons, sum_zeros l]
theorem hSum_zero (hc : ∀ s, s < 2 → G s = false → cont S G s b = some d) : hSum S G b d (al G) = 0 := by
  unfold hSum
  have : (al G).map (fun s => hlN S G s b d) = (al G).map (fun _ => 0) := List.map_congr_left fun s hs => by
    obtain ⟨h1, h2⟩ := al_mem.1 hs
    unfold hlN; rw [if_pos (hc s h1 h2)]
  rw [this]
  exact sum_zeros _
set_option maxRecDepth 100000 in
theorem Kn.entry {kl : Lit} {kx : Value} {c1 : Int × Int × Int} {y : DataW Unit × List MemPlace} (h : Kn F S G N D) (hh : Maps.has D kl = true) (hx : keyOf Tryz.prog 3 kx = some kl) (hR : ptrRd (ptrMk c1) = some y) (hat : ∀ zd, D.atKey kl zd = y.1) :
    ∃ (b g : Nat) (t : ByteArray), b < 14 ∧ g < N ∧ kl = .int .i64 (b : Nat) ∧ kx = .int .i64 (b : Nat) ∧ F kl t ∧ t.size ≤ 104 ∧ ptrMk c1 = ptrV (b : Nat) (g : Nat) (ckT b g t) ∧ ∀ s, s < 2 → G s = false → cont S G s b = some (imT b g t) := by
  obtain ⟨b, g, t, h1, h2, h3, h4, h5, h6, h7⟩ := h.at_ kl hh
  refine ⟨b, g, t, h1, h2, h3, ?_, h4, h5, ?_, h7⟩
  · exact keyI.inj hx (by rw [h3]; exact key_i (by omega))
  · have e1 : y.1 = PV b g (ckT b g t) := by rw [← hat (.lit (.bool true))]; exact h6 _
    have e2 : ptrRd (ptrMk c1) = some (PV c1.1 c1.2.1 c1.2.2, []) := rfl
    rw [e2] at hR
    have hR2 := Option.some.inj hR
    rw [← hR2] at e1
    obtain ⟨q1, q2, q3⟩ := PV_inj e1
    unfold ptrMk; rw [q1, q2, q3]
section
variable {w w' : World} {Pr : Program} {k : TypeId} {R : Value → Option (DataW Unit × List MemPlace)} {mb r n cnt u : Nat} {left : Lit → Bool} {ty : TypeId} {cs : List Value}
theorem owns_ne_has (h : w.ownsMap Pr k R mb n D) (hh : Has w u ty cs) : u ≠ mb := fun e => by
  obtain ⟨es, clock, hb, _⟩ := h
  unfold Has at hh
  rw [e, hb] at hh; cases hh
theorem owns_ne_tab (h : w.ownsMap Pr k R mb n D) (hh : Sum.IsTab w u) : u ≠ mb := fun e => by
  obtain ⟨es, clock, hb, _⟩ := h
  have := hh 0 (by omega)
  unfold World.cell? at this
  rw [e, hb] at this; cases this
theorem ranges_ne_has (h : w.ranges Pr k R mb r n D left cnt) (hh : Has w u ty cs) : u ≠ r := fun e => by
  obtain ⟨es, clock, since, seen, c0, h1, h2, h3, h4, h5, h6⟩ := h
  unfold Has at hh
  rw [e, h5] at hh; cases hh
theorem ranges_ne_tab (h : w.ranges Pr k R mb r n D left cnt) (hh : Sum.IsTab w u) : u ≠ r := fun e => by
  obtain ⟨es, clock, since, seen, c0, h1, h2, h3, h4, h5, h6⟩ := h
  have := hh 0 (by omega)
  unfold World.cell? at this
  rw [e, h5] at this; cases this
theorem has_row {row : Option Nat} (hh : Has w u ty cs) (hg : w.grownBy w' row) (hn : some u ≠ row) : Has w' u ty cs := hh.same (hg.block u hh.lt hn)
theorem tab_row {row : Option Nat} (hh : Sum.IsTab w u) (hg : w.grownBy w' row) (hn : some u ≠ row) : Sum.IsTab w' u := Mir.tab_same hh (hg.block u (isTab_lt hh) hn)
end
end
end Go.Proofs.YtcjfooikmaipdaaGreatDoor.Mir

