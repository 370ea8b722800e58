/- Layers' contracts, bundled: MirA, MirB, MirC, MirD, MirE, MirF, MirZ, MirY. -/
import Derived.Test.YtflanjcfkdjpjaaGreatDoorL10
import Derived.Deep.DeepCutAuto
import Derived.Test.YtflanjcfkdjpjaaGreatDoorL04
import Derived.Test.YtflanjcfkdjpjaaGreatDoorL08
import Derived.Deep.Onto
/- Layer 8 (mirror): a mirror in memory, over a pair of which sides may be gone; what a write of the pair does. -/
set_option linter.unusedVariables false
namespace Go.Proofs.YtflanjcfkdjpjaaGreatDoor.Rem
open Go Go.RowKit Go.Proofs.YtflanjcfkdjpjaaGreatDoor Dev Tab
section
variable {S S' : Nat → Sd} {s b : Nat}
theorem pl_congr {x y : Sd} (h : x.m = y.m) (b : Nat) : pl x b = pl y b := by unfold pl; rw [h]
theorem pl_ge {x : Sd} (hg : Tab.Good 16 4 x.m) {b : Nat} (hb : b < 16) : 4 ≤ pl x b := (pl_bd hg hb).1
theorem pl_lt {x : Sd} (hg : Tab.Good 16 4 x.m) {b : Nat} (hb : b < 16) : pl x b < 24 := by have := (pl_bd hg hb).2.1; have := hg.len; omega
theorem pl_inj {x : Sd} (hg : Tab.Good 16 4 x.m) {b c : Nat} (hb : b < 16) (hc : c < 16) (h : pl x b = pl x c) : b = c := by
  have h1 := (pl_bd hg hb).2.2
  have h2 := (pl_bd hg hc).2.2
  have : plc 16 x.m b = plc 16 x.m c := by omega
  have := plc_inj (n := 16) (m := x.m) (b := (b : Int)) (c := (c : Int)) (by omega) (by omega) this
  omega
theorem pl_push {x y : Sd} {b c : Nat} (h : y.m = x.m ++ [(b : Int)]) (hc : c ≠ b) : pl y c = pl x c := by
  unfold pl; rw [h, plc_snoc, if_neg (by omega)]
theorem pl_pushed {x y : Sd} {b : Nat} (h : y.m = x.m ++ [(b : Int)]) : pl y b = 20 + x.m.length := by
  unfold pl; rw [h, plc_snoc, if_pos rfl]; omega
theorem Oth.keep (h : Oth S S' s) (hg : ∀ t, t < 2 → Tab.Good 16 4 (S t).m) {s' b' : Nat} (h1 : s' < 2) (h2 : b' < 16) (hne : s' ≠ s) : (S' s').B (pl (S' s') b') = (S s').B (pl (S s') b') ∧ (S' s').V (pl (S' s') b') = (S s').V (pl (S s') b') := by
  obtain ⟨r1, r2, r3⟩ := h s' h1 hne
  rw [pl_congr r1 b', r2]
  exact ⟨rfl, r3 _ (pl_ge (hg s' h1) h2)⟩
theorem Wr.keep {d : ByteArray} (h : Wr S S' s b d) (hg : ∀ t, t < 2 → Tab.Good 16 4 (S t).m) (hg' : ∀ t, t < 2 → Tab.Good 16 4 (S' t).m) (hb : b < 16) {s' b' : Nat} (h1 : s' < 2) (h2 : b' < 16) (hne : ¬ (s' = s ∧ b' = b)) : (S' s').B (pl (S' s') b') = (S s').B (pl (S s') b') ∧ (S' s').V (pl (S' s') b') = (S s').V (pl (S s') b') := by
  by_cases e : s' = s
  · subst e
    have hb' : b' ≠ b := fun e => hne ⟨rfl, e⟩
    have hp : pl (S' s') b' = pl (S s') b' := by
      have := h.m
      split at this
      · exact pl_push this hb'
      · exact pl_congr this b'
    rw [hp, h.bad]
    refine ⟨rfl, h.rest _ (pl_ge (hg s' h1) h2) (.inl fun e2 => hb' ?_)⟩
    rw [← hp] at e2
    exact pl_inj (hg' s' h1) h2 hb e2
  · exact h.oth.keep hg h1 h2 e
theorem wrE_9 {x : Sd} (h : wrE x b ≠ 0) : wrE x b = 9 ∧ x.B (pl x b) = true ∧ 4 ≤ x.m.length := by
  unfold wrE at h ⊢
  split
  · rename_i hh; exact ⟨rfl, hh⟩
  · rename_i hh; rw [if_neg hh] at h; exact absurd rfl h
theorem Wr.same {d : ByteArray} (h : Wr S S' s b d) (hE : wrE (S s) b ≠ 0) : (S' s).m = (S s).m := by
  rw [h.m, if_neg]; have := (wrE_9 hE).2.2; omega
theorem Wr.good {d : ByteArray} (h : Wr S S' s b d) (hE : wrE (S s) b = 0) (hsp : Spare (S s)) : (S' s).B (pl (S' s) b) = false := by
  rw [h.bad]
  have hm := h.m
  by_cases hB : (S s).B (pl (S s) b) = true
  · have hl : (S s).m.length < 4 := by
      by_cases hl : (S s).m.length < 4
      · exact hl
      · unfold wrE at hE; rw [if_pos ⟨hB, by omega⟩] at hE; cases hE
    rw [if_pos ⟨hB, hl⟩] at hm
    rw [pl_pushed hm]
    exact hsp _ (Nat.le_refl _) hl
  · rw [if_neg (fun h => hB h.1)] at hm
    rw [pl_congr hm b]
    simpa using hB
theorem Wr.spare {d : ByteArray} (h : Wr S S' s b d) (hsp : ∀ t, t < 2 → Spare (S t)) : ∀ t, t < 2 → Spare (S' t) := fun t ht j h1 h2 => by
  by_cases e : t = s
  · subst e
    rw [h.bad]
    refine hsp t ht j ?_ h2
    have := h.m
    split at this
    · rw [this, List.length_append] at h1; simp at h1; omega
    · rw [this] at h1; exact h1
  · obtain ⟨r1, r2, _⟩ := h.oth t ht e
    rw [r2]; exact hsp t ht j (by rw [← r1]; exact h1) h2
theorem Wr.len {d : ByteArray} (h : Wr S S' s b d) {t : Nat} (ht : t < 2) : (S t).m.length ≤ (S' t).m.length := by
  by_cases e : t = s
  · subst e
    rw [h.m]; split
    · simp
    · omega
  · rw [(h.oth t ht e).1]; omega
theorem Wr.nobad {d : ByteArray} (h : Wr S S' s b d) (hB : ∀ t, t < 2 → ∀ i, 4 ≤ i → i < 24 → (S t).B i = false) : ∀ t, t < 2 → ∀ i, 4 ≤ i → i < 24 → (S' t).B i = false := fun t ht i h1 h2 => by
  by_cases e : t = s
  · subst e; rw [h.bad]; exact hB t ht i h1 h2
  · rw [(h.oth t ht e).2.1]; exact hB t ht i h1 h2
end
end Go.Proofs.YtflanjcfkdjpjaaGreatDoor.Rem
namespace Go.Proofs.YtflanjcfkdjpjaaGreatDoor.Mir
open Go Go.RowKit Go.Proofs.YtflanjcfkdjpjaaGreatDoor Dev Tab Rem Go.Maps Go.WideMaps

/-! ### what a write of the pair does -/
def wE (S : Nat → Sd) (G : Nat → Bool) (s b : Nat) : Int := if G s = true then 8 else wrE (S s) b
def WrX (S S' : Nat → Sd) (G : Nat → Bool) (s b : Nat) (d : ByteArray) : Prop := (G s = true → S' = S) ∧ (G s = false → Wr S S' s b d)
/-- either nobody is gone, or there is no bad sector -/
def Fit (S : Nat → Sd) (G : Nat → Bool) : Prop := (∀ t, t < 2 → Spare (S t)) ∧ ((∀ t, t < 2 → G t = false) ∨ (∀ t, t < 2 → ∀ i, 4 ≤ i → i < 24 → (S t).B i = false))
/-- what a side reads of a block -/
def cont (S : Nat → Sd) (G : Nat → Bool) (s b : Nat) : Option ByteArray := if G s = true ∨ (S s).B (pl (S s) b) = true then none else some ((S s).V (pl (S s) b))
def GoodS (S : Nat → Sd) : Prop := ∀ t, t < 2 → Tab.Good 16 4 (S t).m
section
variable {S S' : Nat → Sd} {G : Nat → Bool} {s b : Nat} {d : ByteArray}
theorem wE_gone (h : G s = true) : wE S G s b = 8 := if_pos h
theorem wE_there (h : G s = false) : wE S G s b = wrE (S s) b := if_neg (by rw [h]; decide)
theorem wE_vals : wE S G s b = 0 ∨ wE S G s b = 8 ∧ G s = true ∨ wE S G s b = 9 ∧ G s = false ∧ 4 ≤ (S s).m.length := by
  cases hG : G s with
  | true => exact .inr (.inl ⟨wE_gone hG, rfl⟩)
  | false =>
    rw [wE_there hG]
    by_cases h : wrE (S s) b = 0
    · exact .inl h
    · exact .inr (.inr ⟨(wrE_9 h).1, rfl, (wrE_9 h).2.2⟩)
theorem WrX.fit (h : WrX S S' G s b d) (hf : Fit S G) : Fit S' G := by
  cases hG : G s with
  | true => rw [h.1 hG]; exact hf
  | false =>
    have hw := h.2 hG
    refine ⟨hw.spare hf.1, ?_⟩
    rcases hf.2 with hf | hf
    · exact .inl hf
    · exact .inr (hw.nobad hf)
theorem WrX.len (h : WrX S S' G s b d) {t : Nat} (ht : t < 2) : (S t).m.length ≤ (S' t).m.length := by
  cases hG : G s with
  | true => rw [h.1 hG]; omega
  | false => exact (h.2 hG).len ht
theorem WrX.cont_ok (h : WrX S S' G s b d) (hf : Fit S G) (hs : s < 2) (hE : wE S G s b = 0) : cont S' G s b = some d := by
  cases hG : G s with
  | true => rw [wE_gone hG] at hE; cases hE
  | false =>
    rw [wE_there hG] at hE
    unfold cont
    rw [if_neg (by rw [hG, (h.2 hG).good hE (hf.1 s hs)]; simp), (h.2 hG).at_ hE]
theorem WrX.cont_no (h : WrX S S' G s b d) (hg : GoodS S) (hs : s < 2) (hb : b < 16) (hE : wE S G s b ≠ 0) : cont S' G s b = cont S G s b := by
  cases hG : G s with
  | true => rw [h.1 hG]
  | false =>
    rw [wE_there hG] at hE
    have hw := h.2 hG
    unfold cont
    rw [pl_congr (hw.same hE) b, hw.bad, hw.rest _ (pl_ge (hg s hs) hb) (.inr hE)]
theorem WrX.cont_far (h : WrX S S' G s b d) (hg : GoodS S) (hg' : GoodS S') (hb : b < 16) {s' b' : Nat} (h1 : s' < 2) (h2 : b' < 16) (hne : ¬ (s' = s ∧ b' = b)) : cont S' G s' b' = cont S G s' b' := by
  cases hG : G s with
  | true => rw [h.1 hG]
  | false =>
    obtain ⟨r1, r2⟩ := (h.2 hG).keep hg hg' hb h1 h2 hne
    unfold cont
    rw [r1, r2]
theorem Wr.start {V : Nat → ByteArray} : True := trivial
end
section
variable {w0 w w' : World} {X Y : List Nat} {q c : Nat} {pd : Nat → Nat} {S : Nat → Sd} {G : Nat → Bool} {s : Nat}
theorem wr_plain {b : Nat} {d : ByteArray} (hB : (S s).B (pl (S s) b) = false) : Wr S (setS S s (upd (S s).V (pl (S s) b) d) (S s).B) s b d := by
  have hE : wrE (S s) b = 0 := by unfold wrE; rw [if_neg (by rw [hB]; simp)]
  have hp : ∀ b', pl (setS S s (upd (S s).V (pl (S s) b) d) (S s).B s) b' = pl (S s) b' := fun b' => pl_congr (setS_m _ _ _ _ _) b'
  refine ⟨fun t ht hne => ?_, ?_, ?_, fun _ => ?_, fun i h1 h2 => ?_⟩
  · rw [setS_ne _ _ _ hne]; exact ⟨rfl, rfl, fun _ _ => rfl⟩
  · rw [setS_same]
  · rw [setS_m, if_neg (by rw [hB]; simp)]
  · rw [hp, setS_same]; exact upd_same _ _ _
  · rw [hp] at h2; rw [setS_same]; refine upd_ne _ _ ?_
    rcases h2 with h2 | h2
    · exact h2
    · exact absurd hE h2
theorem pwrite (h : CG w0 X q pd S G c w) (hf : Fit S G) (hs : s < 2) {b : Nat} (hb : b < 16) {d : ByteArray} (hd : d.size = 192) (hc : c ≤ 900000) : Calls Tryz.prog 110 #[.pointer (some ⟨q, 0, none⟩), .int .i64 (s : Nat), .int .i64 (b : Nat), .string d] w fun e w' => ∃ S', e = .returned (.int .i64 (wE S G s b)) ∧ WrX S S' G s b d ∧ CG w0 X q pd S' G (c + 4) w' ∧ Same X w w' := by
  have hg := h.good hs
  rcases hf.2 with hG | hB
  · have hcp := h.cp (hG 0 (by omega)) (hG 1 (by omega))
    refine (write_c hcp hs hb hd hc (hf.1 s hs)).mono ?_
    rintro e w' ⟨S', rfl, hw, hc', hsm⟩
    refine ⟨S', by rw [wE_there (hG s hs)], ⟨fun h => (by rw [hG s hs] at h; cases h), fun _ => hw⟩, ?_, hsm⟩
    have := hc'.cg
    refine ⟨?_, this.slots⟩
    obtain ⟨D, e1, e2⟩ := this.raw
    exact ⟨D, e1, fun t ht => by rw [hG t ht]; exact e2 t ht⟩
  · have hp : G s = false → (S s).B (pl (S s) b) = false := fun _ => hB s hs _ (pl_ge hg hb) (pl_lt hg hb)
    refine (write_g h hs hb hd (by omega) hp).mono ?_
    rintro e w' ⟨rfl, hc', hsm⟩
    refine ⟨_, ?_, ⟨fun hG => ?_, fun hG => ?_⟩, hc'.mono (by omega), hsm⟩
    · cases hG : G s with
      | true => rw [wE_gone hG]; rfl
      | false => rw [wE_there hG]; unfold wrE; rw [hp hG, if_neg (by simp)]; rfl
    · unfold wrG; rw [if_pos hG]
    · unfold wrG; rw [if_neg (by rw [hG]; decide)]; exact wr_plain (hp hG)
/-- what Read answers, by what there is -/
theorem pread (h : CG w0 X q pd S G c w) (hs : s < 2) {b : Nat} (hb : b < 16) (hc : c ≤ 1000000) : Calls Tryz.prog 120 #[.pointer (some ⟨q, 0, none⟩), .int .i64 (s : Nat), .int .i64 (b : Nat)] w fun e w' => (∃ x : Int, e = .returned (.tuple #[.string ((cont S G s b).getD ⟨#[]⟩), .int .i64 x]) ∧ x ≠ 6 ∧ (x = 0 ↔ (cont S G s b).isSome = true)) ∧ CG w0 X q pd S G c w' ∧ Same X w w' := by
  refine (read_g h hs hb hc).mono ?_
  rintro e w' ⟨rfl, hc', hsm⟩
  refine ⟨⟨rdGE S G s b, ?_, ?_, ?_⟩, hc', hsm⟩
  · rw [show rdGT S G s b = (cont S G s b).getD ⟨#[]⟩ from ?_]
    unfold rdGT cont
    have : rdGE S G s b = 0 ↔ ¬ (G s = true ∨ (S s).B (pl (S s) b) = true) := by
      unfold rdGE
      cases G s <;> cases (S s).B (pl (S s) b) <;> simp
    by_cases hh : G s = true ∨ (S s).B (pl (S s) b) = true
    · rw [if_pos hh, if_neg (fun h => this.1 h hh)]; rfl
    · rw [if_neg hh, if_pos (this.2 hh)]; rfl
  · unfold rdGE; cases G s <;> cases (S s).B (pl (S s) b) <;> simp
  · unfold rdGE cont; cases G s <;> cases (S s).B (pl (S s) b) <;> simp

/-! ### the mirror -/
/-- each bad place is of a side whose spares are all used -/
def BadOk (S : Nat → Sd) (D : DataW Unit) : Prop := IsMap D ∧ ∀ z, Maps.has D z = true → ∃ s b, s < 2 ∧ b < 16 ∧ z = kl s b ∧ 4 ≤ (S s).m.length
def mrow (q tb bb R : Nat) : List Value := [.pointer (some ⟨q, 0, none⟩), .pointer (some ⟨tb, 0, none⟩), .int .i64 R, .map (some bb)]
structure MG (w0 : World) (Y : List Nat) (mm tb bb q : Nat) (pd : Nat → Nat) (S : Nat → Sd) (G : Nat → Bool) (c R : Nat) (w : World) : Prop where
  cg : CG w0 (mm :: tb :: bb :: Y) q pd S G c w
  fit : Fit S G
  row : Has w mm 120 (mrow q tb bb R)
  tab : Sum.IsTab w tb
  mt : mm ≠ tb
  my : mm ∉ Y ∧ tb ∉ Y ∧ bb ∉ Y
  map : ∃ n D, n ≤ c ∧ MapB w bb n D ∧ BadOk S D
theorem cell_same {w w' : World} {a : Addr} (h : w'.heap[a.block]? = w.heap[a.block]?) : w'.cell? a = w.cell? a := by unfold World.cell?; rw [h]
theorem tab_same {w w' : World} {b : Nat} (h : Sum.IsTab w b) (hk : w'.heap[b]? = w.heap[b]?) : Sum.IsTab w' b := fun j hj => (cell_same (a := ⟨b, j, none⟩) hk).trans (h j hj)
theorem BadOk.mono {S S' : Nat → Sd} {D : DataW Unit} (h : BadOk S D) (hm : ∀ t, t < 2 → (S t).m.length ≤ (S' t).m.length) : BadOk S' D :=
  ⟨h.1, fun z hz => by obtain ⟨s, b, h1, h2, h3, h4⟩ := h.2 z hz; exact ⟨s, b, h1, h2, h3, Nat.le_trans h4 (hm s h1)⟩⟩
section
variable {mm tb bb R : Nat}
theorem MG.good (h : MG w0 Y mm tb bb q pd S G c R w) : GoodS S := fun t ht => h.cg.good ht
/-- the pair goes on -/
theorem MG.go {S' : Nat → Sd} {G' : Nat → Bool} {c' : Nat} (h : MG w0 Y mm tb bb q pd S G c R w) (hc : CG w0 (mm :: tb :: bb :: Y) q pd S' G' c' w') (hsm : Same (mm :: tb :: bb :: Y) w w') (hf : Fit S' G') (hm : ∀ t, t < 2 → (S t).m.length ≤ (S' t).m.length) (hcc : c ≤ c') : MG w0 Y mm tb bb q pd S' G' c' R w' := by
  obtain ⟨n, D, h1, h2, h3⟩ := h.map
  exact ⟨hc, hf, Has.same h.row (hsm mm (by simp)), tab_same h.tab (hsm tb (by simp)), h.mt, h.my, n, D, Nat.le_trans h1 hcc, mapB_same h2 (hsm bb (by simp)), h3.mono hm⟩
theorem MG.later (h : MG w0 Y mm tb bb q pd S G c R w) (hb : Below w.heap.size w w') : MG w0 Y mm tb bb q pd S G c R w' :=
  h.go (h.cg.later hb) (Same.of_belowG h.cg hb) h.fit (fun _ _ => Nat.le_refl _) (Nat.le_refl _)
theorem MG.mono (h : MG w0 Y mm tb bb q pd S G c R w) {d : Nat} (hd : c ≤ d) : MG w0 Y mm tb bb q pd S G d R w :=
  h.go (h.cg.mono hd) (Same.refl _ _) h.fit (fun _ _ => Nat.le_refl _) hd
theorem MG.read (h : MG w0 Y mm tb bb q pd S G c R w) (hc : CG w0 (mm :: tb :: bb :: Y) q pd S G c w') (hsm : Same (mm :: tb :: bb :: Y) w w') : MG w0 Y mm tb bb q pd S G c R w' :=
  h.go hc hsm h.fit (fun _ _ => Nat.le_refl _) (Nat.le_refl _)
theorem same_y (hsm : Same (mm :: tb :: bb :: Y) w w') : Same Y w w' := fun k hk => hsm k (by simp [hk])
theorem MG.c0 (h : MG w0 Y mm tb bb q pd S G c R w) : w.cell? ⟨mm, 0, none⟩ = some (.pointer (some ⟨q, 0, none⟩)) := (Has.cell h.row 0).trans rfl
theorem MG.c1 (h : MG w0 Y mm tb bb q pd S G c R w) : w.cell? ⟨mm, 1, none⟩ = some (.pointer (some ⟨tb, 0, none⟩)) := (Has.cell h.row 1).trans rfl
theorem MG.c2 (h : MG w0 Y mm tb bb q pd S G c R w) : w.cell? ⟨mm, 2, none⟩ = some (.int .i64 R) := (Has.cell h.row 2).trans rfl
theorem MG.c3 (h : MG w0 Y mm tb bb q pd S G c R w) : w.cell? ⟨mm, 3, none⟩ = some (.map (some bb)) := (Has.cell h.row 3).trans rfl
theorem MG.fz (h : MG w0 Y mm tb bb q pd S G c R w) (i : Nat) : w.frozen? ⟨mm, i, none⟩ = false := Has.frozen h.row i
theorem MG.mb (h : MG w0 Y mm tb bb q pd S G c R w) : mm ≠ bb := fun e => by
  obtain ⟨n, D, _, h2, _⟩ := h.map
  obtain ⟨es, clock, hb, _⟩ := h2
  have := h.row
  unfold Has at this
  rw [e, hb] at this
  cases this
theorem MG.tb_ (h : MG w0 Y mm tb bb q pd S G c R w) : tb ≠ bb := fun e => by
  obtain ⟨n, D, _, h2, _⟩ := h.map
  obtain ⟨es, clock, hb, _⟩ := h2
  have := h.tab 0 (by omega)
  unfold World.cell? at this
  rw [e, hb] at this
  cases this
theorem MG.lt (h : MG w0 Y mm tb bb q pd S G c R w) : mm < w.heap.size := Has.lt h.row
/-- the map turned -/
theorem MG.turn {n : Nat} {D : DataW Unit} (h : MG w0 Y mm tb bb q pd S G c R w) (hg : w.grownBy w' (some bb)) (hn : n ≤ c) (hm : MapB w' bb n D) (hb : BadOk S D) : MG w0 Y mm tb bb q pd S G c R w' := by
  have hblk : ∀ k, k ≠ bb → k < w.heap.size → w'.heap[k]? = w.heap[k]? := fun k h1 h2 => hg.block k h2 (by simpa using h1)
  refine ⟨h.cg.chg ((Chg.refl _ w).grown hg (fun k _ hk => by cases hk; simp)), h.fit, Has.same h.row (hblk mm h.mb h.lt), tab_same h.tab (hblk tb h.tb_ (h.cg.x tb (by simp)).2), h.mt, h.my, n, D, hn, hm, hb⟩
theorem same_turn (h : MG w0 Y mm tb bb q pd S G c R w) (hg : w.grownBy w' (some bb)) : Same Y w w' := fun k hk => hg.block k (h.cg.x k (by simp [hk])).2 (by
  have : bb ≠ k := fun e => h.my.2.2 (by rw [e]; exact hk)
  simpa using fun e => this e.symm)
/-- one repair more -/
theorem MG.more (h : MG w0 Y mm tb bb q pd S G c R w) (R' : Nat) : MG w0 Y mm tb bb q pd S G c R' (w.setCell ⟨mm, 2, none⟩ (.int .i64 R')) ∧ Same Y w (w.setCell ⟨mm, 2, none⟩ (.int .i64 R')) := by
  have hblk : ∀ k, k ≠ mm → (w.setCell ⟨mm, 2, none⟩ (.int .i64 R')).heap[k]? = w.heap[k]? := fun k hk => Below.heap_setCell _ _ _ _ hk
  obtain ⟨n, D, h1, h2, h3⟩ := h.map
  refine ⟨⟨h.cg.chg ((Chg.refl _ w).setCell (fun _ => by simp) _), h.fit, Has.set h.row 2 _, tab_same h.tab (hblk tb (Ne.symm h.mt)), h.mt, h.my, n, D, h1, mapB_same h2 (hblk bb (Ne.symm h.mb)), h3⟩, fun k hk => hblk k (fun e => h.my.1 (by rw [← e]; exact hk))⟩
end
end
/-! ### what is done to both copies of a block -/
/-- each bad sector -/
def NoBad (S : Nat → Sd) : Prop := ∀ t, t < 2 → ∀ i, 4 ≤ i → i < 24 → (S t).B i = false
/-- the sides of which P holds were given the image d of the block b -/
structure St (S S' : Nat → Sd) (G : Nat → Bool) (b : Nat) (d : ByteArray) (P : Nat → Prop) : Prop where
  len : ∀ t, t < 2 → (S t).m.length ≤ (S' t).m.length
  far : ∀ s, s < 2 → ∀ b', b' < 16 → b' ≠ b → cont S' G s b' = cont S G s b'
  at_ : ∀ s, s < 2 → (P s ∧ wE S G s b = 0 ∧ cont S' G s b = some d) ∨ ((P s → wE S G s b ≠ 0) ∧ cont S' G s b = cont S G s b ∧ wE S' G s b = wE S G s b)
  nb : NoBad S → NoBad S'
  m0 : NoBad S → ∀ t, t < 2 → (S' t).m = (S t).m
section
variable {S S' S'' : Nat → Sd} {G : Nat → Bool} {s b : Nat} {d : ByteArray} {P Q : Nat → Prop}
theorem St.none : St S S G b d (fun _ => False) := ⟨fun _ _ => Nat.le_refl _, fun _ _ _ _ _ => rfl, fun _ _ => .inr ⟨fun h => h.elim, rfl, rfl⟩, fun h => h, fun _ _ _ => rfl⟩
theorem St.iff (h : St S S' G b d P) (hP : ∀ s, s < 2 → (Q s ↔ P s)) : St S S' G b d Q := ⟨h.len, h.far, fun s hs => by
  rcases h.at_ s hs with ⟨h1, h2⟩ | ⟨h1, h2⟩
  · exact .inl ⟨(hP s hs).2 h1, h2⟩
  · exact .inr ⟨fun h => h1 ((hP s hs).1 h), h2⟩, h.nb, h.m0⟩
theorem St.trans (h : St S S' G b d P) (k : St S' S'' G b d Q) (hPQ : ∀ s, s < 2 → P s → ¬ Q s) : St S S'' G b d (fun s => P s ∨ Q s) := by
  refine ⟨fun t ht => Nat.le_trans (h.len t ht) (k.len t ht), fun s hs b' h1 h2 => (k.far s hs b' h1 h2).trans (h.far s hs b' h1 h2), fun s hs => ?_, fun hn => k.nb (h.nb hn), fun hn t ht => (k.m0 (h.nb hn) t ht).trans (h.m0 hn t ht)⟩
  rcases h.at_ s hs with ⟨h1, h2, h3⟩ | ⟨h1, h2, h3⟩
  · rcases k.at_ s hs with ⟨k1, k2, k3⟩ | ⟨k1, k2, k3⟩
    · exact absurd k1 (hPQ s hs h1)
    · exact .inl ⟨.inl h1, h2, k2.trans h3⟩
  · rcases k.at_ s hs with ⟨k1, k2, k3⟩ | ⟨k1, k2, k3⟩
    · exact .inl ⟨.inr k1, by rw [← h3]; exact k2, k3⟩
    · refine .inr ⟨fun hh => ?_, k2.trans h2, k3.trans h3⟩
      rcases hh with hh | hh
      · exact h1 hh
      · rw [← h3]; exact k1 hh
theorem St.wr (h : WrX S S' G s b d) (hf : Fit S G) (hg : GoodS S) (hg' : GoodS S') (hs : s < 2) (hb : b < 16) : St S S' G b d (fun t => t = s) := by
  refine ⟨fun t ht => h.len ht, fun s' hs' b' h1 h2 => h.cont_far hg hg' hb hs' h1 (fun hh => h2 hh.2), fun t ht => ?_, fun hn => ?_, fun hn t ht => ?_⟩
  · by_cases e : t = s
    · subst e
      by_cases hE : wE S G t b = 0
      · exact .inl ⟨rfl, hE, h.cont_ok hf hs hE⟩
      · refine .inr ⟨fun _ => hE, h.cont_no hg hs hb hE, ?_⟩
        cases hG : G t with
        | true => rw [h.1 hG]
        | false =>
          rw [wE_there hG] at hE ⊢
          rw [wE_there hG]
          have hw := h.2 hG
          unfold wrE
          rw [pl_congr (hw.same hE) b, hw.bad, hw.same hE]
    · refine .inr ⟨fun h => absurd h e, h.cont_far hg hg' hb ht hb (fun hh => e hh.1), ?_⟩
      cases hG : G s with
      | true => rw [h.1 hG]
      | false =>
        have hw := (h.2 hG).oth t ht e
        unfold wE wrE
        rw [pl_congr hw.1 b, hw.2.1, hw.1]
  · cases hG : G s with
    | true => rw [h.1 hG]; exact hn
    | false => exact (h.2 hG).nobad hn
  · cases hG : G s with
    | true => rw [h.1 hG]
    | false =>
      have hw := h.2 hG
      by_cases e : t = s
      · subst e
        rw [hw.m, if_neg]
        rw [hn t ht _ (pl_ge (hg t ht) hb) (pl_lt (hg t ht) hb)]; simp
      · exact (hw.oth t ht e).1
/-- without bad sectors each side that isn't gone takes what it is given -/
theorem wE_nobad (hn : NoBad S) (hg : GoodS S) (hs : s < 2) (hb : b < 16) : wE S G s b = if G s = true then 8 else 0 := by
  unfold wE wrE
  rw [hn s hs _ (pl_ge (hg s hs) hb) (pl_lt (hg s hs) hb)]
  simp
end

/-- what a side reads has a sector's bytes -/
theorem reads_size {D : Dv} (ok : D.Ok) {i : Nat} (hi : i < D.n) : (D.reads i).size = D.size := by
  rw [reads_med]
  cases hf : D.cache.reverse.find? fun x => x.1 == i with
  | some x => exact ok.text x (List.mem_reverse.1 (List.mem_of_find?_eq_some hf))
  | none =>
    show (medG D i).size = D.size
    unfold medG
    have hi' : i < D.secs.length := hi
    rw [List.getElem?_eq_getElem hi']
    exact ok.media _ (List.getElem_mem hi')
theorem cont_size {w0 w : World} {X : List Nat} {q c : Nat} {pd : Nat → Nat} {S : Nat → Sd} {G : Nat → Bool} (h : CG w0 X q pd S G c w) {s b : Nat} (hs : s < 2) (hb : b < 16) {t : ByteArray} (ht : cont S G s b = some t) : t.size = 192 := by
  have hg := h.good hs
  obtain ⟨⟨D, e1, e2⟩, _⟩ := h
  unfold cont at ht
  by_cases hh : G s = true ∨ (S s).B (pl (S s) b) = true
  · rw [if_pos hh] at ht; cases ht
  · rw [if_neg hh] at ht
    have hG : G s = false := by cases hG : G s with
      | true => exact absurd (.inl hG) hh
      | false => rfl
    have h2 := e2 s hs
    rw [hG] at h2
    have h2 : Cd (D s) 24 192 (S s).V (S s).B c := h2
    have hl := pl_lt hg hb
    have := reads_size (e1.ok hs) (i := pl (S s) b) (by rw [h2.n]; exact hl)
    rw [h2.vis _ hl, h2.size] at this
    injection ht with ht
    rw [← ht]; exact this
/-! ### blocks that are new lie apart -/
theorem _root_.Go.Proofs.YtflanjcfkdjpjaaGreatDoor.Rem.CPe.fresh {w0 w w' : World} {X : List Nat} {q : Nat} {pd : Nat → Nat} {m : Nat → List Int} {D : Nat → Dv} (h : CPe w0 X q pd m D w) (hb : Below w.heap.size w w') {b : Nat} (h1 : w.heap.size ≤ b) (h2 : b < w'.heap.size) : CPe w0 (b :: X) q pd m D w' := by
  have hql := h.lt
  have hlow := h.below.size
  have hl := h.later hb
  obtain ⟨⟨sb, cv, hd, hf, hff⟩, hp, hq, hx, hb0⟩ := h
  refine ⟨⟨sb, cv, fun s hs => (hd s hs).below hb (Nat.le_refl _), fun s hs k hk => ⟨(hf s hs k hk).1, ?_, (hf s hs k hk).2.2⟩, hff⟩, hl.pb, ⟨hq.1, ?_⟩, ?_, hl.below⟩
  · intro he
    rcases List.mem_cons.1 he with rfl | he
    · have := (hd s hs).lt _ hk; omega
    · exact (hf s hs k hk).2.1 he
  · intro he
    rcases List.mem_cons.1 he with rfl | he
    · omega
    · exact hq.2 he
  · intro k hk
    rcases List.mem_cons.1 hk with rfl | hk
    · exact ⟨Nat.le_trans hlow h1, h2⟩
    · exact hl.x k hk
section
variable {w0 w w' : World} {X Y Z : List Nat} {q c mm tb bb R : Nat} {pd : Nat → Nat} {S : Nat → Sd} {G : Nat → Bool}
theorem _root_.Go.Proofs.YtflanjcfkdjpjaaGreatDoor.Rem.CG.fresh (h : CG w0 X q pd S G c w) (hb : Below w.heap.size w w') {b : Nat} (h1 : w.heap.size ≤ b) (h2 : b < w'.heap.size) : CG w0 (b :: X) q pd S G c w' := by
  obtain ⟨⟨D, e1, e2⟩, h3⟩ := h; exact ⟨⟨D, e1.fresh hb h1 h2, e2⟩, h3⟩
theorem MG.sub (h : MG w0 Y mm tb bb q pd S G c R w) (hZ : ∀ k ∈ Z, k ∈ Y) : MG w0 Z mm tb bb q pd S G c R w :=
  ⟨h.cg.sub (fun k hk => by simp at hk ⊢; rcases hk with rfl | rfl | rfl | hk <;> simp [*]), h.fit, h.row, h.tab, h.mt, ⟨fun e => h.my.1 (hZ _ e), fun e => h.my.2.1 (hZ _ e), fun e => h.my.2.2 (hZ _ e)⟩, h.map⟩
theorem MG.fresh (h : MG w0 Y mm tb bb q pd S G c R w) (hb : Below w.heap.size w w') {b : Nat} (h1 : w.heap.size ≤ b) (h2 : b < w'.heap.size) : MG w0 (b :: Y) mm tb bb q pd S G c R w' := by
  have hl := h.later hb
  have hm := (h.cg.x mm (by simp)).2
  have ht := (h.cg.x tb (by simp)).2
  have hbb := (h.cg.x bb (by simp)).2
  refine ⟨(h.cg.fresh hb h1 h2).sub (fun k hk => by simp at hk ⊢; rcases hk with rfl | rfl | rfl | rfl | hk <;> simp [*]), h.fit, hl.row, hl.tab, h.mt, ⟨?_, ?_, ?_⟩, hl.map⟩
  · intro e; rcases List.mem_cons.1 e with e | e
    · omega
    · exact h.my.1 e
  · intro e; rcases List.mem_cons.1 e with e | e
    · omega
    · exact h.my.2.1 e
  · intro e; rcases List.mem_cons.1 e with e | e
    · omega
    · exact h.my.2.2 e
theorem MG.y (h : MG w0 Y mm tb bb q pd S G c R w) : ∀ k ∈ Y, w0.heap.size ≤ k ∧ k < w.heap.size := fun k hk => h.cg.x k (by simp [hk])
theorem MG.below (h : MG w0 Y mm tb bb q pd S G c R w) : Below w0.heap.size w0 w := h.cg.below
theorem MG.new (h : MG w0 Y mm tb bb q pd S G c R w) (o : Obj) : MG w0 (w.heap.size :: Y) mm tb bb q pd S G c R (w.alloc o) := h.fresh ((Below.refl _ w).alloc (Nat.le_refl _) o) (Nat.le_refl _) (by simp)
end
end Go.Proofs.YtflanjcfkdjpjaaGreatDoor.Mir


/- Layer 8 (mirror): contracts of its small functions. -/
namespace Go.Proofs.YtflanjcfkdjpjaaGreatDoor.Mir
open Go Go.RowKit Go.Proofs.YtflanjcfkdjpjaaGreatDoor Dev Tab Rem Go.Maps Go.WideMaps
set_option linter.unusedVariables false

/-- the sides that aren't gone -/
def al (G : Nat → Bool) : List Nat := [0, 1].filter (fun s => !G s)
def alK (G : Nat → Bool) (r : Nat) : List Nat := (List.range r).filter (fun s => !G s)
theorem alK_two (G : Nat → Bool) : alK G 2 = al G := rfl
theorem alK_next (G : Nat → Bool) (r : Nat) : alK G (r + 1) = if G r = true then alK G r else alK G r ++ [r] := by
  unfold alK
  rw [List.range_succ, List.filter_append]
  cases h : G r <;> simp [h]
theorem alK_le (G : Nat → Bool) (r : Nat) : (alK G r).length ≤ r := by
  unfold alK; have := List.length_filter_le (fun s => !G s) (List.range r); rwa [List.length_range] at this
theorem al_mem {G : Nat → Bool} {s : Nat} : s ∈ al G ↔ s < 2 ∧ G s = false := by
  rw [← alK_two]; unfold alK
  rw [List.mem_filter, List.mem_range]; simp
theorem al_le (G : Nat → Bool) : (al G).length ≤ 2 := alK_le G 2
theorem al_nodup (G : Nat → Bool) : (al G).Nodup := by
  rw [← alK_two]; unfold alK
  exact List.Nodup.sublist List.filter_sublist List.nodup_range
def iV (l : List Nat) : List Value := l.map fun s => Value.int .i64 (s : Nat)
theorem iV_snoc (l : List Nat) (s : Nat) : iV (l ++ [s]) = iV l ++ [.int .i64 s] := by simp [iV]
/-- a row of sides -/
def Sides (w : World) (a : Option Addr) (l : List Nat) : Prop := l = [] ∨ ∃ b, a = some ⟨b, 0, none⟩ ∧ ∀ k (hk : k < l.length), w.cell? ⟨b, k, none⟩ = some (.int .i64 (l[k] : Nat))
theorem Sides.same {w w' : World} {a : Option Addr} {l : List Nat} (h : Sides w a l) (hk : ∀ b o, a = some ⟨b, o, none⟩ → w'.heap[b]? = w.heap[b]?) : Sides w' a l := by
  rcases h with h | ⟨b, rfl, h⟩
  · exact .inl h
  · exact .inr ⟨b, rfl, fun k hl => (cell_same (a := ⟨b, k, none⟩) (hk b 0 rfl)).trans (h k hl)⟩
theorem own_sides {w : World} {B n cap : Nat} {ao : Option Addr} {l : List Nat} {e : TypeId} (h : w.ownsRow B e 1 (.slice ao n cap) n (iV l)) : Sides w ao l ∧ ∀ b o, ao = some ⟨b, o, none⟩ → B ≤ b ∧ b < w.heap.size := by
  refine ⟨?_, fun b o hb => h.lt b (by subst hb; rfl)⟩
  rcases h.2 with ⟨h1, h2⟩ | ⟨g, cap', cur, h1, -⟩
  · left
    have := h.1
    subst h2
    simpa [iV] using this
  · right
    injection h1 with h1 _ _
    subst h1
    refine ⟨g, rfl, fun k hk => ?_⟩
    have := h.cells (g := g) rfl k (.int .i64 (l[k] : Nat)) (by unfold iV; rw [List.getElem?_map, List.getElem?_eq_getElem hk]; rfl)
    have e : (⟨g, 0, none⟩ : Addr).add k = ⟨g, k, none⟩ := by unfold Addr.add; split <;> simp_all
    rwa [e] at this
theorem info_int8 : (Tryz.prog.info? 3).map (fun i => (i.zero, i.size, i.bytes)) = some (some (.int .i64 0), 1, 8) := by kernel_rfl
section
variable {w0 w w' : World} {X Y Z : List Nat} {q c mm tb bb R : Nat} {pd : Nat → Nat} {S : Nat → Sd} {G : Nat → Bool}
set_option maxHeartbeats 1000000 in
set_option maxRecDepth 100000 in
theorem alive_m (h : MG w0 Y mm tb bb q pd S G c R w) : Calls Tryz.prog 63 #[.pointer (some ⟨mm, 0, none⟩)] w fun e w' => ∃ a cap, e = .returned (.slice a (al G).length cap) ∧ Sides w' a (al G) ∧ (∀ b o, a = some ⟨b, o, none⟩ → w.heap.size ≤ b ∧ b < w'.heap.size) ∧ Below w.heap.size w w' := by
  obtain ⟨i0, hi, hz0, hz1, hz2⟩ := info_parts info_int8
  have HM := Lib.hid h
  have hown := World.ownsRow_nil w w.heap.size 3 1
  clear h
  go_enter Tryz.func63, Tryz.ntmps63
  go_wp2_with fail
  go_loopw [3, 5] (fun v i wr => ∃ r : Nat, r ≤ 2 ∧ i = .int .i64 r ∧ wr.ownsRow w.heap.size 3 1 v (alK G r).length (iV (alK G r)) ∧ Below w.heap.size w wr) (fun _ i _ => 2 - (intOf i).toNat)
  case atStart => exact ⟨0, Nat.zero_le _, rfl, hown, Below.refl _ _⟩
  case round =>
    obtain ⟨r, hr, rfl, hownr, hbr⟩ := hrel
    have hszr := hbr.size
    clear hown
    by_cases hlt : r < 2
    · have HMr := Lib.hid (HM.out.later hbr)
      have c0 := HMr.out.c0
      have hle := alK_le G r
      cases hG : G r with
      | true =>
        have HN := Lib.hid (show alK G (r + 1) = alK G r by rw [alK_next, if_pos hG])
        go_wp2_with (first | (go_at_call 97; refine (alive_g HMr.out.cg hlt).mono ?_; rintro e w' ⟨rfl, rfl⟩; rw [hG]))
        go_roundw
        case rel => exact ⟨r + 1, by omega, by go_num, by rw [HN.out]; exact hownr, hbr⟩
        case measure => simp [intOf]; omega
      | false =>
        have HN := Lib.hid (show alK G (r + 1) = alK G r ++ [r] by rw [alK_next, if_neg (by rw [hG]; decide)])
        go_wp2_with (first | (go_at_call 97; refine (alive_g HMr.out.cg hlt).mono ?_; rintro e w' ⟨rfl, rfl⟩; rw [hG]) | (at_builtin; refine wpList_append_own _ rfl _ _ 148 rfl w.heap.size 3 i0 (.int .i64 0) 1 8 Tryz.underlying148 hi hz0 hz1 hz2 rfl (by decide) _ _ _ rfl (hownr.alloc _) ⟨wr.heap.size, 0, none⟩ 1 1 [.int .i64 r] rfl rfl ?c1 ?c2 ?c3 ?c4 ?c5 ?_))
        case c1 =>
          intro j q hj
          match j, hj with
          | 0, hj => simp at hj; subst hj; simp [Addr.add]
        case c2 => intro q hq; simp at hq; subst hq; rfl
        case c3 => unfold maxLen; omega
        case c4 => omega
        case c5 => simp; omega
        intro v' w2 hown' hgrow _
        have hbel : Below w.heap.size w w2 := (hbr.alloc hszr _).grown hgrow (by simp; omega) (fun q hq => (hownr.lt q hq).1)
        clear hgrow
        go_wp2_with fail
        go_roundw
        case rel => exact ⟨r + 1, by omega, by go_num, by rw [HN.out, iV_snoc, List.length_append]; exact hown', hbel⟩
        case measure => simp [intOf]; omega
    · obtain rfl : r = 2 := by omega
      rw [alK_two] at hownr
      obtain ⟨bo, cap', rfl, hbo⟩ := own_shape hownr
      go_wp2_with fail
      obtain ⟨hs1, hs2⟩ := own_sides hownr
      go_ret
      exact ⟨_, _, rfl, hs1, hs2, hbr⟩
/-- what a call of a block is refused with -/
def rfE (b : Int) : Int := if b < 0 ∨ 16 ≤ b then 3 else 0
theorem refusal_m (h : MG w0 Y mm tb bb q pd S G c R w) (b : Int) : Calls Tryz.prog 92 #[.pointer (some ⟨mm, 0, none⟩), .int .i64 b] w fun e w' => e = .returned (.int .i64 (rfE b)) ∧ Below w.heap.size w w' := by
  have HM := Lib.hid h
  have c0 := h.c0
  have HG := Lib.hid (h.good 0 (by omega))
  clear h
  by_cases h1 : b < 0
  · have HE := Lib.hid (show rfE b = 3 by unfold rfE; rw [if_pos (.inl h1)])
    go_enter Tryz.func92, Tryz.ntmps92
    go_wp2
    go_ret
    exact ⟨by rw [HE.out]; rfl, Below.refl _ _⟩
  · by_cases h2 : b < 16
    · have HE := Lib.hid (show rfE b = 0 by unfold rfE; rw [if_neg (by omega)])
      go_enter Tryz.func92, Tryz.ntmps92
      go_wp2_with fail
      refine (table_e HM.out.cg.pb (s := 0) (by omega)).mono ?_
      rintro e w1 ⟨rfl, hb1⟩
      have HB1 := Lib.hid hb1
      clear hb1
      go_wp2_with fail
      refine (Tab.blocks_any _ _ _ _).mono ?_
      rintro e w2 ⟨rfl, hb2⟩
      have HB2 := Lib.hid (HB1.out.trans (hb2.mono HB1.out.size))
      clear hb2
      go_wp2
      go_ret
      exact ⟨by rw [HE.out]; rfl, HB2.out⟩
    · have h3 : 16 ≤ b := by omega
      have HE := Lib.hid (show rfE b = 3 by unfold rfE; rw [if_pos (.inr h3)])
      clear h2
      go_enter Tryz.func92, Tryz.ntmps92
      go_wp2_with fail
      refine (table_e HM.out.cg.pb (s := 0) (by omega)).mono ?_
      rintro e w1 ⟨rfl, hb1⟩
      have HB1 := Lib.hid hb1
      clear hb1
      go_wp2_with fail
      refine (Tab.blocks_any _ _ _ _).mono ?_
      rintro e w2 ⟨rfl, hb2⟩
      have HB2 := Lib.hid (HB1.out.trans (hb2.mono HB1.out.size))
      clear hb2
      go_wp2
      go_ret
      exact ⟨by rw [HE.out]; rfl, HB2.out⟩
/-- .. of an image, too -/
def irE (b : Int) (n : Nat) : Int := if rfE b ≠ 0 then 3 else if n = 192 then 0 else 2
theorem rfE_v (b : Int) : rfE b = 0 ∨ rfE b = 3 := by unfold rfE; split <;> simp
theorem shape_g (h : CG w0 X q pd S G c w) {s : Nat} (hs : s < 2) : Calls Tryz.prog 78 #[.pointer (some ⟨pd s, 0, none⟩)] w fun e w' => e = .returned (.agg #[.int .i64 24, .int .i64 192]) ∧ Below w.heap.size w w' := by
  obtain ⟨⟨D, e1, e2⟩, _⟩ := h
  obtain ⟨sb, cv, hd, -⟩ := e1.some_
  exact shape_l w (hd s hs) 24 192 (by have := (e2 s hs).n; omega) (by have := (e2 s hs).size; omega)
set_option maxRecDepth 100000 in
theorem irefusal_m (h : MG w0 Y mm tb bb q pd S G c R w) (b : Int) (t : ByteArray) : Calls Tryz.prog 79 #[.pointer (some ⟨mm, 0, none⟩), .int .i64 b, .string t] w fun e w' => e = .returned (.int .i64 (irE b t.size)) ∧ Below w.heap.size w w' := by
  have HM := Lib.hid h
  clear h
  have hv := rfE_v b
  have hfd : ∀ W, (Instr.field 79 (.agg #[.int .i64 24, .int .i64 192]) 1).run Tryz.prog W = .ok (.int .i64 192) W := fun W => by kernel_rfl
  go_enter Tryz.func79, Tryz.ntmps79
  go_wp2_with fail
  refine (refusal_m HM.out b).mono ?_
  rintro e w1 ⟨rfl, hb1⟩
  have HM1 := Lib.hid (HM.out.later hb1)
  have HB1 := Lib.hid hb1
  have c0 := HM1.out.c0
  clear hb1 HM
  rcases hv with hv | hv
  · rw [hv]
    obtain ⟨n, hn⟩ : ∃ n, n = t.size := ⟨_, rfl⟩
    have HV := Lib.hid hv
    clear hv
    by_cases hz : n = 192
    · have HE := Lib.hid (show irE b n = 0 by unfold irE; rw [if_neg (by rw [HV.out]; simp), if_pos hz])
      rw [hn] at HE
      have hzz : (t.size : Int) = 192 := by omega
      have hzn : t.size = 192 := by omega
      clear hn hz
      go_wp2_with fail
      refine (device_e HM1.out.cg.pb (s := 0) (by omega)).mono ?_
      rintro e w2 ⟨rfl, rfl⟩
      go_wp2_with fail
      refine (shape_g HM1.out.cg (s := 0) (by omega)).mono ?_
      rintro e w2 ⟨rfl, hb2⟩
      have HB2 := Lib.hid (HB1.out.trans (hb2.mono HB1.out.size))
      clear hb2
      go_wp2
      go_ret
      exact ⟨by rw [HE.out]; rfl, HB2.out⟩
    · have HE := Lib.hid (show irE b n = 2 by unfold irE; rw [if_neg (by rw [HV.out]; simp), if_neg hz])
      rw [hn] at HE
      have hzz : ¬ (t.size : Int) = 192 := by omega
      have hzn : ¬ t.size = 192 := by omega
      clear hn hz
      go_wp2_with fail
      refine (device_e HM1.out.cg.pb (s := 0) (by omega)).mono ?_
      rintro e w2 ⟨rfl, rfl⟩
      go_wp2_with fail
      refine (shape_g HM1.out.cg (s := 0) (by omega)).mono ?_
      rintro e w2 ⟨rfl, hb2⟩
      have HB2 := Lib.hid (HB1.out.trans (hb2.mono HB1.out.size))
      clear hb2
      go_wp2
      go_ret
      exact ⟨by rw [HE.out]; rfl, HB2.out⟩
  · have HE := Lib.hid (show irE b t.size = 3 by unfold irE; rw [if_pos (by rw [hv]; decide)])
    rw [hv]
    clear hv
    go_wp2
    go_ret
    exact ⟨by rw [HE.out]; rfl, HB1.out⟩
theorem BadOk.del {S : Nat → Sd} {D : DataW Unit} (h : BadOk S D) (k : Lit) : BadOk S (D.del k) := ⟨h.1.del _, fun z hz => by
  by_cases e : z = k
  · rw [e, has_del_same] at hz; cases hz
  · rw [has_del_other e] at hz; exact h.2 z hz⟩
theorem BadOk.put {S : Nat → Sd} {D : DataW Unit} (h : BadOk S D) {s b : Nat} (hs : s < 2) (hb : b < 16) (hl : 4 ≤ (S s).m.length) (x : DataW Unit) : BadOk S (D.put (kl s b) x) := ⟨h.1.put _ _, fun z hz => by
  by_cases e : z = kl s b
  · exact ⟨s, b, hs, hb, e, hl⟩
  · rw [has_put_other e] at hz; exact h.2 z hz⟩
set_option maxHeartbeats 1000000 in
set_option maxRecDepth 100000 in
theorem put_m (h : MG w0 Y mm tb bb q pd S G c R w) {s b : Nat} (hs : s < 2) (hb : b < 16) {d : ByteArray} (hd : d.size = 192) (hc : c ≤ 800000) : Calls Tryz.prog 80 #[.pointer (some ⟨mm, 0, none⟩), .int .i64 (s : Nat), .int .i64 (b : Nat), .string d] w fun e w' => ∃ S', e = .returned (.int .i64 (wE S G s b)) ∧ St S S' G b d (fun t => t = s) ∧ MG w0 Y mm tb bb q pd S' G (c + 4) R w' ∧ Same Y w w' := by
  have HM := Lib.hid h
  have HD := Lib.hid hd
  have HC := Lib.hid hc
  have HB := Lib.hid hb
  have HS := Lib.hid hs
  have c0 := h.c0
  clear h hd hc hb hs
  go_enter Tryz.func80, Tryz.ntmps80
  go_wp2_with fail
  refine (pwrite HM.out.cg HM.out.fit HS.out HB.out HD.out (by have := HC.out; omega)).mono ?_
  rintro e w1 ⟨S1, rfl, hw, hcg, hsm⟩
  have hM1 := HM.out.go hcg hsm (hw.fit HM.out.fit) (fun t ht => hw.len ht) (by omega)
  have HM1 := Lib.hid hM1
  have HST := Lib.hid (St.wr hw HM.out.fit HM.out.good hM1.good HS.out HB.out)
  have HSM := Lib.hid (same_y hsm)
  have c0 := hM1.c0
  have c3 := hM1.c3
  obtain ⟨n, D, hn, hmap0, hbad0⟩ := HM.out.map
  have hmap := mapB_same hmap0 (hsm bb (by simp))
  have hbad := hbad0.mono (fun t ht => hw.len ht)
  have HMP := Lib.hid hmap
  have HBD := Lib.hid hbad
  have HN := Lib.hid hn
  have hv := wE_vals (S := S) (G := G) (s := s) (b := b)
  clear hw hcg hsm hM1 hmap hbad hn HM hmap0 hbad0
  rcases hv with hv | ⟨hv, -⟩ | ⟨hv, -, hl⟩
  · have HV := Lib.hid hv
    rw [hv]
    clear hv
    go_wp2_with (at_delete; refine wpList_delete_own _ rfl _ _ 118 198 rfl 199 keyedP Tryz.underlying118 _ bb n D rfl HMP.out _ _ rfl (keyP HS.out (by have := HB.out; omega)) ?_)
    intro w6 hown hturn
    have HM6 := Lib.hid (HM1.out.turn hturn.grown (Nat.le_trans HN.out (by omega)) hown (HBD.out.del _))
    have HS6 := Lib.hid (HSM.out.trans (same_turn HM1.out hturn.grown))
    clear hown hturn
    go_wp2
    go_ret
    exact ⟨S1, by rw [HV.out]; rfl, HST.out, HM6.out, HS6.out⟩
  · have HV := Lib.hid hv
    rw [hv]
    clear hv
    go_wp2
    go_ret
    exact ⟨S1, by rw [HV.out]; rfl, HST.out, HM1.out, HSM.out⟩
  · have HV := Lib.hid hv
    rw [hv]
    clear hv
    have HL := Lib.hid (Nat.le_trans hl (HST.out.len s HS.out))
    have HNL := Lib.hid (show n < maxLen by unfold maxLen; have := HN.out; have := HC.out; omega)
    clear hl
    go_wp2_with (at_mapUpdate; refine wpList_mapUpdate_own _ rfl _ _ _ 118 rfl 198 199 keyedP Tryz.underlying118 badR bb n D rfl HMP.out HNL.out _ _ (kl s b) rfl rfl (keyP HS.out (by have := HB.out; omega)) (.lit (.bool true)) [] rfl ?_)
    intro w6 hown hgrow
    have HM6 := Lib.hid (HM1.out.turn (n := n + 1) hgrow (by have := HN.out; omega) hown (HBD.out.put HS.out HB.out HL.out _))
    have HS6 := Lib.hid (HSM.out.trans (same_turn HM1.out hgrow))
    clear hown hgrow
    go_wp2
    go_ret
    exact ⟨S1, by rw [HV.out]; rfl, HST.out, HM6.out, HS6.out⟩
end
end Go.Proofs.YtflanjcfkdjpjaaGreatDoor.Mir


/- Layer 8 (mirror): contracts of read, readWhole, repair, heal. -/
namespace Go.Proofs.YtflanjcfkdjpjaaGreatDoor.Mir
open Go Go.RowKit Go.Proofs.YtflanjcfkdjpjaaGreatDoor Dev Tab Rem Go.Maps Go.WideMaps
set_option linter.unusedVariables false

theorem text_ne {s u : ByteArray} (h : ¬ s = u) : (s.toList == u.toList) = false := by
  rw [beq_eq_false_iff_ne]
  intro he
  rw [ByteArray.toList_eq, ByteArray.toList_eq] at he
  apply h
  cases s; cases u
  simp at he
  rw [he]
section
variable {w0 w w' : World} {X Y Z : List Nat} {q c mm tb bb R s b : Nat} {pd : Nat → Nat} {S : Nat → Sd} {G : Nat → Bool}
theorem read_m (h : MG w0 Y mm tb bb q pd S G c R w) (hs : s < 2) (hb : b < 16) (hc : c ≤ 1000000) : Calls Tryz.prog 93 #[.pointer (some ⟨mm, 0, none⟩), .int .i64 (s : Nat), .int .i64 (b : Nat)] w fun e w' => e = .returned (.tuple #[.string ((cont S G s b).getD ⟨#[]⟩), .bool (cont S G s b).isSome, .int .i64 0]) ∧ MG w0 Y mm tb bb q pd S G c R w' ∧ Same Y w w' := by
  have HM := Lib.hid h
  have HC := Lib.hid hc
  have HB := Lib.hid hb
  have HS := Lib.hid hs
  have c0 := h.c0
  obtain ⟨o, ho⟩ : ∃ o, o = cont S G s b := ⟨_, rfl⟩
  have HO := Lib.hid ho
  rw [← ho]
  clear h hc hb hs ho
  go_enter Tryz.func93, Tryz.ntmps93
  go_wp2_with fail
  refine (pread HM.out.cg HS.out HB.out HC.out).mono ?_
  rintro e w1 ⟨⟨x, rfl, h6, h0⟩, hcg, hsm⟩
  rw [← HO.out] at h0 ⊢
  have HM1 := Lib.hid (HM.out.read hcg hsm)
  have HSM := Lib.hid (same_y hsm)
  have H0 := Lib.hid h0
  clear hcg hsm h0
  obtain ⟨y, hy⟩ : ∃ y, y = o.getD ⟨#[]⟩ := ⟨_, rfl⟩
  rw [← hy]
  have HY := Lib.hid hy
  clear hy
  go_wp2
  go_ret3
  refine ⟨?_, HM1.out, HSM.out⟩
  rw [← HY.out]
  have := H0.out
  cases ho : o.isSome with
  | true => rw [ho] at this; simp [this.2 rfl]
  | false => rw [ho] at this; have : ¬ x = 0 := fun h => by have := this.1 h; cases this
             simp [this]
/-- how many copies a repair writes anew -/
def rpN (S : Nat → Sd) (G : Nat → Bool) (s b : Nat) : Nat := if wE S G s b = 0 then 1 else 0
theorem repair_m (h : MG w0 Y mm tb bb q pd S G c R w) (hs : s < 2) (hb : b < 16) {d : ByteArray} (hd : d.size = 192) (hc : c ≤ 800000) (hR : R ≤ 1000000) : Calls Tryz.prog 124 #[.pointer (some ⟨mm, 0, none⟩), .int .i64 (s : Nat), .int .i64 (b : Nat), .string d] w fun e w' => ∃ S', e = .returned (.tuple #[.int .i64 (rpN S G s b : Nat), .int .i64 0]) ∧ St S S' G b d (fun t => t = s) ∧ MG w0 Y mm tb bb q pd S' G (c + 4) (R + rpN S G s b) w' ∧ Same Y w w' := by
  have HM := Lib.hid h
  have HD := Lib.hid hd
  have HC := Lib.hid hc
  have HB := Lib.hid hb
  have HS := Lib.hid hs
  have hv := wE_vals (S := S) (G := G) (s := s) (b := b)
  clear h hd hc hb hs
  go_enter Tryz.func124, Tryz.ntmps124
  go_wp2_with fail
  refine (put_m HM.out HS.out HB.out HD.out HC.out).mono ?_
  rintro e w1 ⟨S1, rfl, hst, hm, hsm⟩
  have HST := Lib.hid hst
  have HM1 := Lib.hid hm
  have HSM := Lib.hid hsm
  have c2 := hm.c2
  have f2 := hm.fz 2
  have hmore := hm.more (R + 1)
  have HMO := Lib.hid hmore
  clear hst hm hsm hmore HM
  rcases hv with hv | ⟨hv, -⟩ | ⟨hv, -⟩
  · have HR := Lib.hid (show rpN S G s b = 1 by unfold rpN; rw [if_pos hv])
    rw [hv]
    clear hv
    go_wp2
    go_ret2
    rw [HR.out]
    refine ⟨S1, rfl, HST.out, ?_, ?_⟩
    · have := HMO.out.1; simpa using this
    · have := HSM.out.trans HMO.out.2; simpa using this
  · have HR := Lib.hid (show rpN S G s b = 0 by unfold rpN; rw [if_neg (by rw [hv]; decide)])
    rw [hv]
    clear hv
    go_wp2
    go_ret2
    rw [HR.out]
    exact ⟨S1, rfl, HST.out, HM1.out, HSM.out⟩
  · have HR := Lib.hid (show rpN S G s b = 0 by unfold rpN; rw [if_neg (by rw [hv]; decide)])
    rw [hv]
    clear hv
    go_wp2
    go_ret2
    rw [HR.out]
    exact ⟨S1, rfl, HST.out, HM1.out, HSM.out⟩
/-- how many copies of a side aren't that image, and can be -/
def hlN (S : Nat → Sd) (G : Nat → Bool) (s b : Nat) (d : ByteArray) : Nat := if cont S G s b = some d then 0 else rpN S G s b
theorem heal_m (h : MG w0 Y mm tb bb q pd S G c R w) (hs : s < 2) (hb : b < 16) {d : ByteArray} (hd : d.size = 192) (hc : c ≤ 800000) (hR : R ≤ 1000000) : Calls Tryz.prog 96 #[.pointer (some ⟨mm, 0, none⟩), .int .i64 (s : Nat), .int .i64 (b : Nat), .string d] w fun e w' => ∃ S', e = .returned (.tuple #[.int .i64 (hlN S G s b d : Nat), .int .i64 0]) ∧ St S S' G b d (fun t => t = s ∧ cont S G s b ≠ some d) ∧ MG w0 Y mm tb bb q pd S' G (c + 4) (R + hlN S G s b d) w' ∧ Same Y w w' := by
  have HM := Lib.hid h
  have HD := Lib.hid hd
  have HC := Lib.hid hc
  have HB := Lib.hid hb
  have HS := Lib.hid hs
  have HRR := Lib.hid hR
  clear h hd hc hb hs hR
  go_enter Tryz.func96, Tryz.ntmps96
  go_wp2_with fail
  refine (read_m HM.out HS.out HB.out (by have := HC.out; omega)).mono ?_
  rintro e w1 ⟨rfl, hm, hsm⟩
  have HM1 := Lib.hid hm
  have HSM := Lib.hid hsm
  obtain ⟨o, ho⟩ : ∃ o, o = cont S G s b := ⟨_, rfl⟩
  rw [← ho]
  have HO := Lib.hid ho
  clear hm hsm HM ho
  cases o with
  | none =>
    have hgt : (none : Option ByteArray).getD ⟨#[]⟩ = ⟨#[]⟩ := rfl
    have his : (none : Option ByteArray).isSome = false := rfl
    rw [hgt, his]
    have HN := Lib.hid (show hlN S G s b d = rpN S G s b by unfold hlN; rw [if_neg (by rw [← HO.out]; simp)])
    go_wp2_with fail
    refine (repair_m HM1.out HS.out HB.out HD.out HC.out HRR.out).mono ?_
    rintro e w2 ⟨S1, rfl, hst, hm, hsm⟩
    have HST := Lib.hid (hst.iff (Q := fun t => t = s ∧ cont S G s b ≠ some d) (fun t ht => ⟨fun h => h.1, fun h => ⟨h, by rw [← HO.out]; simp⟩⟩))
    have HM2 := Lib.hid hm
    have HSM2 := Lib.hid (HSM.out.trans hsm)
    clear hst hm hsm
    go_wp2
    go_ret2
    exact ⟨S1, by rw [HN.out]; rfl, HST.out, by rw [HN.out]; exact HM2.out, HSM2.out⟩
  | some t =>
    have hgt : (some t).getD ⟨#[]⟩ = t := rfl
    have his : (some t).isSome = true := rfl
    rw [hgt, his]
    by_cases htd : t = d
    · have HN := Lib.hid (show hlN S G s b d = 0 by unfold hlN; rw [if_pos (by rw [← HO.out, htd])])
      have HST := Lib.hid ((St.none (S := S) (G := G) (b := b) (d := d)).iff (Q := fun t => t = s ∧ cont S G s b ≠ some d) (fun u hu => ⟨fun h => h.2 (by rw [← HO.out, htd]), fun h => h.elim⟩))
      subst htd
      go_wp2
      go_ret2
      exact ⟨S, by rw [HN.out]; rfl, HST.out, by rw [HN.out]; exact HM1.out.mono (by omega), HSM.out⟩
    · have hne : (t.toList == d.toList) = false := text_ne htd
      have hne2 : ¬ t.toList = d.toList := by simpa using hne
      have HNE := Lib.hid (show cont S G s b ≠ some d by rw [← HO.out]; simp [htd])
      have HN := Lib.hid (show hlN S G s b d = rpN S G s b by unfold hlN; rw [if_neg HNE.out])
      go_wp2_with fail
      refine (repair_m HM1.out HS.out HB.out HD.out HC.out HRR.out).mono ?_
      rintro e w2 ⟨S1, rfl, hst, hm, hsm⟩
      have HST := Lib.hid (hst.iff (Q := fun t => t = s ∧ cont S G s b ≠ some d) (fun t ht => ⟨fun h => h.1, fun h => ⟨h, HNE.out⟩⟩))
      have HM2 := Lib.hid hm
      have HSM2 := Lib.hid (HSM.out.trans hsm)
      clear hst hm hsm
      go_wp2
      go_ret2
      exact ⟨S1, by rw [HN.out]; rfl, HST.out, by rw [HN.out]; exact HM2.out, HSM2.out⟩
end
end Go.Proofs.YtflanjcfkdjpjaaGreatDoor.Mir


/- Layer 8 (mirror): contracts of find, Heal, Check, Write, Flush. -/
namespace Go.Proofs.YtflanjcfkdjpjaaGreatDoor.Mir
open Go Go.RowKit Go.Proofs.YtflanjcfkdjpjaaGreatDoor Dev Tab Rem Go.Maps Go.WideMaps
set_option linter.unusedVariables false

theorem find_none {α : Type} (L : List α) (z : α) (p : α → Bool) (h : ∀ m, m < L.length → p (L.getD m z) = false) : L.find? p = none := by
  rw [List.find?_eq_none]
  intro x hx
  obtain ⟨m, hm, rfl⟩ := List.getElem_of_mem hx
  have := h m hm
  rw [List.getD_eq_getElem?_getD, List.getElem?_eq_getElem hm] at this
  simpa using this
theorem al_at {G : Nat → Bool} {j : Nat} (hj : j < (al G).length) : (al G).getD j 0 < 2 ∧ G ((al G).getD j 0) = false := by
  rw [List.getD_eq_getElem?_getD, List.getElem?_eq_getElem hj]
  exact al_mem.1 (List.getElem_mem hj)
theorem take_next {L : List Nat} {j : Nat} (hj : j < L.length) : L.take (j + 1) = L.take j ++ [L.getD j 0] := by
  rw [List.getD_eq_getElem?_getD, List.getElem?_eq_getElem hj, List.take_add_one, List.getElem?_eq_getElem hj]; rfl
theorem not_take {L : List Nat} (hn : L.Nodup) {j : Nat} (hj : j < L.length) : L.getD j 0 ∉ L.take j := by
  intro h
  rw [List.getD_eq_getElem?_getD, List.getElem?_eq_getElem hj] at h
  obtain ⟨m, hm, e⟩ := List.getElem_of_mem h
  rw [List.length_take] at hm
  rw [List.getElem_take] at e
  have := (List.getElem_inj hn).1 e
  omega
/-- a row of sides that isn't empty -/
def Lp (w : World) (z : Nat) (L : List Nat) : Prop := ∀ k, k < L.length → w.cell? ⟨z, k, none⟩ = some (.int .i64 (L.getD k 0 : Nat))
theorem Lp.same {w w' : World} {z : Nat} {L : List Nat} (h : Lp w z L) (hk : w'.heap[z]? = w.heap[z]?) : Lp w' z L := fun k hl => (cell_same (a := ⟨z, k, none⟩) hk).trans (h k hl)
theorem Sides.lp {w : World} {a : Option Addr} {L : List Nat} (h : Sides w a L) (hn : L ≠ []) : ∃ z, a = some ⟨z, 0, none⟩ ∧ Lp w z L := by
  rcases h with h | ⟨b, rfl, h⟩
  · exact absurd h hn
  · exact ⟨b, rfl, fun k hk => by rw [h k hk, List.getD_eq_getElem?_getD, List.getElem?_eq_getElem hk]; rfl⟩
section
variable {w0 w w' : World} {X Y Z : List Nat} {q c mm tb bb R s b : Nat} {pd : Nat → Nat} {S : Nat → Sd} {G : Nat → Bool}
/-! ### Heal -/
def hSum (S : Nat → Sd) (G : Nat → Bool) (b : Nat) (d : ByteArray) (L : List Nat) : Nat := (L.map fun s => hlN S G s b d).sum
theorem rpN_le : rpN S G s b ≤ 1 := by unfold rpN; split <;> omega
theorem hlN_le {d : ByteArray} : hlN S G s b d ≤ 1 := by
  unfold hlN; split
  · omega
  · exact rpN_le
theorem hSum_next {d : ByteArray} {L : List Nat} {j : Nat} (hj : j < L.length) : hSum S G b d (L.take (j + 1)) = hSum S G b d (L.take j) + hlN S G (L.getD j 0) b d := by
  unfold hSum; rw [take_next hj, List.map_append, List.sum_append]; simp
theorem hSum_le {d : ByteArray} : ∀ L : List Nat, hSum S G b d L ≤ L.length
  | [] => by simp [hSum]
  | x :: L => by
    have := hSum_le (d := d) L
    have h1 : hlN S G x b d ≤ 1 := hlN_le
    simp only [hSum, List.map_cons, List.sum_cons, List.length_cons] at this ⊢
    omega
set_option maxHeartbeats 2000000 in
set_option maxRecDepth 100000 in
theorem Heal_m (h : MG w0 Y mm tb bb q pd S G c R w) (hb : b < 16) {d : ByteArray} (hd : d.size = 192) (hc : c ≤ 700000) (hR : R ≤ 900000) : Calls Tryz.prog 61 #[.pointer (some ⟨mm, 0, none⟩), .int .i64 (b : Nat), .string d] w fun e w' => ∃ S', e = .returned (.tuple #[.int .i64 (hSum S G b d (al G) : Nat), .int .i64 0]) ∧ St S S' G b d (fun t => t ∈ al G ∧ cont S G t b ≠ some d) ∧ MG w0 Y mm tb bb q pd S' G (c + 8) (R + hSum S G b d (al G)) w' ∧ Same Y w w' := by
  have HM := Lib.hid h
  have HC := Lib.hid hc
  have HB := Lib.hid hb
  have HD := Lib.hid hd
  have HR := Lib.hid hR
  have HRF := Lib.hid (show irE (b : Int) d.size = 0 by unfold irE rfE; rw [if_neg (by rw [if_neg (by omega)]; simp), if_pos hd])
  clear h hc hb hd hR
  go_enter Tryz.func61, Tryz.ntmps61
  go_wp2_with fail
  refine (irefusal_m HM.out (b : Int) d).mono ?_
  rintro e w1 ⟨rfl, hb⟩
  rw [HRF.out]
  have HM1 := Lib.hid (HM.out.later hb)
  have HSM1 := Lib.hid (Same.of_belowG HM.out.cg hb)
  clear hb
  go_wp2_with fail
  refine (alive_m HM1.out).mono ?_
  rintro e w2 ⟨av, cap, rfl, hsd, hfr, hb⟩
  have HM2 := Lib.hid (HM1.out.later hb)
  have HSM2 := Lib.hid (show Same Y w w2 from fun j hj => (hb.block j (HM1.out.y j hj).2).trans (HSM1.out j (by simp [hj])))
  obtain ⟨L, hL⟩ : ∃ L, L = al G := ⟨_, rfl⟩
  rw [← hL] at hsd ⊢
  have HL := Lib.hid hL
  obtain ⟨n, hn⟩ : ∃ n, n = L.length := ⟨_, rfl⟩
  have HN := Lib.hid hn
  have hn2 : n ≤ 2 := by rw [hn, hL]; exact al_le G
  rw [← hn]
  by_cases h0 : n = 0
  · have hnil : al G = [] := List.eq_nil_of_length_eq_zero (by rw [← hL, ← hn]; exact h0)
    have HV := Lib.hid (show hSum S G b d (al G) = 0 by rw [hnil]; rfl)
    have HST := Lib.hid ((St.none (S := S) (G := G) (b := b) (d := d)).iff (Q := fun t => t ∈ al G ∧ cont S G t b ≠ some d) (fun t ht => by rw [hnil]; simp))
    subst h0
    clear hsd hfr hb hL hn hnil
    go_wp2_with fail
    go_loopw [24, 9] (fun i a wr => i = .int .i64 0 ∧ a = .int .i64 0 ∧ wr = w2) (fun i _ _ => 0)
    case atStart => exact ⟨rfl, rfl, rfl⟩
    case round =>
      obtain ⟨rfl, rfl, rfl⟩ := hrel
      go_wp2
      go_ret2
      exact ⟨S, by rw [HV.out]; rfl, HST.out, by rw [HV.out]; exact HM2.out.mono (by omega), HSM2.out⟩
  · have hne : L ≠ [] := fun e => h0 (by rw [hn, e]; rfl)
    obtain ⟨z, rfl, hlp⟩ := hsd.lp hne
    obtain ⟨hz1, hz2⟩ := hfr z 0 rfl
    have HM3 := Lib.hid (HM1.out.fresh hb hz1 hz2)
    have HLP := Lib.hid hlp
    clear hsd hfr hb hL hn hne hlp hz1 hz2 HM2 HM1
    go_wp2_with fail
    go_loopw [24, 9] (fun i a wr => ∃ (j m : Nat) (S1 : Nat → Sd), j ≤ n ∧ i = .int .i64 j ∧ a = .int .i64 m ∧ m = hSum S G b d (L.take j) ∧ St S S1 G b d (fun t => t ∈ L.take j ∧ cont S G t b ≠ some d) ∧ MG w0 (z :: Y) mm tb bb q pd S1 G (c + 4 * j) (R + m) wr ∧ Same (z :: Y) w2 wr) (fun i _ _ => n - (intOf i).toNat)
    case atStart => exact ⟨0, 0, S, Nat.zero_le _, rfl, rfl, rfl, (St.none).iff (fun t ht => by simp), HM3.out, Same.refl _ _⟩
    case round =>
      obtain ⟨j, m, S1, hj, rfl, rfl, hm, hst, hmr, hsr⟩ := hrel
      have HMr := Lib.hid hmr
      have HSr := Lib.hid hsr
      have HST := Lib.hid hst
      have HMM := Lib.hid hm
      have hm2 : m ≤ 2 := by rw [hm]; have := hSum_le (S := S) (G := G) (b := b) (d := d) (L.take j); rw [List.length_take] at this; omega
      clear hmr hsr hst hm
      by_cases hlt : j < n
      · obtain ⟨x, hx⟩ : ∃ x, x = L.getD j 0 := ⟨_, rfl⟩
        have hcell := (HLP.out.same (HSr.out z (by simp))) j (by rw [← HN.out]; exact hlt)
        rw [← hx] at hcell
        have hxx := al_at (G := G) (j := j) (by rw [← HL.out, ← HN.out]; exact hlt)
        rw [← HL.out, ← hx] at hxx
        obtain ⟨hx2, hxg⟩ := hxx
        have HX := Lib.hid hx
        clear hx
        go_wp2_with fail
        refine (heal_m HMr.out hx2 HB.out HD.out (by have := HC.out; omega) (by have := HR.out; omega)).mono ?_
        rintro e w4 ⟨S2, rfl, hst, hm, hsm⟩
        have hnt : x ∉ L.take j := by rw [HX.out]; exact not_take (by rw [HL.out]; exact al_nodup G) (by rw [← HN.out]; exact hlt)
        obtain ⟨hc1, hc2⟩ : cont S1 G x b = cont S G x b ∧ wE S1 G x b = wE S G x b := by
          rcases HST.out.at_ x hx2 with ⟨h1, -⟩ | ⟨-, h2, h3⟩
          · exact absurd h1.1 hnt
          · exact ⟨h2, h3⟩
        have he : hlN S1 G x b d = hlN S G x b d := by unfold hlN rpN; rw [hc1, hc2]
        obtain ⟨y, hy⟩ : ∃ y, y = hlN S G x b d := ⟨_, rfl⟩
        rw [he, ← hy] at hm ⊢
        have hy1 : y ≤ 1 := by rw [hy]; exact hlN_le
        have HNX := Lib.hid (show m + y = hSum S G b d (L.take (j + 1)) by rw [hSum_next (by rw [← HN.out]; exact hlt), ← HX.out, ← hy, ← HMM.out])
        have HST2 := Lib.hid (show St S S2 G b d (fun t => t ∈ L.take (j + 1) ∧ cont S G t b ≠ some d) from by
          have hcomp : St S1 S2 G b d (fun t => t = x ∧ cont S G x b ≠ some d) := by rw [← hc1]; exact hst
          refine (HST.out.trans hcomp (fun t ht h1 h2 => hnt (by rw [← h2.1]; exact h1.1))).iff (fun t ht => ?_)
          rw [take_next (by rw [← HN.out]; exact hlt), List.mem_append, ← HX.out]
          simp only [List.mem_singleton]
          constructor
          · rintro ⟨h1 | h1, h2⟩
            · exact .inl ⟨h1, h2⟩
            · exact .inr ⟨h1, by rw [← h1]; exact h2⟩
          · rintro (⟨h1, h2⟩ | ⟨h1, h2⟩)
            · exact ⟨.inl h1, h2⟩
            · exact ⟨.inr h1, by rw [h1]; exact h2⟩)
        have HM4 := Lib.hid (hm.mono (d := c + 4 * (j + 1)) (by omega))
        have HS4 := Lib.hid (HSr.out.trans hsm)
        clear hm hsm hcell hst hnt hc1 hc2 he hy
        go_wp2_with fail
        go_roundw
        case rel => exact ⟨j + 1, m + y, S2, by omega, by go_num, by go_num, HNX.out, HST2.out, by have := HM4.out; rwa [Nat.add_assoc] at this, HS4.out⟩
        case measure => simp [intOf]; omega
      · obtain rfl : j = n := by omega
        have HTK := Lib.hid (show L.take j = al G by rw [HN.out, List.take_length, HL.out])
        go_wp2
        go_ret2
        rw [← HTK.out]
        refine ⟨S1, by rw [← HMM.out]; rfl, HST.out, ?_, fun k hk => (HSr.out k (by simp [hk])).trans (HSM2.out k hk)⟩
        rw [← HMM.out]
        exact (HMr.out.sub (fun k hk => List.mem_cons_of_mem _ hk)).mono (by omega)
/-! ### Write, where no sector is bad -/
/-- both sides are gone -/
def lsE (G : Nat → Bool) : Int := if al G = [] then 8 else 0
set_option maxHeartbeats 2000000 in
set_option maxRecDepth 100000 in
theorem Write_m (h : MG w0 Y mm tb bb q pd S G c R w) (hNB : NoBad S) (hb : b < 16) {d : ByteArray} (hd : d.size = 192) (hc : c ≤ 700000) : Calls Tryz.prog 43 #[.pointer (some ⟨mm, 0, none⟩), .int .i64 (b : Nat), .string d] w fun e w' => ∃ S', e = .returned (.int .i64 (lsE G)) ∧ St S S' G b d (fun t => t ∈ al G) ∧ MG w0 Y mm tb bb q pd S' G (c + 8) R w' ∧ Same Y w w' := by
  have HM := Lib.hid h
  have HC := Lib.hid hc
  have HB := Lib.hid hb
  have HD := Lib.hid hd
  have HNB := Lib.hid hNB
  have HRF := Lib.hid (show irE (b : Int) d.size = 0 by unfold irE rfE; rw [if_neg (by rw [if_neg (by omega)]; simp), if_pos hd])
  clear h hc hb hd hNB
  go_enter Tryz.func43, Tryz.ntmps43
  go_wp2_with fail
  refine (irefusal_m HM.out (b : Int) d).mono ?_
  rintro e w1 ⟨rfl, hb⟩
  rw [HRF.out]
  have HM1 := Lib.hid (HM.out.later hb)
  have HSM1 := Lib.hid (Same.of_belowG HM.out.cg hb)
  clear hb
  go_wp2_with fail
  refine (alive_m HM1.out).mono ?_
  rintro e w2 ⟨av, cap, rfl, hsd, hfr, hb⟩
  have HM2 := Lib.hid (HM1.out.later hb)
  have HSM2 := Lib.hid (show Same Y w w2 from fun j hj => (hb.block j (HM1.out.y j hj).2).trans (HSM1.out j (by simp [hj])))
  obtain ⟨L, hL⟩ : ∃ L, L = al G := ⟨_, rfl⟩
  rw [← hL] at hsd ⊢
  have HL := Lib.hid hL
  obtain ⟨n, hn⟩ : ∃ n, n = L.length := ⟨_, rfl⟩
  have HN := Lib.hid hn
  have hn2 : n ≤ 2 := by rw [hn, hL]; exact al_le G
  rw [← hn]
  by_cases h0 : n = 0
  · have hnil : al G = [] := List.eq_nil_of_length_eq_zero (by rw [← hL, ← hn]; exact h0)
    have HNL := Lib.hid hnil
    have HST := Lib.hid ((St.none (S := S) (G := G) (b := b) (d := d)).iff (Q := fun t => t ∈ al G) (fun t ht => by rw [hnil]; simp))
    subst h0
    clear hsd hfr hb hL hn hnil
    go_wp2
    go_ret
    exact ⟨S, by rw [lsE, if_pos HNL.out]; rfl, HST.out, HM2.out.mono (by omega), HSM2.out⟩
  · have hne : L ≠ [] := fun e => h0 (by rw [hn, e]; rfl)
    have HNE := Lib.hid (show ¬ al G = [] by rw [← hL]; exact hne)
    obtain ⟨z, rfl, hlp⟩ := hsd.lp hne
    obtain ⟨hz1, hz2⟩ := hfr z 0 rfl
    have HM3 := Lib.hid (HM1.out.fresh hb hz1 hz2)
    have HLP := Lib.hid hlp
    clear hsd hfr hb hL hn hne hlp hz1 hz2 HM2 HM1
    have hn0 : ((n : Int) == 0) = false := by simp; omega
    have hn1 : ¬ (n : Int) = 0 := by omega
    go_wp2_with fail
    go_loopw [26, 9] (fun i a wr => ∃ (j : Nat) (S1 : Nat → Sd), j ≤ n ∧ i = .int .i64 j ∧ a = .int .i64 (if j = 0 then 7 else 0) ∧ St S S1 G b d (fun t => t ∈ L.take j) ∧ MG w0 (z :: Y) mm tb bb q pd S1 G (c + 4 * j) R wr ∧ Same (z :: Y) w2 wr) (fun i _ _ => n - (intOf i).toNat)
    case atStart => exact ⟨0, S, Nat.zero_le _, rfl, rfl, (St.none).iff (fun t ht => by simp), HM3.out, Same.refl _ _⟩
    case round =>
      obtain ⟨j, S1, hj, rfl, rfl, hst, hmr, hsr⟩ := hrel
      have HMr := Lib.hid hmr
      have HSr := Lib.hid hsr
      have HST := Lib.hid hst
      clear hmr hsr hst
      obtain ⟨an, han⟩ : ∃ an : Int, an = if j = 0 then 7 else 0 := ⟨_, rfl⟩
      have HAN := Lib.hid han
      rw [← han]
      clear han
      by_cases hlt : j < n
      · obtain ⟨x, hx⟩ : ∃ x, x = L.getD j 0 := ⟨_, rfl⟩
        have hcell := (HLP.out.same (HSr.out z (by simp))) j (by rw [← HN.out]; exact hlt)
        rw [← hx] at hcell
        have hxx := al_at (G := G) (j := j) (by rw [← HL.out, ← HN.out]; exact hlt)
        rw [← HL.out, ← hx] at hxx
        obtain ⟨hx2, hxg⟩ := hxx
        have HX := Lib.hid hx
        have HE := Lib.hid (show wE S1 G x b = 0 by rw [wE_nobad (HST.out.nb HNB.out) HMr.out.good hx2 HB.out, hxg]; rfl)
        clear hx
        go_wp2_with fail
        refine (put_m HMr.out hx2 HB.out HD.out (by have := HC.out; omega)).mono ?_
        rintro e w4 ⟨S2, rfl, hst, hm, hsm⟩
        rw [HE.out]
        have hnt : x ∉ L.take j := by rw [HX.out]; exact not_take (by rw [HL.out]; exact al_nodup G) (by rw [← HN.out]; exact hlt)
        have HST2 := Lib.hid (show St S S2 G b d (fun t => t ∈ L.take (j + 1)) from by
          refine (HST.out.trans hst (fun t ht h1 h2 => hnt (by rw [← h2]; exact h1))).iff (fun t ht => ?_)
          rw [take_next (by rw [← HN.out]; exact hlt), List.mem_append, ← HX.out]
          simp only [List.mem_singleton])
        have HM4 := Lib.hid (hm.mono (d := c + 4 * (j + 1)) (by omega))
        have HS4 := Lib.hid (HSr.out.trans hsm)
        clear hm hsm hcell hst hnt
        go_wp2_with fail
        go_roundw
        case rel => exact ⟨j + 1, S2, by omega, by go_num, by rw [if_neg (by omega)], HST2.out, HM4.out, HS4.out⟩
        case measure => simp [intOf]; omega
      · obtain rfl : j = n := by omega
        have HTK := Lib.hid (show L.take j = al G by rw [HN.out, List.take_length, HL.out])
        go_wp2
        go_ret
        refine ⟨S1, by rw [lsE, if_neg HNE.out, HAN.out, if_neg h0]; rfl, by rw [← HTK.out]; exact HST.out, ?_, fun k hk => (HSr.out k (by simp [hk])).trans (HSM2.out k hk)⟩
        exact (HMr.out.sub (fun k hk => List.mem_cons_of_mem _ hk)).mono (by omega)
/-! ### Flush -/
end
end Go.Proofs.YtflanjcfkdjpjaaGreatDoor.Mir


/- Layer 8 (mirror): contracts of New, Pair, Read, Check, Repairs, Degraded, and of a nil mirror. -/
namespace Go.Proofs.YtflanjcfkdjpjaaGreatDoor.Mir
open Go Go.RowKit Go.Proofs.YtflanjcfkdjpjaaGreatDoor Dev Tab Rem Go.Maps Go.WideMaps
set_option linter.unusedVariables false

section
variable {w0 w w' : World} {X Y Z : List Nat} {q c mm tb bb R s b : Nat} {pd : Nat → Nat} {S : Nat → Sd} {G : Nat → Bool}
/-- how many copies Read writes anew, when it finds the side s's -/
def rdN (S : Nat → Sd) (G : Nat → Bool) (s b : Nat) : Nat := if s = 1 ∧ G 0 = false then rpN S G 0 b else 0
/-! ### small ones -/
theorem Pair_m (h : MG w0 Y mm tb bb q pd S G c R w) : Calls Tryz.prog 30 #[.pointer (some ⟨mm, 0, none⟩)] w fun e w' => e = .returned (.pointer (some ⟨q, 0, none⟩)) ∧ w = w' := by
  have c0 := h.c0
  clear h
  go_enter Tryz.func30, Tryz.ntmps30
  go_wp2
  go_ret
  exact ⟨rfl, rfl⟩
end
end Go.Proofs.YtflanjcfkdjpjaaGreatDoor.Mir


/- Layer 8 (mirror): contracts of New, Images, Whole. -/
namespace Go.Proofs.YtflanjcfkdjpjaaGreatDoor.Mir
open Go Go.RowKit Go.Proofs.YtflanjcfkdjpjaaGreatDoor Dev Tab Rem Go.Maps Go.WideMaps
set_option linter.unusedVariables false

def noG : Nat → Bool := fun _ => false
theorem al_no : al noG = [0, 1] := rfl
theorem isTab_lt {w : World} {b : Nat} (h : Sum.IsTab w b) : b < w.heap.size := by
  have := h 0 (by omega)
  rcases Nat.lt_or_ge b w.heap.size with h1 | h1
  · exact h1
  · unfold World.cell? at this; rw [Array.getElem?_eq_none h1] at this; cases this
section
variable {w0 w w' : World} {X Y Z : List Nat} {q c mm tb bb R s b : Nat} {pd : Nat → Nat} {S : Nat → Sd} {G : Nat → Bool}
set_option maxRecDepth 100000 in
theorem New_m (h : CP w0 Y q pd S c w) (hS : ∀ t, t < 2 → Spare (S t)) : Calls Tryz.prog 28 #[.pointer (some ⟨q, 0, none⟩)] w fun e w' => ∃ mm tb bb, e = .returned (.tuple #[.pointer (some ⟨mm, 0, none⟩), .int .i64 0]) ∧ MG w0 Y mm tb bb q pd S noG c 0 w' ∧ Same Y w w' := by
  have HC := Lib.hid h.cg
  have HS := Lib.hid hS
  clear h hS
  go_enter Tryz.func28, Tryz.ntmps28
  go_wp2_with fail
  refine (Sum.make_any w).mono ?_
  rintro e w1 ⟨tb, rfl, htb, htab, hb⟩
  have hlt := isTab_lt htab
  have HC1 := Lib.hid (HC.out.fresh hb htb hlt)
  have HB1 := Lib.hid hb
  have HT := Lib.hid htab
  have HLT := Lib.hid (And.intro htb hlt)
  clear htb hlt hb htab
  have hmm := @run_makeMap Tryz.prog
  go_wp2

  go_ret2
  have hc2 := (HC1.out.new (.map #[] 0)).new (.cells (mrow q tb w1.heap.size 0).toArray 120)
  obtain ⟨ht1, ht2⟩ := HLT.out
  have hnY : ∀ k, w.heap.size ≤ k → k ∉ Y := fun k hk e => by have := (HC.out.x k e).2; omega
  have hsz : (w1.alloc (.map #[] 0)).heap.size = w1.heap.size + 1 := by simp
  refine ⟨w1.heap.size + 1, tb, w1.heap.size, by simp, ?_, ?_⟩
  · refine ⟨?_, ⟨HS.out, .inl (fun t ht => rfl)⟩, ?_, ?_, by omega, ⟨hnY _ (by have := HB1.out.size; omega), hnY _ ht1, hnY _ HB1.out.size⟩, 0, .map [], Nat.zero_le _, ?_, ?_⟩
    · have := hc2.sub (Y := (w1.heap.size + 1) :: tb :: w1.heap.size :: Y) (fun k hk => by rw [hsz]; simp at hk ⊢; rcases hk with rfl | rfl | rfl | hk <;> simp [*])
      exact this
    · have := Has.new (w1.alloc (.map #[] 0)) (mrow q tb w1.heap.size 0) 120
      rw [hsz] at this
      exact this
    · refine tab_same HT.out ?_
      rw [Below.heap_alloc _ _ _ (by rw [hsz]; omega), Below.heap_alloc _ _ _ ht2]
    · have := World.ownsMap_made (H := Unit) w1 Tryz.prog 198 badR
      exact mapB_same this (Below.heap_alloc _ _ _ (by rw [hsz]; omega))
    · exact ⟨isMap_empty, fun z hz => by cases hz⟩
  · intro k hk
    have := (HC.out.x k hk).2
    have := HB1.out.size
    rw [Below.heap_alloc _ _ _ (by rw [hsz]; omega), Below.heap_alloc _ _ _ (by omega)]
    exact HB1.out.block k (HC.out.x k hk).2
/-! ### Images, of blocks that both sides read -/
theorem own_same {w w' : World} {B n sz : Nat} {e : TypeId} {v : Value} {xs : List Value} (h : w.ownsRow B e sz v n xs) (hk : ∀ k, v.ownBlock = some k → w'.heap[k]? = w.heap[k]?) : w'.ownsRow B e sz v n xs := by
  refine ⟨h.1, ?_⟩
  rcases h.2 with h2 | ⟨g, cap, cur, rfl, hb, hc, h3⟩
  · exact .inl h2
  · exact .inr ⟨g, cap, cur, rfl, hb, (hk g rfl).trans hc, h3⟩
theorem _root_.Go.Proofs.YtflanjcfkdjpjaaGreatDoor.Mir.MG.grow {w0 w w' : World} {Y : List Nat} {q c mm tb bb R : Nat} {pd : Nat → Nat} {S : Nat → Sd} {G : Nat → Bool} {row : Option Nat} (h : MG w0 Y mm tb bb q pd S G c R w) (hg : w.grownBy w' row) (hr : ∀ k, row = some k → k ∈ Y) : MG w0 Y mm tb bb q pd S G c R w' := by
  have hblk : ∀ k, k ∉ Y → k < w.heap.size → w'.heap[k]? = w.heap[k]? := fun k h1 h2 => hg.block k h2 (fun e => h1 (hr k e.symm))
  obtain ⟨n, D, h1, h2, h3⟩ := h.map
  exact ⟨h.cg.chg ((Chg.refl _ w).grown hg (fun k _ hk => by simp [hr k hk])), h.fit, Has.same h.row (hblk mm h.my.1 h.lt), tab_same h.tab (hblk tb h.my.2.1 (h.cg.x tb (by simp)).2), h.mt, h.my, n, D, h1, mapB_same h2 (hblk bb h.my.2.2 (h.cg.x bb (by simp)).2), h3⟩
theorem info_str8 : (Tryz.prog.info? 9).map (fun i => (i.zero, i.size, i.bytes)) = some (some (.string ⟨#[]⟩), 1, 16) := by kernel_rfl
set_option maxHeartbeats 2000000 in
set_option maxRecDepth 100000 in
theorem Images_m (h : MG w0 Y mm tb bb q pd S noG c R w) (hb : b < 16) (hc : c ≤ 700000) {x0 x1 : ByteArray} (h0 : cont S noG 0 b = some x0) (h1 : cont S noG 1 b = some x1) : Calls Tryz.prog 59 #[.pointer (some ⟨mm, 0, none⟩), .int .i64 (b : Nat)] w fun e w' => ∃ z cap, e = .returned (.tuple #[.slice (some ⟨z, 0, none⟩) 2 cap, .int .i64 0]) ∧ w'.cell? ⟨z, 0, none⟩ = some (.string x0) ∧ w'.cell? ⟨z, 1, none⟩ = some (.string x1) ∧ z < w'.heap.size ∧ MG w0 Y mm tb bb q pd S noG c R w' ∧ Same Y w w' := by
  obtain ⟨i0, hi, hz0, hz1, hz2⟩ := info_parts info_str8
  have HM := Lib.hid h
  have HC := Lib.hid hc
  have HB := Lib.hid hb
  have H0 := Lib.hid h0
  have H1 := Lib.hid h1
  have HRF := Lib.hid (show rfE (b : Int) = 0 by unfold rfE; rw [if_neg (by omega)])
  clear h hc hb h0 h1
  go_enter Tryz.func59, Tryz.ntmps59
  go_wp2_with fail
  refine (refusal_m HM.out (b : Int)).mono ?_
  rintro e w1 ⟨rfl, hb⟩
  rw [HRF.out]
  have HM1 := Lib.hid (HM.out.later hb)
  have HSM1 := Lib.hid (Same.of_belowG HM.out.cg hb)
  have HW1 := Lib.hid hb.size
  clear hb
  go_wp2_with fail
  refine (alive_m HM1.out).mono ?_
  rintro e w2 ⟨av, cap, rfl, hsd, hfr, hb⟩
  have HSM2 := Lib.hid (show Same Y w w2 from fun j hj => (hb.block j (HM1.out.y j hj).2).trans (HSM1.out j (by simp [hj])))
  rw [al_no] at hsd
  have hlen : (al noG).length = 2 := rfl
  rw [hlen]
  obtain ⟨z, rfl, hlp⟩ := hsd.lp (by simp)
  obtain ⟨hz1', hz2'⟩ := hfr z 0 rfl
  have HM3 := Lib.hid (HM1.out.fresh hb hz1' hz2')
  have HLP := Lib.hid hlp
  have HW2 := Lib.hid (Nat.le_trans HW1.out hb.size)
  clear hsd hfr hb hlp hz1' hz2' HM1 hlen
  go_wp2_with fail
  go_loopw [22, 7] (fun i v wr => ∃ j : Nat, j ≤ 2 ∧ i = .int .i64 j ∧ Same (z :: Y) w2 wr ∧
    ((j = 0 ∧ v = .slice none 0 0 ∧ MG w0 (z :: Y) mm tb bb q pd S noG c R wr) ∨
     (j = 1 ∧ ∃ y cap, v = .slice (some ⟨y, 0, none⟩) 1 cap ∧ y ∉ z :: Y ∧ wr.ownsRow 0 9 1 v 1 [.string x0] ∧ MG w0 (y :: z :: Y) mm tb bb q pd S noG c R wr) ∨
     (j = 2 ∧ wr.ownsRow 0 9 1 v 2 [.string x0, .string x1] ∧ MG w0 (z :: Y) mm tb bb q pd S noG c R wr))) (fun i _ _ => 2 - (intOf i).toNat)
  case atStart => exact ⟨0, Nat.zero_le _, rfl, Same.refl _ _, .inl ⟨rfl, rfl, HM3.out⟩⟩
  case round =>
    obtain ⟨j, hj, rfl, hsr, hcase⟩ := hrel
    have HSr := Lib.hid hsr
    clear hsr
    rcases hcase with ⟨rfl, rfl, hmr⟩ | ⟨rfl, y, cap2, rfl, hyn, hown, hmr⟩ | ⟨rfl, hown, hmr⟩
    · have HMr := Lib.hid hmr
      have hcell := (HLP.out.same (HSr.out z (by simp))) 0 (by simp)
      simp only [List.getD_cons_zero] at hcell
      rw [show ((0 : Nat) : Int) = 0 from rfl] at hcell ⊢
      clear hmr
      go_wp2_with fail
      refine (read_m HMr.out (s := 0) (by omega) HB.out (by have := HC.out; omega)).mono ?_
      rintro e w4 ⟨rfl, hm, hsm⟩
      rw [H0.out]
      have hgt : (some x0).getD ⟨#[]⟩ = x0 := rfl
      have his : (some x0).isSome = true := rfl
      rw [hgt, his]
      have HM4 := Lib.hid hm
      have HS4 := Lib.hid (HSr.out.trans hsm)
      have hown := World.ownsRow_nil (w4.alloc (.cells #[.string x0] 9)) w4.heap.size 9 1
      clear hm hsm hcell
      go_wp2_with (at_builtin; refine wpList_append_own _ rfl _ _ 141 rfl w4.heap.size 9 i0 (.string ⟨#[]⟩) 1 16 Tryz.underlying141 hi hz0 hz1 hz2 rfl (by decide) _ _ _ rfl hown ⟨w4.heap.size, 0, none⟩ 1 1 [.string x0] rfl rfl ?c1 ?c2 ?c3 ?c4 ?c5 ?_)
      case c1 =>
        intro j q hj
        match j, hj with
        | 0, hj => simp at hj; subst hj; simp [Addr.add]
      case c2 => intro q hq; simp at hq; subst hq; rfl
      case c3 => unfold maxLen; omega
      case c4 => omega
      case c5 => simp
      intro v' w6 hown' hgrow _
      obtain ⟨y, cap2, rfl, _, hy1⟩ := own_some hown' (by omega)
      have hy2 := (hown'.lt y rfl).2
      have hbel : Below w4.heap.size w4 w6 := ((Below.refl _ w4).alloc (Nat.le_refl _) _).grown hgrow (by simp) (fun q hq => by cases hq)
      have HM6 := Lib.hid (HM4.out.fresh hbel hy1 hy2)
      have HOW := Lib.hid (hown'.mono (Nat.zero_le _))
      have HS6 := Lib.hid (show Same (z :: Y) w2 w6 from fun k hk => (hbel.block k (HM4.out.y k hk).2).trans (HS4.out k hk))
      have HYN := Lib.hid (show y ∉ z :: Y from fun e => by have := (HM4.out.y y e).2; omega)
      clear hown' hgrow hy2 hbel hown hy1
      go_wp2_with fail
      go_roundw
      case rel => exact ⟨1, by omega, by go_num, HS6.out, .inr (.inl ⟨rfl, y, cap2, rfl, HYN.out, HOW.out, HM6.out⟩)⟩
      case measure => simp [intOf]
    · have HMr := Lib.hid hmr
      have hcell := (HLP.out.same (HSr.out z (by simp))) 1 (by simp)
      simp only [List.getD_cons_succ, List.getD_cons_zero] at hcell
      rw [show ((1 : Nat) : Int) = 1 from rfl] at hcell ⊢
      have HOW := Lib.hid hown
      have HYN := Lib.hid hyn
      clear hmr hown hyn
      go_wp2_with fail
      refine (read_m HMr.out (s := 1) (by omega) HB.out (by have := HC.out; omega)).mono ?_
      rintro e w4 ⟨rfl, hm, hsm⟩
      rw [H1.out]
      have hgt : (some x1).getD ⟨#[]⟩ = x1 := rfl
      have his : (some x1).isSome = true := rfl
      rw [hgt, his]
      have HM4 := Lib.hid hm
      have HS4 := Lib.hid (show Same (z :: Y) w2 w4 from fun k hk => (hsm k (List.mem_cons_of_mem _ hk)).trans (HSr.out k hk))
      have hown := own_same HOW.out (fun k hk => by cases hk; exact hsm y (by simp))
      clear hm hsm hcell
      go_wp2_with (at_builtin; refine wpList_append_own _ rfl _ _ 141 rfl 0 9 i0 (.string ⟨#[]⟩) 1 16 Tryz.underlying141 hi hz0 hz1 hz2 rfl (by decide) _ _ _ rfl (hown.alloc _) ⟨w4.heap.size, 0, none⟩ 1 1 [.string x1] rfl rfl ?d1 ?d2 ?d3 ?d4 ?d5 ?_)
      case d1 =>
        intro j q hj
        match j, hj with
        | 0, hj => simp at hj; subst hj; simp [Addr.add]
      case d2 => intro q hq; simp at hq; subst hq; rfl
      case d3 => unfold maxLen; omega
      case d4 => omega
      case d5 => exact Nat.zero_le _
      intro v' w6 hown' hgrow _
      have HM6 := Lib.hid (((HM4.out.new (.cells #[.string x1] 9)).grow hgrow (fun k hk => by cases hk; simp)).sub (Z := z :: Y) (fun k hk => by simp at hk ⊢; rcases hk with rfl | hk <;> simp [*]))
      have HOW6 := Lib.hid hown'
      have HS6 := Lib.hid (show Same (z :: Y) w2 w6 from fun k hk => by
        have hk2 := (HM4.out.y k (List.mem_cons_of_mem _ hk)).2
        refine (hgrow.block k (by simp; omega) (fun e => HYN.out ?_)).trans ((Below.heap_alloc _ _ _ hk2).trans (HS4.out k hk))
        cases e; exact hk)
      clear hown' hgrow hown
      go_wp2_with fail
      go_roundw
      case rel => exact ⟨2, by omega, by go_num, HS6.out, .inr (.inr ⟨rfl, HOW6.out, HM6.out⟩)⟩
      case measure => simp [intOf]
    · have HMr := Lib.hid hmr
      have HOW := Lib.hid hown
      obtain ⟨y, cap2, rfl, _, _⟩ := own_some hown (by omega)
      clear hmr hown
      go_wp2
      go_ret2
      have k0 := HOW.out.cells (g := y) rfl 0 (.string x0) rfl
      have k1 := HOW.out.cells (g := y) rfl 1 (.string x1) rfl
      exact ⟨y, cap2, rfl, k0, k1, (HOW.out.lt y rfl).2, HMr.out.sub (fun k hk => List.mem_cons_of_mem _ hk), fun k hk => (HSr.out k (by simp [hk])).trans (HSM2.out k hk)⟩
end
end Go.Proofs.YtflanjcfkdjpjaaGreatDoor.Mir


/- Layer 8 (mirror): what was flushed lasts: both caches are empty behind a Flush, and a crash leaves all as it is. -/
namespace Go.Proofs.YtflanjcfkdjpjaaGreatDoor.Rem
open Go Go.RowKit Go.Proofs.YtflanjcfkdjpjaaGreatDoor Dev Tab
set_option linter.unusedVariables false
section
variable {w0 w w' : World} {X Y : List Nat} {q c : Nat} {pd : Nat → Nat} {S : Nat → Sd} {G : Nat → Bool} {s : Nat} {m : Nat → List Int} {D : Nat → Dv}
theorem Cd.crash0 {E : Dv} {N Z : Nat} {V : Nat → ByteArray} {B : Nat → Bool} (h : Cd E N Z V B 0) (fs : List Int) : E.crashD fs = E := by
  have hc : E.cache = [] := List.eq_nil_of_length_eq_zero (Nat.le_zero.1 h.cache)
  have e : fated E fs = [] := by unfold fated; rw [hc]; rfl
  have ho := h.off
  have hf := h.fuse
  unfold Dv.crashD
  rw [e]
  show (Dv.emptied E).calm = E
  unfold Dv.emptied Dv.calm
  cases E
  simp only at hc ho hf
  subst hc ho hf
  rfl
theorem CPe.devZ {f : FuncId} {args : Array Value} {R : Ending → Prop} {s : Nat} {Q : Dv → Prop} (h : CPe w0 X q pd m D w) (hs : s < 2)
    (call : ∀ sb cv, DevAt w (pd s) sb cv (D s) → (∀ k, foot (pd s) sb cv k → k ∉ X) → Calls Tryz.prog f args w fun e w' => R e ∧ ∃ E, Q E ∧ Now (pd s) sb cv w E w') :
    Calls Tryz.prog f args w fun e w' => R e ∧ ∃ E, Q E ∧ CPe w0 X q pd m (upd D s E) w' ∧ Same (q :: X) w w' := by
  have hql := h.lt
  obtain ⟨⟨sb, cv, hdv, hf, hff⟩, hp, hq, hx, hb⟩ := h
  refine (call (sb s) (cv s) (hdv s hs) fun k hk => (hf s hs k hk).2.1).mono ?_
  rintro e w' ⟨hr, E, hG, cv', hch, hd', hf'⟩
  have hfs := hf s hs
  have hlow : ∀ k, w.heap.size ≤ k → w0.heap.size ≤ k ∧ k ∉ X ∧ k ≠ q := fun k hk => ⟨Nat.le_trans hb.size hk, fun e => by have := (hx k e).2; omega, fun e => by omega⟩
  have hnew : ∀ k, foot (pd s) (sb s) cv' k → w0.heap.size ≤ k ∧ k ∉ X ∧ k ≠ q := fun k hk => by
    rcases hf' k hk with h | h
    · exact hfs k h
    · exact hlow k h
  have hqs : w'.heap[q]? = w.heap[q]? := hch.block q hql fun e => (hfs q e).2.2 rfl
  have hsame : Same (q :: X) w w' := fun k hk => by
    rcases List.mem_cons.1 hk with rfl | hk
    · exact hqs
    · exact hch.block k (hx k hk).2 fun e => (hfs k e).2.1 hk
  refine ⟨hr, E, hG, ⟨⟨sb, fun t => if t = s then cv' else cv t, ?_, ?_, ?_⟩, hp.same hqs, hq, fun k hk => ⟨(hx k hk).1, Nat.lt_of_lt_of_le (hx k hk).2 hch.size⟩, hb.trans (hch.below hb.size fun k hk => (hfs k hk).1)⟩, hsame⟩
  · intro t ht
    by_cases e : t = s
    · subst e; simp only [if_pos]; rw [upd_same]; exact hd'
    · simp only [if_neg e]; rw [upd_ne _ _ e]
      refine (hdv t ht).chg hch fun k hk hk2 => ?_
      rcases (show (t = 0 ∧ s = 1) ∨ (t = 1 ∧ s = 0) by omega) with ⟨rfl, rfl⟩ | ⟨rfl, rfl⟩
      · exact hff k hk hk2
      · exact hff k hk2 hk
  · intro t ht k hk
    by_cases e : t = s
    · subst e; simp only [if_pos] at hk; exact hnew k hk
    · simp only [if_neg e] at hk; exact hf t ht k hk
  · intro k hk hk2
    rcases (show s = 0 ∨ s = 1 by omega) with rfl | rfl
    · simp only [if_pos] at hk
      simp only [if_neg (show ¬ (1 : Nat) = 0 by omega)] at hk2
      rcases hf' k hk with h | h
      · exact hff k h hk2
      · have := (hdv 1 (by omega)).lt k hk2; omega
    · simp only [if_pos] at hk2
      simp only [if_neg (show ¬ (0 : Nat) = 1 by omega)] at hk
      rcases hf' k hk2 with h | h
      · exact hff k hk h
      · have := (hdv 0 (by omega)).lt k hk; omega
/-- the fates lie in X -/
def FatesZ (w : World) (X : List Nat) (v : Value) (n : Nat) (fs : List Int) : Prop := fs.length = n ∧ ∃ fa cap, v = .slice fa n cap ∧ Row .i64 w fa n fs ∧ ∀ a, fa = some a → a.block ∈ X
theorem FatesZ.keep {v : Value} {n : Nat} {fs : List Int} (h : FatesZ w X v n fs) (hs : Same X w w') : FatesZ w' X v n fs := by
  obtain ⟨h1, fa, cap, h2, ⟨h3, h4⟩, h5⟩ := h
  refine ⟨h1, fa, cap, h2, ⟨h3, fun hn => ?_⟩, h5⟩
  obtain ⟨b, o, e, hc⟩ := h4 hn
  refine ⟨b, o, e, fun i hi => ?_⟩
  have := hc i hi
  unfold World.cell? at this ⊢
  rw [hs b (h5 _ e)]; exact this
/-- the pair at q; side s's cache has at most cf s writes -/
structure CZ (w0 : World) (X : List Nat) (q : Nat) (pd : Nat → Nat) (S : Nat → Sd) (cf : Nat → Nat) (w : World) : Prop where
  raw : ∃ D, CPe w0 X q pd (mOf S) D w ∧ ∀ s, s < 2 → Cd (D s) 24 192 (S s).V (S s).B (cf s)
  slots : Slots S
theorem CZ.cp {cf : Nat → Nat} (h : CZ w0 X q pd S cf w) (h0 : cf 0 ≤ c) (h1 : cf 1 ≤ c) : CP w0 X q pd S c w := by
  obtain ⟨⟨D, e1, e2⟩, e3⟩ := h
  refine ⟨⟨D, e1, fun s hs => ?_⟩, e3⟩
  rcases (show s = 0 ∨ s = 1 by omega) with rfl | rfl
  · exact (e2 0 hs).mono h0
  · exact (e2 1 hs).mono h1
theorem CP.cz (h : CP w0 X q pd S c w) : CZ w0 X q pd S (fun _ => c) w := by
  obtain ⟨⟨D, e1, e2⟩, e3⟩ := h; exact ⟨⟨D, e1, e2⟩, e3⟩
theorem CZ.x {cf : Nat → Nat} (h : CZ w0 X q pd S cf w) : ∀ k ∈ X, w0.heap.size ≤ k ∧ k < w.heap.size := by obtain ⟨D, h1, h2⟩ := h.raw; exact h1.x
theorem CZ.below {cf : Nat → Nat} (h : CZ w0 X q pd S cf w) : Below w0.heap.size w0 w := by obtain ⟨D, h1, h2⟩ := h.raw; exact h1.below
theorem CZ.later {cf : Nat → Nat} (h : CZ w0 X q pd S cf w) (hb : Below w.heap.size w w') : CZ w0 X q pd S cf w' := by
  obtain ⟨⟨D, e1, e2⟩, e3⟩ := h; exact ⟨⟨D, e1.chg (Chg.of_below hb (Nat.le_refl _)), e2⟩, e3⟩
theorem CZ.sub {cf : Nat → Nat} (h : CZ w0 X q pd S cf w) (hY : ∀ k ∈ Y, k ∈ X) : CZ w0 Y q pd S cf w := by
  obtain ⟨⟨D, e1, e2⟩, e3⟩ := h; exact ⟨⟨D, e1.sub hY, e2⟩, e3⟩
theorem CZ.cong {cf cf' : Nat → Nat} (h : CZ w0 X q pd S cf w) (hc : ∀ s, s < 2 → cf s ≤ cf' s) : CZ w0 X q pd S cf' w := by
  obtain ⟨⟨D, e1, e2⟩, e3⟩ := h; exact ⟨⟨D, e1, fun s hs => (e2 s hs).mono (hc s hs)⟩, e3⟩
theorem flush_z {cf : Nat → Nat} (h : CZ w0 X q pd S cf w) (hs : s < 2) (hc : cf s ≤ 1000000) : Calls Tryz.prog 64 #[.pointer (some ⟨q, 0, none⟩), .int .i64 (s : Nat)] w fun e w' => e = .returned (.int .i64 0) ∧ CZ w0 X q pd S (upd cf s 0) w' ∧ Same X w w' := by
  obtain ⟨⟨D, h1, h2⟩, h3⟩ := h
  have hD := h2 s hs
  refine (flush_e h1 hs (by have := hD.cache; omega)).mono ?_
  rintro e w' ⟨rfl, hc', hsm⟩
  obtain ⟨r1, r2⟩ := hD.flush (h1.ok hs)
  refine ⟨by rw [r1], ⟨⟨_, hc', fun t ht => ?_⟩, h3⟩, fun k hk => hsm k (by simp [hk])⟩
  by_cases e : t = s
  · subst e; rw [upd_same, upd_same]; exact r2
  · rw [upd_ne _ _ e, upd_ne _ _ e]; exact h2 t ht
/-- a crash, behind a flush -/
theorem crash_z {cf : Nat → Nat} (h : CZ w0 X q pd S cf w) (hs : s < 2) (hc : cf s = 0) {v : Value} {n : Nat} {fs : List Int} (hn : n ≤ 1000000) (hf : FatesZ w X v n fs) (hfb : ∀ f ∈ fs, f ≤ 9223372036854775807) (p : Nat) (hp : p = pd s) :
    Calls Tryz.prog 25 #[.pointer (some ⟨p, 0, none⟩), v] w fun e w' => e = .returned (.tuple #[]) ∧ CZ w0 X q pd S cf w' ∧ Same X w w' := by
  subst hp
  obtain ⟨⟨D, e1, e2⟩, e3⟩ := h
  have hD := e2 s hs
  have hl := hD.cache
  obtain ⟨h1, fa, cap, rfl, hrow, hap⟩ := hf
  refine (e1.devZ (R := fun e => e = .returned (.tuple #[])) (Q := fun E => E = (D s).crashD fs) hs fun sb cv hd hft => (crash_any fa n cap fs w hd (by omega) (by omega) hrow (fun a e hk => hft _ hk (hap a e)) hfb).mono ?_).mono ?_
  · rintro e w' ⟨rfl, hn⟩
    exact ⟨rfl, _, rfl, hn⟩
  · rintro e w' ⟨rfl, E, rfl, hc2, hsm⟩
    rw [hc] at hD
    rw [Cd.crash0 hD fs, upd_self] at hc2
    exact ⟨rfl, ⟨⟨D, hc2, e2⟩, e3⟩, fun k hk => hsm k (by simp [hk])⟩
end
end Go.Proofs.YtflanjcfkdjpjaaGreatDoor.Rem


/- Layer 8 (mirror): Flush empties both caches; a pair of devices is opened anew. -/
namespace Go.Proofs.YtflanjcfkdjpjaaGreatDoor.Mir
open Go Go.RowKit Go.Proofs.YtflanjcfkdjpjaaGreatDoor Dev Tab Rem Go.Maps Go.WideMaps
set_option linter.unusedVariables false
section
variable {w0 w w' : World} {X Y Z : List Nat} {q c mm tb bb R s b : Nat} {pd : Nat → Nat} {S : Nat → Sd}
theorem MG.cp (h : MG w0 Y mm tb bb q pd S noG c R w) : CP w0 (mm :: tb :: bb :: Y) q pd S c w := h.cg.cp rfl rfl
def cfJ (c j t : Nat) : Nat := if t < j then 0 else c
set_option maxHeartbeats 2000000 in
set_option maxRecDepth 100000 in
theorem Flush_z (h : MG w0 Y mm tb bb q pd S noG c R w) (hc : c ≤ 700000) : Calls Tryz.prog 35 #[.pointer (some ⟨mm, 0, none⟩)] w fun e w' => e = .returned (.int .i64 0) ∧ MG w0 Y mm tb bb q pd S noG c R w' ∧ CZ w0 (mm :: tb :: bb :: Y) q pd S (fun _ => 0) w' ∧ Same Y w w' := by
  have HM := Lib.hid h
  have HC := Lib.hid hc
  clear h hc
  go_enter Tryz.func35, Tryz.ntmps35
  go_wp2_with fail
  refine (alive_m HM.out).mono ?_
  rintro e w2 ⟨av, cap, rfl, hsd, hfr, hb⟩
  have HM2 := Lib.hid (HM.out.later hb)
  have HSM2 := Lib.hid (show Same Y w w2 from fun j hj => hb.block j (HM.out.y j hj).2)
  rw [al_no] at hsd ⊢
  obtain ⟨z, rfl, hlp⟩ := hsd.lp (by simp)
  obtain ⟨hz1, hz2⟩ := hfr z 0 rfl
  have HM3 := Lib.hid (HM.out.fresh hb hz1 hz2)
  have HLP := Lib.hid hlp
  clear hsd hfr hb hlp hz1 hz2 HM2 HM
  go_wp2_with fail
  go_loopw [16] (fun i wr => ∃ (j : Nat), j ≤ 2 ∧ i = .int .i64 j ∧ CZ w0 (mm :: tb :: bb :: z :: Y) q pd S (cfJ c j) wr ∧ Same (mm :: tb :: bb :: z :: Y) w2 wr) (fun i _ => 2 - (intOf i).toNat)
  case atStart => exact ⟨0, Nat.zero_le _, rfl, HM3.out.cp.cz.cong (fun s hs => by simp [cfJ]), Same.refl _ _⟩
  case round =>
    obtain ⟨j, hj, rfl, hmr, hsr⟩ := hrel
    have HMr := Lib.hid hmr
    have HSr := Lib.hid hsr
    have c0 := (cell_same (a := ⟨mm, 0, none⟩) (hsr mm (by simp))).trans HM3.out.c0
    clear hmr hsr
    by_cases hlt : j < 2
    · have hcell := (HLP.out.same (HSr.out z (by simp))) j hlt
      have hx : ([0, 1] : List Nat).getD j 0 = j := by
        rcases (show j = 0 ∨ j = 1 by omega) with rfl | rfl
        · rfl
        · rfl
      rw [hx] at hcell
      clear hx
      go_wp2_with fail
      refine (flush_z HMr.out hlt (by have := HC.out; simp only [cfJ]; split <;> omega)).mono ?_
      rintro e w4 ⟨rfl, hcz, hsm⟩
      have HZ := Lib.hid hcz
      have HS4 := Lib.hid (HSr.out.trans hsm)
      clear hcz hsm hcell c0
      go_wp2_with fail
      go_roundw
      case rel =>
        refine ⟨j + 1, by omega, by go_num, HZ.out.cong fun t ht => ?_, HS4.out⟩
        unfold upd cfJ
        split <;> (try split) <;> (try split) <;> omega
      case measure => simp [intOf]; omega
    · obtain rfl : j = 2 := by omega
      clear c0
      go_wp2
      go_ret
      have hz := HMr.out.cong (cf' := fun _ => 0) (fun t ht => by simp [cfJ, ht])
      exact ⟨rfl, (HM3.out.go (G' := noG) (hz.cp (c := c) (Nat.zero_le _) (Nat.zero_le _)).cg HSr.out HM3.out.fit (fun _ _ => Nat.le_refl _) (Nat.le_refl _)).sub (fun k hk => List.mem_cons_of_mem _ hk), hz.sub (fun k hk => by simp at hk ⊢; rcases hk with rfl | rfl | rfl | hk <;> simp [*]), fun k hk => (HSr.out k (by simp [hk])).trans (HSM2.out k hk)⟩
end
end Go.Proofs.YtflanjcfkdjpjaaGreatDoor.Mir


