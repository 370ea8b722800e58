/- Layers' contracts, bundled: RemP, DevG, DevW, DevO, RemQ, Bytes, DevTurn, RemS, DevT. -/
import Derived.Test.YtgoampbebjfenaaGreatDoorK09
import Derived.Test.YtgoampbebjfenaaGreatDoorK02
import Derived.Test.YtgoampbebjfenaaGreatDoorK06
import Derived.Test.YtgoampbebjfenaaGreatDoorK01
import Derived.WalkKit
import Derived.WalkSmall
import Derived.OwnWalk
import Derived.Laws.OwnMore
import Derived.Lib.Hide
import Derived.Lib.ConvBytes
import Derived.Laws.BytesString
import Derived.Test.YtgoampbebjfenaaGreatDoorRows
import Derived.Deep.DeepCutAuto
/- Layer 7 (remap): a pair of devices without faults but bad sectors, in memory; contracts of its exported functions there. -/
set_option linter.unusedVariables false
namespace Go.Proofs.YtgoampbebjfenaaGreatDoor.Dev
open Go Go.RowKit Go.Proofs.YtgoampbebjfenaaGreatDoor Rem
/-! ### keep, of devices without faults -/
theorem Dv.puts_ok : ∀ (l : List ((Nat × ByteArray) × Nat)) (D : Dv), D.Ok → (∀ y ∈ l, y.1.1 < D.n ∧ y.1.2.size = D.size ∧ y.2 ≤ D.size) → (D.puts l).Ok
  | [], D, ok, _ => ok
  | x :: l, D, ok, h => by
    have hx := h x (by simp)
    refine puts_ok l (D.put x.1.1 x.1.2 x.2) (D.put_ok ok _ _ _ hx.1 hx.2.1 hx.2.2) fun y hy => ?_
    have := h y (by simp [hy])
    rw [D.put_n, D.put_size]; exact this
section
variable {D : Dv} {V : Nat → ByteArray} {B : Nat → Bool} {c : Nat}
theorem Cd.push_eq (h : Cd D 24 128 V B c) {i : Nat} (hi : i < 24) {s : ByteArray} (hs : s.size = 128) (hb : B i = false) : D.writeD (i : Nat) s = D.counted.push (i : Nat) s := by
  unfold Dv.writeD; rw [h.refuse, h.stk, h.bad i hi, h.has hi, h.blow, h.counted.goes hi hb, h.counted.dest, h.counted.struck, hb]; simp [hs, h.size]
theorem Cd.write_ok (h : Cd D 24 128 V B c) (ok : D.Ok) {i : Nat} (hi : i < 24) {s : ByteArray} (hs : s.size = 128) (hb : B i = false) : (D.writeD (i : Nat) s).Ok := by
  rw [h.push_eq hi hs hb]
  refine ⟨ok.n8, ok.n4096, ok.s128, ok.s1024, ok.media, fun x hx => ?_, fun x hx => ?_, ok.fuse, ok.lose, ok.stray⟩
  · rcases List.mem_append.1 hx with hx | hx
    · exact ok.text x hx
    · rw [List.mem_singleton.1 hx]; exact hs.trans h.size.symm
  · rcases List.mem_append.1 hx with hx | hx
    · exact ok.sector x hx
    · rw [List.mem_singleton.1 hx]; show (i : Int).toNat < D.n; rw [Int.toNat_natCast, h.n]; exact hi
theorem Cd.flush_ok (h : Cd D 24 128 V B c) (ok : D.Ok) : D.flushD.Ok := by
  have h2 : D.flushD = (D.flushed.puts (whole D)).emptied := by unfold Dv.flushD; rw [h.refuse, h.stk, h.blow]; rfl
  have hp := Dv.puts_ok (whole D) D.flushed ⟨ok.n8, ok.n4096, ok.s128, ok.s1024, ok.media, ok.text, ok.sector, ok.fuse, ok.lose, ok.stray⟩ fun y hy => by
    obtain ⟨x, hx, rfl⟩ := List.mem_map.1 hy
    exact ⟨ok.sector x hx, ok.text x hx, Nat.le_refl _⟩
  rw [h2]
  exact ⟨hp.n8, hp.n4096, hp.s128, hp.s1024, hp.media, fun x hx => (by cases hx), fun x hx => (by cases hx), hp.fuse, hp.lose, hp.stray⟩
theorem Cd.put (h : Cd D 24 128 V B c) (ok : D.Ok) {i : Nat} (hi : i < 24) {s : ByteArray} (hs : s.size = 128) (hb : B i = false) : putE D (i : Nat) s = 0 ∧ Cd (putD D (i : Nat) s) 24 128 (upd V i s) B 0 ∧ (putD D (i : Nat) s).Ok := by
  obtain ⟨w1, w2⟩ := h.write hi hs hb
  have w3 := h.write_ok ok hi hs hb
  obtain ⟨f1, f2⟩ := w2.flush w3
  have f3 := w2.flush_ok w3
  unfold putE putD
  rw [if_neg (by rw [h.dead]; decide), if_neg (by omega), if_neg (by rw [h.dead]; decide), if_neg (by omega)]
  exact ⟨f1, f2, f3⟩
end
end Go.Proofs.YtgoampbebjfenaaGreatDoor.Dev
namespace Go.Proofs.YtgoampbebjfenaaGreatDoor.Rem
open Go Go.RowKit Go.Proofs.YtgoampbebjfenaaGreatDoor Dev Tab
/-- both devices are without faults but bad sectors, which are none of the slots -/
structure Both (D : Nat → Dv) (S : Nat → Sd) (c : Nat) : Prop where
  cd : ∀ t, t < 2 → Cd (D t) 24 128 (S t).V (S t).B c
  ok : ∀ t, t < 2 → (D t).Ok
  slot : ∀ t, t < 2 → ∀ i, i < 4 → (S t).B i = false
theorem kpP_cases {s t : Nat} (hs : s < 2) (ht : t < 2) : t = s ∨ (t = 1 - s ∧ t ≠ s) := by omega
theorem Both.keep {D : Nat → Dv} {S : Nat → Sd} {c : Nat} (h : Both D S c) {s : Nat} (hs : s < 2) {l : List Int} (hg : Tab.Good 14 6 l) : kpE D s l = 0 ∧ Both (kpD D s l) (kept S s l) c := by
  have hz := imgT_size s l hg
  have h0 := (h.cd s hs).put (h.ok s hs) (i := l.length % 2) (by omega) hz (h.slot s hs _ (by omega))
  have h1 := (h.cd (1 - s) (by omega)).put (h.ok (1 - s) (by omega)) (i := 2 + l.length % 2) (by omega) hz (h.slot (1 - s) (by omega) _ (by omega))
  have e0 : kpE0 D s l = 0 := h0.1
  have e1 : kpE1 D s l = 0 := h1.1
  have hne : 1 - s ≠ s := by omega
  have hD : ∀ t, t < 2 → kpD D s l t = (if t = s then kpD0 D s l else kpD1 D s l) := fun t ht => by
    unfold kpD
    rw [if_neg (by rw [e0]; decide)]
    rcases kpP_cases hs ht with rfl | ⟨rfl, h2⟩
    · rw [upd_ne _ _ (Ne.symm hne), upd_same, if_pos rfl]
    · rw [upd_same, if_neg h2]
  refine ⟨by unfold kpE; rw [if_neg (by rw [e0]; decide), if_neg (by rw [e1]; decide), if_pos (.inl e0)], fun t ht => ?_, fun t ht => ?_, fun t ht i hi => ?_⟩
  · rw [hD t ht]
    rcases kpP_cases hs ht with rfl | ⟨rfl, h2⟩
    · rw [if_pos rfl, kept_own]; exact h0.2.1.mono (Nat.zero_le _)
    · rw [if_neg h2, kept_oth S hs]; exact h1.2.1.mono (Nat.zero_le _)
  · rw [hD t ht]
    rcases kpP_cases hs ht with rfl | ⟨rfl, h2⟩
    · rw [if_pos rfl]; exact h0.2.2
    · rw [if_neg h2]; exact h1.2.2
  · rw [(kept_far hs ht).2.1]; exact h.slot t ht i hi
theorem Both.keepBoth {D : Nat → Dv} {S : Nat → Sd} {c : Nat} (h : Both D S c) {m : Nat → List Int} (hg : ∀ t, t < 2 → Tab.Good 14 6 (m t)) : kbE D m = 0 ∧ Both (kbD D m) (kept (kept S 0 (m 0)) 1 (m 1)) c := by
  obtain ⟨a1, a2⟩ := h.keep (s := 0) (by omega) (hg 0 (by omega))
  obtain ⟨b1, b2⟩ := a2.keep (s := 1) (by omega) (hg 1 (by omega))
  have x0 : kbX D m 0 = 0 := a1
  have x1 : kbX D m 1 = 0 := b1
  unfold kbE kbD
  rw [if_neg (by omega), if_neg (by omega)]
  exact ⟨x1, b2⟩
theorem Both.rd {D : Nat → Dv} {S : Nat → Sd} {c : Nat} (h : Both D S c) {s : Nat} (hs : s < 2) {k i : Nat} (hk : k < 2) (hi : i < 2) : rdT D s (2 * k + i) = rdS S s k i := by
  have hp : kpP s ((2 * k + i) / 2) = if k = 0 then s else 1 - s := by
    unfold kpP
    rw [show (2 * k + i) / 2 = k by omega]
  have hlt : (if k = 0 then s else 1 - s) < 2 := by split <;> omega
  unfold rdT rdS
  rw [hp]
  generalize (if k = 0 then s else 1 - s) = t at hlt
  obtain ⟨r1, r2, -, -⟩ := (h.cd t hlt).read (i := 2 * k + i) (by omega)
  exact r2 (h.slot t hlt _ (by omega))
/-- newest finds the side's table -/
theorem Both.best {D : Nat → Dv} {S : Nat → Sd} {c : Nat} (h : Both D S c) {s : Nat} (hs : s < 2) (ho : SideOk S s) : bst D s 4 = some (S s).m := by
  obtain ⟨h1, h2⟩ := ho
  have r : ∀ k, k < 2 → ∀ i, i < 2 → opn s (rdT D s (2 * k + i)) = opT s (rdS S s k i).data.toList := fun k hk i hi => by rw [h.rd hs hk hi]; rfl
  have b : ∀ k, k < 2 → ∀ i, i < 2 → ∀ x, opn s (rdT D s (2 * k + i)) = some x → x = (S s).m ∨ x.length < (S s).m.length := fun k hk i hi x hx => h2 k hk i hi x (by rw [← r k hk i hi]; exact hx)
  have b0 := b 0 (by omega) 0 (by omega)
  have b1 := b 0 (by omega) 1 (by omega)
  have b2 := b 1 (by omega) 0 (by omega)
  have b3 := b 1 (by omega) 1 (by omega)
  have hm : opn s (rdT D s 0) = some (S s).m ∨ opn s (rdT D s 1) = some (S s).m := by
    have := h1 0 (by omega)
    rcases (show (S s).m.length % 2 = 0 ∨ (S s).m.length % 2 = 1 by omega) with e | e
    · rw [e] at this; exact .inl ((r 0 (by omega) 0 (by omega)).trans this)
    · rw [e] at this; exact .inr ((r 0 (by omega) 1 (by omega)).trans this)
  obtain ⟨c1, -⟩ := best_ok (m := (S s).m) (a := none) (b := opn s (rdT D s 0)) (fun x hx => by cases hx) b0
  obtain ⟨d1, d2⟩ := best_ok c1 b1
  have e2 : Rem.best (Rem.best none (opn s (rdT D s 0))) (opn s (rdT D s 1)) = some (S s).m := d2 (by
    rcases hm with h | h
    · exact .inl h
    · exact .inr h)
  obtain ⟨f1, f2⟩ := best_ok d1 b2
  have e3 := f2 (.inl e2)
  obtain ⟨g1, g2⟩ := best_ok f1 b3
  exact g2 (.inl e3)

/-! ### a pair of such devices in memory -/
/-- the sector of a block -/
def pl (s : Sd) (b : Nat) : Nat := 4 + (plc 14 s.m b).toNat
theorem pl_bd {s : Sd} (hg : Tab.Good 14 6 s.m) {b : Nat} (hb : b < 14) : 4 ≤ pl s b ∧ pl s b < 18 + s.m.length ∧ (pl s b : Int) = 4 + plc 14 s.m b := by
  have := plc_bd (n := 14) (m := s.m) (b := (b : Int)) (by omega) (by omega)
  unfold pl; omega
def mOf (S : Nat → Sd) : Nat → List Int := fun s => (S s).m
/-- the pair's own blocks -/
def PBs (w : World) (q : Nat) (pd : Nat → Nat) (S : Nat → Sd) (P : List Nat) : Prop := P = [q] ∧ PB w q pd (mOf S)
theorem PBs.same {w w' : World} {q : Nat} {pd : Nat → Nat} {S : Nat → Sd} {P : List Nat} (h : PBs w q pd S P) (hk : ∀ k ∈ P, w'.heap[k]? = w.heap[k]?) : PBs w' q pd S P := ⟨h.1, h.2.same (hk q (by rw [h.1]; simp))⟩
theorem PBs.lt {w : World} {q : Nat} {pd : Nat → Nat} {S : Nat → Sd} {P : List Nat} (h : PBs w q pd S P) : ∀ k ∈ P, k < w.heap.size := by
  intro k hk; rw [h.1, List.mem_singleton] at hk; rw [hk]; exact h.2.lt
theorem PBs.later {w w' : World} {q : Nat} {pd : Nat → Nat} {S : Nat → Sd} {P : List Nat} (h : PBs w q pd S P) (hb : Below w.heap.size w w') : PBs w' q pd S P := h.same fun k hk => hb.block k (h.lt k hk)
/-- what lies in the tables' slots -/
def Slots (S : Nat → Sd) : Prop := (∀ s, s < 2 → Tab.Good 14 6 (S s).m) ∧ (∀ s, s < 2 → ∀ i, i < 4 → (S s).B i = false) ∧ ∀ s, s < 2 → SideOk S s
/-- the pair at q, its devices at pd 0 and pd 1; all that they have lies from w0's end on, and none of it in X; X lies there, too. Nothing is said of what lies in the tables' slots -/
def CPr (w0 : World) (X : List Nat) (q : Nat) (pd : Nat → Nat) (S : Nat → Sd) (c : Nat) (w : World) : Prop := ∃ D, CPe w0 X q pd (mOf S) D w ∧ ∀ s, s < 2 → Cd (D s) 24 128 (S s).V (S s).B c
/-- .. and the tables' slots are right -/
structure CP (w0 : World) (X : List Nat) (q : Nat) (pd : Nat → Nat) (S : Nat → Sd) (c : Nat) (w : World) : Prop where
  raw : CPr w0 X q pd S c w
  slots : Slots S
section
variable {w0 w w' : World} {X Y : List Nat} {q c : Nat} {pd : Nat → Nat} {S S' : Nat → Sd} {s : Nat}
theorem CPr.chg (h : CPr w0 X q pd S c w) (hc : Chg (fun k => k ∈ X) w w') : CPr w0 X q pd S c w' := by
  obtain ⟨D, h1, h2⟩ := h; exact ⟨D, h1.chg hc, h2⟩
theorem CPr.later (h : CPr w0 X q pd S c w) (hb : Below w.heap.size w w') : CPr w0 X q pd S c w' := h.chg (Chg.of_below hb (Nat.le_refl _))
theorem CP.x (h : CP w0 X q pd S c w) : ∀ k ∈ X, w0.heap.size ≤ k ∧ k < w.heap.size := by obtain ⟨D, h1, h2⟩ := h.raw; exact h1.x
theorem CP.below (h : CP w0 X q pd S c w) : Below w0.heap.size w0 w := by obtain ⟨D, h1, h2⟩ := h.raw; exact h1.below
theorem CP.pb (h : CP w0 X q pd S c w) : PB w q pd (mOf S) := by obtain ⟨D, h1, h2⟩ := h.raw; exact h1.pb
theorem CP.good (h : CP w0 X q pd S c w) {s : Nat} (hs : s < 2) : Tab.Good 14 6 (S s).m := h.slots.1 s hs
theorem CP.chg (h : CP w0 X q pd S c w) (hc : Chg (fun k => k ∈ X) w w') : CP w0 X q pd S c w' := ⟨h.raw.chg hc, h.slots⟩
theorem CP.later (h : CP w0 X q pd S c w) (hb : Below w.heap.size w w') : CP w0 X q pd S c w' := h.chg (Chg.of_below hb (Nat.le_refl _))
theorem CP.mono (h : CP w0 X q pd S c w) {d : Nat} (hd : c ≤ d) : CP w0 X q pd S d w := by
  obtain ⟨⟨D, h1, h2⟩, h3⟩ := h; exact ⟨⟨D, h1, fun s hs => (h2 s hs).mono hd⟩, h3⟩
theorem CP.new (h : CP w0 X q pd S c w) (o : Obj) : CP w0 (w.heap.size :: X) q pd S c (w.alloc o) := by
  obtain ⟨⟨D, h1, h2⟩, h3⟩ := h; exact ⟨⟨D, h1.new o, h2⟩, h3⟩
theorem CP.sub (h : CP w0 X q pd S c w) (hY : ∀ k ∈ Y, k ∈ X) : CP w0 Y q pd S c w := by
  obtain ⟨⟨D, h1, h2⟩, h3⟩ := h; exact ⟨⟨D, h1.sub hY, h2⟩, h3⟩
theorem Same.of_below (h : CP w0 X q pd S c w) (hb : Below w.heap.size w w') : Same X w w' := fun k hk => hb.block k (h.x k hk).2
theorem CP.both (h : CP w0 X q pd S c w) : ∃ D, CPe w0 X q pd (mOf S) D w ∧ Both D S c := by
  obtain ⟨⟨D, h1, h2⟩, h3⟩ := h; exact ⟨D, h1, h2, fun t ht => h1.ok ht, h3.2.1⟩
theorem Both.cp {D : Nat → Dv} (h : Both D S c) (h1 : CPe w0 X q pd (mOf S) D w) (h2 : Slots S) : CP w0 X q pd S c w := ⟨⟨D, h1, h.cd⟩, h2⟩
theorem Both.sz {D : Nat → Dv} (h : Both D S c) (hc : c ≤ 1000000) : Sz D := fun s hs => ⟨by rw [(h.cd s hs).n]; rfl, by rw [(h.cd s hs).size]; rfl, Nat.le_trans (h.cd s hs).cache hc⟩
/-- one device is another one; its table stays -/
def setS (S : Nat → Sd) (s : Nat) (V : Nat → ByteArray) (B : Nat → Bool) : Nat → Sd := upd S s ⟨V, B, (S s).m⟩
theorem setS_m (S : Nat → Sd) (s : Nat) (V : Nat → ByteArray) (B : Nat → Bool) (t : Nat) : (setS S s V B t).m = (S t).m := by
  unfold setS upd; by_cases h : t = s
  · subst h; rw [if_pos rfl]
  · rw [if_neg h]
theorem mOf_setS (S : Nat → Sd) (s : Nat) (V : Nat → ByteArray) (B : Nat → Bool) : mOf (setS S s V B) = mOf S := funext fun t => setS_m S s V B t
theorem setS_same (S : Nat → Sd) (s : Nat) (V : Nat → ByteArray) (B : Nat → Bool) : setS S s V B s = ⟨V, B, (S s).m⟩ := upd_same _ _ _
theorem setS_ne (S : Nat → Sd) {s t : Nat} (V : Nat → ByteArray) (B : Nat → Bool) (h : t ≠ s) : setS S s V B t = S t := upd_ne _ _ h
theorem setS_self (S : Nat → Sd) (s : Nat) : setS S s (S s).V (S s).B = S := by
  funext t; by_cases e : t = s
  · subst e; rw [setS_same]
  · rw [setS_ne _ _ _ e]
theorem CPe.set {D : Nat → Dv} {E : Dv} {V : Nat → ByteArray} {B : Nat → Bool} {d : Nat} (h1 : CPe w0 X q pd (mOf S) (upd D s E) w) (h2 : ∀ t, t < 2 → Cd (D t) 24 128 (S t).V (S t).B c) (hE : Cd E 24 128 V B d) (hd : c ≤ d) : CPr w0 X q pd (setS S s V B) d w := by
  refine ⟨upd D s E, by rw [mOf_setS]; exact h1, fun t ht => ?_⟩
  by_cases e : t = s
  · subst e; rw [upd_same, setS_same]; exact hE
  · rw [upd_ne _ _ e, setS_ne _ _ _ e]; exact (h2 t ht).mono hd
end
/-! ### the exported functions -/
theorem mOf_kept (S : Nat → Sd) (s : Nat) (l : List Int) : mOf (kept S s l) = upd (mOf S) s l := by
  funext t
  unfold mOf kept upd
  by_cases e : t = s
  · rw [if_pos e, if_pos e]
  · rw [if_neg e, if_neg e]
    split <;> rfl
/-- two new devices -/
def Two (w0 : World) (pa pb : Nat) (w : World) : Prop := ∃ sa sb, DevAt w pa sa (.slice none 0 0) (Dv.fresh 24 128) ∧ DevAt w pb sb (.slice none 0 0) (Dv.fresh 24 128) ∧
  (∀ k, foot pa sa (.slice none 0 0) k → w0.heap.size ≤ k ∧ ¬ foot pb sb (.slice none 0 0) k) ∧ (∀ k, foot pb sb (.slice none 0 0) k → w0.heap.size ≤ k) ∧ Below w0.heap.size w0 w
theorem Two.later {w0 w w' : World} {pa pb : Nat} (h : Two w0 pa pb w) (hb : Below w.heap.size w w') : Two w0 pa pb w' := by
  obtain ⟨sa, sb, h1, h2, h3, h4, h5⟩ := h
  exact ⟨sa, sb, h1.below hb (Nat.le_refl _), h2.below hb (Nat.le_refl _), h3, h4, h5.trans (hb.mono h5.size)⟩
theorem Two.dvs {w0 w : World} {pa pb : Nat} (h : Two w0 pa pb w) : Dvs w0 [] (pdOf pa pb) (fun _ => Dv.fresh 24 128) w := by
  obtain ⟨sa, sb, h1, h2, h3, h4, h5⟩ := h
  refine ⟨⟨pdOf sa sb, fun _ => .slice none 0 0, fun s hs => ?_, fun s hs k hk => ?_, fun k hk => (h3 k hk).2⟩, fun k hk => (by cases hk), h5⟩
  · rcases (show s = 0 ∨ s = 1 by omega) with rfl | rfl
    · exact h1
    · exact h2
  · rcases (show s = 0 ∨ s = 1 by omega) with rfl | rfl
    · exact ⟨(h3 k hk).1, by simp⟩
    · exact ⟨h4 k hk, by simp⟩
theorem fresh_cd : Cd (Dv.fresh 24 128) 24 128 (fun _ => noughts 128) (fun _ => false) 0 := by
  have hn : (Dv.fresh 24 128).n = 24 := List.length_replicate
  refine ⟨rfl, rfl, rfl, rfl, rfl, hn, rfl, fun i hi => ?_, fun i hi => ?_, Nat.le_refl _⟩
  · show (((List.replicate 24 (noughts 128, false))[i]?).map (·.1)).getD ⟨#[]⟩ = _
    rw [List.getElem?_replicate, if_pos hi]; rfl
  · unfold badB
    rw [Int.toNat_natCast]
    show (((List.replicate 24 (noughts 128, false))[i]?).map (·.2)).getD false = _
    rw [List.getElem?_replicate, if_pos hi]; rfl
/-- a side that nothing was done to -/
def New (s : Sd) : Prop := s.m = [] ∧ ∀ i, 4 ≤ i → i < 24 → s.V i = noughts 128 ∧ s.B i = false
/-- spares that nothing was moved to are good -/
def Spare (s : Sd) : Prop := ∀ j, s.m.length ≤ j → j < 6 → s.B (18 + j) = false
theorem New.spare {s : Sd} (h : New s) : Spare s := fun j _ hj => (h.2 (18 + j) (by omega) (by omega)).2
/-- side s is another one; but for the tables' slots nothing else is -/
def Oth (S S' : Nat → Sd) (s : Nat) : Prop := ∀ t, t < 2 → t ≠ s → (S' t).m = (S t).m ∧ (S' t).B = (S t).B ∧ ∀ i, 4 ≤ i → (S' t).V i = (S t).V i
/-- what Move does -/
def Moved (S S' : Nat → Sd) (s : Nat) (b : Nat) : Prop := Oth S S' s ∧ (S' s).B = (S s).B ∧ (∀ i, 4 ≤ i → (S' s).V i = (S s).V i) ∧ (S' s).m = (S s).m ++ [(b : Int)]
def wrE (s : Sd) (b : Nat) : Int := if s.B (pl s b) = true ∧ 6 ≤ s.m.length then 9 else 0
/-- what Write does -/
structure Wr (S S' : Nat → Sd) (s b : Nat) (d : ByteArray) : Prop where
  oth : Oth S S' s
  bad : (S' s).B = (S s).B
  m : (S' s).m = if (S s).B (pl (S s) b) = true ∧ (S s).m.length < 6 then (S s).m ++ [(b : Int)] else (S s).m
  at_ : wrE (S s) b = 0 → (S' s).V (pl (S' s) b) = d
  rest : ∀ i, 4 ≤ i → i ≠ pl (S' s) b ∨ wrE (S s) b ≠ 0 → (S' s).V i = (S s).V i
theorem good0 : Tab.Good 14 6 [] := Tab.Good.nil (by decide)
/-- both tables are kept -/
theorem slots2 {S : Nat → Sd} {m : Nat → List Int} (hg : ∀ t, t < 2 → Tab.Good 14 6 (m t)) (hB : ∀ t, t < 2 → ∀ i, i < 4 → (S t).B i = false) (hb : ∀ t, t < 2 → Below_ S t (m t)) : Slots (kept (kept S 0 (m 0)) 1 (m 1)) ∧ ∀ t, t < 2 → (kept (kept S 0 (m 0)) 1 (m 1) t).m = m t := by
  have hm : ∀ t, t < 2 → (kept (kept S 0 (m 0)) 1 (m 1) t).m = m t := fun t ht => by
    have h1 := (kept_far (S := kept S 0 (m 0)) (s := 1) (m := m 1) (by omega) ht).2.2
    have h0 := (kept_far (S := S) (s := 0) (m := m 0) (by omega) ht).2.2
    rw [h1]
    rcases (show t = 0 ∨ t = 1 by omega) with rfl | rfl
    · rw [if_neg (by omega), h0, if_pos rfl]
    · rw [if_pos rfl]
  refine ⟨⟨fun t ht => by rw [hm t ht]; exact hg t ht, fun t ht i hi => ?_, fun t ht => ?_⟩, hm⟩
  · rw [(kept_far (by omega) ht).2.1, (kept_far (by omega) ht).2.1]; exact hB t ht i hi
  · rcases (show t = 0 ∨ t = 1 by omega) with rfl | rfl
    · exact SideOk.other (s := 1) (by omega) (SideOk.keep (by omega) (hg 0 (by omega)) (hb 0 (by omega)))
    · exact SideOk.keep (by omega) (hg 1 (by omega)) (Below_.other (s := 0) (by omega) (hb 1 (by omega)))
section
variable {w0 w w' : World} {X : List Nat} {q c : Nat} {pd : Nat → Nat} {S : Nat → Sd} {s : Nat}
def S00 : Nat → Sd := fun _ => ⟨fun _ => noughts 128, fun _ => false, []⟩
theorem both00 : Both (fun _ => Dv.fresh 24 128) S00 0 := ⟨fun _ _ => fresh_cd, fun _ _ => Dv.fresh_ok 24 128 (by omega) (by omega) (by omega) (by omega), fun _ _ _ _ => rfl⟩
theorem format_c {pa pb : Nat} (h : Two w0 pa pb w) : Calls Tryz.prog 21 #[.pointer (some ⟨pa, 0, none⟩), .pointer (some ⟨pb, 0, none⟩), .int .i64 6] w fun e w' => ∃ q S, e = .returned (.tuple #[.pointer (some ⟨q, 0, none⟩), .int .i64 0]) ∧ CP w0 [] q (pdOf pa pb) S 4 w' ∧ New (S 0) ∧ New (S 1) := by
  refine (format_e h.dvs (both00.sz (by omega))).mono ?_
  rintro e w' ⟨q, rfl, hq, hc, -⟩
  obtain ⟨k0, k1⟩ := both00.keepBoth (m := fun _ => []) (fun _ _ => good0)
  obtain ⟨s1, s2⟩ := slots2 (S := S00) (m := fun _ => []) (fun _ _ => good0) (fun _ _ _ _ => rfl) (fun t ht => Below_.fresh (fun _ _ _ _ => rfl) ht)
  rw [k0]
  have hmm : (fun _ => ([] : List Int)) = mOf (kept (kept S00 0 []) 1 []) := by rw [mOf_kept, mOf_kept]; funext t; unfold upd mOf S00; split <;> (try split) <;> rfl
  refine ⟨q, kept (kept S00 0 []) 1 [], rfl, (k1.cp (by rw [← hmm]; exact hc) s1).mono (by omega), ⟨s2 0 (by omega), fun i h1 h2 => ?_⟩, ⟨s2 1 (by omega), fun i h1 h2 => ?_⟩⟩
  · refine ⟨?_, ?_⟩
    · rw [(kept_far (s := 1) (by omega) (by omega)).1 i h1, (kept_far (s := 0) (by omega) (by omega)).1 i h1]; rfl
    · rw [(kept_far (s := 1) (by omega) (by omega)).2.1, (kept_far (s := 0) (by omega) (by omega)).2.1]; rfl
  · refine ⟨?_, ?_⟩
    · rw [(kept_far (s := 1) (by omega) (by omega)).1 i h1, (kept_far (s := 0) (by omega) (by omega)).1 i h1]; rfl
    · rw [(kept_far (s := 1) (by omega) (by omega)).2.1, (kept_far (s := 0) (by omega) (by omega)).2.1]; rfl
theorem pdOf_lt (pd : Nat → Nat) {s : Nat} (hs : s < 2) : pdOf (pd 0) (pd 1) s = pd s := by
  rcases (show s = 0 ∨ s = 1 by omega) with rfl | rfl <;> rfl
theorem CPe.pcong {m : Nat → List Int} {D : Nat → Dv} {pd' : Nat → Nat} (h : CPe w0 X q pd m D w) (hp : ∀ s, s < 2 → pd' s = pd s) : CPe w0 X q pd' m D w := by
  obtain ⟨⟨sb, cv, hd, hf, hff⟩, h1, h2, h3, h4⟩ := h
  refine ⟨⟨sb, cv, fun s hs => by rw [hp s hs]; exact hd s hs, fun s hs k hk => hf s hs k (by rw [← hp s hs]; exact hk), fun k hk => by rw [hp 1 (by omega)]; exact hff k (by rw [← hp 0 (by omega)]; exact hk)⟩, ?_, h2, h3, h4⟩
  unfold PB at h1 ⊢; rw [hp 0 (by omega), hp 1 (by omega)]; exact h1
theorem Dvs.pcong {D : Nat → Dv} {pd' : Nat → Nat} (h : Dvs w0 X pd D w) (hp : ∀ s, s < 2 → pd' s = pd s) : Dvs w0 X pd' D w := by
  obtain ⟨⟨sb, cv, hd, hf, hff⟩, h3, h4⟩ := h
  exact ⟨⟨sb, cv, fun s hs => by rw [hp s hs]; exact hd s hs, fun s hs k hk => hf s hs k (by rw [← hp s hs]; exact hk), fun k hk => by rw [hp 1 (by omega)]; exact hff k (by rw [← hp 0 (by omega)]; exact hk)⟩, h3, h4⟩
theorem EqR.cd {D E : Nat → Dv} (h : EqR D E) {t : Nat} {V : Nat → ByteArray} {B : Nat → Bool} (hc : Cd (D t) 24 128 V B c) : Cd (E t) 24 128 V B c := by
  obtain ⟨n, hn⟩ := h t
  rw [hn]
  exact ⟨hc.dead, hc.off, hc.fuse, hc.lose, hc.stray, hc.n, hc.size, hc.vis, hc.bad, hc.cache⟩
theorem table_p {P : List Nat} (h : PBs w q pd S P) (hs : s < 2) : Calls Tryz.prog 18 #[.pointer (some ⟨q, 0, none⟩), .int .i64 (s : Nat)] w fun e w' => e = .returned (.agg (ta 14 6 (S s).m)) ∧ Below w.heap.size w w' := table_e h.2 hs
theorem table_c (h : CP w0 X q pd S c w) (hs : s < 2) : Calls Tryz.prog 18 #[.pointer (some ⟨q, 0, none⟩), .int .i64 (s : Nat)] w fun e w' => e = .returned (.agg (ta 14 6 (S s).m)) ∧ Below w.heap.size w w' := table_e h.pb hs
theorem device_c (h : CP w0 X q pd S c w) (hs : s < 2) : Calls Tryz.prog 65 #[.pointer (some ⟨q, 0, none⟩), .int .i64 (s : Nat)] w fun e w' => e = .returned (.pointer (some ⟨pd s, 0, none⟩)) ∧ Below w.heap.size w w' :=
  (device_e h.pb hs).mono fun e w' ⟨a, b⟩ => ⟨a, by rw [b]; exact Below.refl _ _⟩
theorem sec_pl {S : Nat → Sd} {s b : Nat} (hg : Tab.Good 14 6 (S s).m) (hb : b < 14) : sec (mOf S) s b = (pl (S s) b : Nat) := (pl_bd hg hb).2.2.symm
theorem read_c (h : CP w0 X q pd S c w) (hs : s < 2) {b : Nat} (hb : b < 14) (hc : c ≤ 1000000) : Calls Tryz.prog 116 #[.pointer (some ⟨q, 0, none⟩), .int .i64 (s : Nat), .int .i64 (b : Nat)] w fun e w' => e = .returned (.tuple #[.string (if (S s).B (pl (S s) b) then ⟨#[]⟩ else (S s).V (pl (S s) b)), .int .i64 (if (S s).B (pl (S s) b) then 7 else 0)]) ∧ CP w0 X q pd S c w' ∧ Same X w w' := by
  obtain ⟨D, h1, h2⟩ := h.both
  have hg := h.good hs
  have hp := pl_bd hg hb
  refine (read_e h1 hs hg (by have := (h2.cd s hs).cache; omega) hb).mono ?_
  rintro e w' ⟨rfl, hc', hsm⟩
  rw [sec_pl hg hb] at hc' ⊢
  obtain ⟨r1, r2, r3, r4⟩ := (h2.cd s hs).read (i := pl (S s) b) (by have := hg.len; omega)
  refine ⟨?_, ⟨by have := hc'.set h2.cd r4 (Nat.le_refl _); rwa [setS_self] at this, h.slots⟩, fun k hk => hsm k (by simp [hk])⟩
  rw [r1]
  cases hb : (S s).B (pl (S s) b) with
  | false => rw [r2 hb]; simp
  | true => rw [r3 hb]; simp
theorem kept_slots (h : Slots S) (hs : s < 2) {b : Nat} (hb : b < 14) (hm : (S s).m.length < 6) : Slots (kept S s ((S s).m ++ [(b : Int)])) ∧ Moved S (kept S s ((S s).m ++ [(b : Int)])) s b := by
  have hE := mv_yes (n := 14) (k := 6) (m := (S s).m) (b := (b : Int)) (by omega) (by omega) (by omega)
  have hg := ((h.1 s hs).push hE).1
  refine ⟨⟨fun t ht => ?_, fun t ht i hi => ?_, fun t ht => ?_⟩, fun t ht hne => ?_, (kept_far hs hs).2.1, (kept_far hs hs).1, ?_⟩
  · rw [(kept_far hs ht).2.2]
    split
    · exact hg
    · exact h.1 t ht
  · rw [(kept_far hs ht).2.1]; exact h.2.1 t ht i hi
  · rcases kpP_cases hs ht with rfl | ⟨rfl, h2⟩
    · exact SideOk.keep hs hg (h.2.2 _ hs).more
    · exact SideOk.other hs (h.2.2 _ ht)
  · obtain ⟨a, b, c⟩ := kept_far (S := S) (m := (S s).m ++ [(b : Int)]) hs ht
    rw [if_neg hne] at c
    exact ⟨c, b, a⟩
  · rw [(kept_far hs hs).2.2, if_pos rfl]
theorem move_c0 (h : CP w0 X q pd S c w) (hs : s < 2) {b : Nat} (hb : b < 14) (hc : c ≤ 1000000) : Calls Tryz.prog 94 #[.pointer (some ⟨q, 0, none⟩), .int .i64 (s : Nat), .int .i64 (b : Nat)] w fun e w' => ∃ S', e = .returned (.int .i64 (if (S s).m.length < 6 then 0 else 9)) ∧ ((S s).m.length < 6 → Moved S S' s b) ∧ (¬ (S s).m.length < 6 → S' = S) ∧ CP w0 X q pd S' c w' ∧ Same X w w' := by
  obtain ⟨D, h1, h2⟩ := h.both
  have hg := h.good hs
  by_cases hm : (S s).m.length < 6
  · refine (move_e h1 hs hg (h2.sz hc) hb hm rfl).mono ?_
    have hE := mv_yes (n := 14) (k := 6) (m := (S s).m) (b := (b : Int)) (by omega) (by omega) (by omega)
    obtain ⟨k1, k2⟩ := h2.keep hs (hg.push hE).1
    obtain ⟨s1, s2⟩ := kept_slots h.slots hs hb hm
    rintro e w' ⟨rfl, ⟨m', m1, m2, hc'⟩, hsm⟩
    have hk : kpE D s (mOf S s ++ [(b : Int)]) = 0 := k1
    rw [hk, if_pos hm]
    refine ⟨kept S s ((S s).m ++ [(b : Int)]), rfl, fun _ => s2, fun h => absurd hm h, k2.cp ?_ s1, hsm⟩
    rw [mOf_kept, ← show m' = upd (mOf S) s ((S s).m ++ [(b : Int)]) from m1 hk]; exact hc'
  · refine (move_full h1.pb hs hg hb hm).mono ?_
    rintro e w' ⟨rfl, hb'⟩
    exact ⟨S, by rw [if_neg hm], fun h => absurd h hm, fun _ => rfl, h.later hb', Same.of_below h hb'⟩
theorem move_c (h : CP w0 X q pd S c w) (hs : s < 2) {b : Nat} (hb : b < 14) (hc : c ≤ 1000000) : Calls Tryz.prog 94 #[.pointer (some ⟨q, 0, none⟩), .int .i64 (s : Nat), .int .i64 (b : Nat)] w fun e w' => ∃ S', e = .returned (.int .i64 (if (S s).m.length < 6 then 0 else 9)) ∧ ((S s).m.length < 6 → Moved S S' s b) ∧ (¬ (S s).m.length < 6 → S' = S) ∧ CP w0 X q pd S' (c + 4) w' ∧ Same X w w' :=
  (move_c0 h hs hb hc).mono fun e w' ⟨S', a, b, c', d, e'⟩ => ⟨S', a, b, c', d.mono (by omega), e'⟩
theorem flush_c (h : CP w0 X q pd S c w) (hs : s < 2) (hc : c ≤ 1000000) : Calls Tryz.prog 29 #[.pointer (some ⟨q, 0, none⟩), .int .i64 (s : Nat)] w fun e w' => e = .returned (.int .i64 0) ∧ CP w0 X q pd S c w' ∧ Same X w w' := by
  obtain ⟨D, h1, h2⟩ := h.both
  refine (flush_e h1 hs (by have := (h2.cd s hs).cache; omega)).mono ?_
  rintro e w' ⟨rfl, hc', hsm⟩
  obtain ⟨r1, r2⟩ := (h2.cd s hs).flush (h2.ok s hs)
  exact ⟨by rw [r1], ⟨by have := hc'.set h2.cd (r2.mono (Nat.zero_le c)) (Nat.le_refl _); rwa [setS_self] at this, h.slots⟩, fun k hk => hsm k (by simp [hk])⟩
end
end Go.Proofs.YtgoampbebjfenaaGreatDoor.Rem

/- Contracts of layer 3 (dev): Crash. -/
namespace Go.Proofs.YtgoampbebjfenaaGreatDoor.Dev
open Go.RowKit Go.Proofs.YtgoampbebjfenaaGreatDoor
set_option linter.unusedVariables false

theorem run_min2 (P : Program) (w : World) (t : TypeId) (ts : Array TypeId) (a b : Nat) : (Builtin.min_ ts t #[.int .i64 (a : Nat), .int .i64 (b : Nat)]).run P w = .ok (.int .i64 ((min a b : Nat) : Int)) w := by
  have e : ∀ a b : Nat, (if (b : Int) < a then (b : Int) else a) = ((min a b : Nat) : Int) := by intro a b; split <;> omega
  simp only [Builtin.min_, Builtin.min2, List.foldlM, Sem.run_bind, Sem.run_pure, Result.andThen]
  rw [e]

end Go.Proofs.YtgoampbebjfenaaGreatDoor.Dev

/- Contracts for layer 3's laws: full, wakes. -/
namespace Go.Proofs.YtgoampbebjfenaaGreatDoor.Dev
open Go.RowKit Go.Proofs.YtgoampbebjfenaaGreatDoor
set_option linter.unusedVariables false

def stars : ByteArray := ⟨(Lib.repeatL [42] 128).toArray⟩
theorem stars_size : stars.size = 128 := by
  show (Lib.repeatL [42] 128).toArray.size = 128
  rw [List.size_toArray, Lib.repeatL_length]; simp
def fullN (s : ByteArray) : ByteArray := (s ++ stars).extract 0 128
theorem fullN_size (s : ByteArray) : (fullN s).size = 128 := by
  unfold fullN; rw [ByteArray.size_extract, ByteArray.size_append, stars_size]; omega
theorem fresh_plain (n s : Nat) : (Dv.fresh n s).Plain := ⟨rfl, rfl, rfl, rfl, rfl, fun x hx => by rw [(List.mem_replicate.1 hx).2]⟩
theorem new_9 (w : World) :
    Calls Tryz.prog 20 #[.agg #[.int .i64 9, .int .i64 128]] w fun e w' => ∃ p sb, w.heap.size ≤ p ∧ w.heap.size ≤ sb ∧ e = .returned (.tuple #[.pointer (some ⟨p, 0, none⟩), .int .i64 0]) ∧ DevAt w' p sb (.slice none 0 0) (Dv.fresh 9 128) ∧ Below w.heap.size w w' := new_yes 9 128 w rfl
/-- the last write to a sector is what it reads -/
theorem reads_push (D : Dv) (i : Nat) (s : ByteArray) : (D.push (i : Nat) s).reads i = s := by
  unfold Dv.reads Dv.push
  simp
theorem reads_push_ne (D : Dv) (i j : Nat) (s : ByteArray) (h : j ≠ i) : (D.push (j : Nat) s).reads i = D.reads i := by
  unfold Dv.reads Dv.push
  simp [h]
theorem foot_ge {p sb : Nat} {cv cv' : Value} {w w1 : World} {B : Nat} (hf : ∀ k, foot p sb cv k → B ≤ k) (h : ∀ k, foot p sb cv' k → foot p sb cv k ∨ w1.heap.size ≤ k) (hB : B ≤ w1.heap.size) : ∀ k, foot p sb cv' k → B ≤ k := by
  intro k hk
  rcases h k hk with h | h
  · exact hf k h
  · omega
/-- the device D is at p, all that it has lies from B on; below B nothing is another one -/
def Own9 (w0 : World) (p : Nat) (D : Dv) (w : World) : Prop := ∃ sb cv, DevAt w p sb cv D ∧ (∀ k, foot p sb cv k → w0.heap.size ≤ k) ∧ Below w0.heap.size w0 w
theorem Own9.now {w0 w w' : World} {p sb : Nat} {cv : Value} {D' : Dv} (hf : ∀ k, foot p sb cv k → w0.heap.size ≤ k) (hb : Below w0.heap.size w0 w) (h : Now p sb cv w D' w') : Own9 w0 p D' w' := by
  obtain ⟨cv', hc, hd, hf'⟩ := h
  exact ⟨sb, cv', hd, foot_ge (w := w0) hf hf' hb.size, hb.trans (hc.below hb.size hf)⟩
theorem Own9.later {w0 w w' : World} {p : Nat} {D : Dv} (h : Own9 w0 p D w) (hb : Below w.heap.size w w') : Own9 w0 p D w' := by
  obtain ⟨sb, cv, hd, hf, hbb⟩ := h
  exact ⟨sb, cv, hd.below hb (Nat.le_refl _), hf, hbb.trans (hb.mono hbb.size)⟩
theorem Own9.below {w0 w : World} {p : Nat} {D : Dv} (h : Own9 w0 p D w) : Below w0.heap.size w0 w := by obtain ⟨_, _, _, _, hb⟩ := h; exact hb
theorem new_own (w0 w : World) (hb : Below w0.heap.size w0 w) :
    Calls Tryz.prog 20 #[.agg #[.int .i64 9, .int .i64 128]] w fun e w' => ∃ p, e = .returned (.tuple #[.pointer (some ⟨p, 0, none⟩), .int .i64 0]) ∧ Own9 w0 p (Dv.fresh 9 128) w' :=
  (new_9 w).mono fun e w' ⟨p, sb, hp, hsb, he, hd, hb2⟩ => ⟨p, he, sb, _, hd, fun k hk => (by
    rcases hk with rfl | rfl | h
    · exact Nat.le_trans hb.size hp
    · exact Nat.le_trans hb.size hsb
    · cases h), hb.trans (hb2.mono hb.size)⟩
theorem write_own {w0 w : World} {p : Nat} {D : Dv} (i : Int) (s : ByteArray) (h : Own9 w0 p D w) (hl : D.cache.length ≤ 1000000000) (hsm : s.size ≤ 1000000000) :
    Calls Tryz.prog 12 #[.pointer (some ⟨p, 0, none⟩), .int .i64 i, .string s] w fun e w' => e = .returned (.int .i64 (D.writeE i s)) ∧ Own9 w0 p (D.writeD i s) w' := by
  obtain ⟨sb, cv, hd, hf, hb⟩ := h
  exact (write_any i s w hd hl hsm).mono fun e w' ⟨he, hn⟩ => ⟨he, Own9.now hf hb hn⟩
theorem read_own {w0 w : World} {p : Nat} {D : Dv} (i : Int) (h : Own9 w0 p D w) (hl : D.cache.length ≤ 1000000000) :
    Calls Tryz.prog 132 #[.pointer (some ⟨p, 0, none⟩), .int .i64 i] w fun e w' => e = .returned (.tuple #[.string (D.readT i), .int .i64 (D.readE i)]) ∧ Own9 w0 p (D.readD i) w' := by
  obtain ⟨sb, cv, hd, hf, hb⟩ := h
  exact (read_any i w hd (by omega)).mono fun e w' ⟨he, hc, hd'⟩ => ⟨he, Own9.now hf hb (.same hc hd')⟩
theorem flush_own {w0 w : World} {p : Nat} {D : Dv} (h : Own9 w0 p D w) (hl : D.cache.length ≤ 1000000000) :
    Calls Tryz.prog 68 #[.pointer (some ⟨p, 0, none⟩)] w fun e w' => e = .returned (.int .i64 D.flushE) ∧ Own9 w0 p D.flushD w' := by
  obtain ⟨sb, cv, hd, hf, hb⟩ := h
  exact (flush_any w hd hl).mono fun e w' ⟨he, hn⟩ => ⟨he, Own9.now hf hb hn⟩
def txtA : ByteArray := fullN ⟨#[97]⟩
def D1 : Dv := (Dv.fresh 9 128).counted.push ((2 : Nat) : Int) txtA
def D2 : Dv := { D1 with nr := bump 0 }
theorem d1_plain : D1.Plain := (fresh_plain 9 128).counted.push _ _
theorem d1_write : (Dv.fresh 9 128).writeE 2 txtA = 0 ∧ (Dv.fresh 9 128).writeD 2 txtA = D1 :=
  ⟨(fresh_plain 9 128).writeE 2 txtA (by decide) (fullN_size _), (fresh_plain 9 128).writeD 2 txtA (by decide) (fullN_size _)⟩
theorem d1_read : D1.readE 2 = 0 ∧ D1.readT 2 = txtA ∧ D1.readD 2 = D2 :=
  ⟨d1_plain.readE 2 (by decide), (d1_plain.readT 2 (by decide)).trans (reads_push _ _ _), d1_plain.readD 2 (by decide)⟩
theorem d2_crash : (D2.crashD []).readE 2 = 0 ∧ (D2.crashD []).readT 2 = noughts 128 := by
  have h : (D2.crashD []).Plain := (d1_plain.read _).crash []
  refine ⟨h.readE 2 (by decide), (h.readT 2 (by decide)).trans ?_⟩
  rfl
end Go.Proofs.YtgoampbebjfenaaGreatDoor.Dev

/- Contracts for layer 3's laws: the calls of a device that the law itself made. -/
namespace Go.Proofs.YtgoampbebjfenaaGreatDoor.Dev
open Go.RowKit Go.Proofs.YtgoampbebjfenaaGreatDoor
set_option linter.unusedVariables false
theorem stick_own {w0 w : World} {p : Nat} {D : Dv} (i : Int) (h : Own9 w0 p D w) (hl : D.cache.length ≤ 1000000000) :
    Calls Tryz.prog 11 #[.pointer (some ⟨p, 0, none⟩), .int .i64 i] w fun e w' => e = .returned (.tuple #[]) ∧ Own9 w0 p (D.stickD i) w' := by
  obtain ⟨sb, cv, hd, hf, hb⟩ := h
  exact (stick_any i w hd hl).mono fun e w' ⟨he, hn⟩ => ⟨he, Own9.now hf hb hn⟩
theorem dead_own {w0 w : World} {p : Nat} {D : Dv} (h : Own9 w0 p D w) :
    Calls Tryz.prog 77 #[.pointer (some ⟨p, 0, none⟩)] w fun e w' => e = .returned (.bool D.dead) ∧ w = w' := by
  obtain ⟨sb, cv, hd, hf, hb⟩ := h
  exact dead_any w hd
theorem Own9.drewN {w0 w : World} {p : Nat} {D : Dv} (h : Own9 w0 p D w) (n : Nat) : Own9 w0 p D (w.drewN n) := by
  obtain ⟨sb, cv, hd, hf, hb⟩ := h
  exact ⟨sb, cv, hd.drewN n, hf, ⟨hb.os, hb.tape, hb.output, hb.size, hb.block⟩⟩
/-- a new block is none of the device's -/
theorem Own9.fresh_block {w0 w : World} {p : Nat} {D : Dv} (h : Own9 w0 p D w) (o : Obj) : Own9 w0 p D (w.alloc o) ∧ ∃ sb cv, DevAt (w.alloc o) p sb cv D ∧ (∀ k, foot p sb cv k → w0.heap.size ≤ k) ∧ Below w0.heap.size w0 (w.alloc o) ∧ ¬ foot p sb cv w.heap.size := by
  obtain ⟨sb, cv, hd, hf, hb⟩ := h
  have h1 : DevAt (w.alloc o) p sb cv D := hd.alloc o
  have h2 : Below w0.heap.size w0 (w.alloc o) := hb.alloc hb.size o
  exact ⟨⟨sb, cv, h1, hf, h2⟩, sb, cv, h1, hf, h2, fun hk => by have := hd.lt _ hk; omega⟩
end Go.Proofs.YtgoampbebjfenaaGreatDoor.Dev

/- Layer 7 (remap): Write, Stick, Kill, Alive, Replace, and what is refused, of a pair of devices without faults but bad sectors. -/
namespace Go.Proofs.YtgoampbebjfenaaGreatDoor.Rem
open Go Go.RowKit Go.Proofs.YtgoampbebjfenaaGreatDoor Dev Tab
set_option linter.unusedVariables false

section
variable {w0 w w' : World} {X : List Nat} {q c : Nat} {pd : Nat → Nat} {S : Nat → Sd} {s : Nat}
/-- a write of a block to a device -/
theorem dwr_c (h : CP w0 X q pd S c w) (hs : s < 2) {i : Nat} (hi4 : 4 ≤ i) (hi : i < 24) {t : ByteArray} (ht : t.size = 128) (hc : c ≤ 1000000) (v : Int) (hv : v = i) (p : Nat) (hp : p = pd s) :
    Calls Tryz.prog 12 #[.pointer (some ⟨p, 0, none⟩), .int .i64 v, .string t] w fun e w' => e = .returned (.int .i64 (if (S s).B i then 7 else 0)) ∧ CP w0 X q pd (setS S s (if (S s).B i then (S s).V else upd (S s).V i t) (S s).B) (if (S s).B i then c else c + 1) w' ∧ Same (q :: X) w w' := by
  subst hv
  obtain ⟨D, h1, h2⟩ := h.both
  refine (dwrite_e h1 hs (by have := (h2.cd s hs).cache; omega) i t (by omega) p hp).mono ?_
  rintro e w' ⟨rfl, hc', hsm⟩
  have hrd : ∀ V', (∀ j, j < 4 → V' j = (S s).V j) → Slots (setS S s V' (S s).B) := fun V' hV => by
    have hr : ∀ t, t < 2 → ∀ k, k < 2 → ∀ j, j < 2 → rdS (setS S s V' (S s).B) t k j = rdS S t k j := fun t ht k hk j hj => by
      unfold rdS
      by_cases e : (if k = 0 then t else 1 - t) = s
      · rw [e, setS_same]; exact hV _ (by omega)
      · rw [setS_ne _ _ _ e]
    refine ⟨fun t ht => by rw [setS_m]; exact h.slots.1 t ht, fun t ht j hj => ?_, fun t ht => ?_⟩
    · by_cases e : t = s
      · subst e; rw [setS_same]; exact h.slots.2.1 t ht j hj
      · rw [setS_ne _ _ _ e]; exact h.slots.2.1 t ht j hj
    · obtain ⟨r1, r2⟩ := h.slots.2.2 t ht
      refine ⟨fun k hk => ?_, fun k hk j hj m' h' => ?_⟩
      · rw [setS_m, hr t ht k hk _ (Nat.mod_lt _ (by omega))]; exact r1 k hk
      · rw [setS_m]; rw [hr t ht k hk j hj] at h'; exact r2 k hk j hj m' h'
  cases hb : (S s).B i with
  | false =>
    obtain ⟨r1, r2⟩ := (h2.cd s hs).write hi ht hb
    exact ⟨by rw [r1]; rfl, ⟨by simpa using hc'.set h2.cd r2 (Nat.le_succ c), hrd _ fun j hj => by simp; exact upd_ne _ _ (by omega)⟩, hsm⟩
  | true =>
    obtain ⟨r1, r2⟩ := (h2.cd s hs).write_bad hi ht hb
    exact ⟨by rw [r1]; rfl, ⟨by simpa using hc'.set h2.cd r2 (Nat.le_refl c), hrd _ fun j hj => by simp⟩, hsm⟩
/-- in the middle of Write -/
def Mid (S S1 : Nat → Sd) (s b : Nat) : Prop := S1 = S ∨ (Moved S S1 s b ∧ (S s).B (pl (S s) b) = true ∧ (S s).m.length < 6)
theorem pl_push' {x y : Sd} {b : Nat} (h : y.m = x.m ++ [(b : Int)]) : pl y b = 18 + x.m.length := by
  unfold pl; rw [h, plc_snoc, if_pos rfl]; omega
/-- a sector that is bad: nothing was moved yet -/
theorem Mid.start {S1 : Nat → Sd} {b : Nat} (h : Mid S S1 s b) (hf : Spare (S s)) (hb : (S1 s).B (pl (S1 s) b) = true) : S1 = S := by
  rcases h with h | ⟨h1, h2, h3⟩
  · exact h
  · rw [pl_push' h1.2.2.2, h1.2.1] at hb
    have := hf (S s).m.length (Nat.le_refl _) h3
    rw [this] at hb; cases hb
theorem Mid.done {S1 : Nat → Sd} {b : Nat} {d : ByteArray} (h : Mid S S1 s b) (hb : (S1 s).B (pl (S1 s) b) = false) : wrE (S s) b = 0 ∧ Wr S (setS S1 s (upd (S1 s).V (pl (S1 s) b) d) (S1 s).B) s b d := by
  have hpl : pl (setS S1 s (upd (S1 s).V (pl (S1 s) b) d) (S1 s).B s) b = pl (S1 s) b := by unfold pl; rw [setS_m]
  rcases h with rfl | ⟨h1, h2, h3⟩
  · refine ⟨by unfold wrE; rw [if_neg (by rw [hb]; simp)], fun t ht hne => ?_, by rw [setS_same], ?_, fun _ => ?_, fun i hi h => ?_⟩
    · rw [setS_ne _ _ _ hne]; exact ⟨rfl, rfl, fun _ _ => rfl⟩
    · rw [setS_m, if_neg (by rw [hb]; simp)]
    · rw [hpl, setS_same]; exact upd_same _ _ _
    · rw [hpl] at h
      rw [setS_same]
      rcases h with h | h
      · exact upd_ne _ _ h
      · exact absurd (by unfold wrE; rw [if_neg (by rw [hb]; simp)]) h
  · obtain ⟨m1, m2, m3, m4⟩ := h1
    refine ⟨by unfold wrE; rw [if_neg (by omega)], fun t ht hne => ?_, by rw [setS_same]; exact m2, ?_, fun _ => ?_, fun i hi h => ?_⟩
    · rw [setS_ne _ _ _ hne]; exact m1 t ht hne
    · rw [setS_m, if_pos ⟨h2, h3⟩]; exact m4
    · rw [hpl, setS_same]; exact upd_same _ _ _
    · rw [hpl] at h
      rw [setS_same]
      rcases h with h | h
      · show upd _ _ _ _ = _; rw [upd_ne _ _ h]; exact m3 i hi
      · exact absurd (by unfold wrE; rw [if_neg (by omega)]) h
theorem tl_cnt (l : List Int) : (tl 14 6 l)[2]? = some (.int .i64 l.length) := rfl
set_option maxHeartbeats 1000000 in
set_option maxRecDepth 100000 in
theorem write_c (h : CP w0 X q pd S c w) (hs : s < 2) {b : Nat} (hb : b < 14) {d : ByteArray} (hd : d.size = 128) (hc : c ≤ 900000) (hf : Spare (S s)) : Calls Tryz.prog 67 #[.pointer (some ⟨q, 0, none⟩), .int .i64 (s : Nat), .int .i64 (b : Nat), .string d] w fun e w' => ∃ S', e = .returned (.int .i64 (wrE (S s) b)) ∧ Wr S S' s b d ∧ CP w0 X q pd S' (c + 4) w' ∧ Same X w w' := by
  have HC0 := Lib.hid h
  have HF := Lib.hid hf
  have HS := Lib.hid hs
  have HBB := Lib.hid hb
  have HCC := Lib.hid hc
  have HDD := Lib.hid hd
  obtain ⟨p, hp⟩ : ∃ p, p = pd s := ⟨_, rfl⟩
  have HP := Lib.hid hp
  have hs0 : 0 ≤ (s : Int) := by omega
  have hs2 : (s : Int) < 2 := by omega
  clear h hf hc hp hb hs hd
  go_enter Tryz.func67, Tryz.ntmps67
  go_wp2_with fail
  go_loopw [11] (fun _ wr => ∃ S1, Mid S S1 s b ∧ CP w0 X q pd S1 c wr ∧ Same X w wr) (fun _ wr => 6 - (match wr.cell? ⟨q, 2 + 35 * s + 2, none⟩ with | some v => (intOf v).toNat | none => 0))
  case atStart => exact ⟨S, .inl rfl, HC0.out, Same.refl _ _⟩
  case round =>
    obtain ⟨S1, hmid, hcp, hsm⟩ := hrel
    clear HC0
    have HM := Lib.hid hmid
    have HC := Lib.hid hcp
    have HSM := Lib.hid hsm
    have hcnt := Lib.hid (hcp.pb.tab HS.out 2 _ (tl_cnt _))
    clear hmid hcp hsm
    have hg := HC.out.good HS.out
    have hat := at_yes (n := 14) (m := (S1 s).m) (b := (b : Int)) (by omega) (by have := HBB.out; omega)
    have HA := Lib.hid hat
    have hpb := pl_bd hg HBB.out
    have HPL := Lib.hid hpb
    obtain ⟨v, hv⟩ : ∃ v : Int, v = (pl (S1 s) b : Nat) := ⟨_, rfl⟩
    have HV := Lib.hid hv
    have hlen := hg.len
    have HLEN := Lib.hid hlen
    clear hg hat hpb hv hlen
    go_wp2_with fail
    refine (sector_e HC.out.pb HS.out (HC.out.good HS.out) b).mono ?_
    rintro e w1 ⟨rfl, hb1⟩
    rw [show atE 14 (b : Int) = 0 from HA.out.2.1, show 4 + atN 14 (mOf S1 s) (b : Int) = v from by rw [show atN 14 (mOf S1 s) (b : Int) = plc 14 (S1 s).m b from HA.out.2.2, HV.out]; exact HPL.out.2.2.symm]
    have HC1 := Lib.hid (HC.out.later hb1)
    have HS1 := Lib.hid (HSM.out.trans (Same.of_below HC.out hb1))
    have c1 := HC1.out.pb.dev HS.out
    rw [← HP.out] at c1
    clear hb1
    go_wp2_with fail
    clear c1
    refine (dwr_c HC1.out HS.out HPL.out.1 (by have := HPL.out.2.1; have := HLEN.out; omega) HDD.out (by have := HCC.out; omega) v HV.out p HP.out).mono ?_
    rintro e w2 ⟨rfl, hc2, hsm⟩
    cases hbad : (S1 s).B (pl (S1 s) b) with
    | false =>
      obtain ⟨d1, d2⟩ := HM.out.done (d := d) hbad
      rw [hbad] at hc2
      have HC2 := Lib.hid (show CP w0 X q pd (setS S1 s (upd (S1 s).V (pl (S1 s) b) d) (S1 s).B) (c + 1) w2 from hc2)
      have HD2 := Lib.hid d2
      have HE := Lib.hid d1
      have HS2 := Lib.hid (HS1.out.trans (fun j hj => hsm j (by simp [hj]) : Same X w1 w2))
      clear hc2 hsm hbad d1 d2 HC HC1
      go_wp2_with fail
      go_ret
      exact ⟨_, by rw [HE.out]; rfl, HD2.out, HC2.out.mono (by omega), HS2.out⟩
    | true =>
      obtain rfl := HM.out.start HF.out hbad
      rw [hbad] at hc2
      have hself : setS S1 s (if true = true then (S1 s).V else upd (S1 s).V (pl (S1 s) b) d) (S1 s).B = S1 := by rw [if_pos rfl]; exact setS_self S1 s
      rw [hself, if_pos rfl] at hc2
      have HC2 := Lib.hid hc2
      have HS2 := Lib.hid (HS1.out.trans (fun j hj => hsm j (by simp [hj]) : Same X w1 w2))
      have HBAD := Lib.hid hbad
      clear hc2 hsm hbad HC1
      go_wp2_with fail
      refine (move_c0 HC2.out HS.out HBB.out (by have := HCC.out; omega)).mono ?_
      rintro e w3 ⟨S3, rfl, m1, m2, hc3, hsm⟩
      have HS3 := Lib.hid (HS2.out.trans hsm)
      have HC3 := Lib.hid hc3
      by_cases hm : (S1 s).m.length < 6
      · rw [if_pos hm]
        have HMV := Lib.hid (m1 hm)
        have HLT := Lib.hid hm
        clear m1 m2 hc3 hsm hm HC HC2
        go_wp2_with fail
        go_roundw
        case rel => exact ⟨S3, .inr ⟨HMV.out, HBAD.out, HLT.out⟩, HC3.out, HS3.out⟩
        case measure =>
          have e1 := HC3.out.pb.tab HS.out 2 _ (tl_cnt _)
          have e0 := hcnt.out
          simp only [e0, e1, intOf, Int.toNat_natCast]
          have := HLT.out
          rw [show (mOf S3 s).length = (S1 s).m.length + 1 by show (S3 s).m.length = _; rw [HMV.out.2.2.2]; simp]
          rw [show (mOf S1 s).length = (S1 s).m.length from rfl]
          omega
      · rw [if_neg hm]
        have HEQ := Lib.hid (m2 hm)
        have HLT := Lib.hid hm
        clear m1 m2 hc3 hsm hm HC HC2
        go_wp2_with fail
        go_ret
        have hE : wrE (S1 s) b = 9 := by unfold wrE; rw [if_pos ⟨HBAD.out, by have := HLT.out; omega⟩]
        have h3 := HEQ.out
        subst h3
        refine ⟨S3, by rw [hE]; rfl, ⟨fun t ht hne => ⟨rfl, rfl, fun _ _ => rfl⟩, rfl, by rw [if_neg (fun h => HLT.out h.2)], (fun h => by rw [hE] at h; cases h), fun i _ _ => rfl⟩, HC3.out.mono (by omega), HS3.out⟩
/-! ### Stick -/
theorem dstick_e {m : Nat → List Int} {D : Nat → Dv} (h : CPe w0 X q pd m D w) (hs : s < 2) (hl : (D s).cache.length ≤ 1000000) (i : Int) : Calls Tryz.prog 11 #[.pointer (some ⟨pd s, 0, none⟩), .int .i64 i] w fun e w' => e = .returned (.tuple #[]) ∧ CPe w0 X q pd m (upd D s ((D s).stickD i)) w' ∧ Same (q :: X) w w' := by
  refine (h.dev (R := fun e => e = .returned (.tuple #[])) (G := fun E => E = (D s).stickD i) hs fun sb cv hd => (stick_any i w hd (by omega)).mono ?_).mono ?_
  · rintro e w' ⟨rfl, hn⟩
    exact ⟨rfl, _, rfl, hn⟩
  · rintro e w' ⟨rfl, E, rfl, hc, hsm⟩
    exact ⟨rfl, hc, hsm⟩
/-- a block's sector of a side is bad from now on -/
def Stk (S S' : Nat → Sd) (s i : Nat) : Prop := (∀ t, t ≠ s → S' t = S t) ∧ (S' s).m = (S s).m ∧ (S' s).B = upd (S s).B i true ∧ ∀ j, j ≠ i → (S' s).V j = (S s).V j
theorem stick_c (h : CP w0 X q pd S c w) (hs : s < 2) {i : Nat} (hi : 4 ≤ i) (hi2 : i < 24) (hc : c ≤ 1000000) (v : Int) (hv : v = i) : Calls Tryz.prog 11 #[.pointer (some ⟨pd s, 0, none⟩), .int .i64 v] w fun e w' => ∃ S', e = .returned (.tuple #[]) ∧ Stk S S' s i ∧ CP w0 X q pd S' c w' ∧ Same X w w' := by
  subst hv
  obtain ⟨D, h1, h2⟩ := h.both
  refine (dstick_e h1 hs (by have := (h2.cd s hs).cache; omega) i).mono ?_
  rintro e w' ⟨he, hc', hsm⟩
  have hcd := (h2.cd s hs).stick hi2
  obtain ⟨V', hVV⟩ : ∃ V', V' = upd (S s).V i (medG (D s) i) := ⟨_, rfl⟩
  rw [← hVV] at hcd
  have hV : ∀ j, j ≠ i → V' j = (S s).V j := fun j hj => by rw [hVV]; exact upd_ne _ _ hj
  have hrd : ∀ t, t < 2 → ∀ k, k < 2 → ∀ j, j < 2 → rdS (setS S s V' (upd (S s).B i true)) t k j = rdS S t k j := fun t ht k hk j hj => by
    unfold rdS
    by_cases e : (if k = 0 then t else 1 - t) = s
    · rw [e, setS_same]; exact hV _ (by omega)
    · rw [setS_ne _ _ _ e]
  refine ⟨setS S s V' (upd (S s).B i true), he, ⟨fun t ht => setS_ne _ _ _ ht, setS_m _ _ _ _ _, by rw [setS_same], fun j hj => by rw [setS_same]; exact hV j hj⟩, ⟨hc'.set h2.cd hcd (Nat.le_refl _), fun t ht => by rw [setS_m]; exact h.slots.1 t ht, fun t ht j hj => ?_, fun t ht => ?_⟩, fun k hk => hsm k (by simp [hk])⟩
  · by_cases e : t = s
    · subst e; rw [setS_same]; show upd _ _ _ _ = _; rw [upd_ne _ _ (by omega)]; exact h.slots.2.1 t ht j hj
    · rw [setS_ne _ _ _ e]; exact h.slots.2.1 t ht j hj
  · obtain ⟨r1, r2⟩ := h.slots.2.2 t ht
    refine ⟨fun k hk => ?_, fun k hk j hj m' h' => ?_⟩
    · rw [setS_m, hrd t ht k hk _ (Nat.mod_lt _ (by omega))]; exact r1 k hk
    · rw [setS_m]; rw [hrd t ht k hk j hj] at h'; exact r2 k hk j hj m' h'
/-! ### one device is gone -/
/-- the same, but side k's device is gone -/
def CPd (w0 : World) (X : List Nat) (q : Nat) (pd : Nat → Nat) (S : Nat → Sd) (k c : Nat) (w : World) : Prop :=
  ∃ D, CPe w0 X q pd (mOf S) D w ∧ (∀ s, s < 2 → s ≠ k → Cd (D s) 24 128 (S s).V (S s).B c) ∧ ((D k).dead = true ∧ (D k).n = 24 ∧ (D k).size = 128 ∧ (D k).cache.length ≤ c) ∧ Slots S
theorem CPd.later {k : Nat} (h : CPd w0 X q pd S k c w) (hb : Below w.heap.size w w') : CPd w0 X q pd S k c w' := by
  obtain ⟨D, h1, h2, h3, h4⟩ := h
  exact ⟨D, h1.later hb, h2, h3, h4⟩
theorem alive_c (h : CP w0 X q pd S c w) (hs : s < 2) : Calls Tryz.prog 44 #[.pointer (some ⟨q, 0, none⟩), .int .i64 (s : Nat)] w fun e w' => e = .returned (.bool true) ∧ Below w.heap.size w w' := by
  obtain ⟨D, h1, h2⟩ := h.both
  refine (alive_e h1 hs).mono ?_
  rintro e w' ⟨rfl, rfl⟩
  exact ⟨by rw [(h2.cd s hs).dead]; rfl, Below.refl _ _⟩
theorem alive_d (h : CPd w0 X q pd S s c w) (hs : s < 2) : Calls Tryz.prog 44 #[.pointer (some ⟨q, 0, none⟩), .int .i64 (s : Nat)] w fun e w' => e = .returned (.bool false) ∧ Below w.heap.size w w' := by
  obtain ⟨D, h1, h2, h3, h4⟩ := h
  refine (alive_e h1 hs).mono ?_
  rintro e w' ⟨rfl, rfl⟩
  exact ⟨by rw [h3.1]; rfl, Below.refl _ _⟩
/-! ### what is refused -/
theorem format_same_c (h : CP w0 X q pd S c w) : Calls Tryz.prog 21 #[.pointer (some ⟨pd 0, 0, none⟩), .pointer (some ⟨pd 0, 0, none⟩), .int .i64 6] w fun e w' => e = .returned (.tuple #[.pointer none, .int .i64 2]) ∧ Below w.heap.size w w' := by
  obtain ⟨D, h1, h2⟩ := h.both
  obtain ⟨sb, cv, hd, -, -⟩ := h1.some_
  exact format_same (hd 0 (by omega)) (by rw [(h2.cd 0 (by omega)).n]; rfl) (by rw [(h2.cd 0 (by omega)).size]; rfl)
theorem format_unlike_c {d sd : Nat} (h : CP w0 X q pd S c w) (hd : DevAt w d sd (.slice none 0 0) (Dv.fresh 21 128)) : Calls Tryz.prog 21 #[.pointer (some ⟨pd 0, 0, none⟩), .pointer (some ⟨d, 0, none⟩), .int .i64 6] w fun e w' => e = .returned (.tuple #[.pointer none, .int .i64 2]) ∧ Below w.heap.size w w' := by
  obtain ⟨D, h1, h2⟩ := h.both
  obtain ⟨sb, cv, hdv, -, -⟩ := h1.some_
  exact format_unlike (hdv 0 (by omega)) hd (by rw [(h2.cd 0 (by omega)).n]; rfl) (by rw [(h2.cd 0 (by omega)).size]; rfl) rfl rfl
theorem format_nil_c (v : Value) (w : World) (hv : ∃ a, v = .pointer a) : Calls Tryz.prog 21 #[.pointer none, v, .int .i64 6] w fun e w' => e = .returned (.tuple #[.pointer none, .int .i64 1]) ∧ Below w.heap.size w w' := by
  obtain ⟨a, rfl⟩ := hv
  refine (format_nil a w).mono ?_
  rintro e w' ⟨rfl, rfl⟩
  exact ⟨rfl, Below.refl _ _⟩
theorem n_read (s b : Int) (w : World) : Calls Tryz.prog 116 #[.pointer none, .int .i64 s, .int .i64 b] w fun e w' => e = .returned (.tuple #[.string ⟨#[]⟩, .int .i64 1]) ∧ Below w.heap.size w w' := read_nil s b w
theorem n_write (s b : Int) (t : ByteArray) (w : World) : Calls Tryz.prog 67 #[.pointer none, .int .i64 s, .int .i64 b, .string t] w fun e w' => e = .returned (.int .i64 1) ∧ Below w.heap.size w w' := write_nil s b t w
theorem refl_of {f : FuncId} {args : Array Value} {v : Value} (h : Calls Tryz.prog f args w fun e w' => e = .returned v ∧ w = w') : Calls Tryz.prog f args w fun e w' => e = .returned v ∧ Below w.heap.size w w' := h.mono fun e w' ⟨a, b⟩ => ⟨a, by rw [b]; exact Below.refl _ _⟩
theorem n_move (s b : Int) (w : World) : Calls Tryz.prog 94 #[.pointer none, .int .i64 s, .int .i64 b] w fun e w' => e = .returned (.int .i64 1) ∧ Below w.heap.size w w' := refl_of (move_nil s b w)
theorem n_flush (s : Int) (w : World) : Calls Tryz.prog 29 #[.pointer none, .int .i64 s] w fun e w' => e = .returned (.int .i64 1) ∧ Below w.heap.size w w' := refl_of (flush_nil s w)
theorem n_device (s : Int) (w : World) : Calls Tryz.prog 65 #[.pointer none, .int .i64 s] w fun e w' => e = .returned (.pointer none) ∧ Below w.heap.size w w' := refl_of (device_nil s w)
theorem n_alive (s : Int) (w : World) : Calls Tryz.prog 44 #[.pointer none, .int .i64 s] w fun e w' => e = .returned (.bool false) ∧ Below w.heap.size w w' := refl_of (alive_nil s w)
theorem n_table (s : Int) (w : World) : Calls Tryz.prog 18 #[.pointer none, .int .i64 s] w fun e w' => e = .returned (.agg (ta 0 0 [])) ∧ Below w.heap.size w w' := table_nil s w
def wantE (s b : Int) : Int := if s < 0 ∨ 1 < s then 2 else if b < 0 ∨ 14 ≤ b then 3 else 0
theorem sector_w (s b : Int) (h : CP w0 X q pd S c w) (hw : wantE s b ≠ 0) : Calls Tryz.prog 93 #[.pointer (some ⟨q, 0, none⟩), .int .i64 s, .int .i64 b] w fun e w' => (∃ x, e = .returned (.tuple #[.int .i64 x, .int .i64 (wantE s b)])) ∧ Below w.heap.size w w' := by
  by_cases hs : s < 0 ∨ 1 < s
  · have hb : sideB s = false := by unfold sideB; simp; omega
    refine (sector_side s b w hb).mono ?_
    rintro e w' ⟨rfl, hb⟩
    exact ⟨⟨0, by unfold wantE; rw [if_pos hs]⟩, hb⟩
  · obtain ⟨n, rfl⟩ : ∃ n : Nat, s = n := ⟨s.toNat, by omega⟩
    have hn : n < 2 := by omega
    by_cases hbb : b < 0 ∨ 14 ≤ b
    · refine (sector_e h.pb hn (h.good hn) b).mono ?_
      rintro e w' ⟨rfl, hb⟩
      exact ⟨⟨_, by rw [(at_no (m := []) hbb).2.1]; unfold wantE; rw [if_neg hs, if_pos hbb]⟩, hb⟩
    · exact absurd (by unfold wantE; rw [if_neg hs, if_neg hbb]) hw
theorem read_w (s b : Int) (h : CP w0 X q pd S c w) (hw : wantE s b ≠ 0) : Calls Tryz.prog 116 #[.pointer (some ⟨q, 0, none⟩), .int .i64 s, .int .i64 b] w fun e w' => e = .returned (.tuple #[.string ⟨#[]⟩, .int .i64 (wantE s b)]) ∧ Below w.heap.size w w' := by
  obtain ⟨D, h1, h2⟩ := h.both
  exact read_no h1 s b _ hw (sector_w s b h hw)
theorem write_w (s b : Int) (t : ByteArray) (h : CP w0 X q pd S c w) (hw : wantE s b ≠ 0) : Calls Tryz.prog 67 #[.pointer (some ⟨q, 0, none⟩), .int .i64 s, .int .i64 b, .string t] w fun e w' => e = .returned (.int .i64 (wantE s b)) ∧ Below w.heap.size w w' := by
  obtain ⟨D, h1, h2⟩ := h.both
  exact write_no h1 s b t _ hw (sector_w s b h hw)
theorem device_w (s : Int) (h : CP w0 X q pd S c w) (hs : s < 0 ∨ 1 < s) : Calls Tryz.prog 65 #[.pointer (some ⟨q, 0, none⟩), .int .i64 s] w fun e w' => e = .returned (.pointer none) ∧ Below w.heap.size w w' := refl_of (device_no q s w hs)
theorem alive_w (s : Int) (h : CP w0 X q pd S c w) (hs : s < 0 ∨ 1 < s) : Calls Tryz.prog 44 #[.pointer (some ⟨q, 0, none⟩), .int .i64 s] w fun e w' => e = .returned (.bool false) ∧ Below w.heap.size w w' := refl_of (alive_no q s w hs)
end
end Go.Proofs.YtgoampbebjfenaaGreatDoor.Rem

/- Rows of bytes that the call made: how they read, how they are stored into, how they become a text, and how a text becomes one. -/
namespace Go.Proofs.YtgoampbebjfenaaGreatDoor
open Go.RowKit
set_option linter.unusedVariables false

def strOf (l : List UInt8) : ByteArray := ⟨l.toArray⟩
theorem strOf_data (l : List UInt8) : (strOf l).data.toList = l := rfl
theorem strOf_self (s : ByteArray) : strOf s.data.toList = s := by cases s; rfl
theorem strOf_size (l : List UInt8) : (strOf l).size = l.length := rfl
theorem foldl_push (l : List Int) : ∀ s : ByteArray, l.foldl (fun r n => r.push (UInt8.ofNat n.toNat)) s = ⟨s.data ++ (l.map fun n => UInt8.ofNat n.toNat).toArray⟩ := by
  induction l with
  | nil => intro s; simp
  | cons x l ih => intro s; rw [List.foldl_cons, ih]; simp [ByteArray.push]
def u8V (b : UInt8) : Value := .int .u8 b.toNat

/-- Block g holds, from its beginning on, the bytes xs, and may be written there. -/
structure BRow (w : World) (g : Nat) (xs : List UInt8) : Prop where
  at_ : ∀ j, j < xs.length → w.cell? ⟨g, j, none⟩ = some (.int .u8 (xs.getD j 0).toNat)
  froz : ∀ j, j < xs.length → w.frozen? ⟨g, j, none⟩ = false
theorem BRow.below {w w' : World} {g B : Nat} {xs : List UInt8} (h : BRow w g xs) (hb : Below B w w') (hB : g < B) : BRow w' g xs :=
  ⟨fun j hj => by rw [hb.cell hB]; exact h.at_ j hj, fun j hj => by rw [hb.frozen hB]; exact h.froz j hj⟩
theorem BRow.drewN {w : World} {g : Nat} {xs : List UInt8} (h : BRow w g xs) (n : Nat) : BRow (w.drewN n) g xs := ⟨h.at_, h.froz⟩
theorem BRow.own {w : World} {B : Nat} {g n cap : Nat} {xs : List UInt8} (h : w.ownsRow B 5 1 (.slice (some ⟨g, 0, none⟩) n cap) n (xs.map u8V)) : BRow w g xs := by
  have hl : xs.length = n := by have := h.1; simpa using this
  refine ⟨fun j hj => ?_, fun j hj => h.frozenAt j⟩
  rw [h.cellAt j (by omega), List.getElem?_map, List.getElem?_eq_getElem hj, List.getD_eq_getElem?_getD, List.getElem?_eq_getElem hj]; rfl
theorem BRow.set {w : World} {g : Nat} {xs : List UInt8} (h : BRow w g xs) (j : Nat) (hj : j < xs.length) (b : UInt8) : BRow (w.setCell ⟨g, j, none⟩ (.int .u8 b.toNat)) g (xs.set j b) := by
  refine ⟨fun k hk => ?_, fun k hk => ?_⟩
  · rw [List.length_set] at hk
    by_cases e : j = k
    · subst e
      rw [World.cell?_setCell_same w _ _ (h.at_ j hj), List.getD_eq_getElem?_getD, List.getElem?_set_self hj]; rfl
    · rw [World.cell?_setCell_other w _ _ _ (by intro h'; simp only [Addr.mk.injEq] at h'; exact e h'.2.1), h.at_ k hk]
      rw [List.getD_eq_getElem?_getD, List.getD_eq_getElem?_getD, List.getElem?_set_ne e]
  · rw [List.length_set] at hk
    rw [World.frozen?_setCell]
    exact h.froz k hk
/-- 'string(b)'. -/
theorem run_string_brow (w : World) (g cap n : Nat) (xs : List UInt8) (h : BRow w g xs) (hn : n = xs.length) :
    (convert 107 9 (.slice (some ⟨g, 0, none⟩) n cap)).run Tryz.prog w = .ok (.string (strOf xs)) w := by
  subst hn
  rw [run_convert_bytes_string w _ _ _ _ _ _ Tryz.underlying107 Tryz.underlying5 Tryz.underlying9]
  have hc := run_loadCells_list (P := Tryz.prog) (w := w) ⟨g, 0, none⟩ (xs.map u8V) (by
    intro j u hu
    have hj : j < xs.length := by have := (List.getElem?_eq_some_iff.1 hu).1; simpa using this
    rw [Addr.add_lit, Nat.zero_add, h.at_ j hj]
    rw [List.getElem?_map, List.getElem?_eq_getElem hj] at hu
    rw [List.getD_eq_getElem?_getD, List.getElem?_eq_getElem hj]
    exact hu)
  rw [List.length_map] at hc
  have e : xs.map u8V = (xs.map fun b => (b.toNat : Int)).map (Value.int .u8) := by simp [u8V]
  rw [e] at hc
  rw [run_bytesToString w _ _ _ _ hc, foldl_push]
  have ef : ((fun n : Int => UInt8.ofNat n.toNat) ∘ fun b : UInt8 => (b.toNat : Int)) = id := by funext b; simp
  simp [strOf, ByteArray.empty, ByteArray.emptyWithCapacity, ef]
  rfl
theorem BRow.one (w : World) (b : UInt8) (e : TypeId) : BRow (w.alloc (.cells #[.int .u8 b.toNat] e)) w.heap.size [b] := by
  refine ⟨fun j hj => ?_, fun j hj => ?_⟩
  · match j, hj with
    | 0, _ => simp
  · simp
/-- '[]byte(s)'. -/
theorem run_bytes_brow (w : World) (s : ByteArray) :
    (convert 9 107 (.string s)).run Tryz.prog w = .ok (.slice (some ⟨w.heap.size, 0, none⟩) s.size (grownCap w s.size 0 5)) (Lib.bytesWorld w 5 s) :=
  Lib.run_convert_string_bytes w _ _ _ s Tryz.underlying9 Tryz.underlying107 Tryz.underlying5
theorem below_bytesWorld (w : World) (e : TypeId) (s : ByteArray) : Below w.heap.size w (Lib.bytesWorld w e s) :=
  ⟨rfl, rfl, rfl, by rw [Lib.bytesWorld_size]; omega, fun k hk => Lib.bytesWorld_at_old w e s k hk⟩
theorem brow_bytesWorld (w : World) (s : ByteArray) (e : TypeId) : BRow (Lib.bytesWorld w e s) w.heap.size s.data.toList := by
  refine ⟨fun j hj => Lib.bytesWorld_cell w e s j (by simpa using hj), fun j hj => ?_⟩
  have hj' : j < s.size := by simpa using hj
  have h : j < (Lib.bytesCells w e s).size := by simp [Lib.bytesCells]; omega
  simp only [World.frozen?, Lib.bytesWorld_at_new]
  simp
  omega
theorem info_u8 : (Tryz.prog.info? 5).map (fun i => (i.zero, i.size, i.bytes)) = some (some (.int .u8 0), 1, 1) := by kernel_rfl
end Go.Proofs.YtgoampbebjfenaaGreatDoor

/- Layer 3: a garbled byte, as plain data and in memory. -/
namespace Go.Proofs.YtgoampbebjfenaaGreatDoor.Dev
open Go Go.RowKit Go.Proofs.YtgoampbebjfenaaGreatDoor
set_option linter.unusedVariables false

def turnB (s : ByteArray) (j : Nat) (b : UInt8) : ByteArray := strOf (s.data.toList.set j (s.data.toList.getD j 0 ^^^ b))
theorem turnB_size (s : ByteArray) (j : Nat) (b : UInt8) : (turnB s j b).size = s.size := by
  unfold turnB; rw [strOf_size, List.length_set]; simp
def gF (i a : Nat) (b : UInt8) (x : Nat × ByteArray) : Nat × ByteArray := if x.1 = i then (x.1, turnB x.2 a b) else x
def Dv.turnM (D : Dv) (i a : Nat) (b : UInt8) : Dv := match D.secs[i]? with | some s => { D with secs := D.secs.set i (turnB s.1 a b, s.2) } | none => D
def Dv.turnC (D : Dv) (i a : Nat) (b : UInt8) (k : Nat) : Dv := { D with cache := (D.cache.take k).map (gF i a b) ++ D.cache.drop k }
def Dv.garbleD (D : Dv) (i at' : Int) (b : UInt8) : Dv := if hasB D i = false ∨ at' < 0 then D else (D.turnM i.toNat (at'.toNat % D.size) b).turnC i.toNat (at'.toNat % D.size) b D.cache.length
theorem Dv.turnM_eq (D : Dv) (i a : Nat) (b : UInt8) (hi : i < D.n) : D.turnM i a b = { D with secs := D.secs.set i (turnB (D.secs[i]'hi).1 a b, (D.secs[i]'hi).2) } := by
  unfold Dv.turnM; rw [List.getElem?_eq_getElem hi]
theorem Dv.turnM_ok (D : Dv) (i a : Nat) (b : UInt8) (hi : i < D.n) (ok : D.Ok) : (D.turnM i a b).Ok := by
  rw [D.turnM_eq i a b hi]
  have hn : (D.secs.set i (turnB (D.secs[i]'hi).1 a b, (D.secs[i]'hi).2)).length = D.n := by rw [List.length_set]; rfl
  have hm := ok.media _ (List.getElem_mem hi)
  refine ⟨?_, ?_, ok.s128, ok.s1024, ?_, ok.text, ?_, ok.fuse, ok.lose, ok.stray⟩
  · show 8 ≤ List.length _; rw [hn]; exact ok.n8
  · show List.length _ ≤ 4096; rw [hn]; exact ok.n4096
  · intro x hx
    rcases List.mem_or_eq_of_mem_set hx with hx | hx
    · exact ok.media x hx
    · subst hx; simp only; rw [turnB_size, hm]
  · intro x hx; show x.1 < List.length _; rw [hn]; exact ok.sector x hx
theorem Dv.turnC_zero (D : Dv) (i a : Nat) (b : UInt8) : D.turnC i a b 0 = D := by unfold Dv.turnC; rw [List.take_zero, List.drop_zero]; rfl
theorem Dv.turnC_len (D : Dv) (i a : Nat) (b : UInt8) (k : Nat) (hk : k ≤ D.cache.length) : (D.turnC i a b k).cache.length = D.cache.length := by
  show ((D.cache.take k).map (gF i a b) ++ D.cache.drop k).length = _
  rw [List.length_append, List.length_map, List.length_take, List.length_drop]; omega
theorem Dv.turnC_get (D : Dv) (i a : Nat) (b : UInt8) (k : Nat) (hk : k ≤ D.cache.length) : (D.turnC i a b k).cache[k]? = D.cache[k]? := by
  show ((D.cache.take k).map (gF i a b) ++ D.cache.drop k)[k]? = _
  rw [List.getElem?_append_right (by rw [List.length_map, List.length_take]; omega), List.length_map, List.length_take, List.getElem?_drop, show k + (k - min k D.cache.length) = k by omega]
theorem Dv.turnC_next (D : Dv) (i a : Nat) (b : UInt8) (k : Nat) (x : Nat × ByteArray) (hx : D.cache[k]? = some x) : D.turnC i a b (k + 1) = { D.turnC i a b k with cache := (D.turnC i a b k).cache.set k (gF i a b x) } := by
  have hk : k < D.cache.length := by
    rcases Nat.lt_or_ge k D.cache.length with h | h
    · exact h
    · rw [List.getElem?_eq_none h] at hx; cases hx
  have hxe : D.cache[k] = x := by rw [List.getElem?_eq_getElem hk] at hx; exact Option.some.inj hx
  unfold Dv.turnC
  simp only
  rw [List.set_append_right _ _ (by rw [List.length_map, List.length_take]; omega), List.length_map, List.length_take, show k - min k D.cache.length = 0 by omega, take_snoc' _ _ hk, List.map_append, hxe, List.append_assoc, List.drop_eq_getElem_cons hk]
  rfl
theorem Dv.turnC_same (D : Dv) (i a : Nat) (b : UInt8) (k : Nat) (x : Nat × ByteArray) (hx : D.cache[k]? = some x) (hi : ¬ x.1 = i) : D.turnC i a b (k + 1) = D.turnC i a b k := by
  have hk : k < D.cache.length := by
    rcases Nat.lt_or_ge k D.cache.length with h | h
    · exact h
    · rw [List.getElem?_eq_none h] at hx; cases hx
  rw [D.turnC_next i a b k x hx]
  have e : (D.turnC i a b k).cache.set k (gF i a b x) = (D.turnC i a b k).cache := by
    apply List.ext_getElem?
    intro j
    by_cases e : k = j
    · subst e
      rw [List.getElem?_set_self (by rw [D.turnC_len i a b k (by omega)]; exact hk), D.turnC_get i a b k (by omega), hx]
      unfold gF; rw [if_neg hi]
    · rw [List.getElem?_set_ne e]
  rw [e]
theorem Dv.retext_ok (D : Dv) (k : Nat) (x : Nat × ByteArray) (hx : D.cache[k]? = some x) (t : ByteArray) (ht : t.size = D.size) (ok : D.Ok) : ({ D with cache := D.cache.set k (x.1, t) } : Dv).Ok := by
  refine ⟨ok.n8, ok.n4096, ok.s128, ok.s1024, ok.media, ?_, ?_, ok.fuse, ok.lose, ok.stray⟩
  · intro y hy
    rcases List.mem_or_eq_of_mem_set hy with hy | hy
    · exact ok.text y hy
    · subst hy; exact ht
  · intro y hy
    rcases List.mem_or_eq_of_mem_set hy with hy | hy
    · exact ok.sector y hy
    · subst hy; exact ok.sector x (List.mem_of_getElem? hx)
theorem flatW_retext (l : List (Nat × ByteArray)) (k : Nat) (x : Nat × ByteArray) (hx : l[k]? = some x) (t : ByteArray) : (flatW l).set (k * 2 + 1) (.string t) = flatW (l.set k (x.1, t)) := by
  have hk : k < l.length := by
    rcases Nat.lt_or_ge k l.length with h | h
    · exact h
    · rw [List.getElem?_eq_none h] at hx; cases hx
  unfold flatW
  apply flat2_ext
  · rw [List.length_set, List.length_set, flat2_len]
  · intro j hj
    rw [List.length_set] at hj
    rw [List.getElem?_set_ne (by omega), flat2_get0]
    by_cases e : k = j
    · subst e; rw [List.getElem?_set_self hk, hx]; rfl
    · rw [List.getElem?_set_ne e]
  · intro j hj
    rw [List.length_set] at hj
    by_cases e : k = j
    · subst e; rw [List.getElem?_set_self (by rw [flat2_len]; omega), List.getElem?_set_self hk]; rfl
    · rw [List.getElem?_set_ne (by omega), List.getElem?_set_ne e, flat2_get1]
section
variable {w : World} {p sb g cap n : Nat} {D : Dv}
theorem DevAt.retext (h : DevAt w p sb (.slice (some ⟨g, 0, none⟩) n cap) D) (hn : n = D.cache.length) (k : Nat) (x : Nat × ByteArray) (hx : D.cache[k]? = some x) (t : ByteArray) (ht : t.size = D.size) :
    DevAt (w.setCell ⟨g, k * 2 + 1, none⟩ (.string t)) p sb (.slice (some ⟨g, 0, none⟩) n cap) { D with cache := D.cache.set k (x.1, t) } := by
  have hlen : (D.cache.set k (x.1, t)).length = D.cache.length := List.length_set
  have hc := h.cache
  rw [← hn] at hc
  have hst := (hc.stored (k * 2 + 1) (.string t)).1
  rw [flatW_retext _ k x hx] at hst
  refine ⟨h.main.setOther (a := ⟨g, k * 2 + 1, none⟩) (fun e => h.cp (congrArg some e)) _, h.secs.setOther (a := ⟨g, k * 2 + 1, none⟩) (fun e => h.cs (congrArg some e)) _, ?_, h.ps, h.cp, h.cs, D.retext_ok k x hx t ht h.ok⟩
  show World.ownsRow _ _ _ _ _ (List.length _) _
  rw [hlen, ← hn]; exact hst
theorem DevAt.ctfz (h : DevAt w p sb (.slice (some ⟨g, 0, none⟩) n cap) D) (hn : n = D.cache.length) (k : Nat) : w.frozen? ⟨g, k, none⟩ = false := by
  have hc := h.cache
  rw [← hn] at hc
  exact hc.frozenAt k
end
end Go.Proofs.YtgoampbebjfenaaGreatDoor.Dev

/- Layer 7 (remap), as layer 8 asks of it: garbled bytes, and sides that are gone. -/
namespace Go.Proofs.YtgoampbebjfenaaGreatDoor.Rem
open Go Go.RowKit Go.Proofs.YtgoampbebjfenaaGreatDoor Dev Tab
set_option linter.unusedVariables false

/-! ### one byte is another one -/
theorem medG_turn (D : Dv) (i a : Nat) (b : UInt8) (j : Nat) (hi : i < D.n) : medG (D.turnM i a b) j = if j = i then turnB (medG D i) a b else medG D j := by
  rw [D.turnM_eq i a b hi]
  unfold medG
  by_cases e : j = i
  · subst e
    rw [if_pos rfl]
    simp only [List.getElem?_set_self hi, List.getElem?_eq_getElem hi, Option.map_some, Option.getD_some]
  · rw [if_neg e]
    simp only [List.getElem?_set_ne (fun h => e h.symm)]
theorem find_gF (l : List (Nat × ByteArray)) (i a : Nat) (b : UInt8) (j : Nat) : ((l.map (gF i a b)).find? fun x => x.1 == j) = (l.find? fun x => x.1 == j).map (gF i a b) := by
  rw [List.find?_map]
  congr 1
  congr 1
  funext x
  show ((gF i a b x).1 == j) = _
  unfold gF; split <;> rfl
theorem reads_garble (D : Dv) (i a : Nat) (b : UInt8) (j : Nat) (hi : i < D.n) (hh : hasB D (i : Nat) = true) : (D.garbleD (i : Nat) (a : Nat) b).reads j = if j = i then turnB (D.reads i) (a % D.size) b else D.reads j := by
  have e : D.garbleD (i : Nat) (a : Nat) b = (D.turnM i (a % D.size) b).turnC i (a % D.size) b D.cache.length := by
    unfold Dv.garbleD; rw [if_neg (by rintro (h | h); · { rw [hh] at h; cases h }; · omega), Int.toNat_natCast, Int.toNat_natCast]
  rw [e, reads_med]
  have hc : ((D.turnM i (a % D.size) b).turnC i (a % D.size) b D.cache.length).cache = D.cache.map (gF i (a % D.size) b) := by
    rw [D.turnM_eq i _ b hi]
    show (D.cache.take D.cache.length).map _ ++ D.cache.drop D.cache.length = _
    rw [List.take_length, List.drop_length, List.append_nil]
  have hm : medG ((D.turnM i (a % D.size) b).turnC i (a % D.size) b D.cache.length) j = medG (D.turnM i (a % D.size) b) j := rfl
  rw [hc, hm, medG_turn D i _ b j hi, ← List.map_reverse, find_gF, reads_med D j]
  by_cases ej : j = i
  · subst ej
    rw [if_pos rfl, if_pos rfl, reads_med D j]
    cases hf : D.cache.reverse.find? fun x => x.1 == j with
    | none => rfl
    | some x =>
      have := List.find?_some hf
      have hx : x.1 = j := by simpa using this
      show (gF j _ b x).2 = turnB x.2 _ b
      unfold gF; rw [if_pos hx]
  · rw [if_neg ej, if_neg ej]
    cases hf : D.cache.reverse.find? fun x => x.1 == j with
    | none => rfl
    | some x =>
      have := List.find?_some hf
      have hx : x.1 = j := by simpa using this
      show (gF i _ b x).2 = x.2
      unfold gF; rw [if_neg (by omega)]
section
variable {D : Dv} {N Z c : Nat} {V : Nat → ByteArray} {B : Nat → Bool}
theorem Cd.garble (h : Cd D N Z V B c) {i : Nat} (hi : i < N) (a : Nat) (b : UInt8) : Cd (D.garbleD (i : Nat) (a : Nat) b) N Z (upd V i (turnB (V i) (a % Z) b)) B c := by
  have hk : i < D.n := by rw [h.n]; exact hi
  have e : D.garbleD (i : Nat) (a : Nat) b = (D.turnM i (a % D.size) b).turnC i (a % D.size) b D.cache.length := by
    unfold Dv.garbleD; rw [if_neg (by rintro (hx | hx); · { rw [h.has hi] at hx; cases hx }; · omega), Int.toNat_natCast, Int.toNat_natCast]
  have hvis := reads_garble D i a b
  rw [e] at hvis ⊢
  rw [D.turnM_eq i _ b hk] at hvis ⊢
  refine ⟨h.dead, h.off, h.fuse, h.lose, h.stray, ?_, h.size, fun j hj => ?_, fun j hj => ?_, ?_⟩
  · show (D.secs.set i _).length = N; rw [List.length_set]; exact h.n
  · rw [hvis j hk (h.has hi)]
    by_cases ej : j = i
    · subst ej; rw [if_pos rfl, upd_same, h.vis j hj, h.size]
    · rw [if_neg ej, upd_ne _ _ ej, h.vis j hj]
  · rw [← h.bad j hj]
    show ((((D.secs.set i _))[(j : Int).toNat]?).map (·.2)).getD false = ((D.secs[(j : Int).toNat]?).map (·.2)).getD false
    rw [Int.toNat_natCast]
    by_cases ej : j = i
    · subst ej; rw [List.getElem?_set_self hk, List.getElem?_eq_getElem hk]; rfl
    · rw [List.getElem?_set_ne (fun hx => ej hx.symm)]
  · show ((D.cache.take D.cache.length).map _ ++ D.cache.drop D.cache.length).length ≤ c
    rw [List.take_length, List.drop_length, List.append_nil, List.length_map]; exact h.cache
end
/-! ### a write that needs no spare, whatever the devices are -/
section
variable {w0 w w' : World} {X : List Nat} {q c : Nat} {pd : Nat → Nat} {m : Nat → List Int} {D : Nat → Dv} {s : Nat}
set_option maxRecDepth 100000 in
theorem write1_e (h : CPe w0 X q pd m D w) (hs : s < 2) (hg : Tab.Good 14 6 (m s)) (hl : (D s).cache.length ≤ 1000000) {b : Nat} (hb : b < 14) {t : ByteArray} (ht : t.size ≤ 1000000) (hE : (D s).writeE (sec m s b) t ≠ 7) :
    Calls Tryz.prog 67 #[.pointer (some ⟨q, 0, none⟩), .int .i64 (s : Nat), .int .i64 (b : Nat), .string t] w fun e w' => e = .returned (.int .i64 ((D s).writeE (sec m s b) t)) ∧ CPe w0 X q pd m (upd D s ((D s).writeD (sec m s b) t)) w' ∧ Same (q :: X) w w' := by
  have HC := Lib.hid h
  have HG := Lib.hid hg
  have HL := Lib.hid hl
  have HT := Lib.hid ht
  obtain ⟨p, hp⟩ : ∃ p, p = pd s := ⟨_, rfl⟩
  have HP := Lib.hid hp
  have hat := at_yes (n := 14) (m := m s) (b := (b : Int)) (by omega) (by omega)
  have HA := Lib.hid hat
  obtain ⟨v, hv⟩ : ∃ v, v = sec m s b := ⟨_, rfl⟩
  have HV := Lib.hid hv
  rw [← hv] at hE ⊢
  obtain ⟨e0, he⟩ : ∃ e, e = (D s).writeE v t := ⟨_, rfl⟩
  have HE := Lib.hid he
  rw [← he] at hE ⊢
  have hs0 : 0 ≤ (s : Int) := by omega
  have hs2 : (s : Int) < 2 := by omega
  clear h hg hl hat hv hp ht he
  go_enter Tryz.func67, Tryz.ntmps67
  go_wp2_with fail
  go_loopw [11] (fun _ wr => wr = w) (fun _ _ => 0)
  case atStart => rfl
  case round =>
    subst hrel
    go_wp2_with fail
    refine (sector_e HC.out.pb hs HG.out b).mono ?_
    rintro e w1 ⟨rfl, hb1⟩
    rw [HA.out.2.1, HA.out.2.2, show 4 + plc 14 (m s) (b : Int) = v from HV.out.symm]
    have HC1 := Lib.hid (HC.out.later hb1)
    have HS1 := Lib.hid (same_below HC.out hb1)
    have c1 := HC1.out.pb.dev hs
    rw [← HP.out] at c1
    clear hb1 HC
    go_wp2_with fail
    clear c1
    refine (dwrite_e HC1.out hs HL.out v t HT.out p HP.out).mono ?_
    rintro e w2 ⟨rfl, hc, hsm⟩
    rw [← HE.out]
    have HC2 := Lib.hid hc
    have HS2 := Lib.hid (HS1.out.trans hsm)
    clear hc hsm
    go_wp2
    go_ret
    exact ⟨rfl, HC2.out, HS2.out⟩
end
/-! ### a pair, of which sides may be gone -/
/-- a side: gone, or without faults but bad sectors -/
def SideG (D : Dv) (x : Sd) (g : Bool) (c : Nat) : Prop := if g = true then D.dead = true ∧ D.off = false ∧ D.n = 24 ∧ D.size = 128 ∧ D.cache.length ≤ c else Cd D 24 128 x.V x.B c
theorem SideG.mono {D : Dv} {x : Sd} {g : Bool} {c d : Nat} (h : SideG D x g c) (hd : c ≤ d) : SideG D x g d := by
  unfold SideG at h ⊢
  cases g
  · exact Cd.mono h hd
  · exact ⟨h.1, h.2.1, h.2.2.1, h.2.2.2.1, Nat.le_trans h.2.2.2.2 hd⟩
theorem SideG.cache {D : Dv} {x : Sd} {g : Bool} {c : Nat} (h : SideG D x g c) : D.cache.length ≤ c := by
  unfold SideG at h
  cases g
  · exact Cd.cache h
  · exact h.2.2.2.2
theorem SideG.size {D : Dv} {x : Sd} {g : Bool} {c : Nat} (h : SideG D x g c) : D.size = 128 := by
  unfold SideG at h
  cases g
  · exact Cd.size h
  · exact h.2.2.2.1
theorem SideG.refuse {D : Dv} {x : Sd} {c : Nat} (h : SideG D x true c) : refuse D = 8 := by
  have h : D.dead = true ∧ D.off = false ∧ _ := h
  unfold Dev.refuse; rw [h.2.1, h.1]; rfl
theorem SideG.dead {D : Dv} {x : Sd} {g : Bool} {c : Nat} (h : SideG D x g c) : D.dead = g := by
  unfold SideG at h
  cases g
  · exact Cd.dead h
  · exact h.1
theorem SideG.n {D : Dv} {x : Sd} {g : Bool} {c : Nat} (h : SideG D x g c) : D.n = 24 := by
  unfold SideG at h
  cases g
  · exact Cd.n h
  · exact h.2.2.1
theorem Slots.setS {S : Nat → Sd} {s : Nat} (h : Slots S) {V : Nat → ByteArray} {B : Nat → Bool} (hV : ∀ j, j < 4 → V j = (S s).V j) (hB : ∀ j, j < 4 → B j = false) : Slots (setS S s V B) := by
  have hr : ∀ t, t < 2 → ∀ k, k < 2 → ∀ j, j < 2 → rdS (Rem.setS S s V B) t k j = rdS S t k j := fun t ht k hk j hj => by
    unfold rdS
    by_cases e : (if k = 0 then t else 1 - t) = s
    · rw [e, setS_same]; exact hV _ (by omega)
    · rw [setS_ne _ _ _ e]
  refine ⟨fun t ht => by rw [setS_m]; exact h.1 t ht, fun t ht j hj => ?_, fun t ht => ?_⟩
  · by_cases e : t = s
    · subst e; rw [setS_same]; exact hB j hj
    · rw [setS_ne _ _ _ e]; exact h.2.1 t ht j hj
  · obtain ⟨r1, r2⟩ := h.2.2 t ht
    refine ⟨fun k hk => ?_, fun k hk j hj m' h' => ?_⟩
    · rw [setS_m, hr t ht k hk _ (Nat.mod_lt _ (by omega))]; exact r1 k hk
    · rw [setS_m]; rw [hr t ht k hk j hj] at h'; exact r2 k hk j hj m' h'
/-- the pair at q, of which the sides that G tells are gone; else as CP -/
structure CG (w0 : World) (X : List Nat) (q : Nat) (pd : Nat → Nat) (S : Nat → Sd) (G : Nat → Bool) (c : Nat) (w : World) : Prop where
  raw : ∃ D, CPe w0 X q pd (mOf S) D w ∧ ∀ s, s < 2 → SideG (D s) (S s) (G s) c
  slots : Slots S
section
variable {w0 w w' : World} {X Y : List Nat} {q c : Nat} {pd : Nat → Nat} {S : Nat → Sd} {G : Nat → Bool} {s : Nat}
theorem CP.cg (h : CP w0 X q pd S c w) : CG w0 X q pd S (fun _ => false) c w := by
  obtain ⟨⟨D, h1, h2⟩, h3⟩ := h; exact ⟨⟨D, h1, h2⟩, h3⟩
theorem CG.cp (h : CG w0 X q pd S G c w) (h0 : G 0 = false) (h1 : G 1 = false) : CP w0 X q pd S c w := by
  obtain ⟨⟨D, e1, e2⟩, e3⟩ := h
  refine ⟨⟨D, e1, fun s hs => ?_⟩, e3⟩
  have := e2 s hs
  rcases (show s = 0 ∨ s = 1 by omega) with rfl | rfl
  · rw [h0] at this; exact this
  · rw [h1] at this; exact this
theorem CG.x (h : CG w0 X q pd S G c w) : ∀ k ∈ X, w0.heap.size ≤ k ∧ k < w.heap.size := by obtain ⟨D, h1, h2⟩ := h.raw; exact h1.x
theorem CG.below (h : CG w0 X q pd S G c w) : Below w0.heap.size w0 w := by obtain ⟨D, h1, h2⟩ := h.raw; exact h1.below
theorem CG.pb (h : CG w0 X q pd S G c w) : PB w q pd (mOf S) := by obtain ⟨D, h1, h2⟩ := h.raw; exact h1.pb
theorem CG.good (h : CG w0 X q pd S G c w) {s : Nat} (hs : s < 2) : Tab.Good 14 6 (S s).m := h.slots.1 s hs
theorem CG.chg (h : CG w0 X q pd S G c w) (hc : Chg (fun k => k ∈ X) w w') : CG w0 X q pd S G c w' := by
  obtain ⟨⟨D, h1, h2⟩, h3⟩ := h; exact ⟨⟨D, h1.chg hc, h2⟩, h3⟩
theorem CG.later (h : CG w0 X q pd S G c w) (hb : Below w.heap.size w w') : CG w0 X q pd S G c w' := h.chg (Chg.of_below hb (Nat.le_refl _))
theorem CG.mono (h : CG w0 X q pd S G c w) {d : Nat} (hd : c ≤ d) : CG w0 X q pd S G d w := by
  obtain ⟨⟨D, h1, h2⟩, h3⟩ := h; exact ⟨⟨D, h1, fun s hs => (h2 s hs).mono hd⟩, h3⟩
theorem CG.new (h : CG w0 X q pd S G c w) (o : Obj) : CG w0 (w.heap.size :: X) q pd S G c (w.alloc o) := by
  obtain ⟨⟨D, h1, h2⟩, h3⟩ := h; exact ⟨⟨D, h1.new o, h2⟩, h3⟩
theorem CG.sub (h : CG w0 X q pd S G c w) (hY : ∀ k ∈ Y, k ∈ X) : CG w0 Y q pd S G c w := by
  obtain ⟨⟨D, h1, h2⟩, h3⟩ := h; exact ⟨⟨D, h1.sub hY, h2⟩, h3⟩
theorem Same.of_belowG (h : CG w0 X q pd S G c w) (hb : Below w.heap.size w w') : Same X w w' := fun k hk => hb.block k (h.x k hk).2
theorem CPe.setG {D : Nat → Dv} {E : Dv} {V : Nat → ByteArray} {B : Nat → Bool} {d : Nat} {g : Bool} (h1 : CPe w0 X q pd (mOf S) (upd D s E) w) (h2 : ∀ t, t < 2 → SideG (D t) (S t) (G t) c) (hE : SideG E ⟨V, B, (S s).m⟩ g d) (hd : c ≤ d) :
    ∃ D', CPe w0 X q pd (mOf (setS S s V B)) D' w ∧ ∀ t, t < 2 → SideG (D' t) (setS S s V B t) (upd G s g t) d := by
  refine ⟨upd D s E, by rw [mOf_setS]; exact h1, fun t ht => ?_⟩
  by_cases e : t = s
  · subst e; rw [upd_same, setS_same, upd_same]; exact hE
  · rw [upd_ne _ _ e, setS_ne _ _ _ e, upd_ne _ _ e]; exact (h2 t ht).mono hd
theorem upd_self {α : Type} (f : Nat → α) (i : Nat) : upd f i (f i) = f := by
  funext j; unfold upd; split
  · rename_i h; rw [h]
  · rfl
theorem alive_g (h : CG w0 X q pd S G c w) (hs : s < 2) : Calls Tryz.prog 44 #[.pointer (some ⟨q, 0, none⟩), .int .i64 (s : Nat)] w fun e w' => e = .returned (.bool (!(G s))) ∧ w = w' := by
  obtain ⟨⟨D, h1, h2⟩, h3⟩ := h
  refine (alive_e h1 hs).mono ?_
  rintro e w' ⟨rfl, rfl⟩
  exact ⟨by rw [(h2 s hs).dead], rfl⟩
/-- what Read answers -/
def rdGE (S : Nat → Sd) (G : Nat → Bool) (s b : Nat) : Int := if G s then 8 else if (S s).B (pl (S s) b) then 7 else 0
def rdGT (S : Nat → Sd) (G : Nat → Bool) (s b : Nat) : ByteArray := if rdGE S G s b = 0 then (S s).V (pl (S s) b) else ⟨#[]⟩
theorem read_g (h : CG w0 X q pd S G c w) (hs : s < 2) {b : Nat} (hb : b < 14) (hc : c ≤ 1000000) : Calls Tryz.prog 116 #[.pointer (some ⟨q, 0, none⟩), .int .i64 (s : Nat), .int .i64 (b : Nat)] w fun e w' => e = .returned (.tuple #[.string (rdGT S G s b), .int .i64 (rdGE S G s b)]) ∧ CG w0 X q pd S G c w' ∧ Same X w w' := by
  have hg := h.good hs
  obtain ⟨⟨D, h1, h2⟩, h3⟩ := h
  have hp := pl_bd hg hb
  have hD := h2 s hs
  refine (read_e h1 hs hg (by have := hD.cache; omega) hb).mono ?_
  rintro e w' ⟨rfl, hc', hsm⟩
  rw [sec_pl hg hb] at hc' ⊢
  cases hG : G s with
  | true =>
    rw [hG] at hD
    have hE : (D s).readE (pl (S s) b : Nat) = 8 := by unfold Dv.readE; rw [hD.refuse]; rfl
    have hR : (D s).readD (pl (S s) b : Nat) = D s := by unfold Dv.readD; rw [hE]; rfl
    have hT : (D s).readT (pl (S s) b : Nat) = ⟨#[]⟩ := by unfold Dv.readT; rw [hE]; rfl
    have hr : rdGE S G s b = 8 := by unfold rdGE; rw [hG]; rfl
    rw [hR, upd_self] at hc'
    refine ⟨?_, ⟨⟨D, hc', h2⟩, h3⟩, fun k hk => hsm k (by simp [hk])⟩
    unfold rdGT; rw [hE, hT, hr]; rfl
  | false =>
    rw [hG] at hD
    have hD : Cd (D s) 24 128 (S s).V (S s).B c := hD
    obtain ⟨r1, r2, r3, r4⟩ := hD.read (i := pl (S s) b) (by have := hg.len; omega)
    have hr : rdGE S G s b = if (S s).B (pl (S s) b) then 7 else 0 := by unfold rdGE; rw [hG]; rfl
    have := CPe.setG (g := false) hc' h2 (show SideG ((D s).readD (pl (S s) b : Nat)) ⟨(S s).V, (S s).B, (S s).m⟩ false c from r4) (Nat.le_refl _)
    rw [setS_self, show upd G s false = G from by rw [← hG]; exact upd_self _ _] at this
    refine ⟨?_, ⟨this, h3⟩, fun k hk => hsm k (by simp [hk])⟩
    unfold rdGT; rw [hr, r1]
    cases hb : (S s).B (pl (S s) b) with
    | false => rw [r2 hb]; simp
    | true => rw [r3 hb]; simp
theorem flush_g (h : CG w0 X q pd S G c w) (hs : s < 2) (hc : c ≤ 1000000) : Calls Tryz.prog 29 #[.pointer (some ⟨q, 0, none⟩), .int .i64 (s : Nat)] w fun e w' => e = .returned (.int .i64 (if G s then 8 else 0)) ∧ CG w0 X q pd S G c w' ∧ Same X w w' := by
  obtain ⟨⟨D, h1, h2⟩, h3⟩ := h
  have hD := h2 s hs
  refine (flush_e h1 hs (by have := hD.cache; omega)).mono ?_
  rintro e w' ⟨rfl, hc', hsm⟩
  cases hG : G s with
  | true =>
    rw [hG] at hD
    have hE : (D s).flushE = 8 := by unfold Dv.flushE; rw [hD.refuse]; rfl
    have hR : (D s).flushD = D s := by unfold Dv.flushD; rw [hD.refuse]; rfl
    rw [hR, upd_self] at hc'
    exact ⟨by rw [hE]; rfl, ⟨⟨D, hc', h2⟩, h3⟩, fun k hk => hsm k (by simp [hk])⟩
  | false =>
    rw [hG] at hD
    have hD : Cd (D s) 24 128 (S s).V (S s).B c := hD
    obtain ⟨r1, r2⟩ := hD.flush (h1.ok hs)
    have := CPe.setG (g := false) hc' h2 (show SideG ((D s).flushD) ⟨(S s).V, (S s).B, (S s).m⟩ false c from Cd.mono r2 (Nat.zero_le _)) (Nat.le_refl _)
    rw [setS_self, show upd G s false = G from by rw [← hG]; exact upd_self _ _] at this
    exact ⟨by rw [r1]; rfl, ⟨this, h3⟩, fun k hk => hsm k (by simp [hk])⟩
/-- what a write leaves that needs no spare -/
def wrG (S : Nat → Sd) (G : Nat → Bool) (s b : Nat) (d : ByteArray) : Nat → Sd := if G s then S else setS S s (upd (S s).V (pl (S s) b) d) (S s).B
theorem write_g (h : CG w0 X q pd S G c w) (hs : s < 2) {b : Nat} (hb : b < 14) {d : ByteArray} (hd : d.size = 128) (hc : c ≤ 1000000) (hB : G s = false → (S s).B (pl (S s) b) = false) : Calls Tryz.prog 67 #[.pointer (some ⟨q, 0, none⟩), .int .i64 (s : Nat), .int .i64 (b : Nat), .string d] w fun e w' => e = .returned (.int .i64 (if G s then 8 else 0)) ∧ CG w0 X q pd (wrG S G s b d) G (c + 1) w' ∧ Same X w w' := by
  have hg := h.good hs
  obtain ⟨⟨D, h1, h2⟩, h3⟩ := h
  have hp := pl_bd hg hb
  have hD := h2 s hs
  cases hG : G s with
  | true =>
    rw [hG] at hD
    have hE : (D s).writeE (sec (mOf S) s b) d = 8 := by unfold Dv.writeE; rw [hD.refuse]; rfl
    have hR : (D s).writeD (sec (mOf S) s b) d = D s := by unfold Dv.writeD; rw [hD.refuse]; rfl
    refine (write1_e h1 hs hg (by have := hD.cache; omega) hb (by omega) (by rw [hE]; decide)).mono ?_
    rintro e w' ⟨rfl, hc', hsm⟩
    rw [hR, upd_self] at hc'
    refine ⟨by rw [hE]; rfl, ?_, fun k hk => hsm k (by simp [hk])⟩
    unfold wrG; rw [hG, if_pos rfl]
    exact ⟨⟨D, hc', fun t ht => (h2 t ht).mono (by omega)⟩, h3⟩
  | false =>
    rw [hG] at hD
    have hD : Cd (D s) 24 128 (S s).V (S s).B c := hD
    have hpl : pl (S s) b < 24 := by have := hg.len; omega
    obtain ⟨r1, r2⟩ := hD.write hpl hd (hB hG)
    rw [← sec_pl hg hb] at r1 r2
    refine (write1_e h1 hs hg (by have := hD.cache; omega) hb (by omega) (by rw [r1]; decide)).mono ?_
    rintro e w' ⟨rfl, hc', hsm⟩
    have := CPe.setG (g := false) hc' h2 (show SideG ((D s).writeD (sec (mOf S) s b) d) ⟨upd (S s).V (pl (S s) b) d, (S s).B, (S s).m⟩ false (c + 1) from r2) (Nat.le_succ c)
    rw [show upd G s false = G from by rw [← hG]; exact upd_self _ _] at this
    refine ⟨by rw [r1]; rfl, ?_, fun k hk => hsm k (by simp [hk])⟩
    unfold wrG; rw [hG, if_neg (by decide)]
    exact ⟨this, h3.setS (fun j hj => upd_ne _ _ (by omega)) (fun j hj => h3.2.1 s hs j hj)⟩
end
end Go.Proofs.YtgoampbebjfenaaGreatDoor.Rem

/- Contracts of layer 3 and its reference: a byte of a text is another one. -/
namespace Go.Proofs.YtgoampbebjfenaaGreatDoor.Dev
open Go Go.RowKit Go.Proofs.YtgoampbebjfenaaGreatDoor
set_option linter.unusedVariables false

theorem xor_u8 (x y : UInt8) : bits .xor .u8 (x.toNat : Int) (y.toNat : Int) = ((x ^^^ y).toNat : Int) := by
  rw [u8_xor_nat _ _ x.toNat_lt y.toNat_lt, UInt8.toNat_xor]
theorem garbled_any (s : ByteArray) (j : Nat) (b : UInt8) (w : World) (hj : j < s.size) (hs : s.size ≤ 1000000) :
    Calls Tryz.prog 31 #[.string s, .int .i64 (j : Nat), .int .u8 b.toNat] w fun e w' => e = .returned (.string (turnB s j b)) ∧ Below w.heap.size w w' := by
  have hcv := run_bytes_brow w s
  have hbr := brow_bytesWorld w s 5
  have hbl := below_bytesWorld w 5 s
  obtain ⟨wb, hwb⟩ : ∃ wb, wb = Lib.bytesWorld w 5 s := ⟨_, rfl⟩
  obtain ⟨cap, hcap⟩ : ∃ cap, cap = grownCap w s.size 0 5 := ⟨_, rfl⟩
  rw [← hwb] at hcv hbr hbl
  rw [← hcap] at hcv
  have hl : s.data.toList.length = s.size := by simp
  have hc := hbr.at_ j (by rw [hl]; exact hj)
  have hf := hbr.froz j (by rw [hl]; exact hj)
  have hji : (j : Int) < (s.size : Int) := by omega
  obtain ⟨x, hx⟩ : ∃ x, x = s.data.toList.getD j 0 := ⟨_, rfl⟩
  rw [← hx] at hc
  have hset := hbr.set j (by rw [hl]; exact hj) (x ^^^ b)
  have hcv2 := run_string_brow _ w.heap.size cap s.size _ hset (by rw [List.length_set, hl])
  rw [← xor_u8] at hcv2
  have HT := Lib.hid (show turnB s j b = strOf (s.data.toList.set j (x ^^^ b)) by rw [hx]; rfl)
  have HB := Lib.hid (show Below w.heap.size w (wb.setCell ⟨w.heap.size, j, none⟩ (.int .u8 (bits .xor .u8 (x.toNat : Int) (b.toNat : Int)))) from hbl.setCell (by simp) _)
  clear hbr hbl hwb hcap hset hx
  go_enter Tryz.func31, Tryz.ntmps31
  go_wp2_with fail
  go_ret
  exact ⟨by rw [HT.out]; rfl, HB.out⟩
end Go.Proofs.YtgoampbebjfenaaGreatDoor.Dev

