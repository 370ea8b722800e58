/- Two rows of updates, each made one longer in one statement, in any order. -/
import Derived.Test.YtiljcfmplbmooaaBufR
import Derived.Test.YtiljcfmplbmooaaRegionV
namespace Go.Proofs.Ytiljcfmplbmooaa.Buf
open Go Go.RowKit Go.Proofs.Ytiljcfmplbmooaa Go.Proofs.Ytiljcfmplbmooaa.Lend Go.Proofs.Ytiljcfmplbmooaa.Rec Go.Proofs.Ytiljcfmplbmooaa.Msg
set_option linter.unusedVariables false

/-- two rows that lie apart -/
structure Cor (w0 : World) (B : Nat) (T1 T2 : TypeId) (c1 : Value) (L1 : List Up) (c2 : Value) (L2 : List Up) (w : World) : Prop where
  bel : Below w0.heap.size w0 w
  o1 : RO T1 w B c1 L1
  o2 : RO T2 w B c2 L2
  apt : Apt c1 c2
/-- an update in a block that neither row is -/
structure Safe (c1 c2 : Value) (w : World) (g : Nat) (T : TypeId) (x : Up) : Prop where
  has : Has w g T (encU x)
  n1 : ∀ k, c1.ownBlock = some k → k ≠ g
  n2 : ∀ k, c2.ownBlock = some k → k ≠ g
section
variable {w0 w w' : World} {B g : Nat} {T1 T2 T : TypeId} {c1 c2 : Value} {L1 L2 : List Up} {x : Up}
theorem Cor.swap (h : Cor w0 B T1 T2 c1 L1 c2 L2 w) : Cor w0 B T2 T1 c2 L2 c1 L1 w := ⟨h.bel, h.o2, h.o1, h.apt.symm⟩
theorem Safe.swap (h : Safe c1 c2 w g T x) : Safe c2 c1 w g T x := ⟨h.has, h.n2, h.n1⟩
theorem Cor.on (h : Cor w0 B T1 T2 c1 L1 c2 L2 w) (hb : Below w.heap.size w w') : Cor w0 B T1 T2 c1 L1 c2 L2 w' := ⟨below_on h.bel hb, own_bel h.o1 hb, own_bel h.o2 hb, h.apt⟩
theorem Safe.on (h : Safe c1 c2 w g T x) (hb : Below w.heap.size w w') : Safe c1 c2 w' g T x := ⟨h.has.below hb h.has.lt, h.n1, h.n2⟩
theorem Cor.safe (h : Cor w0 B T1 T2 c1 L1 c2 L2 w) (T : TypeId) (x : Up) : Safe c1 c2 (w.alloc (.cells (encU x).toArray T)) w.heap.size T x :=
  ⟨Has.new w (encU x) T, fun k hk => by have := (h.o1.lt k hk).2; omega, fun k hk => by have := (h.o2.lt k hk).2; omega⟩
theorem Cor.app {S : TypeId} (hS : Try.prog.underlying S = some (.slice T1)) (hI : IsU T1) (ty : TypeId) (h : Cor w0 B T1 T2 c1 L1 c2 L2 w) (hs : Safe c1 c2 w g T1 x) (hB : w0.heap.size ≤ B) (hBw : B ≤ w.heap.size) (hn : L1.length ≤ 1000000) :
    ∃ v' w', (Builtin.append_ #[S, S] ty #[c1, .slice (some ⟨g, 0, none⟩) 1 1]).run Try.prog w = .ok v' w' ∧ Cor w0 B T1 T2 v' (L1 ++ [x]) c2 L2 w' ∧ ∀ g' T' x', Safe c1 c2 w g' T' x' → Safe v' c2 w' g' T' x' := by
  have hx : UR w (.slice (some ⟨g, 0, none⟩) 1 1) [x] := by
    refine ⟨_, 1, rfl, fun _ => ⟨g, 0, rfl, fun i hi j hj => ?_⟩⟩
    have : i = 0 := by simp at hi; exact hi
    subst this
    rw [show 0 + 0 * 4 + j = j by omega]
    exact hs.has.cell j
  obtain ⟨v', w', hr, ho, hg, hp⟩ := app_own hS hI ty h.o1 hx hBw (by simp; omega)
  refine ⟨v', w', hr, ⟨?_, ho, ?_, fun k hk hk2 => ?_⟩, fun g' T' x' h' => ⟨?_, fun k hk e => ?_, h'.n2⟩⟩
  · exact h.bel.grown hg h.bel.size (fun k hk => Nat.le_trans hB (h.o1.lt k hk).1)
  · refine h.o2.kept hg ?_
    cases hv : c2.ownBlock with
    | none => exact .inl rfl
    | some k => exact .inr fun e => h.apt k e.symm hv
  · rcases hp k hk with h1 | ⟨h1, _⟩
    · exact h.apt k h1 hk2
    · have := (h.o2.lt k hk2).2
      omega
  · exact h'.has.same (hg.block g' h'.has.lt (fun e => h'.n1 g' e.symm rfl))
  · rcases hp k hk with h1 | ⟨h1, _⟩
    · exact h'.n1 k h1 e
    · have := h'.has.lt
      omega
end
/-- how far the statement has come -/
structure Ap (w0 : World) (B : Nat) (T1 T2 : TypeId) (G1 G2 : Nat) (v1 v2 : Value) (L : List Up) (x : Up) (i2 i3 i8 s1 s2 s3 j2 j3 j8 t1 t2 t3 : Nat) (l : Nat → Bool) (a : Act) (w : World) : Prop where
  cor : Cor w0 B T1 T2 (if l i3 = true then a.tmps.getD s2 undef else v1) (if l i3 = true then L ++ [x] else L) (if l j3 = true then a.tmps.getD t2 undef else v2) (if l j3 = true then L ++ [x] else L) w
  b1 : Safe (if l i3 = true then a.tmps.getD s2 undef else v1) (if l j3 = true then a.tmps.getD t2 undef else v2) w G1 T1 x
  b2 : Safe (if l i3 = true then a.tmps.getD s2 undef else v1) (if l j3 = true then a.tmps.getD t2 undef else v2) w G2 T2 x
  n1 : l i2 = true → l i3 = false → ∃ g, a.tmps.getD s1 undef = .slice (some ⟨g, 0, none⟩) 1 1 ∧ Safe (if l i3 = true then a.tmps.getD s2 undef else v1) (if l j3 = true then a.tmps.getD t2 undef else v2) w g T1 x
  n2 : l j2 = true → l j3 = false → ∃ g, a.tmps.getD t1 undef = .slice (some ⟨g, 0, none⟩) 1 1 ∧ Safe (if l i3 = true then a.tmps.getD s2 undef else v1) (if l j3 = true then a.tmps.getD t2 undef else v2) w g T2 x
  e1 : l i8 = true → a.tmps.getD s3 undef = a.tmps.getD s2 undef
  e2 : l j8 = true → a.tmps.getD t3 undef = a.tmps.getD t2 undef
section
variable {w0 w w' : World} {B G1 G2 : Nat} {T1 T2 : TypeId} {v1 v2 : Value} {L : List Up} {x : Up} {i2 i3 i8 s1 s2 s3 j2 j3 j8 t1 t2 t3 : Nat} {l : Nat → Bool} {a : Act}
theorem Ap.swap (h : Ap w0 B T1 T2 G1 G2 v1 v2 L x i2 i3 i8 s1 s2 s3 j2 j3 j8 t1 t2 t3 l a w) : Ap w0 B T2 T1 G2 G1 v2 v1 L x j2 j3 j8 t1 t2 t3 i2 i3 i8 s1 s2 s3 l a w := by
  refine ⟨h.cor.swap, h.b2.swap, h.b1.swap, fun p q => ?_, fun p q => ?_, h.e2, h.e1⟩
  · obtain ⟨g, e, hs⟩ := h.n2 p q; exact ⟨g, e, hs.swap⟩
  · obtain ⟨g, e, hs⟩ := h.n1 p q; exact ⟨g, e, hs.swap⟩
theorem Ap.on (h : Ap w0 B T1 T2 G1 G2 v1 v2 L x i2 i3 i8 s1 s2 s3 j2 j3 j8 t1 t2 t3 l a w) (hb : Below w.heap.size w w') : Ap w0 B T1 T2 G1 G2 v1 v2 L x i2 i3 i8 s1 s2 s3 j2 j3 j8 t1 t2 t3 l a w' := by
  refine ⟨h.cor.on hb, h.b1.on hb, h.b2.on hb, fun p q => ?_, fun p q => ?_, h.e1, h.e2⟩
  · obtain ⟨g, e, hs⟩ := h.n1 p q; exact ⟨g, e, hs.on hb⟩
  · obtain ⟨g, e, hs⟩ := h.n2 p q; exact ⟨g, e, hs.on hb⟩
theorem Ap.start (a : Act) (hc : Cor w0 B T1 T2 v1 L v2 L w) (h1 : Safe v1 v2 w G1 T1 x) (h2 : Safe v1 v2 w G2 T2 x) : Ap w0 B T1 T2 G1 G2 v1 v2 L x i2 i3 i8 s1 s2 s3 j2 j3 j8 t1 t2 t3 (fun _ => false) a w.drew := by
  have hb : Below w.heap.size w w.drew := (Below.refl _ _).drew
  exact ⟨hc.on hb, h1.on hb, h2.on hb, (fun e => by cases e), (fun e => by cases e), (fun e => by cases e), (fun e => by cases e)⟩
theorem Ap.keep (h : Ap w0 B T1 T2 G1 G2 v1 v2 L x i2 i3 i8 s1 s2 s3 j2 j3 j8 t1 t2 t3 l a w) {i c : Nat} (v : Value) (hi : [i2, i3, i8, j2, j3, j8].contains i = false) (hc : [s1, s2, s3, t1, t2, t3].contains c = false) (hs : c < a.tmps.size) :
    Ap w0 B T1 T2 G1 G2 v1 v2 L x i2 i3 i8 s1 s2 s3 j2 j3 j8 t1 t2 t3 (Reg.lset l i) (a.put (some c) v) w := by
  simp only [List.contains_cons, List.contains_nil, Bool.or_false, Bool.or_eq_false_iff, beq_eq_false_iff_ne, ne_eq] at hi hc
  obtain ⟨p1, p2, p3, p4, p5, p6⟩ := hi
  obtain ⟨q1, q2, q3, q4, q5, q6⟩ := hc
  have hl : ∀ {j : Nat}, ¬ i = j → Reg.lset l i j = l j := fun e => lset_ne e
  have hg : ∀ {d : Nat}, ¬ c = d → (a.put (some c) v).tmps.getD d undef = a.tmps.getD d undef := fun e => by rw [Reg.getD_put _ _ _ _ hs, if_neg e]
  obtain ⟨f1, f2, f3, f4, f5, f6, f7⟩ := h
  rw [← hl p2, ← hl p5, ← hg q2, ← hg q5] at f1 f2 f3
  refine ⟨f1, f2, f3, fun u1 u2 => ?_, fun u1 u2 => ?_, fun u => ?_, fun u => ?_⟩
  · rw [hl p1] at u1; rw [hl p2] at u2
    rw [hl p2, hl p5, hg q1, hg q2, hg q5]; exact f4 u1 u2
  · rw [hl p4] at u1; rw [hl p5] at u2
    rw [hl p2, hl p5, hg q4, hg q2, hg q5]; exact f5 u1 u2
  · rw [hl p3] at u; rw [hg q3, hg q2]; exact f6 u
  · rw [hl p6] at u; rw [hg q6, hg q5]; exact f7 u
theorem Ap.build (h : Ap w0 B T1 T2 G1 G2 v1 v2 L x i2 i3 i8 s1 s2 s3 j2 j3 j8 t1 t2 t3 l a w) (hi : [i3, i8, j2, j3, j8].contains i2 = false) (hc : [s2, s3, t1, t2, t3].contains s1 = false) (hs : s1 < a.tmps.size) :
    Ap w0 B T1 T2 G1 G2 v1 v2 L x i2 i3 i8 s1 s2 s3 j2 j3 j8 t1 t2 t3 (Reg.lset l i2) (a.put (some s1) (.slice (some ⟨w.heap.size, 0, none⟩) 1 1)) (w.alloc (.cells (encU x).toArray T1)) := by
  simp only [List.contains_cons, List.contains_nil, Bool.or_false, Bool.or_eq_false_iff, beq_eq_false_iff_ne, ne_eq] at hi hc
  obtain ⟨p2, p3, p4, p5, p6⟩ := hi
  obtain ⟨q2, q3, q4, q5, q6⟩ := hc
  have hl : ∀ {j : Nat}, ¬ i2 = j → Reg.lset l i2 j = l j := fun e => lset_ne e
  have hg : ∀ {d : Nat}, ¬ s1 = d → (a.put (some s1) (.slice (some ⟨w.heap.size, 0, none⟩) 1 1)).tmps.getD d undef = a.tmps.getD d undef := fun e => by rw [Reg.getD_put _ _ _ _ hs, if_neg e]
  have hn := h.cor.safe T1 x
  obtain ⟨f1, f2, f3, f4, f5, f6, f7⟩ := h.on (below_new w (.cells (encU x).toArray T1))
  rw [← hl p2, ← hl p5, ← hg q2, ← hg q5] at f1 f2 f3 hn
  refine ⟨f1, f2, f3, fun u1 u2 => ?_, fun u1 u2 => ?_, fun u => ?_, fun u => ?_⟩
  · exact ⟨_, by rw [Reg.getD_put _ _ _ _ hs, if_pos rfl], hn⟩
  · rw [hl p4] at u1; rw [hl p5] at u2
    rw [hl p2, hl p5, hg q4, hg q2, hg q5]; exact f5 u1 u2
  · rw [hl p3] at u; rw [hg q3, hg q2]; exact f6 u
  · rw [hl p6] at u; rw [hg q6, hg q5]; exact f7 u
theorem Ap.app {S : TypeId} (hS : Try.prog.underlying S = some (.slice T1)) (hI : IsU T1) (ty : TypeId) (h : Ap w0 B T1 T2 G1 G2 v1 v2 L x i2 i3 i8 s1 s2 s3 j2 j3 j8 t1 t2 t3 l a w) (h2 : l i2 = true) (h3 : l i3 = false) (h8 : l i8 = false) (hi : [i8, j2, j3, j8].contains i3 = false) (hc : [s1, s3, t1, t2, t3].contains s2 = false) (hs : s2 < a.tmps.size) (hB : w0.heap.size ≤ B) (hB2 : B ≤ w.heap.size) (hn : L.length ≤ 1000000) :
    ∃ v' w', (Builtin.append_ #[S, S] ty #[v1, a.tmps.getD s1 undef]).run Try.prog w = .ok v' w' ∧ Ap w0 B T1 T2 G1 G2 v1 v2 L x i2 i3 i8 s1 s2 s3 j2 j3 j8 t1 t2 t3 (Reg.lset l i3) (a.put (some s2) v') w' := by
  simp only [List.contains_cons, List.contains_nil, Bool.or_false, Bool.or_eq_false_iff, beq_eq_false_iff_ne, ne_eq] at hi hc
  obtain ⟨p3, p4, p5, p6⟩ := hi
  obtain ⟨q1, q3, q4, q5, q6⟩ := hc
  obtain ⟨f1, f2, f3, f4, f5, f6, f7⟩ := h
  obtain ⟨g, hg1, hsf⟩ := f4 h2 h3
  rw [h3, if_neg (by simp)] at f1 f2 f3 hsf
  rw [if_neg (by simp)] at f1
  obtain ⟨v', w', hr, hcor, hsafe⟩ := f1.app hS hI ty hsf hB hB2 hn
  have hl : ∀ {j : Nat}, ¬ i3 = j → Reg.lset l i3 j = l j := fun e => lset_ne e
  have hle : Reg.lset l i3 i3 = true := lset_eq
  have hg : ∀ {d : Nat}, ¬ s2 = d → (a.put (some s2) v').tmps.getD d undef = a.tmps.getD d undef := fun e => by rw [Reg.getD_put _ _ _ _ hs, if_neg e]
  have hge : (a.put (some s2) v').tmps.getD s2 undef = v' := by rw [Reg.getD_put _ _ _ _ hs, if_pos rfl]
  refine ⟨v', w', by rw [hg1]; exact hr, ⟨?_, ?_, ?_, fun u1 u2 => ?_, fun u1 u2 => ?_, fun u => ?_, fun u => ?_⟩⟩
  · rw [hle, if_pos rfl, if_pos rfl, hge, hl p5, hg q5]; exact hcor
  · rw [hle, if_pos rfl, hge, hl p5, hg q5]; exact hsafe _ _ _ f2
  · rw [hle, if_pos rfl, hge, hl p5, hg q5]; exact hsafe _ _ _ f3
  · rw [hle] at u2; cases u2
  · rw [hl p4] at u1; rw [hl p5] at u2
    obtain ⟨g', e, hs'⟩ := f5 u1 u2
    rw [h3, if_neg (by simp)] at hs'
    rw [hle, if_pos rfl, hge, hl p5, hg q4, hg q5]
    exact ⟨g', e, hsafe _ _ _ hs'⟩
  · rw [hl p3, h8] at u; cases u
  · rw [hl p6] at u; rw [hg q6, hg q5]; exact f7 u
theorem Ap.asg (h : Ap w0 B T1 T2 G1 G2 v1 v2 L x i2 i3 i8 s1 s2 s3 j2 j3 j8 t1 t2 t3 l a w) (hi : [i2, i3, j2, j3, j8].contains i8 = false) (hc : [s1, s2, t1, t2, t3].contains s3 = false) (hs : s3 < a.tmps.size) :
    Ap w0 B T1 T2 G1 G2 v1 v2 L x i2 i3 i8 s1 s2 s3 j2 j3 j8 t1 t2 t3 (Reg.lset l i8) (a.put (some s3) (a.tmps.getD s2 undef)) w := by
  simp only [List.contains_cons, List.contains_nil, Bool.or_false, Bool.or_eq_false_iff, beq_eq_false_iff_ne, ne_eq] at hi hc
  obtain ⟨p1, p2, p4, p5, p6⟩ := hi
  obtain ⟨q1, q2, q4, q5, q6⟩ := hc
  have hl : ∀ {j : Nat}, ¬ i8 = j → Reg.lset l i8 j = l j := fun e => lset_ne e
  have hg : ∀ {d : Nat}, ¬ s3 = d → (a.put (some s3) (a.tmps.getD s2 undef)).tmps.getD d undef = a.tmps.getD d undef := fun e => by rw [Reg.getD_put _ _ _ _ hs, if_neg e]
  obtain ⟨f1, f2, f3, f4, f5, f6, f7⟩ := h
  rw [← hl p2, ← hl p5, ← hg q2, ← hg q5] at f1 f2 f3
  refine ⟨f1, f2, f3, fun u1 u2 => ?_, fun u1 u2 => ?_, fun u => ?_, fun u => ?_⟩
  · rw [hl p1] at u1; rw [hl p2] at u2
    rw [hl p2, hl p5, hg q1, hg q2, hg q5]; exact f4 u1 u2
  · rw [hl p4] at u1; rw [hl p5] at u2
    rw [hl p2, hl p5, hg q4, hg q2, hg q5]; exact f5 u1 u2
  · rw [hg q2, Reg.getD_put _ _ _ _ hs, if_pos rfl]
  · rw [hl p6] at u; rw [hg q6, hg q5]; exact f7 u
theorem Ap.done {n : Nat} (h : Ap w0 B T1 T2 G1 G2 v1 v2 L x i2 i3 i8 s1 s2 s3 j2 j3 j8 t1 t2 t3 (fun j => decide (j < n)) a w) (h3 : i3 < n) (h8 : i8 < n) (k3 : j3 < n) (k8 : j8 < n) :
    Cor w0 B T1 T2 (a.tmps.getD s3 undef) (L ++ [x]) (a.tmps.getD t3 undef) (L ++ [x]) w := by
  have := h.cor
  rw [h.e1 (by simpa using h8), h.e2 (by simpa using k8)]
  simpa [h3, k3] using this
end
end Go.Proofs.Ytiljcfmplbmooaa.Buf
