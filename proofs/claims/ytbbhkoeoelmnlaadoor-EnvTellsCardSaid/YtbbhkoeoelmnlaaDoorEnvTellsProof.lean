/-
  The law EnvTells holds: with one byte of it another one an image is none; unlike heads or payloads have unlike images. Conditions: none but the row's own.
-/
import Derived.Test.YtbbhkoeoelmnlaaDoorRows
import Derived.Test.YtbbhkoeoelmnlaaDoorEnvG
import Derived.Test.YtbbhkoeoelmnlaaDoorRegionV
import Derived.Lib.OthersKept
import Derived.Laws.BitsAllLaws
import Derived.Test.YtbbhkoeoelmnlaaDoorCards
import Derived.Test.YtbbhkoeoelmnlaaDoorTie
import Derived.Test.YtbbhkoeoelmnlaaDoorArr
import Derived.WalkKit
import Derived.ProofKit
import Derived.OpenShut
import Derived.ShutString
import Derived.ChangeOld
import Derived.Below
import Derived.Carry
import Derived.Deep.DeepHandedRow
import Derived.Lib.LaidTab
namespace Go.Proofs.YtbbhkoeoelmnlaaDoor.envTells
open Go.ChangeShapes Go.WideShapes Go.ChangeAt Go.RowKit
open Go.Proofs.YtbbhkoeoelmnlaaDoor
open Go.ChangeMaps (open_string shut_string)
set_option linter.unusedVariables false

theorem own : ownKnob Tryd.prog.godebug = none := by kernel_rfl
theorem laidOut : laidOutB Tryd.prog = true := by kernel_rfl

theorem len2 {α : Type} : ∀ l : List α, l.length = 2 → ∃ z0 z1, l = [z0, z1]
  | [z0, z1], _ => ⟨z0, z1, rfl⟩
theorem len3 {α : Type} : ∀ l : List α, l.length = 3 → ∃ z0 z1 z2, l = [z0, z1, z2]
  | [z0, z1, z2], _ => ⟨z0, z1, z2, rfl⟩

open Go.Proofs.YtbbhkoeoelmnlaaDoor.Env Go.Proofs.YtbbhkoeoelmnlaaDoor.Lend
theorem keep6 {w1 w2 : World} {p0 p1 p2 p3 p4 p5 : Addr} {x0 x1 x2 x3 x4 x5 : Value}
    (h : w1.cell? p0 = some x0 ∧ w1.cell? p1 = some x1 ∧ w1.cell? p2 = some x2 ∧ w1.cell? p3 = some x3 ∧ w1.cell? p4 = some x4 ∧ w1.cell? p5 = some x5) (hb : Below w1.heap.size w1 w2) :
    w2.cell? p0 = some x0 ∧ w2.cell? p1 = some x1 ∧ w2.cell? p2 = some x2 ∧ w2.cell? p3 = some x3 ∧ w2.cell? p4 = some x4 ∧ w2.cell? p5 = some x5 := by
  obtain ⟨h0, h1, h2, h3, h4, h5⟩ := h
  have k : ∀ {p : Addr} {x : Value}, w1.cell? p = some x → w2.cell? p = some x := fun h => by rw [hb.cell (World.block_lt_of_cell? _ _ h)]; exact h
  exact ⟨k h0, k h1, k h2, k h3, k h4, k h5⟩
theorem six_set {W : World} {c d b : Nat} {x0 x1 x2 x3 x4 x5 : Value} (h : W.cell? ⟨c, 0, none⟩ = some x0 ∧ W.cell? ⟨c, 1, none⟩ = some x1 ∧ W.cell? ⟨c, 2, none⟩ = some x2 ∧ W.cell? ⟨d, 0, none⟩ = some x3 ∧ W.cell? ⟨d, 1, none⟩ = some x4 ∧ W.cell? ⟨d, 2, none⟩ = some x5) (hc : c ≠ b) (hd : d ≠ b) (u v t : Value) :
    (((W.setCell ⟨b, 0, none⟩ u).setCell ⟨b, 1, none⟩ v).setCell ⟨b, 2, none⟩ t).cell? ⟨c, 0, none⟩ = some x0 ∧ (((W.setCell ⟨b, 0, none⟩ u).setCell ⟨b, 1, none⟩ v).setCell ⟨b, 2, none⟩ t).cell? ⟨c, 1, none⟩ = some x1 ∧ (((W.setCell ⟨b, 0, none⟩ u).setCell ⟨b, 1, none⟩ v).setCell ⟨b, 2, none⟩ t).cell? ⟨c, 2, none⟩ = some x2 ∧
    (((W.setCell ⟨b, 0, none⟩ u).setCell ⟨b, 1, none⟩ v).setCell ⟨b, 2, none⟩ t).cell? ⟨d, 0, none⟩ = some x3 ∧ (((W.setCell ⟨b, 0, none⟩ u).setCell ⟨b, 1, none⟩ v).setCell ⟨b, 2, none⟩ t).cell? ⟨d, 1, none⟩ = some x4 ∧ (((W.setCell ⟨b, 0, none⟩ u).setCell ⟨b, 1, none⟩ v).setCell ⟨b, 2, none⟩ t).cell? ⟨d, 2, none⟩ = some x5 := by
  have e := fun c o (hc : c ≠ b) => st3 W b ⟨c, o, none⟩ u v t hc
  have f0 := e c 0 hc; have f1 := e c 1 hc; have f2 := e c 2 hc; have f3 := e d 0 hd; have f4 := e d 1 hd; have f5 := e d 2 hd
  exact ⟨Eq.trans f0 h.1, Eq.trans f1 h.2.1, Eq.trans f2 h.2.2.1, Eq.trans f3 h.2.2.2.1, Eq.trans f4 h.2.2.2.2.1, Eq.trans f5 h.2.2.2.2.2⟩
theorem New3.al {W : World} {g : Nat} {x y z : Value} (h : New3 W g x y z) (o : Obj) : New3 (W.alloc o) g x y z := New3.on h (below_new W o)
theorem New3.dr {W : World} {g : Nat} {x y z : Value} (h : New3 W g x y z) : New3 W.drew g x y z := ⟨h.c0, h.c1, h.c2, h.f0, h.f1, h.f2⟩
theorem New3.far {W : World} {g b : Nat} {x y z : Value} (h : New3 W g x y z) (hn : g ≠ b) (u v t : Value) : New3 (((W.setCell ⟨b, 0, none⟩ u).setCell ⟨b, 1, none⟩ v).setCell ⟨b, 2, none⟩ t) g x y z := by
  have e0 := st3 W b ⟨g, 0, none⟩ u v t hn
  have e1 := st3 W b ⟨g, 1, none⟩ u v t hn
  have e2 := st3 W b ⟨g, 2, none⟩ u v t hn
  exact ⟨Eq.trans e0 h.c0, Eq.trans e1 h.c1, Eq.trans e2 h.c2, by rw [World.frozen?_setCell, World.frozen?_setCell, World.frozen?_setCell]; exact h.f0, by rw [World.frozen?_setCell, World.frozen?_setCell, World.frozen?_setCell]; exact h.f1, by rw [World.frozen?_setCell, World.frozen?_setCell, World.frozen?_setCell]; exact h.f2⟩
theorem n2 (X : World) (x y z x' y' z' : Value) (t t' : TypeId) : New3 ((X.alloc (.cells #[x, y, z] t)).alloc (.cells #[x', y', z'] t')) X.heap.size x y z := New3.al (New3.new X x y z t) _
theorem n3 (X : World) (x y z x' y' z' : Value) (t t' : TypeId) : New3 ((X.alloc (.cells #[x, y, z] t)).alloc (.cells #[x', y', z'] t')) (X.heap.size + 1) x' y' z' := by
  have := New3.new (X.alloc (.cells #[x, y, z] t)) x' y' z' t'
  rwa [World.size_alloc] at this
theorem str3 (w : World) (o o' : Obj) (s t : Value) (ty : TypeId) : (((w.alloc o).alloc o').alloc (.cells #[s, t] ty)).cell? ⟨w.heap.size + 1 + 1, 0, none⟩ = some s ∧ (((w.alloc o).alloc o').alloc (.cells #[s, t] ty)).cell? ⟨w.heap.size + 1 + 1, 1, none⟩ = some t := by
  have e : ∀ X : World, (X.alloc (.cells #[s, t] ty)).cell? ⟨X.heap.size, 0, none⟩ = some s ∧ (X.alloc (.cells #[s, t] ty)).cell? ⟨X.heap.size, 1, none⟩ = some t := fun X => by simp
  have h := e ((w.alloc o).alloc o')
  rw [World.size_alloc, World.size_alloc] at h
  exact h
theorem img_inj {k a g l c f : Int} {m : Nat} {pl ql : List UInt8} (h : hdB k a = true) (h' : hdB l c = true) (hg0 : 0 ≤ g) (hg1 : g < 18446744073709551616) (hf0 : 0 ≤ f) (hf1 : f < 18446744073709551616) (hp : pl.length ≤ m) (hq : ql.length ≤ m) (hm : 104 ≤ m) (hm' : m ≤ 1000)
    (he : imgL k a g m pl = imgL l c f m ql) : k = l ∧ a = c ∧ g = f ∧ pl = ql := by
  obtain ⟨_, a1, a2, a3, _, a5⟩ := img_o h hg0 hg1 hp hm hm'
  obtain ⟨_, b1, b2, b3, _, b5⟩ := img_o h' hf0 hf1 hq hm hm'
  rw [he] at a1 a2 a3 a5
  refine ⟨a1.symm.trans b1, a2.symm.trans b2, a3.symm.trans b3, ?_⟩
  have := a5.symm.trans b5
  simpa [Lend.strOf] using this
theorem text_ne {s u : ByteArray} (h : ¬ s = u) : (s.toList == u.toList) = false := by
  rw [beq_eq_false_iff_ne]
  intro he
  rw [ByteArray.toList_eq, ByteArray.toList_eq] at he
  apply h
  cases s; cases u
  simp at he
  simpa using he
theorem keep1 {w1 w2 : World} {p : Addr} {x : Value} (h : w1.cell? p = some x) (hb : Below w1.heap.size w1 w2) : w2.cell? p = some x := by rw [hb.cell (World.block_lt_of_cell? _ _ h)]; exact h
theorem and_127 (a : Int) : ∃ D : Nat, D ≤ 127 ∧ bits .and .i64 a 127 = (D : Int) := by
  refine ⟨(BitVec.ofInt 64 a &&& BitVec.ofInt 64 127).toNat, ?_, ?_⟩
  · rw [BitVec.toNat_and]; exact Nat.and_le_right
  · have h : (BitVec.ofInt 64 a &&& BitVec.ofInt 64 127).toNat ≤ 127 := by rw [BitVec.toNat_and]; exact Nat.and_le_right
    show IntKind.i64.wrap ((BitVec.ofInt 64 a &&& BitVec.ofInt 64 127).toNat : Int) = _
    rw [IntKind.wrap_i64]; omega
theorem decode_one (s : ByteArray) (pos : Nat) (h : pos < s.size) : 1 ≤ (Utf8.decode s pos).2 := by
  by_cases ha : (s[pos]'h).toNat < 128
  · rw [decode_ascii s pos h ha]; exact Nat.le_refl _
  · exact (decode_high s pos h (by omega)).2
theorem open3V_no {l : List UInt8} {e : Int} (h : opE l = e) (he : e ≠ 0) : open3V l = .tuple #[.agg #[.int .u8 0, .int .i64 0, .int .u64 0], .string ⟨#[]⟩, .int .i64 e] := by
  simp only [open3V, oK, oA, oG, oP, h, if_neg he]
theorem turned (s : ByteArray) (pos : Nat) (h : pos < s.size) (B : UInt8) : (s.extract 0 pos ++ Lend.strOf [B] ++ s.extract (pos + 1) s.size).data.toList = s.data.toList.set pos B := by
  rw [List.set_eq_take_append_cons_drop, if_pos (by simpa using h)]
  simp [Lend.strOf]
  rw [List.take_of_length_le (by simp)]
/-- one of two worlds -/
def Mid (A B : World) (b : Bool) (w : World) : Prop := w = if b then A else B
theorem Mid.yes {A B w : World} (h : Mid A B true w) : w = A := h
theorem Mid.no {A B w : World} (h : Mid A B false w) : w = B := h
theorem Mid.keep {A B w : World} {b : Bool} (h : Mid A B b w) {p : Addr} {v : Value} (h1 : A.cell? p = some v) (h2 : B.cell? p = some v) : w.cell? p = some v := by
  unfold Mid at h; subst h; split
  · exact h1
  · exact h2
/-- two new blocks, at slots d and e, made (ia, ib) and written (ja, jb) in any order -/
def Cel (w : World) (q : Nat) (b : Bool) (x y z : Value) : Prop := ∃ u v t, New3 w q u v t ∧ (b = true → u = x ∧ v = y ∧ t = z)
def Duo (w1 : World) (d e ia ib ja jb : Nat) (x y z x' y' z' : Value) (l : Nat → Bool) (a : Act) (w : World) : Prop :=
  Below w1.heap.size w1 w ∧ ∃ q r : Nat, (l ia = true → a.tmps.getD d undef = .pointer (some ⟨q, 0, none⟩) ∧ w1.heap.size ≤ q ∧ Cel w q (l ja) x y z) ∧ (l ib = true → a.tmps.getD e undef = .pointer (some ⟨r, 0, none⟩) ∧ w1.heap.size ≤ r ∧ Cel w r (l jb) x' y' z') ∧ (l ia = true → l ib = true → q ≠ r)
theorem Cel.on {w w' : World} {q : Nat} {b : Bool} {x y z : Value} (h : Cel w q b x y z) (hb : Below w.heap.size w w') : Cel w' q b x y z := by
  obtain ⟨u, v, t, h, k⟩ := h
  exact ⟨u, v, t, New3.on h hb, k⟩
theorem Cel.lt {w : World} {q : Nat} {b : Bool} {x y z : Value} (h : Cel w q b x y z) : q < w.heap.size := by
  obtain ⟨u, v, t, h, k⟩ := h
  exact World.block_lt_of_cell? _ _ h.c0
section
variable {w1 w : World} {d e ia ib ja jb : Nat} {x y z x' y' z' : Value} {l : Nat → Bool} {a : Act}
theorem Duo.start (a : Act) : Duo w1 d e ia ib ja jb x y z x' y' z' (fun _ => false) a w1.drew :=
  ⟨(Below.refl _ _).drew, 0, 0, (fun h => by cases h), (fun h => by cases h), (fun h => by cases h)⟩
theorem lset_ne {l : Nat → Bool} {i j : Nat} (h : i ≠ j) : Reg.lset l i j = l j := by unfold Reg.lset; rw [if_neg h]
theorem lset_eq {l : Nat → Bool} {i : Nat} : Reg.lset l i i = true := by unfold Reg.lset; rw [if_pos rfl]
theorem Duo.keep (h : Duo w1 d e ia ib ja jb x y z x' y' z' l a w) {i c : Nat} (v : Value) {w' : World} (hb : Below w.heap.size w w') (h1 : i ≠ ia) (h2 : i ≠ ib) (h3 : i ≠ ja) (h4 : i ≠ jb) (h5 : c ≠ d) (h6 : c ≠ e) (hc : c < a.tmps.size) :
    Duo w1 d e ia ib ja jb x y z x' y' z' (Reg.lset l i) (a.put (some c) v) w' := by
  obtain ⟨k, q, r, k1, k2, k3⟩ := h
  refine ⟨below_on k hb, q, r, ?_, ?_, ?_⟩
  · rw [lset_ne h1, lset_ne h3, Reg.getD_put _ _ _ _ hc, if_neg h5]
    intro h; obtain ⟨g1, g2, g3⟩ := k1 h; exact ⟨g1, g2, g3.on hb⟩
  · rw [lset_ne h2, lset_ne h4, Reg.getD_put _ _ _ _ hc, if_neg h6]
    intro h; obtain ⟨g1, g2, g3⟩ := k2 h; exact ⟨g1, g2, g3.on hb⟩
  · rw [lset_ne h1, lset_ne h2]; exact k3
theorem Duo.swap (h : Duo w1 d e ia ib ja jb x y z x' y' z' l a w) : Duo w1 e d ib ia jb ja x' y' z' x y z l a w := by
  obtain ⟨k, q, r, k1, k2, k3⟩ := h
  exact ⟨k, r, q, k2, k1, fun h h' e => k3 h' h e.symm⟩
theorem Duo.mk (h : Duo w1 d e ia ib ja jb x y z x' y' z' l a w) (u v t : Value) (ty : TypeId) (hl : l ja = false) (h1 : ia ≠ ib) (h2 : ia ≠ ja) (h3 : ia ≠ jb) (h5 : d ≠ e) (hc : d < a.tmps.size) :
    Duo w1 d e ia ib ja jb x y z x' y' z' (Reg.lset l ia) (a.put (some d) (.pointer (some ⟨w.heap.size, 0, none⟩))) (w.alloc (.cells #[u, v, t] ty)) := by
  obtain ⟨k, q, r, k1, k2, k3⟩ := h
  refine ⟨below_nw k _, w.heap.size, r, ?_, ?_, ?_⟩
  · rw [lset_eq, lset_ne h2, hl, Reg.getD_put _ _ _ _ hc, if_pos rfl]
    exact fun _ => ⟨rfl, k.size, u, v, t, New3.new w u v t ty, fun h => by cases h⟩
  · rw [lset_ne h1, lset_ne h3, Reg.getD_put _ _ _ _ hc, if_neg h5]
    intro h; obtain ⟨g1, g2, g3⟩ := k2 h; exact ⟨g1, g2, g3.on (below_new _ _)⟩
  · rw [lset_ne h1]
    intro _ h e
    obtain ⟨_, _, g3⟩ := k2 h
    have := g3.lt; omega
theorem Duo.st (h : Duo w1 d e ia ib ja jb x y z x' y' z' l a w) (h1 : l ia = true) (h2 : ja ≠ ia) (h3 : ja ≠ ib) (h4 : ja ≠ jb) :
    ∃ q, a.tmps.getD d undef = .pointer (some ⟨q, 0, none⟩) ∧ (∃ u v t, New3 w q u v t) ∧ Duo w1 d e ia ib ja jb x y z x' y' z' (Reg.lset l ja) a (((w.setCell ⟨q, 0, none⟩ x).setCell ⟨q, 1, none⟩ y).setCell ⟨q, 2, none⟩ z) := by
  obtain ⟨k, q, r, k1, k2, k3⟩ := h
  obtain ⟨g1, g2, u, v, t, g3, g4⟩ := k1 h1
  refine ⟨q, g1, ⟨u, v, t, g3⟩, below_st (below_st (below_st k g2 _) g2 _) g2 _, q, r, ?_, ?_, ?_⟩
  · rw [lset_eq]
    exact fun _ => ⟨g1, g2, x, y, z, New3.set g3 x y z, fun _ => ⟨rfl, rfl, rfl⟩⟩
  · rw [lset_ne h3, lset_ne h4]
    intro h
    obtain ⟨f1, f2, u', v', t', f3, f4⟩ := k2 h
    exact ⟨f1, f2, u', v', t', New3.far f3 (fun e => k3 h1 h e.symm) x y z, f4⟩
  · rw [lset_ne h2, lset_ne h3]; exact k3
end

/-! ### STEP 1: THE WALK -/
set_option maxHeartbeats 4000000 in
set_option maxRecDepth 100000 in
theorem walk (a0f0 : Int) (a0f1 : Int) (a0f2 : Int) (a1f0 : Int) (a1f1 : Int) (a1f2 : Int) (a2x0 a2x1 : ByteArray) (w : World) (w0f0 : (Lit.int .u8 a0f0).wf = true) (w0f1 : (Lit.int .i64 a0f1).wf = true) (w0f2 : (Lit.int .u64 a0f2).wf = true) (w1f0 : (Lit.int .u8 a1f0).wf = true) (w1f1 : (Lit.int .i64 a1f1).wf = true) (w1f2 : (Lit.int .u64 a1f2).wf = true) (w2x0 : a2x0.size ≤ maxLen) (w2x1 : a2x1.size ≤ maxLen) :
    Calls Tryd.prog 5 #[.agg #[.int .u8 a0f0, .int .i64 a0f1, .int .u64 a0f2], .agg #[.int .u8 a1f0, .int .i64 a1f1, .int .u64 a1f2], .agg #[.string a2x0, .string a2x1]] w fun e w' => e = .returned (.bool true) ∧ Below w.heap.size w w' := by
  have hb0 := bounds_u8 w0f0
  have hb1 := bounds_u8 w1f0
  have hg := bounds_u64 w0f2
  have hg' := bounds_u64 w1f2
  obtain ⟨k, hk⟩ : ∃ k, k = tamK a0f0 := ⟨_, rfl⟩
  obtain ⟨a, ha⟩ : ∃ a, a = tamA a0f1 := ⟨_, rfl⟩
  obtain ⟨l, hl⟩ : ∃ k, k = tamK a1f0 := ⟨_, rfl⟩
  obtain ⟨c, hc⟩ : ∃ a, a = tamA a1f1 := ⟨_, rfl⟩
  obtain ⟨g, hgg⟩ : ∃ g, g = a0f2 := ⟨_, rfl⟩
  obtain ⟨f, hff⟩ : ∃ g, g = a1f2 := ⟨_, rfl⟩
  rw [← hgg] at hg ⊢
  rw [← hff] at hg' ⊢
  have HG1 := Lib.hid (show g < 18446744073709551616 by omega)
  have HF1 := Lib.hid (show f < 18446744073709551616 by omega)
  have hg0 : 0 ≤ g := hg.1
  have hf0 : 0 ≤ f := hg'.1
  have HK := Lib.hid hk
  have HA := Lib.hid ha
  have HL := Lib.hid hl
  have HC := Lib.hid hc
  obtain ⟨hk0, hk1⟩ := hb0
  obtain ⟨hl0, hl1⟩ := hb1
  clear w0f0 w0f1 w0f2 w1f0 w1f1 w1f2 hg hg' hk ha hl hc hgg hff
  go_enter Tryd.func5, Tryd.ntmps5
  go_wp2_with fail
  refine (Sum.make_any _).mono ?_
  rintro e w1 ⟨b, rfl, hb, ht, hb1⟩
  have HT := Lib.hid ht
  have hw1 : w.heap.size + 2 < w1.heap.size := by have := hb1.size; simp at this; omega
  have hx := New3.on (New3.al (n2 w (.int .u8 a0f0) (.int .i64 a0f1) (.int .u64 g) (.int .u8 a1f0) (.int .i64 a1f1) (.int .u64 f) _ _) _) hb1
  have hy := New3.on (New3.al (n3 w (.int .u8 a0f0) (.int .i64 a0f1) (.int .u64 g) (.int .u8 a1f0) (.int .i64 a1f1) (.int .u64 f) _ _) _) hb1
  obtain ⟨r0, r1, r2, _, _, _⟩ := hx
  obtain ⟨r3, r4, r5, _, _, _⟩ := hy
  have hs3 := str3 w (.cells #[.int .u8 a0f0, .int .i64 a0f1, .int .u64 g] 24) (.cells #[.int .u8 a1f0, .int .i64 a1f1, .int .u64 f] 24) (.string a2x0) (.string a2x1) 57
  have r6 : w1.cell? ⟨w.heap.size + 1 + 1, 0, none⟩ = some (.string a2x0) := by rw [hb1.cell (by simp)]; exact hs3.1
  have r7 : w1.cell? ⟨w.heap.size + 1 + 1, 1, none⟩ = some (.string a2x1) := by rw [hb1.cell (by simp)]; exact hs3.2
  clear hs3
  have HB1 := Lib.hid (below_on (below_nw (below_nw (below_new w _) _) _) hb1)
  clear ht hb hb1
  go_wp2_with fail
  go_upto_region 3 with fail
  go_cut [8, 9] (fun s t wx => ∃ g1 g2, s = .pointer (some ⟨g1, 0, none⟩) ∧ t = .pointer (some ⟨g2, 0, none⟩) ∧ New3 wx g1 (.int .u8 k) (.int .i64 a) (.int .u64 g) ∧ New3 wx g2 (.int .u8 l) (.int .i64 c) (.int .u64 f) ∧ Below w1.heap.size w1 wx)
  case first =>
    have hcS : w1.cell? ⟨w.heap.size, 0, none⟩ = some (.int .u8 a0f0) ∧ w1.cell? ⟨w.heap.size, 1, none⟩ = some (.int .i64 a0f1) ∧ w1.cell? ⟨w.heap.size, 2, none⟩ = some (.int .u64 g) ∧ w1.cell? ⟨w.heap.size + 1, 0, none⟩ = some (.int .u8 a1f0) ∧ w1.cell? ⟨w.heap.size + 1, 1, none⟩ = some (.int .i64 a1f1) ∧ w1.cell? ⟨w.heap.size + 1, 2, none⟩ = some (.int .u64 f) := ⟨r0, r1, r2, r3, r4, r5⟩
    have hcSd : w1.drew.cell? ⟨w.heap.size, 0, none⟩ = some (.int .u8 a0f0) ∧ w1.drew.cell? ⟨w.heap.size, 1, none⟩ = some (.int .i64 a0f1) ∧ w1.drew.cell? ⟨w.heap.size, 2, none⟩ = some (.int .u64 g) ∧ w1.drew.cell? ⟨w.heap.size + 1, 0, none⟩ = some (.int .u8 a1f0) ∧ w1.drew.cell? ⟨w.heap.size + 1, 1, none⟩ = some (.int .i64 a1f1) ∧ w1.drew.cell? ⟨w.heap.size + 1, 2, none⟩ = some (.int .u64 f) := hcS
    clear r6 r7
    -- CUT[
    refine Reg.region_vals3 (by kernel_rfl) [(24, .agg #[.int .u8 a0f0, .int .i64 a0f1, .int .u64 g]), (25, .agg #[.int .u8 k, .int .i64 a, .int .u64 g]), (26, .agg #[.int .u8 a1f0, .int .i64 a1f1, .int .u64 f]), (27, .agg #[.int .u8 l, .int .i64 c, .int .u64 f])] [8, 9]
      (Duo w1 8 9 4 5 6 7 (.int .u8 k) (.int .i64 a) (.int .u64 g) (.int .u8 l) (.int .i64 c) (.int .u64 f)) ?a1 ?a2 ?a3 ?a4 ?a5 ?a6 ?a7 ?hend
    case a1 => kernel_rfl
    case a2 => kernel_rfl
    case a3 => kernel_rfl
    case a4 => kernel_rfl
    case a5 => kernel_rfl
    case a6 => exact Duo.start _
    case a7 =>
      refine ⟨?_, ?_, ?_, ?_, ?_, ?_, ?_, ?_, trivial⟩
      · -- 0: 24 := load 3
        intro aq wq lq hz hI hl hdone hlater hold hd ho
        have h3 : aq.tmps.getD 3 undef = .pointer (some ⟨w.heap.size, 0, none⟩) := ho 3 (by kernel_rfl)
        clear hd ho hdone hlater hold
        rw [Array.getD_eq_getD_getElem?] at h3
        obtain ⟨e0, e1, e2, e3, e4, e5⟩ := keep6 hcS hI.1
        refine Reg.step3_val (.agg #[.int .u8 a0f0, .int .i64 a0f1, .int .u64 g]) ?_ rfl (hI.keep _ (Below.refl _ _) (by decide) (by decide) (by decide) (by decide) (by decide) (by decide) (by have hz' : aq.tmps.size = 127 := hz; omega)) trivial
        clear hz
        go_simp
      · -- 1: 25 := tame 24
        intro aq wq lq hz hI hl hdone hlater hold hd ho
        have h3 : aq.tmps.getD 24 undef = .agg #[.int .u8 a0f0, .int .i64 a0f1, .int .u64 g] := hd 24 (by kernel_rfl)
        clear hd ho hdone hlater hold
        rw [Array.getD_eq_getD_getElem?] at h3
        have hc : 25 < aq.tmps.size := by have hz' : aq.tmps.size = 127 := hz; omega
        refine Reg.step3_call 8 #[.agg #[.int .u8 a0f0, .int .i64 a0f1, .int .u64 g]] ?_ ((tame_any a0f0 a0f1 g wq hk0 hk1).mono ?_)
        · clear hz hc
          simp [execOp]
          go_simp
        · rintro e w' ⟨rfl, hb⟩
          refine ⟨_, rfl, ?_, hI.keep _ hb (by decide) (by decide) (by decide) (by decide) (by decide) (by decide) hc, trivial⟩
          rw [← HK.out, ← HA.out]
          rfl
      · -- 2: 26 := load 4
        intro aq wq lq hz hI hl hdone hlater hold hd ho
        have h3 : aq.tmps.getD 4 undef = .pointer (some ⟨w.heap.size + 1, 0, none⟩) := ho 4 (by kernel_rfl)
        clear hd ho hdone hlater hold
        rw [Array.getD_eq_getD_getElem?] at h3
        obtain ⟨e0, e1, e2, e3, e4, e5⟩ := keep6 hcS hI.1
        refine Reg.step3_val (.agg #[.int .u8 a1f0, .int .i64 a1f1, .int .u64 f]) ?_ rfl (hI.keep _ (Below.refl _ _) (by decide) (by decide) (by decide) (by decide) (by decide) (by decide) (by have hz' : aq.tmps.size = 127 := hz; omega)) trivial
        clear hz
        go_simp
      · -- 3: 27 := tame 26
        intro aq wq lq hz hI hl hdone hlater hold hd ho
        have h3 : aq.tmps.getD 26 undef = .agg #[.int .u8 a1f0, .int .i64 a1f1, .int .u64 f] := hd 26 (by kernel_rfl)
        clear hd ho hdone hlater hold
        rw [Array.getD_eq_getD_getElem?] at h3
        have hc : 27 < aq.tmps.size := by have hz' : aq.tmps.size = 127 := hz; omega
        refine Reg.step3_call 8 #[.agg #[.int .u8 a1f0, .int .i64 a1f1, .int .u64 f]] ?_ ((tame_any a1f0 a1f1 f wq hl0 hl1).mono ?_)
        · clear hz hc
          simp [execOp]
          go_simp
        · rintro e w' ⟨rfl, hb⟩
          refine ⟨_, rfl, ?_, hI.keep _ hb (by decide) (by decide) (by decide) (by decide) (by decide) (by decide) hc, trivial⟩
          rw [← HL.out, ← HC.out]
          rfl
      · -- 4: 8 := alloc
        intro aq wq lq hz hI hl hdone hlater hold hd ho
        have hst : lq 6 = false := hlater 6 (by kernel_rfl)
        clear hd ho hdone hlater hold
        have hc : 8 < aq.tmps.size := by have hz' : aq.tmps.size = 127 := hz; omega
        refine Reg.step3_do (.pointer (some ⟨wq.heap.size, 0, none⟩)) (wq.alloc (.cells #[.int .u8 0, .int .i64 0, .int .u64 0] 24)) ?_ trivial (Duo.mk hI _ _ _ _ hst (by decide) (by decide) (by decide) (by decide) hc) trivial
        clear hz hc
        simp [execOp]
        go_simp
      · -- 5: 9 := alloc
        intro aq wq lq hz hI hl hdone hlater hold hd ho
        have hst : lq 7 = false := hlater 7 (by kernel_rfl)
        clear hd ho hdone hlater hold
        have hc : 9 < aq.tmps.size := by have hz' : aq.tmps.size = 127 := hz; omega
        refine Reg.step3_do (.pointer (some ⟨wq.heap.size, 0, none⟩)) (wq.alloc (.cells #[.int .u8 0, .int .i64 0, .int .u64 0] 24)) ?_ trivial (Duo.swap (Duo.mk hI.swap _ _ _ _ hst (by decide) (by decide) (by decide) (by decide) hc)) trivial
        clear hz hc
        simp [execOp]
        go_simp
      · -- 6: store 8 25
        intro aq wq lq hz hI hl hdone hlater hold hd ho
        have h3 : aq.tmps.getD 25 undef = .agg #[.int .u8 k, .int .i64 a, .int .u64 g] := hd 25 (by kernel_rfl)
        have hia : lq 4 = true := hdone 4 (by kernel_rfl)
        clear hd ho hdone hlater hold hz
        obtain ⟨q, h4, ⟨u, v, t, e0, e1, e2, f0, f1, f2⟩, hD⟩ := hI.st hia (by decide) (by decide) (by decide)
        rw [Array.getD_eq_getD_getElem?] at h3 h4
        refine Reg.step3_skip (((wq.setCell ⟨q, 0, none⟩ (.int .u8 k)).setCell ⟨q, 1, none⟩ (.int .i64 a)).setCell ⟨q, 2, none⟩ (.int .u64 g)) rfl ?_ hD trivial
        simp [execOp]
        go_simp
      · -- 7: store 9 27
        intro aq wq lq hz hI hl hdone hlater hold hd ho
        have h3 : aq.tmps.getD 27 undef = .agg #[.int .u8 l, .int .i64 c, .int .u64 f] := hd 27 (by kernel_rfl)
        have hia : lq 5 = true := hdone 5 (by kernel_rfl)
        clear hd ho hdone hlater hold hz
        obtain ⟨q, h4, ⟨u, v, t, e0, e1, e2, f0, f1, f2⟩, hD⟩ := hI.swap.st hia (by decide) (by decide) (by decide)
        rw [Array.getD_eq_getD_getElem?] at h3 h4
        refine Reg.step3_skip (((wq.setCell ⟨q, 0, none⟩ (.int .u8 l)).setCell ⟨q, 1, none⟩ (.int .i64 c)).setCell ⟨q, 2, none⟩ (.int .u64 f)) rfl ?_ hD.swap trivial
        simp [execOp]
        go_simp
    case hend =>
      intro wx v aq hv hI
      obtain ⟨hbx, q, r, k1, k2, k3⟩ := hI
      obtain ⟨g1, _, u1, v1, t1, hn1, ee1⟩ := k1 rfl
      obtain ⟨g2, _, u2, v2, t2, hn2, ee2⟩ := k2 rfl
      obtain ⟨rfl, rfl, rfl⟩ := ee1 rfl
      obtain ⟨rfl, rfl, rfl⟩ := ee2 rfl
      rw [hv 8 (by decide)] at g1
      rw [hv 9 (by decide)] at g2
      clear hv
      have HN1 := Lib.hid hn1
      have HN2 := Lib.hid hn2
      have HBX := Lib.hid hbx
      clear hn1 hn2 hbx k1 k2 k3 ee1 ee2
      simp only [Reg.fill, List.map_cons, List.map_nil, List.foldl_cons, List.foldl_nil, List.setIfInBounds_toArray, List.set_cons_zero, List.set_cons_succ]
      rw [g1, g2]
      go_wp2
      go_meet
      exact ⟨q, r, rfl, rfl, HN1.out, HN2.out, HBX.out⟩
    -- ]CUT
  case rest =>
    obtain ⟨g1, g2, rfl, rfl, hN1, hN2, hbx⟩ := hcut
    obtain ⟨m, hm⟩ : ∃ n : Nat, n = min a2x0.size 104 := ⟨_, rfl⟩
    obtain ⟨n, hn⟩ : ∃ n : Nat, n = min a2x1.size 104 := ⟨_, rfl⟩
    have hmin0 : min (a2x0.size : Int) 104 = (m : Int) := by omega
    have hmin1 : min (a2x1.size : Int) 104 = (n : Int) := by omega
    have hm0 : (0 : Int) ≤ (m : Int) := by omega
    have hm1 : m ≤ a2x0.size := by omega
    have hm2 : (m : Int) ≤ (a2x0.size : Int) := by omega
    have hn0 : (0 : Int) ≤ (n : Int) := by omega
    have hn1 : n ≤ a2x1.size := by omega
    have hn2 : (n : Int) ≤ (a2x1.size : Int) := by omega
    obtain ⟨p, hp⟩ : ∃ x, x = a2x0.extract 0 m := ⟨_, rfl⟩
    obtain ⟨q, hq⟩ : ∃ x, x = a2x1.extract 0 n := ⟨_, rfl⟩
    have hps : p.size ≤ 104 := by rw [hp]; simp; omega
    have hqs : q.size ≤ 104 := by rw [hq]; simp; omega
    have HP := Lib.hid hp
    have HQ := Lib.hid hq
    have hlw2 : w.heap.size + 1 + 1 < w1.heap.size := by omega
    have s0 : wc.cell? ⟨w.heap.size + 1 + 1, 0, none⟩ = some (.string a2x0) := by rw [hbx.cell hlw2]; exact r6
    have s1 : wc.cell? ⟨w.heap.size + 1 + 1, 1, none⟩ = some (.string a2x1) := by rw [hbx.cell hlw2]; exact r7
    have hx1 : wc.cell? ⟨w.heap.size, 1, none⟩ = some (.int .i64 a0f1) := by rw [hbx.cell (by show w.heap.size < _; omega)]; exact r1
    have HX1 := Lib.hid hx1
    have HN1 := Lib.hid hN1
    have HN2 := Lib.hid hN2
    have HTX := Lib.hid (tab_on HT.out hbx)
    have HBX := Lib.hid (below_on HB1.out hbx)
    have hxl : w.heap.size < wc.heap.size := by have := hbx.size; omega
    clear hx1 hN1 hN2 hbx hp hq hm hn r0 r1 r2 r3 r4 r5 r6 r7
    have hn1' := HN1.out
    obtain ⟨x0, x1, x2, _, _, _⟩ := hn1'
    go_wp2_with fail
    go_quiet (fail)
    go_wp2_with fail
    rw [← HP.out, ← HQ.out]
    refine (of_head _ _ _ _).mono ?_
    rintro e wo ⟨rfl, hbo⟩
    have hbo := below_on (below_dn (Below.refl _ wc) nq) hbo
    have HBO := Lib.hid (below_on HBX.out hbo)
    have HTO := Lib.hid (tab_on HTX.out hbo)
    have HN2o := Lib.hid (New3.on HN2.out hbo)
    have HN1o := Lib.hid (New3.on HN1.out hbo)
    have HXo := Lib.hid (show wo.cell? ⟨w.heap.size, 1, none⟩ = some (.int .i64 a0f1) by rw [hbo.cell hxl]; exact HX1.out)
    have hxo : w.heap.size < wo.heap.size := Nat.lt_of_lt_of_le hxl hbo.size
    clear hbo s0 s1 x0 x1 x2 hmin0 hmin1 hm0 hm1 hm2 hn0 hn1 hn2
    have hh1 : hdB k a = true := by rw [HK.out, HA.out]; exact tam_ok _ _
    have hh2 : hdB l c = true := by rw [HL.out, HC.out]; exact tam_ok _ _
    have hpl : p.data.toList.length ≤ 104 := by simp; omega
    have hql : q.data.toList.length ≤ 104 := by simp; omega
    obtain ⟨im, him⟩ : ∃ x, x = imgL k a g 104 p.data.toList := ⟨_, rfl⟩
    obtain ⟨jm, hjm⟩ : ∃ x, x = imgL l c f 104 q.data.toList := ⟨_, rfl⟩
    obtain ⟨ck, hck⟩ : ∃ x : Nat, x = ckL k p.data.toList.length a g (bodyL 104 p.data.toList) := ⟨_, rfl⟩
    obtain ⟨cj, hcj⟩ : ∃ x : Nat, x = ckL l q.data.toList.length c f (bodyL 104 q.data.toList) := ⟨_, rfl⟩
    have hsv : sealV 128 k a g p.data.toList = .tuple #[.string (Lend.strOf im), .agg #[.int .i64 a, .int .u64 g, .int .u32 (ck : Int)], .int .i64 0] := by
      rw [sealV_yes (sealE_ok rfl hh1 (by omega)), him, hck]; rfl
    have hsv' : sealV 128 l c f q.data.toList = .tuple #[.string (Lend.strOf jm), .agg #[.int .i64 c, .int .u64 f, .int .u32 (cj : Int)], .int .i64 0] := by
      rw [sealV_yes (sealE_ok rfl hh2 (by omega)), hjm, hcj]; rfl
    have hE := (img_o (m := 104) (pl := p.data.toList) hh1 hg0 HG1.out hpl (by decide) (by decide)).1
    rw [← him] at hE
    have hil := imgL_length k a g 104 p.data.toList hpl
    rw [← him] at hil
    have hinj : im = jm → k = l ∧ a = c ∧ g = f ∧ p = q := by
      intro he
      rw [him, hjm] at he
      obtain ⟨h1, h2, h3, h4⟩ := img_inj hh1 hh2 hg0 HG1.out hf0 HF1.out hpl hql (by decide) (by decide) he
      refine ⟨h1, h2, h3, ?_⟩
      cases p; cases q; simp_all
    have hsame : k = l → a = c → g = f → p = q → jm = im := by
      intro h1 h2 h3 h4
      rw [him, hjm, h1, h2, h3, h4]
    obtain ⟨s, hs⟩ : ∃ s, s = Lend.strOf im := ⟨_, rfl⟩
    obtain ⟨u, hu⟩ : ∃ s, s = Lend.strOf jm := ⟨_, rfl⟩
    have hsl : s.size = 128 := by rw [hs]; exact hil
    have hsd : s.data.toList = im := by rw [hs]; rfl
    have hne : ¬ (k = l ∧ a = c ∧ g = f ∧ p = q) → ¬ s = u := by
      intro h he
      apply h; apply hinj
      have := congrArg (fun x : ByteArray => x.data.toList) he
      rw [hs, hu] at this
      exact this
    have heq : k = l → a = c → g = f → p = q → u = s := by
      intro h1 h2 h3 h4
      rw [hs, hu, hsame h1 h2 h3 h4]
    have HSV := Lib.hid hsv
    have HSV' := Lib.hid hsv'
    have HS := Lib.hid hs
    have HU := Lib.hid hu
    have HE := Lib.hid hE
    have HSL := Lib.hid hsl
    have HSD := Lib.hid hsd
    have HNE := Lib.hid hne
    have HEQ := Lib.hid heq
    clear hsv hsv' hs hu hE hsl hsd hne heq hinj hsame hil hck hcj him hjm hpl hql hh1 hh2
    go_wp2_with fail
    refine (seal_any b 128 k a g p _ HTO.out hg0 HG1.out (by omega)).mono ?_
    rintro e ws ⟨rfl, hbs⟩
    rw [HSV.out, ← HS.out]
    have HBS := Lib.hid (below_on HBO.out hbs)
    have HTS := Lib.hid (tab_on HTO.out hbs)
    have HN1s := Lib.hid (New3.on HN1o.out hbs)
    have hN2s := New3.on HN2o.out hbs
    have HN2s := Lib.hid hN2s
    obtain ⟨x0, x1, x2, _, _, _⟩ := hN2s
    have hx2b := World.block_lt_of_cell? _ _ x0
    have HXs := Lib.hid (show ws.cell? ⟨w.heap.size, 1, none⟩ = some (.int .i64 a0f1) by rw [hbs.cell hxo]; exact HXo.out)
    clear hbs
    go_wp2_with fail
    refine (of_head _ _ _ _).mono ?_
    rintro e wp ⟨rfl, hbp⟩
    have hbp := below_on (below_new ws _) hbp
    have HBP := Lib.hid (below_on HBS.out hbp)
    have HTP := Lib.hid (tab_on HTS.out hbp)
    have HN1p := Lib.hid (New3.on HN1s.out hbp)
    have HN2p := Lib.hid (New3.on HN2s.out hbp)
    have HXp := Lib.hid (show wp.cell? ⟨w.heap.size, 1, none⟩ = some (.int .i64 a0f1) by rw [hbp.cell (World.block_lt_of_cell? _ _ HXs.out)]; exact HXs.out)
    clear hbp x0 x1 x2 hx2b
    go_wp2_with fail
    refine (seal_any b 128 l c f q _ HTP.out hf0 HF1.out (by omega)).mono ?_
    rintro e wq ⟨rfl, hbq⟩
    rw [HSV'.out, ← HU.out]
    have HBQ := Lib.hid (below_nw (below_on HBP.out hbq) (.cells #[.int .i64 c, .int .u64 f, .int .u32 (cj : Int)] 32))
    have HTQ := Lib.hid (tab_nw (tab_on HTP.out hbq) (.cells #[.int .i64 c, .int .u64 f, .int .u32 (cj : Int)] 32))
    have HN1q := Lib.hid (New3.on (New3.on HN1p.out hbq) (below_new _ (.cells #[.int .i64 c, .int .u64 f, .int .u32 (cj : Int)] 32)))
    have HN2q := Lib.hid (New3.on (New3.on HN2p.out hbq) (below_new _ (.cells #[.int .i64 c, .int .u64 f, .int .u32 (cj : Int)] 32)))
    have HXq := Lib.hid (show (wq.alloc (.cells #[.int .i64 c, .int .u64 f, .int .u32 (cj : Int)] 32)).cell? ⟨w.heap.size, 1, none⟩ = some (.int .i64 a0f1) by
      have h1 := World.block_lt_of_cell? _ _ HXp.out
      rw [(below_new wq _).cell (Nat.lt_of_lt_of_le h1 hbq.size), hbq.cell h1]; exact HXp.out)
    clear hbq
    go_upto_region 6 with fail
    obtain ⟨W, hW⟩ : ∃ W, W = wq.alloc (.cells #[.int .i64 c, .int .u64 f, .int .u32 (cj : Int)] 32) := ⟨_, rfl⟩
    rw [← hW] at HBQ HTQ HN1q HN2q HXq ⊢
    clear hW
    go_cut [88] (fun t wx => t = .bool false ∧ Below W.heap.size W wx)
    case first =>
      have hsl := HSL.out
      go_wp2_with fail
      refine (wakes_any _).mono ?_
      rintro e wz ⟨rfl, hbz⟩
      have HN1z := New3.on HN1q.out hbz
      have HN2z := New3.on HN2q.out hbz
      obtain ⟨x0, x1, x2, _, _, _⟩ := HN1z
      obtain ⟨y0, y1, y2, _, _, _⟩ := HN2z
      have HBZ := Lib.hid hbz
      clear hbz
      by_cases h1 : k = l
      · by_cases h2 : a = c
        · by_cases h3 : g = f
          · by_cases h4 : p = q
            · have hus := HEQ.out h1 h2 h3 h4
              subst h1 h2 h3 h4 hus
              go_wp2_with fail
              go_meet
              exact ⟨rfl, HBZ.out⟩
            · have hn := HNE.out (fun h => h4 h.2.2.2)
              subst h1 h2 h3
              have e1 := text_ne hn
              have e2 := text_ne h4
              go_wp2_with fail
              go_meet
              exact ⟨rfl, HBZ.out⟩
          · have hn := HNE.out (fun h => h3 h.2.2.1)
            subst h1 h2
            have e1 := text_ne hn
            have e2 : decide (g = f) = false := by simpa using h3
            have e3 : (g == f) = false := by simpa using h3
            go_wp2_with fail
            go_meet
            exact ⟨rfl, HBZ.out⟩
        · have hn := HNE.out (fun h => h2 h.2.1)
          subst h1
          have e1 := text_ne hn
          have e2 : decide (a = c) = false := by simpa using h2
          have e3 : (a == c) = false := by simpa using h2
          go_wp2_with fail
          go_meet
          exact ⟨rfl, HBZ.out⟩
      · have hn := HNE.out (fun h => h1 h.1)
        have e1 := text_ne hn
        have e2 : decide (k = l) = false := by simpa using h1
        have e3 : (k == l) = false := by simpa using h1
        go_wp2_with fail
        go_meet
        exact ⟨rfl, HBZ.out⟩
    case rest =>
      obtain ⟨rfl, hbz⟩ := hcut
      have HBZ := Lib.hid (below_on HBQ.out hbz)
      have HTZ := Lib.hid (tab_on HTQ.out hbz)
      have hxz : wc.cell? ⟨w.heap.size, 1, none⟩ = some (.int .i64 a0f1) := by rw [hbz.cell (World.block_lt_of_cell? _ _ HXq.out)]; exact HXq.out
      have HXZ := Lib.hid hxz
      have hxl := World.block_lt_of_cell? _ _ hxz
      obtain ⟨D, hD, hand⟩ := and_127 a0f1
      clear hbz hxz
      go_wp2_with fail
      obtain ⟨ib, hib⟩ : ∃ x, x = wc.heap.size := ⟨_, rfl⟩
      obtain ⟨Wi, hWi⟩ : ∃ x, x = wc.iter s 0 := ⟨_, rfl⟩
      have hst : Wi.heap[ib]? = some (.stringIter s 0) := by rw [hWi, hib]; exact World.iter_heap _ _ _
      have hbi : Below wc.heap.size wc Wi := by rw [hWi]; exact below_new wc _
      rw [← hib, ← hWi]
      have HIB := Lib.hid hib
      clear hib hWi
      go_loopw [18] (fun _ wr => ∃ pos : Nat, wr.heap[ib]? = some (.stringIter s pos) ∧ Below wc.heap.size wc wr) (fun _ wr => s.size - wr.iterPos ib)
      case atStart => exact ⟨0, hst, hbi⟩
      case round =>
        obtain ⟨pos, hk, hbr⟩ := hrel
        clear hst hbi
        by_cases hp : pos < s.size
        · have hnext : ∀ ty, (Instr.next (.pointer (some ⟨ib, 0, none⟩)) true ty).run Tryd.prog wr = _ := fun ty => Lib.run_next_any_at wr ib s pos ty hk hp
          have hd1 := decode_one s pos hp
          have hk1 := Lib.iterAt_heap wr ib s pos (pos + (Utf8.decode s pos).2) hk
          have hb1 : Below wc.heap.size wc (wr.iterAt ib s (pos + (Utf8.decode s pos).2)) := Lib.below_iterAt hbr (by rw [HIB.out]; exact Nat.le_refl _) s _
          have hmu : wr.iterPos ib = pos := by simp [World.iterPos, hk]
          generalize (Utf8.decode s pos).1 = r at hnext
          generalize (Utf8.decode s pos).2 = d at hnext hk1 hb1 hd1
          generalize wr.iterAt ib s (pos + d) = W1 at hnext hk1 hb1
          have hx1 : W1.cell? ⟨w.heap.size, 1, none⟩ = some (.int .i64 a0f1) := by rw [hb1.cell hxl]; exact HXZ.out
          have hxd : W1.drew.cell? ⟨w.heap.size, 1, none⟩ = some (.int .i64 a0f1) := hx1
          have HTW := Lib.hid (tab_on HTZ.out hb1)
          have HBW := Lib.hid hb1
          have hib1 : ib < W1.heap.size := (Array.getElem?_eq_some_iff.1 hk1).1
          have HK1 := Lib.hid hk1
          obtain ⟨B, hB⟩ : ∃ B : UInt8, B = UInt8.ofNat (s[pos].toNat ^^^ (1 + D)) := ⟨_, rfl⟩
          have hxlt : s[pos].toNat ^^^ (1 + D) < 256 := Nat.xor_lt_two_pow (n := 8) (Sum.u8_lt _) (by omega)
          have hBn : B.toNat = s[pos].toNat ^^^ (1 + D) := by rw [hB, UInt8.toNat_ofNat', Nat.mod_eq_of_lt hxlt]
          have hxor : bits .xor .u8 (s[pos].toNat : Int) (1 + (D : Int)) = (B.toNat : Int) := by
            rw [hBn, ← u8_xor_nat s[pos].toNat (1 + D) (Sum.u8_lt _) (by omega)]; rfl
          have hcv := run_string_one W1.drew (B.toNat : Int)
          rw [Int.toNat_natCast, UInt8.ofNat_toNat] at hcv
          have hcvd : (convert 58 9 (.slice (some ⟨W1.heap.size, 0, none⟩) 1 1)).run Tryd.prog (W1.alloc (.cells #[.int .u8 (B.toNat : Int)] 5)).drew = .ok (.string (Lend.strOf [B])) (W1.alloc (.cells #[.int .u8 (B.toNat : Int)] 5)).drew := hcv
          have hT := turned s pos hp B
          have hTl : (s.extract 0 pos ++ Lend.strOf [B] ++ s.extract (pos + 1) s.size).size ≤ 1000 := by
            rw [sz_of hT, List.length_set]; have := HSL.out; simp; omega
          have hone := one_byte im pos (1 + D) B HE.out (by rw [← HSD.out]; simpa using hp) (by omega) (by omega) (by
            rw [hBn, ← HSD.out, List.getD_eq_getElem?_getD, List.getElem?_eq_getElem (by simpa using hp)]; rfl)
          have hopE : opE (s.extract 0 pos ++ Lend.strOf [B] ++ s.extract (pos + 1) s.size).data.toList ≠ 0 := by rw [hT, HSD.out]; exact hone
          have HOP := Lib.hid hopE
          have hp1 : (pos : Int) < (s.size : Int) := by omega
          have hp0 : (0 : Int) ≤ (pos : Int) := by omega
          have hp2 : ((pos : Int) + 1) ≤ (s.size : Int) := by omega
          have hp3 : (0 : Int) ≤ (pos : Int) + 1 := by omega
          have hpw : IntKind.i64.wrap ((pos : Int) + 1) = (pos : Int) + 1 := IntWalk.i64_in _ (by have := HSL.out; omega)
          have hpn : ((pos : Int) + 1).toNat = pos + 1 := by omega
          have hD1 : (D : Int) ≤ 127 := by omega
          have hD0 : (0 : Int) ≤ (D : Int) := by omega
          have wD : IntKind.u8.wrap (D : Int) = D := by rw [IntKind.wrap_u8]; omega
          have wE : IntKind.u8.wrap (1 + (D : Int)) = 1 + D := by rw [IntKind.wrap_u8]; omega
          have hs1 : (s.extract 0 pos).size ≤ 128 := by have := HSL.out; simp; omega
          have hs2 : (s.extract (pos + 1) s.size).size ≤ 128 := by have := HSL.out; simp; omega
          have hs3 : (Lend.strOf [B]).size ≤ 1 := Nat.le_refl _
          have hpe : (pos : Int) ≤ (s.size : Int) := by omega
          have hpe2 : pos ≤ s.size := by omega
          have hpe3 : pos + 1 ≤ s.size := by omega
          obtain ⟨P1, hP1⟩ : ∃ x, s.extract 0 pos = x := ⟨_, rfl⟩
          obtain ⟨P2, hP2⟩ : ∃ x, s.extract (pos + 1) s.size = x := ⟨_, rfl⟩
          obtain ⟨S1, hS1⟩ : ∃ x, Lend.strOf [B] = x := ⟨_, rfl⟩
          rw [hP1] at hs1
          rw [hP2] at hs2
          rw [hS1] at hs3 hcvd
          rw [hP1, hP2, hS1] at HOP hTl
          have hcat1 : ¬ 9223372036854775807 < P1.size + S1.size := by omega
          have hcat2 : ¬ 9223372036854775807 < P1.size + S1.size + P2.size := by omega
          clear hk hbr hk1 hb1 hB hBn hT hone hopE hcv hxlt
          go_wp2_with fail
          have HXD := Lib.hid hxd
          have HCV := Lib.hid hcvd
          refine Reg.region_vals (by kernel_rfl) [(94, .string s), (95, .int .i64 (pos : Int)), (96, .string P1), (97, .string s), (98, .int .i64 (pos : Int)), (99, .int .u8 (s[pos].toNat : Int)), (100, .pointer (some ⟨w.heap.size, 1, none⟩)), (101, .int .i64 a0f1), (102, .int .i64 (D : Int)), (103, .int .u8 (D : Int)), (104, .int .u8 (1 + (D : Int))), (105, .int .u8 (B.toNat : Int)), (106, .slice (some ⟨W1.heap.size, 0, none⟩) 1 1), (107, .string S1), (108, .string (P1 ++ S1)), (109, .string s), (110, .int .i64 (pos : Int)), (111, .int .i64 ((pos : Int) + 1)), (112, .string P2), (113, .string (P1 ++ S1 ++ P2)), (19, .string (P1 ++ S1 ++ P2))] (fun l wx => Mid (W1.alloc (.cells #[.int .u8 (B.toNat : Int)] 5)).drew W1.drew (l 12) wx) (by kernel_rfl) (by kernel_rfl) (by kernel_rfl) (rfl) ⟨?_, ?_, ?_, ?_, ?_, ?_, ?_, ?_, ?_, ?_, ?_, ?_, ?_, ?_, ?_, ?_, ?_, ?_, ?_, ?_, ?_, trivial⟩ ?hend
          · -- 0: 94 := Op.move t12
            intro aq wq lq hI hl hdone hlater hold hd ho
            have h12 : aq.tmps.getD 12 undef = .string s := ho 12 (by kernel_rfl)
            clear hd ho hdone hlater hold
            exact Reg.step2_move (.tmp 12) rfl h12 hI trivial
          · -- 1: 95 := Op.move t18
            intro aq wq lq hI hl hdone hlater hold hd ho
            have h18 : aq.tmps.getD 18 undef = .int .i64 (pos : Int) := ho 18 (by kernel_rfl)
            clear hd ho hdone hlater hold
            exact Reg.step2_move (.tmp 18) rfl h18 hI trivial
          · -- 2: 96 := Op.slice 9 t94 none (some t95) none
            intro aq wq lq hI hl hdone hlater hold hd ho
            have h94 : aq.tmps.getD 94 undef = .string s := hd 94 (by kernel_rfl)
            have h95 : aq.tmps.getD 95 undef = .int .i64 (pos : Int) := hd 95 (by kernel_rfl)
            clear hd ho hdone hlater hold
            rw [Array.getD_eq_getD_getElem?] at h94 h95
            refine Reg.step2_val (.string P1) ?_ rfl hI trivial
            simp [execOp, Act.eval, h94, h95]
            try go_simp
          · -- 3: 97 := Op.move t12
            intro aq wq lq hI hl hdone hlater hold hd ho
            have h12 : aq.tmps.getD 12 undef = .string s := ho 12 (by kernel_rfl)
            clear hd ho hdone hlater hold
            exact Reg.step2_move (.tmp 12) rfl h12 hI trivial
          · -- 4: 98 := Op.move t18
            intro aq wq lq hI hl hdone hlater hold hd ho
            have h18 : aq.tmps.getD 18 undef = .int .i64 (pos : Int) := ho 18 (by kernel_rfl)
            clear hd ho hdone hlater hold
            exact Reg.step2_move (.tmp 18) rfl h18 hI trivial
          · -- 5: 99 := Op.index 9 t97 t98
            intro aq wq lq hI hl hdone hlater hold hd ho
            have h97 : aq.tmps.getD 97 undef = .string s := hd 97 (by kernel_rfl)
            have h98 : aq.tmps.getD 98 undef = .int .i64 (pos : Int) := hd 98 (by kernel_rfl)
            clear hd ho hdone hlater hold
            rw [Array.getD_eq_getD_getElem?] at h97 h98
            refine Reg.step2_val (.int .u8 (s[pos].toNat : Int)) ?_ rfl hI trivial
            simp [execOp, Act.eval, h97, h98]
            try go_simp
          · -- 6: 100 := Op.fieldAddr 24 t3 1
            intro aq wq lq hI hl hdone hlater hold hd ho
            have h3 : aq.tmps.getD 3 undef = .pointer (some ⟨w.heap.size, 0, none⟩) := ho 3 (by kernel_rfl)
            clear hd ho hdone hlater hold
            rw [Array.getD_eq_getD_getElem?] at h3
            refine Reg.step2_val (.pointer (some ⟨w.heap.size, 1, none⟩)) ?_ rfl hI trivial
            go_simp
          · -- 7: 101 := Op.load 3 t100
            intro aq wq lq hI hl hdone hlater hold hd ho
            have h100 : aq.tmps.getD 100 undef = .pointer (some ⟨w.heap.size, 1, none⟩) := hd 100 (by kernel_rfl)
            clear hd ho hdone hlater hold
            rw [Array.getD_eq_getD_getElem?] at h100
            have e0 : wq.cell? ⟨w.heap.size, 1, none⟩ = some (.int .i64 a0f1) := hI.keep (keep1 HXD.out (below_new _ _)) HXD.out
            refine Reg.step2_val (.int .i64 a0f1) ?_ rfl hI trivial
            go_simp
          · -- 8: 102 := Op.binOp BinOp.and 3 t101 (const (127:i64)) 3
            intro aq wq lq hI hl hdone hlater hold hd ho
            have h101 : aq.tmps.getD 101 undef = .int .i64 a0f1 := hd 101 (by kernel_rfl)
            clear hd ho hdone hlater hold
            rw [Array.getD_eq_getD_getElem?] at h101
            refine Reg.step2_val (.int .i64 (D : Int)) ?_ rfl hI trivial
            simp [execOp, Act.eval, h101]
            try go_simp
          · -- 9: 103 := Op.convert 3 5 t102
            intro aq wq lq hI hl hdone hlater hold hd ho
            have h102 : aq.tmps.getD 102 undef = .int .i64 (D : Int) := hd 102 (by kernel_rfl)
            clear hd ho hdone hlater hold
            rw [Array.getD_eq_getD_getElem?] at h102
            refine Reg.step2_val (.int .u8 (D : Int)) ?_ rfl hI trivial
            simp [execOp, Act.eval, h102]
            try go_simp
          · -- 10: 104 := Op.binOp BinOp.add 5 (const (1:u8)) t103 5
            intro aq wq lq hI hl hdone hlater hold hd ho
            have h103 : aq.tmps.getD 103 undef = .int .u8 (D : Int) := hd 103 (by kernel_rfl)
            clear hd ho hdone hlater hold
            rw [Array.getD_eq_getD_getElem?] at h103
            refine Reg.step2_val (.int .u8 (1 + (D : Int))) ?_ rfl hI trivial
            simp [execOp, Act.eval, h103]
            try go_simp
          · -- 11: 105 := Op.binOp BinOp.xor 5 t99 t104 5
            intro aq wq lq hI hl hdone hlater hold hd ho
            have h99 : aq.tmps.getD 99 undef = .int .u8 (s[pos].toNat : Int) := hd 99 (by kernel_rfl)
            have h104 : aq.tmps.getD 104 undef = .int .u8 (1 + (D : Int)) := hd 104 (by kernel_rfl)
            clear hd ho hdone hlater hold
            rw [Array.getD_eq_getD_getElem?] at h99 h104
            refine Reg.step2_val (.int .u8 (B.toNat : Int)) ?_ rfl hI trivial
            simp [execOp, Act.eval, h99, h104]
            try go_simp
          · -- 12: 106 := Op.buildSlice 58 1 #((0, t105))
            intro aq wq lq hI hl hdone hlater hold hd ho
            have h105 : aq.tmps.getD 105 undef = .int .u8 (B.toNat : Int) := hd 105 (by kernel_rfl)
            clear hd ho hdone hlater hold
            rw [Array.getD_eq_getD_getElem?] at h105
            rw [show lq 12 = false from hl] at hI
            obtain rfl := Mid.no hI
            clear hI
            refine Reg.step2_do (.slice (some ⟨W1.heap.size, 0, none⟩) 1 1) (W1.alloc (.cells #[.int .u8 (B.toNat : Int)] 5)).drew ?_ rfl rfl trivial
            simp [execOp]
            go_simp
          · -- 13: 107 := Op.convert 58 9 t106
            intro aq wq lq hI hl hdone hlater hold hd ho
            have h106 : aq.tmps.getD 106 undef = .slice (some ⟨W1.heap.size, 0, none⟩) 1 1 := hd 106 (by kernel_rfl)
            have gd12 : lq 12 = true := hdone 12 (by kernel_rfl)
            clear hd ho hdone hlater hold
            rw [Array.getD_eq_getD_getElem?] at h106
            rw [gd12] at hI
            obtain rfl := Mid.yes hI
            refine Reg.step2_val (.string S1) ?_ rfl (by show Mid _ _ (Reg.lset lq 13 12) _; rw [show Reg.lset lq 13 12 = lq 12 from rfl, gd12]; exact hI) trivial
            clear hI
            have hcv := HCV.out
            simp [execOp]
            go_simp
          · -- 14: 108 := Op.binOp BinOp.add 9 t96 t107 9
            intro aq wq lq hI hl hdone hlater hold hd ho
            have h96 : aq.tmps.getD 96 undef = .string P1 := hd 96 (by kernel_rfl)
            have h107 : aq.tmps.getD 107 undef = .string S1 := hd 107 (by kernel_rfl)
            clear hd ho hdone hlater hold
            rw [Array.getD_eq_getD_getElem?] at h96 h107
            refine Reg.step2_val (.string (P1 ++ S1)) ?_ rfl hI trivial
            simp [execOp, Act.eval, h96, h107]
            try go_simp
          · -- 15: 109 := Op.move t12
            intro aq wq lq hI hl hdone hlater hold hd ho
            have h12 : aq.tmps.getD 12 undef = .string s := ho 12 (by kernel_rfl)
            clear hd ho hdone hlater hold
            exact Reg.step2_move (.tmp 12) rfl h12 hI trivial
          · -- 16: 110 := Op.move t18
            intro aq wq lq hI hl hdone hlater hold hd ho
            have h18 : aq.tmps.getD 18 undef = .int .i64 (pos : Int) := ho 18 (by kernel_rfl)
            clear hd ho hdone hlater hold
            exact Reg.step2_move (.tmp 18) rfl h18 hI trivial
          · -- 17: 111 := Op.binOp BinOp.add 3 t110 (const (1:i64)) 3
            intro aq wq lq hI hl hdone hlater hold hd ho
            have h110 : aq.tmps.getD 110 undef = .int .i64 (pos : Int) := hd 110 (by kernel_rfl)
            clear hd ho hdone hlater hold
            rw [Array.getD_eq_getD_getElem?] at h110
            refine Reg.step2_val (.int .i64 ((pos : Int) + 1)) ?_ rfl hI trivial
            simp [execOp, Act.eval, h110]
            try go_simp
          · -- 18: 112 := Op.slice 9 t109 (some t111) none none
            intro aq wq lq hI hl hdone hlater hold hd ho
            have h109 : aq.tmps.getD 109 undef = .string s := hd 109 (by kernel_rfl)
            have h111 : aq.tmps.getD 111 undef = .int .i64 ((pos : Int) + 1) := hd 111 (by kernel_rfl)
            clear hd ho hdone hlater hold
            rw [Array.getD_eq_getD_getElem?] at h109 h111
            refine Reg.step2_val (.string P2) ?_ rfl hI trivial
            simp [execOp, Act.eval, h109, h111]
            try go_simp
          · -- 19: 113 := Op.binOp BinOp.add 9 t108 t112 9
            intro aq wq lq hI hl hdone hlater hold hd ho
            have h108 : aq.tmps.getD 108 undef = .string (P1 ++ S1) := hd 108 (by kernel_rfl)
            have h112 : aq.tmps.getD 112 undef = .string P2 := hd 112 (by kernel_rfl)
            clear hd ho hdone hlater hold
            rw [Array.getD_eq_getD_getElem?] at h108 h112
            refine Reg.step2_val (.string (P1 ++ S1 ++ P2)) ?_ rfl hI trivial
            simp [execOp, Act.eval, h108, h112]
            try go_simp
          · -- 20: 19 := Op.assign t113
            intro aq wq lq hI hl hdone hlater hold hd ho
            have h113 : aq.tmps.getD 113 undef = .string (P1 ++ S1 ++ P2) := hd 113 (by kernel_rfl)
            clear hd ho hdone hlater hold
            exact Reg.step2_assign (.tmp 113) rfl h113 hI trivial
          case hend =>
            intro wx hI
            obtain rfl := Mid.yes hI
            clear hI
            simp only [Reg.fill, List.foldl_cons, List.foldl_nil, List.setIfInBounds_toArray, List.set_cons_zero, List.set_cons_succ]
            go_wp2_with fail
            obtain ⟨T, hT⟩ : ∃ T, T = P1 ++ S1 ++ P2 := ⟨_, rfl⟩
            rw [← hT] at HOP hTl ⊢
            refine (open_any b T _ (tab_dr (tab_nw HTW.out _)) (by omega)).mono ?_
            rintro e w5 ⟨rfl, hb5⟩
            have HF := Lib.hid (below_nw (below_on (below_dr (below_new W1 _)) hb5) (.cells #[.int .u8 0, .int .i64 0, .int .u64 0] 38))
            have hit : (w5.alloc (.cells #[.int .u8 0, .int .i64 0, .int .u64 0] 38)).heap[ib]? = some (.stringIter s (pos + d)) := by rw [HF.out.block ib hib1]; exact HK1.out
            have hmv : (w5.alloc (.cells #[.int .u8 0, .int .i64 0, .int .u64 0] 38)).iterPos ib = pos + d := by simp [World.iterPos, hit]
            have HIT := Lib.hid hit
            have HMV := Lib.hid hmv
            have HMU := Lib.hid hmu
            clear hb5 hit hmv hmu hT
            rcases opE_vals T.data.toList with h0 | h4 | h5
            · exact absurd h0 HOP.out
            · rw [open3V_no h4 (by decide)]
              clear h4
              go_wp2_with fail
              go_roundw
              case rel => exact ⟨pos + d, HIT.out, below_on HBW.out HF.out⟩
              case measure => rw [HMV.out, HMU.out]; omega
            · rw [open3V_no h5 (by decide)]
              clear h5
              go_wp2_with fail
              go_roundw
              case rel => exact ⟨pos + d, HIT.out, below_on HBW.out HF.out⟩
              case measure => rw [HMV.out, HMU.out]; omega
        · have hnext : ∀ ty, (Instr.next (.pointer (some ⟨ib, 0, none⟩)) true ty).run Tryd.prog wr = _ := fun ty => Lib.run_next_end_at wr ib s pos ty hk hp
          have HBR := Lib.hid (below_on HBZ.out hbr)
          clear hbr
          go_wp2_with fail
          go_ret
          exact ⟨rfl, HBR.out⟩

set_option maxRecDepth 100000 in
theorem contract (H : Type) (enc : TypeId × Value → H) (W : World) (base : Nat) (args : Array Value) (ds gs : List (DataW H)) (before : List MemPlace)
    (hval0 : ∀ (j : Nat) t v, Tryd.f5.params[j]? = some t → args[j]? = some v → Value.okWide Tryd.prog W .any base t v)
    (hW : DataW.Whole enc Tryd.prog Tryd.f5.params.toList Rows.envTellsSpec.vars false W args.toList ds gs before) :
    Calls Tryd.prog 5 args W fun e W' => ∃ v, e = .returned v ∧ Rows.envTellsSpec.post enc Tryd.prog Tryd.f5 false true false false W args v W' := by
  have hval : ∀ (j : Nat) t v, Tryd.f5.params[j]? = some t → args[j]? = some v → Value.okWide Tryd.prog W .any base t v := hval0
  have hW' := hW
  obtain ⟨p, q, hA0, hV, rfl, hfz, hnd⟩ := hW
  have hA : DataW.TrodAll enc Tryd.prog W 0 (fun _ => true) true Tryd.f5.params.toList args.toList ds p := hA0
  rw [Tryd.params5] at hA hval
  obtain ⟨v0, vs0, d0, ds0, p0, q0, hargs, rfl, rfl, h0, r0⟩ := trodAll_cons hA
  obtain ⟨v1, vs1, d1, ds1, p1, q1, rfl, rfl, rfl, h1, r1⟩ := trodAll_cons r0
  obtain ⟨v2, vs2, d2, ds2, p2, q2, rfl, rfl, rfl, h2, r2⟩ := trodAll_cons r1
  obtain ⟨rfl, rfl, rfl⟩ := trodAll_nil r2
  obtain rfl : args = #[v0, v1, v2] := by cases args; simp_all
  obtain ⟨rfl, rfl⟩ := trodVars_none hV
  have k0 := h0
  have lt0 : ∀ x ∈ p0, x.block < W.heap.size := by obtain ⟨m, hm⟩ := k0; exact DataW.trod_lt m _ _ _ hm
  obtain ⟨cs0, rfl, hl0, hc0⟩ := open_struct_cells Tryd.underlying24 (by kernel_rfl) (by kernel_rfl) (hval 0 24 v0 rfl rfl) h0
  obtain ⟨y0_0, y0_1, y0_2, rfl⟩ := len3 cs0 hl0
  obtain ⟨a0f0, rfl, w0f0⟩ := open_int_cell Tryd.underlying5 (hc0 0 _ _ rfl rfl)
  obtain ⟨a0f1, rfl, w0f1⟩ := open_int_cell Tryd.underlying3 (hc0 1 _ _ rfl rfl)
  obtain ⟨a0f2, rfl, w0f2⟩ := open_int_cell Tryd.underlying22 (hc0 2 _ _ rfl rfl)
  have k1 := h1
  have lt1 : ∀ x ∈ p1, x.block < W.heap.size := by obtain ⟨m, hm⟩ := k1; exact DataW.trod_lt m _ _ _ hm
  obtain ⟨cs1, rfl, hl1, hc1⟩ := open_struct_cells Tryd.underlying24 (by kernel_rfl) (by kernel_rfl) (hval 1 24 v1 rfl rfl) h1
  obtain ⟨y1_0, y1_1, y1_2, rfl⟩ := len3 cs1 hl1
  obtain ⟨a1f0, rfl, w1f0⟩ := open_int_cell Tryd.underlying5 (hc1 0 _ _ rfl rfl)
  obtain ⟨a1f1, rfl, w1f1⟩ := open_int_cell Tryd.underlying3 (hc1 1 _ _ rfl rfl)
  obtain ⟨a1f2, rfl, w1f2⟩ := open_int_cell Tryd.underlying22 (hc1 2 _ _ rfl rfl)
  have k2 := h2
  have lt2 : ∀ x ∈ p2, x.block < W.heap.size := by obtain ⟨m, hm⟩ := k2; exact DataW.trod_lt m _ _ _ hm
  obtain ⟨cs2, rfl, hl2, hc2⟩ := open_arr Tryd.underlying57 (by kernel_rfl) (by kernel_rfl) (hval 2 57 v2 rfl rfl) h2
  obtain ⟨y2_0, y2_1, rfl⟩ := len2 cs2 hl2
  obtain ⟨a2x0, rfl, w2x0⟩ := open_str_cell Tryd.underlying9 (hc2 0 _ rfl)
  obtain ⟨a2x1, rfl, w2x1⟩ := open_str_cell Tryd.underlying9 (hc2 1 _ rfl)
  clear hA0 hval0
  refine (walk a0f0 a0f1 a0f2 a1f0 a1f1 a1f2 a2x0 a2x1 W w0f0 w0f1 w0f2 w1f0 w1f1 w1f2 w2x0 w2x1).mono fun e W' ⟨he, bel⟩ => ?_
  subst he
  exact ⟨_, rfl, _, _, _, [], _, [], hW', trodAll_mk1 (shut_bool Tryd.underlying4 _), (trodAll_cons_mk (Below.trod laidOut (by kernel_rfl) (of_decide_eq_true (by kernel_rfl)) k0 bel lt0) (trodAll_cons_mk (Below.trod laidOut (by kernel_rfl) (of_decide_eq_true (by kernel_rfl)) k1 bel lt1) (trodAll_cons_mk (Below.trod laidOut (by kernel_rfl) (of_decide_eq_true (by kernel_rfl)) k2 bel lt2) trodAll_mk0))), rfl, bel.frame _, fun h => by cases h⟩

noncomputable def laidWorld (os : Os) : World :=
  { World.holding Tryd.prog os ⟨#[], #[], []⟩ with heap := (((((World.holding Tryd.prog os ⟨#[], #[], []⟩).heap).modify 2 fun | .cells _ t frozen => .cells (#[.int .u8 128, .int .u8 191, .int .u8 160, .int .u8 191, .int .u8 128, .int .u8 159, .int .u8 144, .int .u8 191, .int .u8 128, .int .u8 143, .int .u8 0, .int .u8 0, .int .u8 0, .int .u8 0, .int .u8 0, .int .u8 0, .int .u8 0, .int .u8 0, .int .u8 0, .int .u8 0, .int .u8 0, .int .u8 0, .int .u8 0, .int .u8 0, .int .u8 0, .int .u8 0, .int .u8 0, .int .u8 0, .int .u8 0, .int .u8 0, .int .u8 0, .int .u8 0]) t frozen | o => o)).modify 1 fun | .cells _ t frozen => .cells ((Go.Pinned.utf8FirstZ.map fun z : Nat => Value.int .u8 (z : Int)).toArray) t frozen | o => o) }
theorem laid_met (os : Os) : laidMet Tryd.prog Rows.envTellsRow.laid ((laidWorld os).forCall (fun _ _ => 0) ⟨#[], #[.agg #[.int .u8 0, .int .i64 0, .int .u64 0], .agg #[.int .u8 0, .int .i64 0, .int .u64 0], .agg #[.string ByteArray.empty, .string ByteArray.empty]], []⟩).memory :=
  laidMet_of_run' 8 (by kernel_rfl) (by kernel_rfl)
theorem reads (os : Os) {H : Type} (enc : TypeId × Value → H) : ∃ places, DataW.whole enc Tryd.prog ((laidWorld os).forCall (fun _ _ => 0) ⟨#[], #[.agg #[.int .u8 0, .int .i64 0, .int .u64 0], .agg #[.int .u8 0, .int .i64 0, .int .u64 0], .agg #[.string ByteArray.empty, .string ByteArray.empty]], []⟩).memory Tryd.f5.params.toList Rows.envTellsSpec.vars false (#[.agg #[.int .u8 0, .int .i64 0, .int .u64 0], .agg #[.int .u8 0, .int .i64 0, .int .u64 0], .agg #[.string ByteArray.empty, .string ByteArray.empty]] : Array Value).toList 8 = some ([.agg [.lit (.int .u8 0), .lit (.int .i64 0), .lit (.int .u64 0)], .agg [.lit (.int .u8 0), .lit (.int .i64 0), .lit (.int .u64 0)], .agg [.lit (.string []), .lit (.string [])]], [], places) :=
  ⟨[], by kernel_rfl⟩

set_option maxRecDepth 100000 in
theorem lifted (os : Os) (started : os.Started) (H : Type) (enc : TypeId × Value → H) (F : Stop.Interp) :
    ReturnsInHanded {} Tryd.checked os 5 .any ((OpenSpec.ofChange Rows.envTellsSpec).preRow enc Tryd.prog Tryd.f5 Rows.envTellsRow.domain false Rows.envTellsRow.laid) (((OpenSpec.ofChange Rows.envTellsSpec).at F).post enc Tryd.prog Tryd.f5 false true false false) := by
  obtain ⟨places, hx⟩ := reads os enc
  refine returnsInHanded_of_row (C := Tryd.checked) (s := OpenSpec.ofChange Rows.envTellsSpec) own started (by kernel_rfl) Tryd.func5
    (witness_row_at (enc := enc) (C := Tryd.checked) false (laidWorld os) #[.agg #[.int .u8 0, .int .i64 0, .int .u64 0], .agg #[.int .u8 0, .int .i64 0, .int .u64 0], .agg #[.string ByteArray.empty, .string ByteArray.empty]] rfl (by kernel_rfl) (by kernel_rfl) (by kernel_rfl)
      (OpenSpec.preRow_of_cond 8 hx (by kernel_rfl) (fun k hk => by cases hk) (by kernel_rfl) (laid_met os))) ?_
  intro W base args ds gs before hval hW _ _ _ hL _ _
  exact contract H enc W base args ds gs before hval hW

theorem said : Rows.EnvTellsSaid :=
  OpenClaim.holds_of_cond 5 Tryd.f5 rfl rfl rfl rfl rfl rfl rfl ⟨rfl, rfl, rfl, rfl, rfl⟩ rfl rfl rfl rfl rfl (by kernel_rfl) Tryd.func5 (by kernel_rfl)
    (of_decide_eq_true (by kernel_rfl)) (by unfold Func.isWrapper; first | (rw [if_pos (by decide +kernel)]; kernel_rfl) | (rw [if_neg (by decide +kernel)]; exact ⟨rfl, rfl⟩))
    (fun os started H enc _ F => by rw [OpenClaim.pre_eq_preRow]; exact lifted os started H enc F)

theorem plain (f : FuncId) (fn : Func) (hf : Tryd.pinned.checked.prog.funcNamed "treenail/treenaillaw04.EnvTells" = some f) (hfn : Tryd.pinned.checked.prog.funcs[f]? = some fn) :
    false = Tryd.pinned.checked.prog.looks [] ∧ ∀ (j : Nat) t, fn.params[j]? = some t → Tryd.pinned.checked.prog.wantsStandIn t = false := by
  obtain rfl : f = 5 := Option.some.inj ((show Tryd.prog.funcNamed "treenail/treenaillaw04.EnvTells" = some 5 by kernel_rfl).symm.trans hf) |>.symm
  obtain rfl : fn = Tryd.f5 := (Option.some.inj (Tryd.func5.symm.trans hfn)).symm
  refine ⟨by kernel_rfl, fun j t ht => ?_⟩
  rw [Tryd.params5] at ht
  rcases j with _ | _ | _ | j
  · obtain rfl : t = 24 := by simpa using ht.symm
    exact (show Tryd.prog.wantsStandIn 24 = false by kernel_rfl)
  · obtain rfl : t = 24 := by simpa using ht.symm
    exact (show Tryd.prog.wantsStandIn 24 = false by kernel_rfl)
  · obtain rfl : t = 57 := by simpa using ht.symm
    exact (show Tryd.prog.wantsStandIn 57 = false by kernel_rfl)
  · simp at ht

/-- THE STATEMENT -/
theorem proved : Rows.EnvTellsCardSaid :=
  Claim7.holds_tied_plain_at .later [] _ _ _ _ said (fun _ h => by cases h) (by kernel_rfl) (fun _ h => by cases h) envTells_row_tie rfl ⟨rfl, rfl⟩ (by kernel_rfl) rfl plain (by kernel_rfl)
#print axioms proved
end Go.Proofs.YtbbhkoeoelmnlaaDoor.envTells
