/- Layer 17 (node), for the document's Parse: what it answers, and a region that looks, makes a block, appends and stores, in any order. -/
import Derived.Test.YtfclecbhfamomaaNoT
import Derived.Test.YtfclecbhfamomaaRefRecP
import Derived.Test.YtfclecbhfamomaaRegionV
namespace Go.Proofs.Ytfclecbhfamomaa.Node
open Go Go.RowKit Go.Proofs.Ytfclecbhfamomaa Go.Proofs.Ytfclecbhfamomaa.Lend Go.Proofs.Ytfclecbhfamomaa.Rec Go.Proofs.Ytfclecbhfamomaa.Msg Go.Proofs.Ytfclecbhfamomaa.Buf
set_option linter.unusedVariables false

/-- what Parse answers -/
def pnK (s : List UInt8) : Option (List Ch × List Up) := match s with
  | [] => none
  | b :: r => match kidsL b.toNat r with
    | none => none
    | some (cs, t) => if paN t = 0 ∧ nodB cs (paU t) = true then some (cs, paU t) else none
def pnN (s : List UInt8) : Int := match pnK s with | some _ => 0 | none => 4
def pnC (s : List UInt8) : List Ch := match pnK s with | some p => p.1 | none => []
def pnU (s : List UInt8) : List Up := match pnK s with | some p => p.2 | none => []
theorem pn_none {s : List UInt8} (h : pnK s = none) : pnN s = 4 ∧ pnC s = [] ∧ pnU s = [] := by unfold pnN pnC pnU; rw [h]; exact ⟨rfl, rfl, rfl⟩
theorem pn_some {s : List UInt8} {cs : List Ch} {us : List Up} (h : pnK s = some (cs, us)) : pnN s = 0 ∧ pnC s = cs ∧ pnU s = us := by unfold pnN pnC pnU; rw [h]; exact ⟨rfl, rfl, rfl⟩
theorem pnK_kids {b : UInt8} {r : List UInt8} (h : kidsL b.toNat r = none) : pnK (b :: r) = none := by
  show (match kidsL b.toNat r with | none => none | some (cs, t) => if paN t = 0 ∧ nodB cs (paU t) = true then some (cs, paU t) else none) = none
  rw [h]
theorem pnK_at {b : UInt8} {r t : List UInt8} {cs : List Ch} (h : kidsL b.toNat r = some (cs, t)) : pnK (b :: r) = if paN t = 0 ∧ nodB cs (paU t) = true then some (cs, paU t) else none := by
  show (match kidsL b.toNat r with | none => none | some (cs, t) => if paN t = 0 ∧ nodB cs (paU t) = true then some (cs, paU t) else none) = _
  rw [h]
/-- updates that were read of bytes have numbers that are in their kinds -/
theorem fin1_wf {u u' : Up} {r r' : List UInt8} (h : fin1 u r = some (u', r')) (hd : 0 ≤ u.delta ∧ u.delta < 18446744073709551616) : WfU u' := by
  unfold fin1 at h
  split at h
  · rename_i hc
    simp only [Option.some.injEq, Prod.mk.injEq] at h
    obtain ⟨rfl, rfl⟩ := h
    obtain ⟨_, _, _, k1, k2, _⟩ := chkU_ok hc
    exact ⟨by omega, by omega, hd.1, hd.2⟩
  · cases h
theorem par1_wf {s r : List UInt8} {u : Up} (h : par1 s = some (u, r)) : WfU u := by
  cases s with
  | nil => cases h
  | cons k s =>
    have e : par1 (k :: s) = match spl2 s with
      | none => none
      | some (key, rest) =>
        if k = 1 then match spl2 rest with
          | none => none
          | some (v, more) => fin1 ⟨1, key, v, 0⟩ more
        else if k = 3 then (if rest.length < 8 then none else fin1 ⟨3, key, [], getL (rest.take 8)⟩ (rest.drop 8))
        else fin1 ⟨k.toNat, key, [], 0⟩ rest := rfl
    rw [e] at h
    cases hs : spl2 s with
    | none => rw [hs] at h; cases h
    | some p =>
      obtain ⟨key, rest⟩ := p
      rw [hs] at h
      simp only at h
      by_cases h1 : k = 1
      · rw [if_pos h1] at h
        cases hq : spl2 rest with
        | none => rw [hq] at h; cases h
        | some p =>
          obtain ⟨v, more⟩ := p
          rw [hq] at h
          exact fin1_wf h ⟨Int.le_refl _, show (0 : Int) < 18446744073709551616 by decide⟩
      · rw [if_neg h1] at h
        by_cases h3 : k = 3
        · rw [if_pos h3] at h
          by_cases h8 : rest.length < 8
          · rw [if_pos h8] at h; cases h
          · rw [if_neg h8] at h
            have hb := Env.getL_lt (rest.take 8) 8 18446744073709551616 (by simp; omega) rfl
            exact fin1_wf h ⟨by show (0 : Int) ≤ ((getL (rest.take 8) : Nat) : Int); omega, by show ((getL (rest.take 8) : Nat) : Int) < 18446744073709551616; omega⟩
        · rw [if_neg h3] at h
          exact fin1_wf h ⟨Int.le_refl _, show (0 : Int) < 18446744073709551616 by decide⟩
theorem parN_wf : ∀ (n : Nat) (s : List UInt8) (l : List Up), parN n s = some l → ∀ u ∈ l, WfU u
  | n, [], l, h => by
    have : parN n [] = some [] := by cases n <;> rfl
    rw [this] at h
    cases h
    intro u hu; cases hu
  | 0, _ :: _, l, h => by cases h
  | n + 1, x :: s, l, h => by
    rw [parN_cons n _ (by simp)] at h
    cases hp : par1 (x :: s) with
    | none => rw [hp] at h; cases h
    | some p =>
      obtain ⟨u, r⟩ := p
      rw [hp] at h
      simp only at h
      cases hq : parN n r with
      | none => rw [hq] at h; cases h
      | some m =>
        rw [hq] at h
        cases h
        intro y hy
        rcases List.mem_cons.1 hy with rfl | hy
        · exact par1_wf hp
        · exact parN_wf n r m hq y hy
theorem paU_wf (s : List UInt8) : ∀ u ∈ paU s, WfU u := by
  unfold paU
  split
  · rename_i l h
    split
    · exact parN_wf _ _ _ h
    · intro u hu; cases hu
  · intro u hu; cases hu
theorem paU_len (s : List UInt8) : (paU s).length ≤ s.length := by
  unfold paU
  split
  · rename_i l h
    split
    · exact parL_le h
    · simp
  · simp
/-- what is read of a child's numbers -/
theorem rd_ptr {r : List UInt8} (h : 16 ≤ r.length) : rdB [4, 8, 4] r = true ∧ rdN [4, 8, 4] r = [(getL (r.take 4) : Int), (getL ((r.drop 4).take 8) : Int), (getL ((r.drop 12).take 4) : Int)] ∧ rdS [4, 8, 4] r = r.drop 16 := by
  obtain ⟨h1, h2, h3⟩ := rd_ok (ws := [4, 8, 4]) (l := r) rfl (by show (16 : Int) ≤ _; omega)
  refine ⟨h1, ?_, h3⟩
  rw [h2]
  simp [rdL, List.drop_drop]
theorem rd_ptr_no {r : List UInt8} (h : ¬ 16 ≤ r.length) : rdB [4, 8, 4] r = false := (rd_no (ws := [4, 8, 4]) (l := r) (.inr (by show ¬ (16 : Int) ≤ _; omega))).1
theorem chU_wf (s : List UInt8) : WfC (chU s) ∧ (chU s).addr < 4294967296 ∧ 0 ≤ (chU s).addr := by
  unfold chU WfC
  have h1 := Env.getL_lt ((splR s).take 4) 4 4294967296 (by simp; omega) rfl
  have h2 := Env.getL_lt (((splR s).drop 4).take 8) 8 18446744073709551616 (by simp; omega) rfl
  have h3 := Env.getL_lt (((splR s).drop 12).take 4) 4 4294967296 (by simp; omega) rfl
  simp only
  omega
/-- a region that looks, makes a block (i0), appends it (i1), and stores what append answers (i2), in any order -/
structure Iw (W0 : World) (ob : Obj) (i0 i1 i2 d : Nat) (X : Value → World → Prop) (Y : World → Prop) (l : Nat → Bool) (a : Act) (w : World) : Prop where
  o1 : l i1 = true → l i0 = true
  o2 : l i2 = true → l i1 = true
  w0 : l i0 = false → w = W0.drew
  w1 : l i0 = true → l i1 = false → w = (W0.alloc ob).drew
  w2 : l i1 = true → l i2 = false → X (a.tmps.getD d undef) w
  w3 : l i2 = true → Y w
section
variable {W0 w w' : World} {ob : Obj} {i0 i1 i2 d : Nat} {X : Value → World → Prop} {Y : World → Prop} {l : Nat → Bool} {a : Act}
theorem lsetw_ne {l : Nat → Bool} {k j : Nat} (h : k ≠ j) : Reg.lset l k j = l j := by unfold Reg.lset; rw [if_neg h]
theorem lsetw_eq {l : Nat → Bool} {k : Nat} : Reg.lset l k k = true := by unfold Reg.lset; rw [if_pos rfl]
theorem Iw.start (a : Act) (W0 : World) : Iw W0 ob i0 i1 i2 d X Y (fun _ => false) a W0.drew := ⟨(fun e => by cases e), (fun e => by cases e), (fun _ => rfl), (fun e => by cases e), (fun e => by cases e), (fun e => by cases e)⟩
theorem Iw.no1 (h : Iw W0 ob i0 i1 i2 d X Y l a w) (hl : l i0 = false) : l i1 = false := by
  cases e : l i1 with
  | false => rfl
  | true => rw [h.o1 e] at hl; cases hl
theorem Iw.no2 (h : Iw W0 ob i0 i1 i2 d X Y l a w) (hl : l i1 = false) : l i2 = false := by
  cases e : l i2 with
  | false => rfl
  | true => rw [h.o2 e] at hl; cases hl
theorem Iw.bel (h : Iw W0 ob i0 i1 i2 d X Y l a w) (hl : l i1 = false) : Below W0.heap.size W0 w := by
  cases e : l i0 with
  | false => rw [h.w0 e]; exact (Below.refl _ _).drew
  | true => rw [h.w1 e hl]; exact (below_new _ _).drew
theorem Iw.still (h : Iw W0 ob i0 i1 i2 d X Y l a w) {k t : Nat} (v : Value) (h0 : k ≠ i0) (h1 : k ≠ i1) (h2 : k ≠ i2) (ht : t ≠ d) (hs : t < a.tmps.size) : Iw W0 ob i0 i1 i2 d X Y (Reg.lset l k) (a.put (some t) v) w := by
  have e0 : Reg.lset l k i0 = l i0 := lsetw_ne h0
  have e1 : Reg.lset l k i1 = l i1 := lsetw_ne h1
  have e2 : Reg.lset l k i2 = l i2 := lsetw_ne h2
  refine ⟨?_, ?_, ?_, ?_, ?_, ?_⟩
  · rw [e0, e1]; exact h.o1
  · rw [e1, e2]; exact h.o2
  · rw [e0]; exact h.w0
  · rw [e0, e1]; exact h.w1
  · rw [e1, e2, Reg.getD_put _ _ _ _ hs, if_neg ht]; exact h.w2
  · rw [e2]; exact h.w3
theorem Iw.new (h : Iw W0 ob i0 i1 i2 d X Y l a w) (h01 : i0 ≠ i1) (h02 : i0 ≠ i2) (hl : l i0 = false) {t : Nat} (v : Value) (hw : w' = (W0.alloc ob).drew) : Iw W0 ob i0 i1 i2 d X Y (Reg.lset l i0) (a.put (some t) v) w' := by
  have n1 := h.no1 hl
  have n2 := h.no2 n1
  have e0 : Reg.lset l i0 i0 = true := lsetw_eq
  have e1 : Reg.lset l i0 i1 = false := by rw [lsetw_ne h01]; exact n1
  have e2 : Reg.lset l i0 i2 = false := by rw [lsetw_ne h02]; exact n2
  exact ⟨(fun e => by rw [e1] at e; cases e), (fun e => by rw [e2] at e; cases e), (fun e => by rw [e0] at e; cases e), fun _ _ => hw, (fun e => by rw [e1] at e; cases e), (fun e => by rw [e2] at e; cases e)⟩
theorem Iw.app (h : Iw W0 ob i0 i1 i2 d X Y l a w) (h01 : i1 ≠ i0) (h12 : i1 ≠ i2) (h0 : l i0 = true) (hl : l i1 = false) {v : Value} (hs : d < a.tmps.size) (hx : X v w') : Iw W0 ob i0 i1 i2 d X Y (Reg.lset l i1) (a.put (some d) v) w' := by
  have n2 := h.no2 hl
  have e0 : Reg.lset l i1 i0 = true := by rw [lsetw_ne h01]; exact h0
  have e1 : Reg.lset l i1 i1 = true := lsetw_eq
  have e2 : Reg.lset l i1 i2 = false := by rw [lsetw_ne h12]; exact n2
  exact ⟨fun _ => e0, (fun e => by rw [e2] at e; cases e), (fun e => by rw [e0] at e; cases e), (fun _ e => by rw [e1] at e; cases e), fun _ _ => by rw [Reg.getD_put _ _ _ _ hs, if_pos rfl]; exact hx, (fun e => by rw [e2] at e; cases e)⟩
theorem Iw.stored (h : Iw W0 ob i0 i1 i2 d X Y l a w) (h20 : i2 ≠ i0) (h21 : i2 ≠ i1) (h1 : l i1 = true) (hy : Y w') : Iw W0 ob i0 i1 i2 d X Y (Reg.lset l i2) a w' := by
  have h0 := h.o1 h1
  have e0 : Reg.lset l i2 i0 = true := by rw [lsetw_ne h20]; exact h0
  have e1 : Reg.lset l i2 i1 = true := by rw [lsetw_ne h21]; exact h1
  have e2 : Reg.lset l i2 i2 = true := lsetw_eq
  exact ⟨fun _ => e0, fun _ => e1, (fun e => by rw [e0] at e; cases e), (fun _ e => by rw [e1] at e; cases e), (fun _ e => by rw [e2] at e; cases e), fun _ => hy⟩
theorem Iw.done {n : Nat} (h : Iw W0 ob i0 i1 i2 d X Y (fun j => decide (j < n)) a w) (hn : i2 < n) : Y w := h.w3 (by simpa using hn)
end
end Go.Proofs.Ytfclecbhfamomaa.Node
/- Layer 17 (node): the document's Parse. -/
namespace Go.Proofs.Ytfclecbhfamomaa.Node
open Go Go.RowKit Go.Proofs.Ytfclecbhfamomaa Go.Proofs.Ytfclecbhfamomaa.Lend Go.Proofs.Ytfclecbhfamomaa.Rec Go.Proofs.Ytfclecbhfamomaa.Msg Go.Proofs.Ytfclecbhfamomaa.Buf
set_option linter.unusedVariables false

theorem isC_d : IsC 50 := by unfold IsC; kernel_rfl
theorem und_c : Try.prog.underlying 32 = some (.slice 50) := Try.underlying32
/-- the three nodes in their blocks, and the children so far -/
structure N3 (w0 : World) (kv : Value) (l : List Ch) (w : World) : Prop where
  r : Has w w0.heap.size 35 [.slice none 0 0, .slice none 0 0]
  z : Has w (w0.heap.size + 1) 35 [.slice none 0 0, .slice none 0 0]
  n : Has w (w0.heap.size + 2) 35 [kv, .slice none 0 0]
  k : CO 50 w (w0.heap.size + 3) kv l
  bel : Below w0.heap.size w0 w
section
variable {w0 w w' : World} {kv cv : Value} {l l' : List Ch}
theorem N3.on (h : N3 w0 kv l w) (hb : Below w.heap.size w w') : N3 w0 kv l w' := ⟨h.r.below hb h.r.lt, h.z.below hb h.z.lt, h.n.below hb h.n.lt, own_bel h.k hb, below_on h.bel hb⟩
theorem N3.grown (h : N3 w0 kv l w) (hg : w.grownBy w' kv.ownBlock) : Has w' w0.heap.size 35 [.slice none 0 0, .slice none 0 0] ∧ Has w' (w0.heap.size + 1) 35 [.slice none 0 0, .slice none 0 0] ∧ Has w' (w0.heap.size + 2) 35 [kv, .slice none 0 0] ∧ Below w0.heap.size w0 w' :=
  ⟨h.r.same (hg.block _ h.r.lt fun e => by have := (h.k.lt _ e.symm).1; omega), h.z.same (hg.block _ h.z.lt fun e => by have := (h.k.lt _ e.symm).1; omega), h.n.same (hg.block _ h.n.lt fun e => by have := (h.k.lt _ e.symm).1; omega), h.bel.grown hg h.bel.size (fun q hq => by have := (h.k.lt _ hq).1; omega)⟩
theorem N3.new (w : World) : N3 w (.slice none 0 0) [] (((w.alloc (.cells #[.slice none 0 0, .slice none 0 0] 35)).alloc (.cells #[.slice none 0 0, .slice none 0 0] 35)).alloc (.cells #[.slice none 0 0, .slice none 0 0] 35)) := by
  have h1 := Has.new w [.slice none 0 0, .slice none 0 0] 35
  have h2 := Has.new (w.alloc (.cells [.slice none 0 0, .slice none 0 0].toArray 35)) [.slice none 0 0, .slice none 0 0] 35
  have h3 := Has.new ((w.alloc (.cells [.slice none 0 0, .slice none 0 0].toArray 35)).alloc (.cells [.slice none 0 0, .slice none 0 0].toArray 35)) [.slice none 0 0, .slice none 0 0] 35
  simp only [World.size_alloc] at h2 h3
  exact ⟨(h1.alloc _).alloc _, h2.alloc _, h3, World.ownsRow_nil _ _ _ _, below_nw (below_nw (below_new w _) _) _⟩
end
def Gc (g : Nat) (x : Ch) (W : World) : Prop := W.cell? ⟨g, 0, none⟩ = some (.int .u64 x.addr) ∧ W.cell? ⟨g, 1, none⟩ = some (.int .u64 x.gen) ∧ W.cell? ⟨g, 2, none⟩ = some (.int .u64 x.sum)
theorem gc_same {g : Nat} {x : Ch} {w w' : World} (h : Gc g x w) (hk : w'.heap[g]? = w.heap[g]?) : Gc g x w' := by
  unfold Gc World.cell? at *
  simp only [hk]
  exact h
theorem Iw.any {W0 w : World} {ob : Obj} {i0 i1 i2 d : Nat} {X : Value → World → Prop} {Y : World → Prop} {l : Nat → Bool} {a : Act} (h : Iw W0 ob i0 i1 i2 d X Y l a w) (Z : World → Prop) (z0 : Z W0.drew) (z1 : Z (W0.alloc ob).drew) (zx : ∀ v w, X v w → Z w) (zy : ∀ w, Y w → Z w) : Z w := by
  cases e0 : l i0 with
  | false => rw [h.w0 e0]; exact z0
  | true =>
    cases e1 : l i1 with
    | false => rw [h.w1 e0 e1]; exact z1
    | true =>
      cases e2 : l i2 with
      | false => exact zx _ _ (h.w2 e1 e2)
      | true => exact zy _ (h.w3 e2)
theorem row_st2 {w : World} {p B s n : Nat} {T : TypeId} {v : Value} {xs : List Value} (h : w.ownsRow B T s v n xs) (hp : p < B) {x y : Value} : ((w.setCell ⟨p, 0, none⟩ x).setCell ⟨p, 1, none⟩ y).ownsRow B T s v n xs := by
  have h1 : (w.setCell ⟨p, 0, none⟩ x).ownsRow B T s v n xs := owns_same h fun q e => Below.heap_setCell _ _ _ _ (fun e' => by have := (h.lt q e).1; simp at e'; omega)
  exact owns_same h1 fun q e => Below.heap_setCell _ _ _ _ (fun e' => by have := (h1.lt q e).1; simp at e'; omega)
theorem bel_st {w w' : World} {i : Nat} {v : Value} (h : Below w.heap.size w w') : Below w.heap.size w (w'.setCell ⟨w.heap.size, i, none⟩ v) := h.setCell (Nat.le_refl _) v
theorem N3.st {w0 w : World} {v : Value} {l' : List Ch} (hk : CO 50 w (w0.heap.size + 3) v l') (h1 : Has w w0.heap.size 35 [.slice none 0 0, .slice none 0 0]) (h2 : Has w (w0.heap.size + 1) 35 [.slice none 0 0, .slice none 0 0]) {u : Value} (h3 : Has w (w0.heap.size + 2) 35 [u, .slice none 0 0]) (hb : Below w0.heap.size w0 w) : N3 w0 v l' (w.setCell ⟨w0.heap.size + 2, 0, none⟩ v) :=
  ⟨h1.setOther (by show w0.heap.size + 2 ≠ w0.heap.size; omega) _, h2.setOther (by show w0.heap.size + 2 ≠ w0.heap.size + 1; omega) _, h3.set 0 v, owns_same hk fun k e => Below.heap_setCell _ _ _ _ (fun e' => by have := (hk.lt k e).1; simp at e'; omega), hb.setCell (by show w0.heap.size ≤ w0.heap.size + 2; omega) _⟩
/-- what Parse leaves -/
def NpP (w : World) (s : List UInt8) (e : Ending) (w' : World) : Prop := ∃ kv bv, e = .returned (.tuple #[.agg #[kv, bv], .int .i64 (pnN s)]) ∧ CO 50 w' w.heap.size kv (pnC s) ∧ RU w' w.heap.size bv (pnU s) ∧ Below w.heap.size w w'
theorem npP_none {w w' : World} {s : List UInt8} (h : pnK s = none) (hb : Below w.heap.size w w') : NpP w s (.returned (.tuple #[.agg #[.slice none 0 0, .slice none 0 0], .int .i64 4])) w' := by
  obtain ⟨h1, h2, h3⟩ := pn_none h
  exact ⟨_, _, by rw [h1], by rw [h2]; exact World.ownsRow_nil _ _ _ _, by rw [h3]; exact World.ownsRow_nil _ _ _ _, hb⟩
set_option maxRecDepth 100000 in
set_option maxHeartbeats 8000000 in
theorem nparse_any {s : List UInt8} (w : World) (hl : s.length ≤ 100000) : Calls Try.prog 18 #[.string (Lend.strOf s)] w (NpP w s) := by
  have hzb : ∀ W, (zeroValue 35).run Try.prog W = .ok (.agg #[.slice none 0 0, .slice none 0 0]) W := fun W => by kernel_rfl
  have hb1 : Below w.heap.size w ((w.alloc (.cells #[.slice none 0 0, .slice none 0 0] 35)).alloc (.cells #[.slice none 0 0, .slice none 0 0] 35)) := below_nw (below_new w _) _
  cases s with
  | nil =>
    have hz : (Lend.strOf []).size = 0 := rfl
    go_enter Try.func18, Try.ntmps18
    go_wp2_with fail
    have hr := (Has.new w [.slice none 0 0, .slice none 0 0] 35).alloc (.cells #[.slice none 0 0, .slice none 0 0] 35)
    have e0 : ((w.alloc (.cells #[.slice none 0 0, .slice none 0 0] 35)).alloc (.cells #[.slice none 0 0, .slice none 0 0] 35)).cell? ⟨w.heap.size, 0, none⟩ = some (.slice none 0 0) := hr.cell 0
    have e1 : ((w.alloc (.cells #[.slice none 0 0, .slice none 0 0] 35)).alloc (.cells #[.slice none 0 0, .slice none 0 0] 35)).cell? ⟨w.heap.size, 1, none⟩ = some (.slice none 0 0) := hr.cell 1
    exact bodyPost_ret (v := .tuple #[.agg #[.slice none 0 0, .slice none 0 0], .int .i64 4]) (by simp [results, Try.results18, go_sem, e0, e1]) rfl (npP_none rfl hb1)
  | cons b r =>
    have HN3 := Lib.hid (N3.new w)
    obtain ⟨w1, hw1⟩ : ∃ x, x = (((w.alloc (.cells #[.slice none 0 0, .slice none 0 0] 35)).alloc (.cells #[.slice none 0 0, .slice none 0 0] 35)).alloc (.cells #[.slice none 0 0, .slice none 0 0] 35)) := ⟨_, rfl⟩
    rw [← hw1] at HN3
    have hsz := ssize (b :: r)
    rw [List.length_cons] at hsz hl
    obtain ⟨T, hT⟩ : ∃ T, T = Lend.strOf (b :: r) := ⟨_, rfl⟩
    rw [← hT] at hsz ⊢
    have HT := Lib.hid hT
    have hp0 : 0 < T.size := by omega
    have hp1 : 1 ≤ T.size := by omega
    have hpi : ¬ (T.size : Int) < 1 := by omega
    have HL := Lib.hid hl
    have HEX := Lib.hid (show T.extract 1 (r.length + 1) = Lend.strOf r from by
      apply Lend.strOf_ext
      rw [Lib.extract_data, HT.out, Lend.strOf_data, List.drop_succ_cons, List.drop_zero]
      exact List.take_of_length_le (by omega))
    have HT0 := Lib.hid (show T[0] = b by have := HT.out; subst this; rfl)
    clear hT hb1 hl
    go_enter Try.func18, Try.ntmps18
    go_wp2_with fail
    rw [← hw1, HEX.out]
    clear hw1 hpi
    obtain ⟨k, hk⟩ : ∃ z, z = b.toNat := ⟨_, rfl⟩
    have hkT : (T[0].toNat : Int) = (k : Int) := by rw [HT0.out, hk]
    have HK := Lib.hid hk
    rw [hkT]
    have hwk : wrap64 (k : Int) = (k : Int) := by have := b.toNat_lt; rw [hk]; unfold wrap64; omega
    rw [hwk]
    have hkb : k ≤ 255 := by have := b.toNat_lt; omega
    clear hwk hk hkT HT0 hp0 hp1 hsz
    go_loopw [0, 7] (fun sv i wr => ∃ (j : Nat) (t : List UInt8) (l : List Ch) (kv : Value), j ≤ k ∧ i = .int .i64 j ∧ sv = .string (Lend.strOf t) ∧ Hid (kidsL j r = some (l, t)) ∧ N3 w kv l wr) (fun _ i _ => k - (intOf i).toNat)
    case atStart => exact ⟨0, r, [], _, Nat.zero_le _, rfl, rfl, Lib.hid rfl, HN3.out⟩
    case round =>
      obtain ⟨j, t, l, kv, hj, rfl, rfl, HKL, hn3⟩ := hrel
      rename World => wr
      have HN3r := Lib.hid hn3
      have htl : t.length ≤ 100000 := by have := (kidsL_len HKL.out).2; have := HL.out; omega
      have hsp := splR_le t
      have HLT := Lib.hid htl
      by_cases hlt : j < k
      · have hji : (j : Int) < (k : Int) := by omega
        have HSP := Lib.hid (refsplit_at t wr (by omega))
        have HSR := Lib.hid (show (Lend.strOf (splR t)).size ≤ 1000000 by rw [ssize]; omega)
        clear hn3 htl hsp
        go_wp2_with fail
        refine HSP.out.mono ?_
        clear HSP
        rintro e w2 ⟨rfl, hb2⟩
        have HN32 := Lib.hid (HN3r.out.on hb2)
        have R1 := Lib.hid (Row.threeAt .i64 w2 4 8 4 3 _ rfl)
        have HN33 := Lib.hid (HN32.out.on (below_new w2 (.cells #[.int .i64 4, .int .i64 8, .int .i64 4] 3)))
        have HRD := Lib.hid (refread_any (some ⟨w2.heap.size, 0, none⟩) 3 3 [4, 8, 4] (Lend.strOf (splR t)) _ R1.out (by decide) HSR.out)
        rw [Lend.strOf_data] at HRD
        clear hb2 R1
        go_wp2_with fail
        refine HRD.out.mono ?_
        clear HRD
        rintro e w3 ⟨bo, m, lc, rfl, how, hb3⟩
        have HN3c := Lib.hid (HN33.out.on hb3)
        have HOW := Lib.hid how
        clear how hb3
        obtain ⟨ka, kc, hkv, _⟩ := own_shape HN3c.out.k
        subst hkv
        obtain ⟨kn, hkn⟩ : ∃ z, z = l.length := ⟨_, rfl⟩
        rw [← hkn] at HN3r HN32 HN33 HN3c
        have hkvb : Value.ownBlock (.slice ka kn kc) = Value.ownBlock (.slice ka kn kc) := rfl
        have HLL := Lib.hid (show l.length ≤ 1000000 by have := (kidsL_len HKL.out).1; have := b.toNat_lt; have := HK.out; omega)
        have hz0 := HN3c.out.z.cell 0
        have hz1 := HN3c.out.z.cell 1
        have hr0 := HN3c.out.r.cell 0
        have hr1 := HN3c.out.r.cell 1
        have hf0 := HN3c.out.r.frozen 0
        have hf1 := HN3c.out.r.frozen 1
        simp only [List.getElem?_cons_zero, List.getElem?_cons_succ] at hz0 hz1 hr0 hr1
        by_cases hch : chB t = true
        · have hs : splB t = true ∧ 16 ≤ (splR t).length := by
            unfold chB at hch
            simpa using hch
          obtain ⟨hb1, hb2, hb3⟩ := rd_ptr hs.2
          have HKS := Lib.hid (show kidsL (j + 1) r = some (l ++ [chU t], chR t) by rw [kidsL_snoc, HKL.out]; simp [hch])
          rw [hb2] at HOW
          rw [hb1, hb3, hs.1]
          obtain rfl : m = 3 := by have := HOW.out.1; simpa using this.symm
          obtain ⟨g, lc', hbo, _, hgB⟩ := own_some HOW.out (by decide)
          simp only [Value.slice.injEq, true_and] at hbo
          obtain ⟨rfl, rfl⟩ := hbo
          obtain ⟨hwc, hwa, hwa0⟩ := chU_wf t
          obtain ⟨x, hx⟩ : ∃ x, x = chU t := ⟨_, rfl⟩
          have HG0 := Lib.hid (show w3.cell? ⟨g, 0, none⟩ = some (.int .u64 x.addr) by
            have := HOW.out.cells rfl 0 _ rfl
            rw [Addr.add_lit, Nat.zero_add] at this
            rw [this, hx]; rfl)
          have HG1 := Lib.hid (show w3.cell? ⟨g, 1, none⟩ = some (.int .u64 x.gen) by
            have := HOW.out.cells rfl 1 _ rfl
            rw [Addr.add_lit, Nat.zero_add] at this
            rw [this, hx]; rfl)
          have HG2 := Lib.hid (show w3.cell? ⟨g, 2, none⟩ = some (.int .u64 x.sum) by
            have := HOW.out.cells rfl 2 _ rfl
            rw [Addr.add_lit, Nat.zero_add] at this
            rw [this, hx]; rfl)
          have HGL := Lib.hid (show g < w3.heap.size ∧ g ≠ w.heap.size + 2 ∧ Value.ownBlock (.slice ka kn kc) ≠ some g from by
            have hs1 := (below_new w2 (.cells #[.int .i64 4, .int .i64 8, .int .i64 4] 3)).size
            have hs2 := HN32.out.n.lt
            refine ⟨(HOW.out.lt g rfl).2, by omega, fun e => ?_⟩
            have := (HN32.out.k.lt g (by rw [hkvb]; exact e)).2
            omega)
          have HGC : Hid (Gc g x w3.drew) := Lib.hid ⟨HG0.out, HG1.out, HG2.out⟩
          have HGC1 : Hid (Gc g x (w3.alloc (.cells #[.string (Lend.strOf x.low), .int .i64 x.addr, .int .u64 x.gen, .int .u32 x.sum] 50)).drew) := Lib.hid ⟨keep1 HG0.out (below_new w3 _).drew, keep1 HG1.out (below_new w3 _).drew, keep1 HG2.out (below_new w3 _).drew⟩
          have hlw : splT t = x.low := by rw [hx]; rfl
          have HCR := Lib.hid (show (splR t).drop 16 = chR t from rfl)
          rw [hlw]
          rw [← hx] at HKS hwc hwa hwa0
          have HWA := Lib.hid (show IntKind.i64.wrap x.addr = x.addr by rw [IntKind.wrap_i64]; omega)
          have HWS := Lib.hid (show IntKind.u32.wrap x.sum = x.sum by rw [IntKind.wrap_u32]; have := hwc.2.2; omega)
          have HS1 := Lib.hid hs
          clear hx hlw hs hch hb1 hb2 hb3 hwc hwa hwa0 hkn
          go_upto_region 14 with fail
          refine Reg.region_vals3 (by kernel_rfl) [(52, .pointer (some ⟨w.heap.size + 2, 0, none⟩)), (53, .slice ka kn kc), (54, .string (Lend.strOf x.low)), (55, .slice (some ⟨g, 0, none⟩) 3 lc), (56, .pointer (some ⟨g, 0, none⟩)), (57, .int .u64 x.addr), (58, .int .i64 x.addr), (59, .slice (some ⟨g, 0, none⟩) 3 lc), (60, .pointer (some ⟨g, 1, none⟩)), (61, .int .u64 x.gen), (62, .slice (some ⟨g, 0, none⟩) 3 lc), (63, .pointer (some ⟨g, 2, none⟩)), (64, .int .u64 x.sum), (65, .int .u32 x.sum), (66, .agg #[.string (Lend.strOf x.low), .int .i64 x.addr, .int .u64 x.gen, .int .u32 x.sum]), (67, .slice (some ⟨w3.heap.size, 0, none⟩) 1 1), (69, .pointer (some ⟨w.heap.size + 2, 0, none⟩))] [68] (Iw w3 (.cells #[.string (Lend.strOf x.low), .int .i64 x.addr, .int .u64 x.gen, .int .u32 x.sum] 50) 15 16 18 68 (fun v W => (CO 50 W (w.heap.size + 3) v (l ++ [x]) ∧ Has W w.heap.size 35 [.slice none 0 0, .slice none 0 0] ∧ Has W (w.heap.size + 1) 35 [.slice none 0 0, .slice none 0 0] ∧ Has W (w.heap.size + 2) 35 [.slice ka kn kc, .slice none 0 0] ∧ Below w.heap.size w W) ∧ Gc g x W) (fun W => (∃ kv, N3 w kv (l ++ [x]) W) ∧ Gc g x W)) ?a1 ?a2 ?a3 ?a4 ?a5 ?a6 ?a7 ?hend
          case a1 => kernel_rfl
          case a2 => kernel_rfl
          case a3 => kernel_rfl
          case a4 => kernel_rfl
          case a5 => kernel_rfl
          case a6 => exact Iw.start _ _
          case a7 =>
            refine ⟨?_, ?_, ?_, ?_, ?_, ?_, ?_, ?_, ?_, ?_, ?_, ?_, ?_, ?_, ?_, ?_, ?_, ?_, ?_, trivial⟩
            · intro aq wq lq hz hI hl hdone hlater hold hd ho
              have h5 : aq.tmps.getD 5 undef = .pointer (some ⟨w.heap.size + 2, 0, none⟩) := ho 5 (by kernel_rfl)
              clear hd ho hdone hlater hold
              rw [Array.getD_eq_getD_getElem?] at h5
              have hc : 52 < aq.tmps.size := by have hz' : aq.tmps.size = 87 := hz; omega
              refine Reg.step3_val (.pointer (some ⟨w.heap.size + 2, 0, none⟩)) ?_ rfl (hI.still _ (by decide) (by decide) (by decide) (by decide) hc) trivial
              clear hz hc hI
              go_simp
            · intro aq wq lq hz hI hl hdone hlater hold hd ho
              have h52 : aq.tmps.getD 52 undef = .pointer (some ⟨w.heap.size + 2, 0, none⟩) := hd 52 (by kernel_rfl)
              have gl : lq 16 = false := hlater 16 (by kernel_rfl)
              clear hd ho hdone hlater hold
              rw [Array.getD_eq_getD_getElem?] at h52
              have hc : 53 < aq.tmps.size := by have hz' : aq.tmps.size = 87 := hz; omega
              have e0 : wq.cell? ⟨w.heap.size + 2, 0, none⟩ = some (.slice ka kn kc) := keep1 (HN3c.out.n.cell 0) (hI.bel gl)
              refine Reg.step3_val (.slice ka kn kc) ?_ rfl (hI.still _ (by decide) (by decide) (by decide) (by decide) hc) trivial
              clear hz hc hI
              go_simp
            · intro aq wq lq hz hI hl hdone hlater hold hd ho
              have h8 : aq.tmps.getD 8 undef = .string (Lend.strOf x.low) := ho 8 (by kernel_rfl)
              clear hd ho hdone hlater hold
              have hc : 54 < aq.tmps.size := by have hz' : aq.tmps.size = 87 := hz; omega
              exact Reg.step3_move (.tmp 8) rfl h8 (hI.still _ (by decide) (by decide) (by decide) (by decide) hc) trivial
            · intro aq wq lq hz hI hl hdone hlater hold hd ho
              have h11 : aq.tmps.getD 11 undef = .slice (some ⟨g, 0, none⟩) 3 lc := ho 11 (by kernel_rfl)
              clear hd ho hdone hlater hold
              have hc : 55 < aq.tmps.size := by have hz' : aq.tmps.size = 87 := hz; omega
              exact Reg.step3_move (.tmp 11) rfl h11 (hI.still _ (by decide) (by decide) (by decide) (by decide) hc) trivial
            · intro aq wq lq hz hI hl hdone hlater hold hd ho
              have h55 : aq.tmps.getD 55 undef = .slice (some ⟨g, 0, none⟩) 3 lc := hd 55 (by kernel_rfl)
              clear hd ho hdone hlater hold
              rw [Array.getD_eq_getD_getElem?] at h55
              have hc : 56 < aq.tmps.size := by have hz' : aq.tmps.size = 87 := hz; omega
              refine Reg.step3_val (.pointer (some ⟨g, 0, none⟩)) ?_ rfl (hI.still _ (by decide) (by decide) (by decide) (by decide) hc) trivial
              clear hz hc hI
              go_simp
            · intro aq wq lq hz hI hl hdone hlater hold hd ho
              have h56 : aq.tmps.getD 56 undef = .pointer (some ⟨g, 0, none⟩) := hd 56 (by kernel_rfl)
              clear hd ho hdone hlater hold
              rw [Array.getD_eq_getD_getElem?] at h56
              have hc : 57 < aq.tmps.size := by have hz' : aq.tmps.size = 87 := hz; omega
              have e0 := (Iw.any hI (Gc g x) HGC.out HGC1.out (fun v w h => h.2) (fun w h => h.2)).1
              refine Reg.step3_val (.int .u64 x.addr) ?_ rfl (hI.still _ (by decide) (by decide) (by decide) (by decide) hc) trivial
              clear hz hc hI
              go_simp
            · intro aq wq lq hz hI hl hdone hlater hold hd ho
              have h57 : aq.tmps.getD 57 undef = .int .u64 x.addr := hd 57 (by kernel_rfl)
              clear hd ho hdone hlater hold
              rw [Array.getD_eq_getD_getElem?] at h57
              have hc : 58 < aq.tmps.size := by have hz' : aq.tmps.size = 87 := hz; omega
              have hw := HWA.out
              refine Reg.step3_val (.int .i64 x.addr) ?_ rfl (hI.still _ (by decide) (by decide) (by decide) (by decide) hc) trivial
              clear hz hc hI
              simp [execOp, Act.eval, h57]
              try go_simp
            · intro aq wq lq hz hI hl hdone hlater hold hd ho
              have h11 : aq.tmps.getD 11 undef = .slice (some ⟨g, 0, none⟩) 3 lc := ho 11 (by kernel_rfl)
              clear hd ho hdone hlater hold
              have hc : 59 < aq.tmps.size := by have hz' : aq.tmps.size = 87 := hz; omega
              exact Reg.step3_move (.tmp 11) rfl h11 (hI.still _ (by decide) (by decide) (by decide) (by decide) hc) trivial
            · intro aq wq lq hz hI hl hdone hlater hold hd ho
              have h59 : aq.tmps.getD 59 undef = .slice (some ⟨g, 0, none⟩) 3 lc := hd 59 (by kernel_rfl)
              clear hd ho hdone hlater hold
              rw [Array.getD_eq_getD_getElem?] at h59
              have hc : 60 < aq.tmps.size := by have hz' : aq.tmps.size = 87 := hz; omega
              refine Reg.step3_val (.pointer (some ⟨g, 1, none⟩)) ?_ rfl (hI.still _ (by decide) (by decide) (by decide) (by decide) hc) trivial
              clear hz hc hI
              go_simp
            · intro aq wq lq hz hI hl hdone hlater hold hd ho
              have h60 : aq.tmps.getD 60 undef = .pointer (some ⟨g, 1, none⟩) := hd 60 (by kernel_rfl)
              clear hd ho hdone hlater hold
              rw [Array.getD_eq_getD_getElem?] at h60
              have hc : 61 < aq.tmps.size := by have hz' : aq.tmps.size = 87 := hz; omega
              have e0 := (Iw.any hI (Gc g x) HGC.out HGC1.out (fun v w h => h.2) (fun w h => h.2)).2.1
              refine Reg.step3_val (.int .u64 x.gen) ?_ rfl (hI.still _ (by decide) (by decide) (by decide) (by decide) hc) trivial
              clear hz hc hI
              go_simp
            · intro aq wq lq hz hI hl hdone hlater hold hd ho
              have h11 : aq.tmps.getD 11 undef = .slice (some ⟨g, 0, none⟩) 3 lc := ho 11 (by kernel_rfl)
              clear hd ho hdone hlater hold
              have hc : 62 < aq.tmps.size := by have hz' : aq.tmps.size = 87 := hz; omega
              exact Reg.step3_move (.tmp 11) rfl h11 (hI.still _ (by decide) (by decide) (by decide) (by decide) hc) trivial
            · intro aq wq lq hz hI hl hdone hlater hold hd ho
              have h62 : aq.tmps.getD 62 undef = .slice (some ⟨g, 0, none⟩) 3 lc := hd 62 (by kernel_rfl)
              clear hd ho hdone hlater hold
              rw [Array.getD_eq_getD_getElem?] at h62
              have hc : 63 < aq.tmps.size := by have hz' : aq.tmps.size = 87 := hz; omega
              refine Reg.step3_val (.pointer (some ⟨g, 2, none⟩)) ?_ rfl (hI.still _ (by decide) (by decide) (by decide) (by decide) hc) trivial
              clear hz hc hI
              go_simp
            · intro aq wq lq hz hI hl hdone hlater hold hd ho
              have h63 : aq.tmps.getD 63 undef = .pointer (some ⟨g, 2, none⟩) := hd 63 (by kernel_rfl)
              clear hd ho hdone hlater hold
              rw [Array.getD_eq_getD_getElem?] at h63
              have hc : 64 < aq.tmps.size := by have hz' : aq.tmps.size = 87 := hz; omega
              have e0 := (Iw.any hI (Gc g x) HGC.out HGC1.out (fun v w h => h.2) (fun w h => h.2)).2.2
              refine Reg.step3_val (.int .u64 x.sum) ?_ rfl (hI.still _ (by decide) (by decide) (by decide) (by decide) hc) trivial
              clear hz hc hI
              go_simp
            · intro aq wq lq hz hI hl hdone hlater hold hd ho
              have h64 : aq.tmps.getD 64 undef = .int .u64 x.sum := hd 64 (by kernel_rfl)
              clear hd ho hdone hlater hold
              rw [Array.getD_eq_getD_getElem?] at h64
              have hc : 65 < aq.tmps.size := by have hz' : aq.tmps.size = 87 := hz; omega
              have hw := HWS.out
              refine Reg.step3_val (.int .u32 x.sum) ?_ rfl (hI.still _ (by decide) (by decide) (by decide) (by decide) hc) trivial
              clear hz hc hI
              simp [execOp, Act.eval, h64]
              try go_simp
            · intro aq wq lq hz hI hl hdone hlater hold hd ho
              have h54 : aq.tmps.getD 54 undef = .string (Lend.strOf x.low) := hd 54 (by kernel_rfl)
              have h58 : aq.tmps.getD 58 undef = .int .i64 x.addr := hd 58 (by kernel_rfl)
              have h61 : aq.tmps.getD 61 undef = .int .u64 x.gen := hd 61 (by kernel_rfl)
              have h65 : aq.tmps.getD 65 undef = .int .u32 x.sum := hd 65 (by kernel_rfl)
              clear hd ho hdone hlater hold
              rw [Array.getD_eq_getD_getElem?] at h54 h58 h61 h65
              have hc : 66 < aq.tmps.size := by have hz' : aq.tmps.size = 87 := hz; omega
              refine Reg.step3_val (.agg #[.string (Lend.strOf x.low), .int .i64 x.addr, .int .u64 x.gen, .int .u32 x.sum]) ?_ rfl (hI.still _ (by decide) (by decide) (by decide) (by decide) hc) trivial
              clear hz hc hI
              simp [execOp, Act.eval, h54, h58, h61, h65]
              try go_simp
            · intro aq wq lq hz hI hl hdone hlater hold hd ho
              have h66 : aq.tmps.getD 66 undef = .agg #[.string (Lend.strOf x.low), .int .i64 x.addr, .int .u64 x.gen, .int .u32 x.sum] := hd 66 (by kernel_rfl)
              clear hd ho hdone hlater hold
              rw [Array.getD_eq_getD_getElem?] at h66
              have hc : 67 < aq.tmps.size := by have hz' : aq.tmps.size = 87 := hz; omega
              have hw := hI.w0 hl
              subst hw
              refine Reg.step3_do (.slice (some ⟨w3.heap.size, 0, none⟩) 1 1) (w3.alloc (.cells #[.string (Lend.strOf x.low), .int .i64 x.addr, .int .u64 x.gen, .int .u32 x.sum] 50)).drew ?_ rfl (hI.new (by decide) (by decide) hl _ rfl) trivial
              clear hz hc hI
              simp [execOp]
              go_simp
            · intro aq wq lq hz hI hl hdone hlater hold hd ho
              have h53 : aq.tmps.getD 53 undef = .slice ka kn kc := hd 53 (by kernel_rfl)
              have h67 : aq.tmps.getD 67 undef = .slice (some ⟨w3.heap.size, 0, none⟩) 1 1 := hd 67 (by kernel_rfl)
              have g0 : lq 15 = true := hdone 15 (by kernel_rfl)
              clear hd ho hdone hlater hold
              have hc : 68 < aq.tmps.size := by have hz' : aq.tmps.size = 87 := hz; omega
              have hw := hI.w1 g0 hl
              subst hw
              obtain ⟨v', w', hrun, ho, hg⟩ := capp_one (w := w3.drew) und_c isC_d 32 x (HN3c.out.on ((Below.refl _ _).drew : Below w3.heap.size w3 w3.drew)).k (show w.heap.size + 3 ≤ w3.heap.size from HN3c.out.n.lt) HLL.out
              have hgr := ((HN3c.out.on ((Below.refl _ _).drew : Below w3.heap.size w3 w3.drew)).on (below_new w3.drew _)).grown hg
              refine Reg.step3_do v' w' ?_ trivial (hI.app (by decide) (by decide) g0 hl hc ⟨⟨ho, hgr.1, hgr.2.1, hgr.2.2.1, hgr.2.2.2⟩, gc_same HGC1.out (hg.block g (Nat.lt_of_lt_of_le HGL.out.1 (below_new w3 _).size) (fun e => HGL.out.2.2 e.symm))⟩) trivial
              have e1 : Act.eval aq (.tmp 53) = .slice ka kn kc := h53
              have e2 : Act.eval aq (.tmp 67) = .slice (some ⟨w3.heap.size, 0, none⟩) 1 1 := h67
              have hrun2 : (Builtin.append_ #[32, 32] 32 #[.slice ka kn kc, .slice (some ⟨w3.heap.size, 0, none⟩) 1 1]).run Try.prog (w3.alloc (.cells #[.string (Lend.strOf x.low), .int .i64 x.addr, .int .u64 x.gen, .int .u32 x.sum] 50)).drew = .ok v' w' := hrun
              unfold execOp
              simp only [resolve, invoke, builtin, Sem.run_bind, Sem.run_pure, Result.andThen_ok, List.map_toArray, List.map_cons, List.map_nil, e1, e2, hrun2]
            · intro aq wq lq hz hI hl hdone hlater hold hd ho
              have h5 : aq.tmps.getD 5 undef = .pointer (some ⟨w.heap.size + 2, 0, none⟩) := ho 5 (by kernel_rfl)
              clear hd ho hdone hlater hold
              rw [Array.getD_eq_getD_getElem?] at h5
              have hc : 69 < aq.tmps.size := by have hz' : aq.tmps.size = 87 := hz; omega
              refine Reg.step3_val (.pointer (some ⟨w.heap.size + 2, 0, none⟩)) ?_ rfl (hI.still _ (by decide) (by decide) (by decide) (by decide) hc) trivial
              clear hz hc hI
              go_simp
            · intro aq wq lq hz hI hl hdone hlater hold hd ho
              have h69 : aq.tmps.getD 69 undef = .pointer (some ⟨w.heap.size + 2, 0, none⟩) := hd 69 (by kernel_rfl)
              have g1 : lq 16 = true := hdone 16 (by kernel_rfl)
              clear hd ho hdone hlater hold
              rw [Array.getD_eq_getD_getElem?] at h69
              obtain ⟨⟨hk, h1, h2, h3, hbw⟩, hgc⟩ := hI.w2 g1 hl
              obtain ⟨va, vc, hvs, _⟩ := own_shape hk
              have z4 := h3.frozen 0
              have z5 := h3.cell 0
              rw [Array.getD_eq_getD_getElem?] at hvs
              have hst := N3.st hk h1 h2 h3 hbw
              rw [Array.getD_eq_getD_getElem?, hvs] at hst
              refine Reg.step3_skip (wq.setCell ⟨w.heap.size + 2, 0, none⟩ (.slice va (l ++ [x]).length vc)) rfl ?_ (hI.stored (by decide) (by decide) g1 ⟨⟨_, hst⟩, gc_same hgc (Below.heap_setCell _ _ _ _ (fun e => HGL.out.2.1 e))⟩) trivial
              clear hgc hst hk h1 h2 h3 hbw hI hz
              simp [execOp]
              go_simp
          case hend =>
            intro wz v aq hv hI
            have hy := Iw.done hI (by decide)
            clear hv hI
            simp only [Reg.fill, List.map_cons, List.map_nil, List.foldl_cons, List.foldl_nil, List.setIfInBounds_toArray, List.set_cons_zero, List.set_cons_succ]
            generalize v 68 = vz at *
            obtain ⟨⟨kv2, hn4⟩, _⟩ := hy
            rw [HCR.out]
            go_wp2_with fail
            go_roundw
            case rel => exact ⟨j + 1, chR t, l ++ [x], kv2, by omega, by go_num, rfl, HKS, hn4⟩
            case measure => simp [intOf]; omega
        · have HNO := Lib.hid (show pnK (b :: r) = none from pnK_kids (kidsL_none (show j + 1 ≤ b.toNat by have := HK.out; omega) (by rw [kidsL_snoc, HKL.out]; simp [hch])))
          have HBE := Lib.hid HN3c.out.bel
          have hr0' : w3.cell? ⟨w.heap.size, 0, none⟩ = some (.slice none 0 0) := hr0
          cases hs : splB t with
          | false =>
            generalize rdB [4, 8, 4] (splR t) = rb
            clear hch hs hkn
            go_wp2_with fail
            exact bodyPost_ret (v := .tuple #[.agg #[.slice none 0 0, .slice none 0 0], .int .i64 4]) (by simp [results, Try.results18, go_sem, hr0, hr1]) rfl (npP_none HNO.out (bel_st (bel_st HBE.out)))
          | true =>
            have h16 : ¬ 16 ≤ (splR t).length := by
              intro h
              exact hch (by unfold chB; simp [hs, h])
            rw [rd_ptr_no h16]
            clear hch hs hkn h16
            go_wp2_with fail
            exact bodyPost_ret (v := .tuple #[.agg #[.slice none 0 0, .slice none 0 0], .int .i64 4]) (by simp [results, Try.results18, go_sem, hr0, hr1]) rfl (npP_none HNO.out (bel_st (bel_st HBE.out)))
      · obtain rfl : j = k := by omega
        have hji : ¬ ((j : Int) < (j : Int)) := by omega
        have HPK := Lib.hid (pnK_at (show kidsL b.toNat r = some (l, t) by have := HKL.out; rwa [HK.out] at this))
        have HRP := Lib.hid (rparse_any (s := t) wr htl)
        obtain ⟨ka, kc, hkv, _⟩ := own_shape HN3r.out.k
        subst hkv
        obtain ⟨kn, hkn⟩ : ∃ z, z = l.length := ⟨_, rfl⟩
        have HKN := Lib.hid hkn
        rw [← hkn] at HN3r
        clear hn3 htl hsp hkn
        go_wp2_with fail
        refine HRP.out.mono ?_
        clear HRP
        rintro e w2 ⟨bv, rfl, hbv, hb2⟩
        have HN4 := Lib.hid (HN3r.out.on hb2)
        have hlt2 : w.heap.size + 2 < wr.heap.size := HN3r.out.n.lt
        have hr0 := HN4.out.r.cell 0
        have hr1 := HN4.out.r.cell 1
        have hf0 := HN4.out.r.frozen 0
        have hf1 := HN4.out.r.frozen 1
        have hz0 := HN4.out.z.cell 0
        have hz1 := HN4.out.z.cell 1
        have hn0 : w2.cell? ⟨w.heap.size + 1 + 1, 0, none⟩ = some (.slice ka kn kc) := HN4.out.n.cell 0
        have hn1 : w2.cell? ⟨w.heap.size + 1 + 1, 1, none⟩ = some (.slice none 0 0) := HN4.out.n.cell 1
        have hnf : w2.frozen? ⟨w.heap.size + 1 + 1, 1, none⟩ = false := HN4.out.n.frozen 1
        have hnf0 : w2.frozen? ⟨w.heap.size + 1 + 1, 0, none⟩ = false := HN4.out.n.frozen 0
        simp only [List.getElem?_cons_zero, List.getElem?_cons_succ] at hr0 hr1 hz0 hz1
        obtain ⟨ba, bc, rfl, _⟩ := own_shape hbv
        obtain ⟨bn, hbn⟩ : ∃ z, z = (paU t).length := ⟨_, rfl⟩
        have HBN := Lib.hid hbn
        have HBV := Lib.hid hbv
        rw [← hbn] at HBV ⊢
        clear hb2 hbv hbn
        by_cases hp : paN t = 0
        · rw [hp]
          have HP0 := Lib.hid hp
          obtain ⟨w3, hw3⟩ : ∃ z, z = w2.setCell ⟨w.heap.size + 1 + 1, 1, none⟩ (.slice ba bn bc) := ⟨_, rfl⟩
          have HNN := Lib.hid (show Has w3 (w.heap.size + 2) 35 [.slice ka kn kc, .slice ba bn bc] by rw [hw3]; exact HN4.out.n.set 1 _)
          have HRR := Lib.hid (show Has w3 w.heap.size 35 [.slice none 0 0, .slice none 0 0] by rw [hw3]; exact HN4.out.r.setOther (by show w.heap.size + 2 ≠ w.heap.size; omega) _)
          have HZZ := Lib.hid (show Has w3 (w.heap.size + 1) 35 [.slice none 0 0, .slice none 0 0] by rw [hw3]; exact HN4.out.z.setOther (by show w.heap.size + 2 ≠ w.heap.size + 1; omega) _)
          have HB3 := Lib.hid (show Below w.heap.size w w3 by rw [hw3]; exact HN4.out.bel.setCell (by show w.heap.size ≤ w.heap.size + 2; omega) _)
          have HK3 := Lib.hid (show w3.ownsRow (w.heap.size + 3) 50 4 (.slice ka kn kc) kn (flatC l) by
            rw [hw3]
            have h := HN4.out.k
            unfold CO at h
            rw [← HKN.out] at h
            exact owns_same h fun q e => Below.heap_setCell _ _ _ _ (fun e' => by have := (h.lt q e).1; simp at e'; omega))
          have HU3 := Lib.hid (show w3.ownsRow (w.heap.size + 3) 78 4 (.slice ba bn bc) bn (flatU (paU t)) by
            rw [hw3]
            have h := HBV.out
            unfold RU at h
            rw [← HBN.out] at h
            exact own_base (owns_same h fun q e => Below.heap_setCell _ _ _ _ (fun e' => by have := (h.lt q e).1; simp at e'; omega)) (show w.heap.size + 3 ≤ wr.heap.size from hlt2))
          have HRT := Lib.hid (nright_any (w := w3) (cs := l) (us := paU t) (kv := .slice ka kn kc) (bv := .slice ba bn bc) (CR.of_own (by have := HK3.out; rw [HKN.out] at this ⊢; exact this)) (UR.of_own (by have := HU3.out; rw [HBN.out] at this ⊢; exact this)) (paU_wf t))
          clear hp hlt2
          go_upto_region 20 with fail
          rw [← hw3]
          clear hw3 hn0 hn1 hnf hnf0 hr0 hr1 hf0 hf1 hz0 hz1
          have hn0 : w3.cell? ⟨w.heap.size + 1 + 1, 0, none⟩ = some (.slice ka kn kc) := HNN.out.cell 0
          have hn1 : w3.cell? ⟨w.heap.size + 1 + 1, 1, none⟩ = some (.slice ba bn bc) := HNN.out.cell 1
          go_wp2_with fail
          refine HRT.out.mono ?_
          clear HRT hn0 hn1
          rintro e w4 ⟨rfl, hb4⟩
          have hnn := HNN.out.below hb4 HNN.out.lt
          have hrr := HRR.out.below hb4 HRR.out.lt
          have hzz := HZZ.out.below hb4 HZZ.out.lt
          have hr0 := hrr.cell 0
          have hr1 := hrr.cell 1
          have hf0 := hrr.frozen 0
          have hf1 := hrr.frozen 1
          have hz0 := hzz.cell 0
          have hz1 := hzz.cell 1
          simp only [List.getElem?_cons_zero, List.getElem?_cons_succ] at hr0 hr1 hz0 hz1
          have hn0 : w4.cell? ⟨w.heap.size + 1 + 1, 0, none⟩ = some (.slice ka kn kc) := hnn.cell 0
          have hn1 : w4.cell? ⟨w.heap.size + 1 + 1, 1, none⟩ = some (.slice ba bn bc) := hnn.cell 1
          have HB4 := Lib.hid (below_on HB3.out hb4)
          have HK4 := Lib.hid (own_bel HK3.out hb4)
          have HU4 := Lib.hid (own_bel HU3.out hb4)
          clear hb4 hnn hrr hzz
          cases hN : nodB l (paU t) with
          | true =>
            have HPS := Lib.hid (pn_some (show pnK (b :: r) = some (l, paU t) by rw [HPK.out, if_pos ⟨HP0.out, hN⟩]))
            clear hN
            go_wp2_with fail
            refine bodyPost_ret (v := .tuple #[.agg #[.slice ka kn kc, .slice ba bn bc], .int .i64 0]) (by simp [results, Try.results18, go_sem, hr0, hr1]) rfl ⟨_, _, by rw [HPS.out.1], ?_, ?_, bel_st (bel_st HB4.out)⟩
            · rw [HPS.out.2.1]
              show World.ownsRow _ _ _ _ _ l.length _
              rw [← HKN.out]
              exact own_base (row_st2 HK4.out (by omega)) (by omega)
            · rw [HPS.out.2.2]
              show World.ownsRow _ _ _ _ _ (paU t).length _
              rw [← HBN.out]
              exact own_base (row_st2 HU4.out (by omega)) (by omega)
          | false =>
            have HNO := Lib.hid (show pnK (b :: r) = none by rw [HPK.out, if_neg (by rintro ⟨_, h⟩; rw [hN] at h; cases h)])
            clear hN
            go_wp2_with fail
            exact bodyPost_ret (v := .tuple #[.agg #[.slice none 0 0, .slice none 0 0], .int .i64 4]) (by simp [results, Try.results18, go_sem, hr0, hr1]) rfl (npP_none HNO.out (bel_st (bel_st HB4.out)))
        · have HNO := Lib.hid (show pnK (b :: r) = none by rw [HPK.out, if_neg (fun h => hp h.1)])
          have HB4 := Lib.hid HN4.out.bel
          go_wp2_with fail
          exact bodyPost_ret (v := .tuple #[.agg #[.slice none 0 0, .slice none 0 0], .int .i64 4]) (by simp [results, Try.results18, go_sem, hr0, hr1]) rfl (npP_none HNO.out (bel_st (bel_st HB4.out)))
end Go.Proofs.Ytfclecbhfamomaa.Node
