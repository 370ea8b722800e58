/- Layer 12 (rec): a list of updates behind another one. -/
import Derived.Test.YtomhalcoomdadaaRecM
import Derived.Deep.AppendSrc
namespace Go.Proofs.Ytomhalcoomdadaa.Rec
open Go Go.RowKit Go.Proofs.Ytomhalcoomdadaa Go.Proofs.Ytomhalcoomdadaa.Lend
set_option linter.unusedVariables false

theorem UR.cap {w : World} {ao : Option Addr} {n c : Nat} {l : List Up} (h : UR w (.slice ao n c) l) (c' : Nat) : UR w (.slice ao n c') l := by
  obtain ⟨a, cap, he, hx⟩ := h.form
  simp at he
  obtain ⟨rfl, rfl, rfl⟩ := he
  exact ⟨_, c', rfl, hx⟩
theorem wpList_append_run {P : Program} {w w' : World} {ops : Array Oper} {rest : List Oper} {o : Oper} {a : Act} {Q : Exit → Act → World → Prop} (hgd : o.guard = none) (sl x : Operand) (t u : TypeId)
    (ho : o.op = .call { callee := .builtin .append, args := #[sl, x], argTypes := #[t, u] }) (v y v' : Value) (hs : a.eval sl = v) (hx : a.eval x = y)
    (hr : (Builtin.append_ #[t, u] o.type #[v, y]).run P w = .ok v' w') (h : wpList P ops Q rest (a.put o.dst v') w') : wpList P ops Q (o :: rest) a w := by
  refine wpList_plain hgd fun K hK => ?_
  unfold Oper.wp execOp
  simp only [ho, resolve, invoke, builtin, Sem.run_bind, Sem.run_pure, Result.andThen_ok, List.map_toArray, List.map_cons, List.map_nil, hs, hx, hr]
  exact hK _ _ h
theorem ra_cases {w : World} {B : Nat} {ao : Option Addr} {n c : Nat} {l : List Up} (h : RA w B (.slice ao n c) l) : n = l.length ∧ ((ao = none ∧ n = 0 ∧ c = 0) ∨ ∃ g, ao = some ⟨g, 0, none⟩ ∧ g < w.heap.size ∧ n ≤ c ∧ ∀ j u, (flatU l)[j]? = some u → w.cell? ⟨g, j, none⟩ = some u) := by
  rcases h.2 with ⟨hv, h0⟩ | ⟨g, cap, cur, hv, hb, hg, hn, hm, hs, ht⟩
  · simp at hv
    exact ⟨by omega, .inl ⟨hv.1, hv.2.1, hv.2.2⟩⟩
  · simp at hv
    obtain ⟨rfl, rfl, rfl⟩ := hv
    refine ⟨rfl, .inr ⟨g, rfl, (Array.getElem?_eq_some_iff.1 hg).1, hn, fun j u hj => ?_⟩⟩
    rw [← ht, List.getElem?_take] at hj
    split at hj
    · unfold World.cell?
      simp only [hg]
      simpa using hj
    · cases hj
theorem flat_one (l : List Up) : ∀ u ∈ flatU l, u.oneCell' = true := by
  intro u hu
  obtain ⟨x, _, hx⟩ := List.mem_flatMap.1 hu
  exact enc_one x u hx
theorem flatU_append (a b : List Up) : flatU (a ++ b) = flatU a ++ flatU b := List.flatMap_append
/-- append(a[:len(a):len(a)], b...) -/
theorem app_ups {w : World} {B B' : Nat} {ao bo : Option Addr} {n m ac bc : Nat} {la lb : List Up} (ha : RA w B (.slice ao n ac) la) (hb : RA w B' (.slice bo m bc) lb) (hn : n + m ≤ 1000) :
    ∃ v' w', (Builtin.append_ #[23, 23] 23 #[.slice ao n n, .slice bo m bc]).run Try.prog w = .ok v' w' ∧ UR w' v' (la ++ lb) ∧ Below w.heap.size w w' := by
  obtain ⟨i0, hi, hz0, hz1, hz2⟩ := info_parts info_up
  have hua := (UR.of_own (v := .slice ao n ac) (l := la) ha).cap n
  obtain ⟨hnl, ca⟩ := ra_cases ha
  obtain ⟨hml, cb⟩ := ra_cases hb
  have hsrc : ∃ _ : Unit, Src Try.prog i0.size 23 (.slice bo m bc) m (flatU lb) w := by
    rw [hz1]
    rcases cb with ⟨rfl, rfl, rfl⟩ | ⟨h, rfl, hlt, hle, hc⟩
    · have : lb = [] := List.eq_nil_of_length_eq_zero hml.symm
      subst this
      exact ⟨(), Src.ofNil w Try.underlying23 0⟩
    · exact ⟨(), Src.ofSlice w Try.underlying23 _ m bc (flatU lb) (by rw [flatU_length, hml]) (fun j u hj => by rw [Addr.add_lit, Nat.zero_add]; exact hc j u hj) (flat_one lb)⟩
  obtain ⟨_, hsrc⟩ := hsrc
  by_cases h0 : m = 0
  · subst h0
    have : lb = [] := List.eq_nil_of_length_eq_zero hml.symm
    subst this
    rw [List.append_nil]
    rcases ca with ⟨rfl, rfl, rfl⟩ | ⟨g, rfl, hlt, hle, hc⟩
    · refine ⟨.slice none 0 0, w, ?_, hua, Below.refl _ _⟩
      simp [Builtin.append_, run_underlying Try.underlying23, sizeOf, typeInfo, hi, hsrc.len, hsrc.cells, flatU]
    · refine ⟨_, _, run_append_room_src w _ _ _ 33 i0 Try.underlying23 hi g 0 n n _ 0 (flatU []) hsrc (Nat.le_refl _) (fun j hj => by simp [flatU] at hj) (fun j hj => by simp [flatU] at hj), ?_, ?_⟩
      · simpa [flatU, World.setCells] using hua
      · simp [flatU, World.setCells]; exact Below.refl _ _
  · have hold : (Builtin.firstCells i0.size n (.slice ao n n)).run Try.prog w.drew = .ok (flatU la).toArray w.drew := by
      rw [hz1]
      rcases ca with ⟨rfl, rfl, rfl⟩ | ⟨g, rfl, hlt, hle, hc⟩
      · have : la = [] := List.eq_nil_of_length_eq_zero hnl.symm
        subst this
        exact run_firstCells_none _ _ _ _ _
      · exact run_firstCells_some w.drew 4 n ⟨g, 0, none⟩ n n (flatU la) (by rw [flatU_length, hnl]) (fun j u hj => by rw [Addr.add_lit, Nat.zero_add]; exact hc j u hj)
    refine ⟨_, _, run_append_grow_src w _ _ _ 33 i0 _ Try.underlying23 hi hz0 ao n n (flatU la) hold _ m (flatU lb) hsrc (by omega) (by omega) (by rw [hz2]; exact growslice_fits (by omega) (by omega)), ?_, ?_⟩
    · refine ⟨_, _, by rw [List.length_append, ← hnl, ← hml], fun _ => ⟨w.heap.size, 0, rfl, fun i hi j hj => ?_⟩⟩
      rw [← flatU_get (la ++ lb) i hi j hj, flatU_append]
      have hlen : 0 + i * 4 + j < (flatU la ++ flatU lb).length := by
        rw [List.length_append, flatU_length, flatU_length]
        rw [List.length_append] at hi
        omega
      unfold World.cell?
      have e : (w.drew.alloc (.cells ((flatU la ++ flatU lb).toArray ++ Builtin.zeroCells (Value.agg #[.int .u8 0, .string ⟨#[]⟩, .string ⟨#[]⟩, .int .u64 0]).cells (grownCap w (n + m) n 33 - (n + m))) 33)).heap[w.heap.size]? = some (.cells ((flatU la ++ flatU lb).toArray ++ Builtin.zeroCells (Value.agg #[.int .u8 0, .string ⟨#[]⟩, .string ⟨#[]⟩, .int .u64 0]).cells (grownCap w (n + m) n 33 - (n + m))) 33 (0, 0)) := by
        show (w.heap.push _)[w.heap.size]? = _; simp
      simp only [e]
      rw [Nat.zero_add] at hlen ⊢
      rw [if_neg (by simp)] <;> (rw [Array.getElem?_append_left (by simpa using hlen)]; simp)
    · exact (below_drw w).alloc (Nat.le_refl _) _
/-- the bytes that are turned, beside the numbers that came in -/
structure Tn (w w0 : World) (g : Nat) (x0 x1 : Int) (xs : List UInt8) (wy : World) : Prop where
  row : BRow wy g xs
  at_ : Has wy w.heap.size 41 [.int .u16 x0, .int .u16 x1]
  bel : Below w0.heap.size w0 wy
  lt : g < wy.heap.size
  ne : w.heap.size < g
theorem Tn.drew {w w0 : World} {g : Nat} {x0 x1 : Int} {xs : List UInt8} {wy : World} (h : Tn w w0 g x0 x1 xs wy) : Tn w w0 g x0 x1 xs wy.drew := ⟨h.row.drewN 1, Has.drew h.at_, h.bel.drew, h.lt, h.ne⟩
theorem Tn.set {w w0 : World} {g : Nat} {x0 x1 : Int} {xs : List UInt8} {wy : World} (h : Tn w w0 g x0 x1 xs wy) (hg : w0.heap.size ≤ g) {d : Nat} (hd : d < xs.length) (b : UInt8) : Tn w w0 g x0 x1 (xs.set d b) (wy.setCell ⟨g, d, none⟩ (.int .u8 b.toNat)) :=
  ⟨h.row.set d hd b, h.at_.setOther (show g ≠ w.heap.size by have := h.ne; omega) _, h.bel.setCell hg _, by simpa using h.lt, h.ne⟩
/-- eight texts in a block -/
def Eight (w : World) (G : Nat) (t0 t1 t2 t3 t4 t5 t6 t7 : ByteArray) : Prop := Has w G 9 [.string t0, .string t1, .string t2, .string t3, .string t4, .string t5, .string t6, .string t7]
structure T13 (w w0 : World) (g : Nat) (x0 x1 : Int) (xs : List UInt8) (G : Nat) (t0 t1 t3 t2 t4 t5 t6 t7 : ByteArray) (b : Bool) (wy : World) : Prop where
  tn : Tn w w0 g x0 x1 xs wy
  sz : b = false → wy.heap.size = G
  eight : b = true → Eight wy G t0 t1 t2 t3 t4 t5 t6 t7
section
variable {w w0 wy : World} {g : Nat} {x0 x1 : Int} {xs : List UInt8} {G : Nat} {t0 t1 t3 t2 t4 t5 t6 t7 : ByteArray} {b : Bool}
theorem T13.drew (h : T13 w w0 g x0 x1 xs G t0 t1 t3 t2 t4 t5 t6 t7 b wy) : T13 w w0 g x0 x1 xs G t0 t1 t3 t2 t4 t5 t6 t7 b wy.drew := ⟨h.tn.drew, h.sz, h.eight⟩
theorem T13.mk' (h : T13 w w0 g x0 x1 xs G t0 t1 t3 t2 t4 t5 t6 t7 false wy) : T13 w w0 g x0 x1 xs G t0 t1 t3 t2 t4 t5 t6 t7 true (wy.alloc (.cells #[.string t0, .string t1, .string t2, .string t3, .string t4, .string t5, .string t6, .string t7] 9)) := by
  have hs := h.sz rfl
  refine ⟨⟨h.tn.row.below (below_new wy _) h.tn.lt, h.tn.at_.alloc _, below_nw h.tn.bel _, by have := h.tn.lt; simp; omega, h.tn.ne⟩, (fun e => by cases e), fun _ => ?_⟩
  subst hs
  exact Has.new _ _ _
end
end Go.Proofs.Ytomhalcoomdadaa.Rec
