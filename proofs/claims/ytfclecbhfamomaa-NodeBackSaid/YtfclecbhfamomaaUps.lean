/- Rows of updates, for layers 12 on: what a slice of updates is, the program's own rows, what came in, append. -/
import Derived.Test.YtfclecbhfamomaaRecMath
import Derived.Test.YtfclecbhfamomaaHeap
import Derived.Test.YtfclecbhfamomaaBase
import Derived.Test.YtfclecbhfamomaaChecked
import Derived.StillTailTactics
import Derived.WalkLawsBesides
import Derived.WalkSpells
import Derived.Lib.Hide
import Derived.Outline
import Derived.OwnWalk
import Derived.Maps.AppendAt
import Derived.Deep.DeepCutAuto
import Derived.Deep.RegionWith
import Derived.Deep.AppendSrc
import Derived.OpenShut
import Derived.Deep.QuietTactic
import Derived.BigQuiet
namespace Go.Proofs.Ytfclecbhfamomaa.Rec
open Go Go.RowKit Go.Proofs.Ytfclecbhfamomaa Go.Proofs.Ytfclecbhfamomaa.Lend
set_option linter.unusedVariables false

/-- an update's four cells -/
def encU (u : Up) : List Value := [.int .u8 u.kind, .string (Lend.strOf u.key), .string (Lend.strOf u.val), .int .u64 u.delta]
theorem str_ne {l : List UInt8} (h : l ≠ []) : ¬ (Lend.strOf l).toList = [] := by
  rw [ByteArray.toList_eq]
  exact h
theorem ssize (a : List UInt8) : (Lend.strOf a).size = a.length := by simp [Lend.strOf, ByteArray.size]
/-- numbers of an update that are in their kinds -/
def WfU (u : Up) : Prop := 0 ≤ u.kind ∧ u.kind ≤ 255 ∧ 0 ≤ u.delta ∧ u.delta < 18446744073709551616
theorem keep1 {w1 w2 : World} {p : Addr} {x : Value} (h : w1.cell? p = some x) (hb : Below w1.heap.size w1 w2) : w2.cell? p = some x := by rw [hb.cell (World.block_lt_of_cell? _ _ h)]; exact h
theorem keep3 {w1 w2 : World} {p q r : Addr} {x y z : Value} (h : w1.cell? p = some x ∧ w1.cell? q = some y ∧ w1.cell? r = some z) (hb : Below w1.heap.size w1 w2) :
    w2.cell? p = some x ∧ w2.cell? q = some y ∧ w2.cell? r = some z := ⟨keep1 h.1 hb, keep1 h.2.1 hb, keep1 h.2.2 hb⟩
theorem below_new (w : World) (o : Obj) : Below w.heap.size w (w.alloc o) := (Below.refl _ _).alloc (Nat.le_refl _) _
theorem below_on {w w1 w2 : World} (h : Below w.heap.size w w1) (k : Below w1.heap.size w1 w2) : Below w.heap.size w w2 := h.trans (k.mono h.size)
theorem below_nw {w w1 : World} (h : Below w.heap.size w w1) (o : Obj) : Below w.heap.size w (w1.alloc o) := h.alloc h.size o
theorem below_dr {w w1 : World} (h : Below w.heap.size w w1) : Below w.heap.size w w1.drew := h.drew
theorem own_bel {w w' : World} {B : Nat} {e : TypeId} {k : Nat} {v : Value} {n : Nat} {xs : List Value} (h : w.ownsRow B e k v n xs) (hb : Below w.heap.size w w') : w'.ownsRow B e k v n xs := owns_same h fun k e => hb.block k (h.lt k e).2
/-- a slice that reads as the updates l -/
structure UR (w : World) (v : Value) (l : List Up) : Prop where
  form : ∃ a cap, v = .slice a l.length cap ∧ (0 < l.length → ∃ g off, a = some ⟨g, off, none⟩ ∧ ∀ i (hi : i < l.length) j, j < 4 → w.cell? ⟨g, off + i * 4 + j, none⟩ = (encU l[i])[j]?)
theorem UR.below {w w' : World} {v : Value} {l : List Up} (h : UR w v l) (hb : Below w.heap.size w w') : UR w' v l := by
  obtain ⟨a, cap, rfl, hx⟩ := h.form
  refine ⟨a, cap, rfl, fun h0 => ?_⟩
  obtain ⟨g, off, rfl, hc⟩ := hx h0
  refine ⟨g, off, rfl, fun i hi j hj => ?_⟩
  rw [← hc i hi j hj]
  have h1 := hc i hi j hj
  have h2 : (encU l[i])[j]? = some ((encU l[i])[j]'(by simpa [encU] using hj)) := List.getElem?_eq_getElem _
  rw [h2] at h1
  exact hb.cell (World.block_lt_of_cell? _ _ h1)
def flatU (l : List Up) : List Value := l.flatMap encU
theorem flatU_length (l : List Up) : (flatU l).length = l.length * 4 := by
  unfold flatU
  induction l with
  | nil => rfl
  | cons u l ih => rw [List.flatMap_cons, List.length_append, ih]; simp [encU]; omega
theorem flatU_snoc (l : List Up) (u : Up) : flatU (l ++ [u]) = flatU l ++ encU u := by unfold flatU; simp
theorem flatU_append (a b : List Up) : flatU (a ++ b) = flatU a ++ flatU b := List.flatMap_append
/-- a row of the program's updates -/
abbrev RA (w : World) (base : Nat) (v : Value) (l : List Up) : Prop := w.ownsRow base 70 4 v l.length (flatU l)
theorem flatU_get : ∀ (l : List Up) (i : Nat) (hi : i < l.length) (j : Nat), j < 4 → (flatU l)[i * 4 + j]? = (encU l[i])[j]?
  | [], i, hi, _, _ => by cases hi
  | u :: l, 0, _, j, hj => by
    unfold flatU
    rw [List.flatMap_cons, List.getElem?_append_left (by simp [encU]; omega)]
    simp
  | u :: l, i + 1, hi, j, hj => by
    have e : flatU (u :: l) = encU u ++ flatU l := by unfold flatU; simp
    rw [e, List.getElem?_append_right (by simp [encU]; omega), show (i + 1) * 4 + j - (encU u).length = i * 4 + j by simp [encU]; omega]
    exact flatU_get l i (by simpa using hi) j hj
theorem UR.of_own {w : World} {base : Nat} {e : TypeId} {v : Value} {l : List Up} (h : w.ownsRow base e 4 v l.length (flatU l)) : UR w v l := by
  rcases h.2 with ⟨hv, h0⟩ | ⟨g, cap, cur, hv, hb, hg, hn, hm, hs, ht⟩
  · exact ⟨none, 0, by rw [hv, h0], fun hp => by omega⟩
  · refine ⟨some ⟨g, 0, none⟩, cap, hv, fun _ => ⟨g, 0, rfl, fun i hi j hj => ?_⟩⟩
    rw [← flatU_get l i hi j hj, ← ht, List.getElem?_take, if_pos (by omega)]
    unfold World.cell?
    simp only [hg]
    simp
theorem UR.slice {w : World} {v : Value} {l : List Up} (h : UR w v l) : ∃ a cap, v = .slice a l.length cap := by obtain ⟨a, cap, hv, _⟩ := h.form; exact ⟨a, cap, hv⟩
theorem info_up : (Try.prog.info? 70).map (fun i => (i.zero, i.size, i.bytes)) = some (some (.agg #[.int .u8 0, .string ⟨#[]⟩, .string ⟨#[]⟩, .int .u64 0]), 4, 48) := by kernel_rfl
theorem enc_one (u : Up) : ∀ x ∈ encU u, x.oneCell' = true := by
  intro x hx
  simp only [encU, List.mem_cons, List.mem_nil_iff, or_false] at hx
  rcases hx with rfl | rfl | rfl | rfl <;> rfl
theorem flat_one (l : List Up) : ∀ u ∈ flatU l, u.oneCell' = true := by
  intro u hu
  obtain ⟨x, _, hx⟩ := List.mem_flatMap.1 hu
  exact enc_one x u hx
theorem has_news {w : World} {b : Nat} {t : TypeId} {cs : List Value} (h : Has w b t cs) : ∀ j u, cs[j]? = some u → w.cell? ((⟨b, 0, none⟩ : Addr).add j) = some u := fun j u hu => by rw [Addr.add_lit, Nat.zero_add, h.cell]; exact hu
theorem list_of (n : Nat) (P : Nat → Up → Prop) (h : ∀ i, i < n → ∃ u, P i u) : ∃ l : List Up, l.length = n ∧ ∀ i (hi : i < l.length), P i l[i] := by
  induction n with
  | zero => exact ⟨[], rfl, fun i hi => by cases hi⟩
  | succ n ih =>
    obtain ⟨l, hl, hp⟩ := ih fun i hi => h i (by omega)
    obtain ⟨u, hu⟩ := h n (by omega)
    refine ⟨l ++ [u], by simp [hl], fun i hi => ?_⟩
    rw [List.length_append, hl] at hi
    simp only [List.length_cons, List.length_nil] at hi
    by_cases h2 : i < n
    · rw [List.getElem_append_left (by omega)]; exact hp i (by omega)
    · have : i = n := by omega
      subst this
      rw [List.getElem_append_right (by omega)]
      simpa [hl] using hu
theorem ur_of {w : World} {a : Option Addr} {len cap : Nat} (Q : Up → Prop) (h : 0 < len → ∃ b off, a = some ⟨b, off, none⟩ ∧ ∀ i, i < len → ∃ u : Up, Q u ∧ ∀ j, j < 4 → w.cell? ⟨b, off + i * 4 + j, none⟩ = (encU u)[j]?) :
    ∃ l, len = l.length ∧ UR w (.slice a len cap) l ∧ ∀ u ∈ l, Q u := by
  by_cases h0 : 0 < len
  · obtain ⟨b, off, rfl, hx⟩ := h h0
    obtain ⟨l, hl, hp⟩ := list_of len _ hx
    subst hl
    refine ⟨l, rfl, ⟨_, cap, rfl, fun _ => ⟨b, off, rfl, fun i hi => (hp i hi).2⟩⟩, fun u hu => ?_⟩
    obtain ⟨i, hi, rfl⟩ := List.mem_iff_getElem.1 hu
    exact (hp i hi).1
  · have : len = 0 := by omega
    subst this
    exact ⟨[], rfl, ⟨a, cap, rfl, fun h => by cases h⟩, fun u hu => by cases hu⟩
theorem u8_bd {x : Int} (h : (Lit.int .u8 x).wf = true) : 0 ≤ x ∧ x ≤ 255 := by
  simp only [Lit.wf, Bool.and_eq_true, decide_eq_true_eq, show IntKind.u8.min = 0 from rfl, show IntKind.u8.max = 255 from rfl] at h
  omega
theorem u64_bd {x : Int} (h : (Lit.int .u64 x).wf = true) : 0 ≤ x ∧ x < 18446744073709551616 := by
  simp only [Lit.wf, Bool.and_eq_true, decide_eq_true_eq, show IntKind.u64.min = 0 from rfl, show IntKind.u64.max = 18446744073709551615 from rfl] at h
  omega
theorem u32_bd {x : Int} (h : (Lit.int .u32 x).wf = true) : 0 ≤ x ∧ x < 4294967296 := by
  simp only [Lit.wf, Bool.and_eq_true, decide_eq_true_eq, show IntKind.u32.min = 0 from rfl, show IntKind.u32.max = 4294967295 from rfl] at h
  omega
theorem u16_bd {x : Int} (h : (Lit.int .u16 x).wf = true) : 0 ≤ x ∧ x < 65536 := by
  simp only [Lit.wf, Bool.and_eq_true, decide_eq_true_eq, show IntKind.u16.min = 0 from rfl, show IntKind.u16.max = 65535 from rfl] at h
  omega
/-- an update told by its cells -/
theorem up_cells {w : World} {b off i : Nat} {x0 x3 : Int} {x1 x2 : ByteArray} (c0 : w.cell? ⟨b, off + (i * 4 + 0), none⟩ = some (.int .u8 x0)) (c1 : w.cell? ⟨b, off + (i * 4 + 1), none⟩ = some (.string x1)) (c2 : w.cell? ⟨b, off + (i * 4 + 2), none⟩ = some (.string x2)) (c3 : w.cell? ⟨b, off + (i * 4 + 3), none⟩ = some (.int .u64 x3)) :
    ∀ j, j < 4 → w.cell? ⟨b, off + i * 4 + j, none⟩ = (encU ⟨x0, x1.data.toList, x2.data.toList, x3⟩)[j]? := by
  intro j hj
  have e : ∀ s : ByteArray, Lend.strOf s.data.toList = s := fun s => (Lend.strOf_ext rfl).symm
  rw [Nat.add_assoc]
  match j, hj with
  | 0, _ => rw [c0]; rfl
  | 1, _ => rw [c1]; simp [encU, e]
  | 2, _ => rw [c2]; simp [encU, e]
  | 3, _ => rw [c3]; rfl
theorem UR.at_ {w : World} {ao : Option Addr} {n cap : Nat} {l : List Up} (h : UR w (.slice ao n cap) l) (h0 : 0 < l.length) : ∃ g off, ao = some ⟨g, off, none⟩ ∧ ∀ i (hi : i < l.length) j, j < 4 → w.cell? ⟨g, off + i * 4 + j, none⟩ = (encU l[i])[j]? := by
  obtain ⟨a, cap', he, hx⟩ := h.form
  obtain ⟨g, off, ha, hc⟩ := hx h0
  refine ⟨g, off, ?_, hc⟩
  simp at he
  rw [he.1, ha]
/-- one update of a row -/
theorem UR.sub {w : World} {g off n cap : Nat} {l : List Up} (h : UR w (.slice (some ⟨g, off, none⟩) n cap) l) (k c : Nat) (hk : k < l.length) : UR w (.slice (some ⟨g, off + k * 4, none⟩) 1 c) [l[k]] := by
  obtain ⟨a, cap', he, hx⟩ := h.form
  obtain ⟨b, o, ha, hc⟩ := hx (by omega)
  subst ha
  simp at he
  obtain ⟨⟨rfl, rfl⟩, _⟩ := he
  refine ⟨_, c, rfl, fun _ => ⟨_, _, rfl, fun i hi j hj => ?_⟩⟩
  have : i = 0 := by simp at hi; exact hi
  subst this
  rw [Nat.zero_mul, Nat.add_zero]
  exact hc k hk j hj
theorem UR.cap {w : World} {ao : Option Addr} {n c : Nat} {l : List Up} (h : UR w (.slice ao n c) l) (c' : Nat) : UR w (.slice ao n c') l := by
  obtain ⟨a, cap, he, hx⟩ := h.form
  simp at he
  obtain ⟨rfl, rfl, rfl⟩ := he
  exact ⟨_, c', rfl, hx⟩
theorem UR.nil (w : World) : UR w (.slice none 0 0) [] := ⟨none, 0, rfl, fun h => by cases h⟩
theorem wpList_append_run {P : Program} {w w' : World} {ops : Array Oper} {rest : List Oper} {o : Oper} {a : Act} {Q : Exit → Act → World → Prop} (hgd : o.guard = none) (sl x : Operand) (t u : TypeId)
    (ho : o.op = .call { callee := .builtin .append, args := #[sl, x], argTypes := #[t, u] }) (v y v' : Value) (hs : a.eval sl = v) (hx : a.eval x = y)
    (hr : (Builtin.append_ #[t, u] o.type #[v, y]).run P w = .ok v' w') (h : wpList P ops Q rest (a.put o.dst v') w') : wpList P ops Q (o :: rest) a w := by
  refine wpList_plain hgd fun K hK => ?_
  unfold Oper.wp execOp
  simp only [ho, resolve, invoke, builtin, Sem.run_bind, Sem.run_pure, Result.andThen_ok, List.map_toArray, List.map_cons, List.map_nil, hs, hx, hr]
  exact hK _ _ h
theorem ra_cases {w : World} {B : Nat} {ao : Option Addr} {n c : Nat} {l : List Up} (h : RA w B (.slice ao n c) l) : n = l.length ∧ ((ao = none ∧ n = 0 ∧ c = 0) ∨ ∃ g, ao = some ⟨g, 0, none⟩ ∧ g < w.heap.size ∧ n ≤ c ∧ ∀ j u, (flatU l)[j]? = some u → w.cell? ⟨g, j, none⟩ = some u) := by
  rcases h.2 with ⟨hv, h0⟩ | ⟨g, cap, cur, hv, hb, hg, hn, hm, hs, ht⟩
  · simp at hv
    exact ⟨by omega, .inl ⟨hv.1, hv.2.1, hv.2.2⟩⟩
  · simp at hv
    obtain ⟨rfl, rfl, rfl⟩ := hv
    refine ⟨rfl, .inr ⟨g, rfl, (Array.getElem?_eq_some_iff.1 hg).1, hn, fun j u hj => ?_⟩⟩
    rw [← ht, List.getElem?_take] at hj
    split at hj
    · unfold World.cell?
      simp only [hg]
      simpa using hj
    · cases hj
/-- append(a[:len(a):len(a)], b...) -/
theorem app_ups {w : World} {B B' : Nat} {ao bo : Option Addr} {n m ac bc : Nat} {la lb : List Up} (ha : RA w B (.slice ao n ac) la) (hb : RA w B' (.slice bo m bc) lb) (hn : n + m ≤ 1000) :
    ∃ v' w', (Builtin.append_ #[27, 27] 27 #[.slice ao n n, .slice bo m bc]).run Try.prog w = .ok v' w' ∧ UR w' v' (la ++ lb) ∧ Below w.heap.size w w' := by
  obtain ⟨i0, hi, hz0, hz1, hz2⟩ := info_parts info_up
  have hua := (UR.of_own (v := .slice ao n ac) (l := la) ha).cap n
  obtain ⟨hnl, ca⟩ := ra_cases ha
  obtain ⟨hml, cb⟩ := ra_cases hb
  have hsrc : ∃ _ : Unit, Src Try.prog i0.size 27 (.slice bo m bc) m (flatU lb) w := by
    rw [hz1]
    rcases cb with ⟨rfl, rfl, rfl⟩ | ⟨h, rfl, hlt, hle, hc⟩
    · have : lb = [] := List.eq_nil_of_length_eq_zero hml.symm
      subst this
      exact ⟨(), Src.ofNil w Try.underlying27 0⟩
    · exact ⟨(), Src.ofSlice w Try.underlying27 _ m bc (flatU lb) (by rw [flatU_length, hml]) (fun j u hj => by rw [Addr.add_lit, Nat.zero_add]; exact hc j u hj) (flat_one lb)⟩
  obtain ⟨_, hsrc⟩ := hsrc
  by_cases h0 : m = 0
  · subst h0
    have : lb = [] := List.eq_nil_of_length_eq_zero hml.symm
    subst this
    rw [List.append_nil]
    rcases ca with ⟨rfl, rfl, rfl⟩ | ⟨g, rfl, hlt, hle, hc⟩
    · refine ⟨.slice none 0 0, w, ?_, hua, Below.refl _ _⟩
      simp [Builtin.append_, run_underlying Try.underlying27, sizeOf, typeInfo, hi, hsrc.len, hsrc.cells, flatU]
    · refine ⟨_, _, run_append_room_src w _ _ _ 70 i0 Try.underlying27 hi g 0 n n _ 0 (flatU []) hsrc (Nat.le_refl _) (fun j hj => by simp [flatU] at hj) (fun j hj => by simp [flatU] at hj), ?_, ?_⟩
      · simpa [flatU, World.setCells] using hua
      · simp [flatU, World.setCells]; exact Below.refl _ _
  · have hold : (Builtin.firstCells i0.size n (.slice ao n n)).run Try.prog w.drew = .ok (flatU la).toArray w.drew := by
      rw [hz1]
      rcases ca with ⟨rfl, rfl, rfl⟩ | ⟨g, rfl, hlt, hle, hc⟩
      · have : la = [] := List.eq_nil_of_length_eq_zero hnl.symm
        subst this
        exact run_firstCells_none _ _ _ _ _
      · exact run_firstCells_some w.drew 4 n ⟨g, 0, none⟩ n n (flatU la) (by rw [flatU_length, hnl]) (fun j u hj => by rw [Addr.add_lit, Nat.zero_add]; exact hc j u hj)
    refine ⟨_, _, run_append_grow_src w _ _ _ 70 i0 _ Try.underlying27 hi hz0 ao n n (flatU la) hold _ m (flatU lb) hsrc (by omega) (by omega) (by rw [hz2]; exact growslice_fits (by omega) (by omega)), ?_, ?_⟩
    · refine ⟨_, _, by rw [List.length_append, ← hnl, ← hml], fun _ => ⟨w.heap.size, 0, rfl, fun i hi j hj => ?_⟩⟩
      rw [← flatU_get (la ++ lb) i hi j hj, flatU_append]
      have hlen : 0 + i * 4 + j < (flatU la ++ flatU lb).length := by
        rw [List.length_append, flatU_length, flatU_length]
        rw [List.length_append] at hi
        omega
      unfold World.cell?
      have e : (w.drew.alloc (.cells ((flatU la ++ flatU lb).toArray ++ Builtin.zeroCells (Value.agg #[.int .u8 0, .string ⟨#[]⟩, .string ⟨#[]⟩, .int .u64 0]).cells (grownCap w (n + m) n 70 - (n + m))) 70)).heap[w.heap.size]? = some (.cells ((flatU la ++ flatU lb).toArray ++ Builtin.zeroCells (Value.agg #[.int .u8 0, .string ⟨#[]⟩, .string ⟨#[]⟩, .int .u64 0]).cells (grownCap w (n + m) n 70 - (n + m))) 70 (0, 0)) := by
        show (w.heap.push _)[w.heap.size]? = _; simp
      simp only [e]
      rw [Nat.zero_add] at hlen ⊢
      rw [if_neg (by simp)] <;> (rw [Array.getElem?_append_left (by simpa using hlen)]; simp)
    · exact ((Below.refl _ _).drew : Below w.heap.size w w.drew).alloc (Nat.le_refl _) _
end Go.Proofs.Ytfclecbhfamomaa.Rec
