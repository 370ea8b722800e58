/- Layer 14 (msg): append(all[:k:k], last); joined from the right. -/
import Derived.Test.YtmhinnfcfnlfkaaMsgN
namespace Go.Proofs.Ytmhinnfcfnlfkaa.Msg
open Go Go.RowKit Go.Proofs.Ytmhinnfcfnlfkaa Go.Proofs.Ytmhinnfcfnlfkaa.Lend Go.Proofs.Ytmhinnfcfnlfkaa.Rec
set_option linter.unusedVariables false

theorem app_cut {w : World} {B g n c X : Nat} {M : List Up} {u : Up} (ha : RA w B (.slice (some ⟨g, 0, none⟩) n c) M) (hx : Has w X 29 (encU u)) (k : Nat) (hk : k ≤ M.length) (hn : k ≤ 1000) :
    ∃ v' w', (Builtin.append_ #[23, 23] 23 #[.slice (some ⟨g, 0, none⟩) k k, .slice (some ⟨X, 0, none⟩) 1 1]).run Try.prog w = .ok v' w' ∧ UR w' v' (M.take k ++ [u]) ∧ Below w.heap.size w w' := by
  obtain ⟨i0, hi, hz0, hz1, hz2⟩ := info_parts info_up
  have hlk : (M.take k).length = k := by rw [List.length_take]; omega
  have hsrc : Src Try.prog i0.size 23 (.slice (some ⟨X, 0, none⟩) 1 1) 1 (encU u) w := by
    rw [hz1]
    exact Src.ofSlice w Try.underlying23 _ 1 1 (encU u) rfl (fun j v hj => by rw [Addr.add_lit, Nat.zero_add, hx.cell]; exact hj) (enc_one u)
  have hold : (Builtin.firstCells i0.size k (.slice (some ⟨g, 0, none⟩) k k)).run Try.prog w.drew = .ok (flatU (M.take k)).toArray w.drew := by
    rw [hz1]
    refine run_firstCells_some w.drew 4 k ⟨g, 0, none⟩ k k (flatU (M.take k)) (by rw [flatU_length, hlk]) (fun j v hj => ?_)
    obtain ⟨_, hc⟩ := ra_cases ha
    rcases hc with ⟨he, _⟩ | ⟨g', he, hlt, hle, hcc⟩
    · cases he
    · simp only [Option.some.injEq, Addr.mk.injEq, and_true] at he
      subst he
      rw [Addr.add_lit, Nat.zero_add]
      refine hcc j v ?_
      have e : flatU M = flatU (M.take k) ++ flatU (M.drop k) := by rw [← flatU_append, List.take_append_drop]
      rw [e, List.getElem?_append_left ((List.getElem?_eq_some_iff.1 hj).1)]
      exact hj
  refine ⟨_, _, run_append_grow_src w _ _ _ 29 i0 _ Try.underlying23 hi hz0 (some ⟨g, 0, none⟩) k k (flatU (M.take k)) hold _ 1 (encU u) hsrc (by omega) (by omega) (by rw [hz2]; exact growslice_fits (by omega) (by omega)), ?_, ?_⟩
  · refine ⟨_, _, by rw [List.length_append, hlk]; rfl, fun _ => ⟨w.heap.size, 0, rfl, fun i hi j hj => ?_⟩⟩
    have e1 : flatU (M.take k ++ [u]) = flatU (M.take k) ++ encU u := flatU_snoc _ _
    rw [← flatU_get (M.take k ++ [u]) i hi j hj, e1]
    have hlen : 0 + i * 4 + j < (flatU (M.take k) ++ encU u).length := by
      rw [← e1, flatU_length]
      omega
    unfold World.cell?
    have e : (w.drew.alloc (.cells ((flatU (M.take k) ++ encU u).toArray ++ Builtin.zeroCells (Value.agg #[.int .u8 0, .string ⟨#[]⟩, .string ⟨#[]⟩, .int .u64 0]).cells (grownCap w (k + 1) k 29 - (k + 1))) 29)).heap[w.heap.size]? = some (.cells ((flatU (M.take k) ++ encU u).toArray ++ Builtin.zeroCells (Value.agg #[.int .u8 0, .string ⟨#[]⟩, .string ⟨#[]⟩, .int .u64 0]).cells (grownCap w (k + 1) k 29 - (k + 1))) 29 (0, 0)) := by
      show (w.heap.push _)[w.heap.size]? = _; simp
    simp only [e]
    rw [Nat.zero_add] at hlen ⊢
    rw [if_neg (by simp)] <;> (rw [Array.getElem?_append_left (by simpa using hlen)]; simp)
  · exact ((Below.refl _ _).drew : Below w.heap.size w w.drew).alloc (Nat.le_refl _) _
/-- the region that appends and asks: what stands in memory, as far as it has come -/
structure Apd (w1 : World) (X : Nat) (u : Up) (L : List Up) (l : Nat → Bool) (a : Act) (w : World) : Prop where
  bel : Below w1.heap.size w1 w
  sz : l 8 = false → w.heap.size = w1.heap.size
  one : l 8 = true → Has w w1.heap.size 29 (encU u)
  two : l 9 = true → UR w (a.tmps.getD 125 undef) L
  ord : l 9 = true → l 8 = true
section
variable {w1 w w' : World} {X : Nat} {u : Up} {L : List Up} {l : Nat → Bool} {a : Act}
theorem Apd.start (a : Act) : Apd w1 X u L (fun _ => false) a w1.drew := ⟨(Below.refl _ _).drew, fun _ => rfl, (fun h => by cases h), (fun h => by cases h), (fun h => by cases h)⟩
theorem Apd.keep (h : Apd w1 X u L l a w) {i c : Nat} (v : Value) (h1 : i ≠ 8) (h2 : i ≠ 9) (h3 : c ≠ 125) (hc : c < a.tmps.size) : Apd w1 X u L (Reg.lset l i) (a.put (some c) v) w :=
  ⟨h.bel, by rw [lset_ne h1]; exact h.sz, by rw [lset_ne h1]; exact h.one, by rw [lset_ne h2, Reg.getD_put _ _ _ _ hc, if_neg h3]; exact h.two, by rw [lset_ne h1, lset_ne h2]; exact h.ord⟩
theorem Apd.call (h : Apd w1 X u L l a w) (h9 : l 8 = true) (hb : Below w.heap.size w w') {i c : Nat} (v : Value) (h1 : i ≠ 8) (h2 : i ≠ 9) (h3 : c ≠ 125) (hc : c < a.tmps.size) : Apd w1 X u L (Reg.lset l i) (a.put (some c) v) w' :=
  ⟨below_on h.bel hb, by rw [lset_ne h1, h9]; exact fun h => (by cases h), by rw [lset_ne h1]; exact fun h8 => (h.one h8).below hb (h.one h8).lt, by rw [lset_ne h2, Reg.getD_put _ _ _ _ hc, if_neg h3]; exact fun h9 => (h.two h9).below hb, by rw [lset_ne h1, lset_ne h2]; exact h.ord⟩
theorem Apd.lay (h : Apd w1 X u L l a w) (h8 : l 8 = false) (h9 : l 9 = false) (v : Value) (hc : 124 < a.tmps.size) : Apd w1 X u L (Reg.lset l 8) (a.put (some 124) v) (w.alloc (.cells (encU u).toArray 29)) := by
  have hs := h.sz h8
  refine ⟨below_nw h.bel _, by rw [lset_eq]; exact fun h => (by cases h), fun _ => by rw [← hs]; exact Has.new w (encU u) _, by rw [lset_ne (by decide), h9]; exact fun h => (by cases h), fun _ => lset_eq⟩
theorem Apd.app (h : Apd w1 X u L l a w) (h8 : l 8 = true) {v : Value} (hu : UR w' v L) (hb : Below w.heap.size w w') (hc : 125 < a.tmps.size) : Apd w1 X u L (Reg.lset l 9) (a.put (some 125) v) w' :=
  ⟨below_on h.bel hb, by rw [lset_ne (by decide), h8]; exact fun h => (by cases h), by rw [lset_ne (by decide)]; exact fun h8 => (h.one h8).below hb (h.one h8).lt, by rw [Reg.getD_put _ _ _ _ hc, if_pos rfl]; exact fun _ => hu, fun _ => by rw [lset_ne (by decide)]; exact h8⟩
end
/-- all but the last, from a place on -/
theorem jr_step {P : List Up} {z : Up} {i : Nat} (h : i < P.length) : jrU (P.drop i) z = joU P[i] (jrU (P.drop (i + 1)) z) := by
  rw [List.drop_eq_getElem_cons h]; rfl
end Go.Proofs.Ytmhinnfcfnlfkaa.Msg
