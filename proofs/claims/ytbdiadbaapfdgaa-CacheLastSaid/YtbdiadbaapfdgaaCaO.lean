/- Layer 11 (cache): the contracts that others want, in the words of what is kept; nil caches. -/
import Derived.Test.YtbdiadbaapfdgaaCaL
namespace Go.Proofs.Ytbdiadbaapfdgaa.Ca
open Go Go.RowKit Go.Proofs.Ytbdiadbaapfdgaa Go.Maps
set_option linter.unusedVariables false

/-- what is kept of a block -/
structure En where
  addr : Int
  gen : Int
  sum : Int
  kind : Int
  pay : ByteArray
def Sl.en (s : Sl) : En := ⟨s.addr, s.gen, s.sum, s.kind, s.pay⟩
def rmE (es : List En) (a : Int) : List En := es.filter fun e => !(e.addr == a)
def gtE (es : List En) (a : Int) : Option En := es.find? fun e => e.addr == a
def putE (n : Nat) (es : List En) (e : En) : List En := e :: (rmE es e.addr).take (n - 1)
theorem rmE_map (l : List Sl) (a : Int) : (rmv l a).map Sl.en = rmE (l.map Sl.en) a := by
  unfold rmv rmE; rw [List.filter_map]; rfl
theorem gtE_map (l : List Sl) (a : Int) : gtE (l.map Sl.en) a = (fnd l a).map Sl.en := by
  unfold gtE fnd; rw [List.find?_map]; rfl
/-- the cache at p; R: its blocks; n slots; es is kept, what was used last first; at most c uses; f found, m missed -/
def CaAt (w : World) (p : Nat) (R : Nat → Prop) (n : Nat) (es : List En) (c f m : Nat) : Prop := ∃ mb v H l u, CaI w p mb v H n l u f m ∧ l.map Sl.en = es ∧ u ≤ c ∧ f ≤ c ∧ m ≤ c ∧ R = reg p mb v H
/-- what a call leaves -/
def Kept (w : World) (p : Nat) (R : Nat → Prop) (n : Nat) (es : List En) (c f m : Nat) (w' : World) : Prop := ∃ R', CaAt w' p R' n es c f m ∧ (∀ k, R' k → R k ∨ w.heap.size ≤ k) ∧ Chg R w w'
section
variable {w w' : World} {p : Nat} {R : Nat → Prop} {n : Nat} {es : List En} {c f m : Nat}
theorem CaAt.lt (h : CaAt w p R n es c f m) {k : Nat} (hk : R k) : k < w.heap.size := by obtain ⟨mb, v, H, l, u, h1, _, _, _, _, rfl⟩ := h; exact h1.lt hk
theorem CaAt.same (h : CaAt w p R n es c f m) (hk : ∀ k, R k → w'.heap[k]? = w.heap[k]?) : CaAt w' p R n es c f m := by
  obtain ⟨mb, v, H, l, u, h1, h2, h3, h4, h5, rfl⟩ := h; exact ⟨mb, v, H, l, u, h1.same hk, h2, h3, h4, h5, rfl⟩
theorem CaAt.on (h : CaAt w p R n es c f m) (hb : Below w.heap.size w w') : CaAt w' p R n es c f m := h.same fun k hk => hb.block k (h.lt hk)
theorem CaAt.len (h : CaAt w p R n es c f m) : es.length ≤ n ∧ 1 ≤ n ∧ n ≤ 4096 := by
  obtain ⟨mb, v, H, l, u, h1, rfl, _⟩ := h; rw [List.length_map]; exact ⟨h1.len, h1.n1, h1.n2⟩
theorem CaAt.nodup (h : CaAt w p R n es c f m) : (es.map En.addr).Nodup := by
  obtain ⟨mb, v, H, l, u, h1, rfl, _⟩ := h; rw [List.map_map]; exact h1.map.nodup
theorem kept_of {mb : Nat} {v : Value} {H : List Sl} {l : List Sl} {u f m : Nat} {es : List En} {c : Nat} (h : KI w p mb v H n l u f m w') (he : l.map Sl.en = es) (hu : u ≤ c) (hf : f ≤ c) (hm : m ≤ c) : Kept w p (reg p mb v H) n es c f m w' := by
  obtain ⟨v', H', h1, h2, h3⟩ := h
  refine ⟨reg p mb v' H', ⟨mb, v', H', l, u, h1, he, hu, hf, hm, rfl⟩, fun k hk => ?_, h3⟩
  rcases hk with e | e | e
  · exact .inl (.inl e)
  · exact .inl (.inr (.inl e))
  · rcases h2 k e with e | e
    · exact .inl (.inr (.inr e))
    · exact .inr e
theorem drop_any (h : CaAt w p R n es c f m) (a : Int) (ha : in64 a) : Calls Try.prog 14 #[.pointer (some ⟨p, 0, none⟩), .int .i64 a] w fun e w' => e = .returned (.tuple #[]) ∧ Kept w p R n (rmE es a) c f m w' := by
  obtain ⟨mb, v, H, l, u, h1, rfl, h3, h4, h5, rfl⟩ := h
  refine (drop_i h1 a ha).mono ?_
  rintro e w' ⟨rfl, hk⟩
  exact ⟨rfl, kept_of hk (rmE_map l a) h3 h4 h5⟩
theorem put_any (h : CaAt w p R n es c f m) (a g s k : Int) (y : ByteArray) (ha : in64 a) (hc : c < 4611686018427387904) : Calls Try.prog 10 #[.pointer (some ⟨p, 0, none⟩), .agg #[.int .i64 a, .int .u64 g, .int .u32 s], .int .u8 k, .string y] w fun e w' => e = .returned (.tuple #[]) ∧ Kept w p R n (putE n es ⟨a, g, s, k, y⟩) (c + 1) f m w' := by
  obtain ⟨mb, v, H, l, u, h1, rfl, h3, h4, h5, rfl⟩ := h
  refine (put_i h1 a g s k y ha (by omega)).mono ?_
  rintro e w' ⟨rfl, t, e1, e2, e3, e4, e5, hk⟩
  refine ⟨rfl, kept_of hk ?_ (by omega) (by omega) (by omega)⟩
  rw [List.map_cons, List.map_take, rmE_map]
  unfold putE Sl.en
  rw [e1, e2, e3, e4, e5]
/-- what a Get answers, and leaves -/
def GeP (w : World) (p : Nat) (R : Nat → Prop) (n : Nat) (es : List En) (c f m : Nat) (a g s : Int) (e : Ending) (w' : World) : Prop :=
  (∃ t, gtE es a = some t ∧ t.gen = g ∧ t.sum = s ∧ e = .returned (.tuple #[.int .u8 t.kind, .string t.pay, .bool true]) ∧ Kept w p R n (t :: rmE es a) (c + 1) (f + 1) m w') ∨
  ((∀ t, gtE es a = some t → ¬ (t.gen = g ∧ t.sum = s)) ∧ e = .returned (.tuple #[.int .u8 0, .string ⟨#[]⟩, .bool false]) ∧ Kept w p R n es (c + 1) f (m + 1) w')
theorem get_any (h : CaAt w p R n es c f m) (a g s : Int) (ha : in64 a) (hc : c < 4611686018427387904) : Calls Try.prog 12 #[.pointer (some ⟨p, 0, none⟩), .agg #[.int .i64 a, .int .u64 g, .int .u32 s]] w (GeP w p R n es c f m a g s) := by
  obtain ⟨mb, v, H, l, u, h1, rfl, h3, h4, h5, rfl⟩ := h
  refine (get_i h1 a g s ha (by omega) (by omega) (by omega)).mono ?_
  intro e w' hg
  unfold GtP at hg
  cases e1 : fnd l a with
  | none =>
    rw [e1] at hg
    obtain ⟨rfl, hk⟩ := hg
    refine .inr ⟨fun t ht => ?_, rfl, kept_of hk rfl (by omega) (by omega) (by omega)⟩
    rw [gtE_map, e1] at ht; cases ht
  | some t =>
    rw [e1] at hg
    dsimp only at hg
    by_cases hh : t.gen = g ∧ t.sum = s
    · rw [if_pos hh] at hg
      obtain ⟨rfl, hk⟩ := hg
      refine .inl ⟨t.en, by rw [gtE_map, e1]; rfl, hh.1, hh.2, rfl, kept_of hk ?_ (by omega) (by omega) (by omega)⟩
      rw [List.map_cons, rmE_map]; rfl
    · rw [if_neg hh] at hg
      obtain ⟨rfl, hk⟩ := hg
      refine .inr ⟨fun t' ht => ?_, rfl, kept_of hk rfl (by omega) (by omega) (by omega)⟩
      rw [gtE_map, e1] at ht
      injection ht with ht
      subst ht
      exact hh
/-- what List answers: a row of the call's own -/
def LsE (w : World) (es : List En) (e : Ending) (w' : World) : Prop := ∃ v', e = .returned v' ∧ w'.ownsRow w.heap.size 3 1 v' es.length (es.map fun s => .int .i64 s.addr) ∧ Below w.heap.size w w'
theorem list_any (h : CaAt w p R n es c f m) : Calls Try.prog 16 #[.pointer (some ⟨p, 0, none⟩)] w (LsE w es) := by
  obtain ⟨mb, v, H, l, u, h1, rfl, h3, h4, h5, rfl⟩ := h
  refine (list_i h1).mono ?_
  rintro e w' ⟨v', rfl, h2, h3⟩
  refine ⟨v', rfl, ?_, h3⟩
  rw [List.length_map, List.map_map]
  exact h2
set_option maxRecDepth 100000 in
theorem counts_any (h : CaAt w p R n es c f m) : Calls Try.prog 17 #[.pointer (some ⟨p, 0, none⟩)] w fun e w' => e = .returned (.tuple #[.int .i64 f, .int .i64 m]) ∧ Below w.heap.size w w' := by
  obtain ⟨mb, v, H, l, u, h1, rfl, h3, h4, h5, rfl⟩ := h
  have c4 := h1.hp.main.cell 4
  have c5 := h1.hp.main.cell 5
  simp only [cc, List.getElem?_cons_zero, List.getElem?_cons_succ] at c4 c5
  clear h1 h3 h4 h5
  go_enter Try.func17, Try.ntmps17
  go_wp2
  go_quiet (fail)
  go_wp2
  go_ret2
  exact ⟨rfl, (Chg.drewN (Chg.refl (fun _ => False) w) _).below (Nat.le_refl _) (fun _ h => h.elim)⟩
set_option maxRecDepth 100000 in
theorem new_no (k : Int) (w : World) (h : k < 1 ∨ 4096 < k) : Calls Try.prog 7 #[.int .i64 k] w fun e w' => e = .returned (.tuple #[.pointer none, .int .i64 2]) ∧ w' = w := by
  by_cases h1 : k < 1
  · clear h
    go_enter Try.func7, Try.ntmps7
    go_wp2
    go_ret2
    exact ⟨rfl, rfl⟩
  · have h2 : 4096 < k := by omega
    clear h
    go_enter Try.func7, Try.ntmps7
    go_wp2
    go_ret2
    exact ⟨rfl, rfl⟩
/-- what New answers, where there may be so many -/
def NwP (w : World) (n : Nat) (e : Ending) (w' : World) : Prop := ∃ p R, e = .returned (.tuple #[.pointer (some ⟨p, 0, none⟩), .int .i64 0]) ∧ CaAt w' p R n [] 0 0 0 ∧ (∀ k, R k → w.heap.size ≤ k) ∧ Below w.heap.size w w'
theorem NwP.mk {e : Ending} (p : Nat) (R : Nat → Prop) (he : e = .returned (.tuple #[.pointer (some ⟨p, 0, none⟩), .int .i64 0])) (h1 : CaAt w' p R n [] 0 0 0) (h2 : ∀ k, R k → w.heap.size ≤ k) (h3 : Below w.heap.size w w') : NwP w n e w' := ⟨p, R, he, h1, h2, h3⟩
set_option maxRecDepth 100000 in
theorem new_yes (n : Nat) (w : World) (h1 : 1 ≤ n) (h2 : n ≤ 4096) : Calls Try.prog 7 #[.int .i64 n] w (NwP w n) := by
  obtain ⟨w1, hw1⟩ : ∃ w1, w1 = (w.alloc (.map #[] 0)).alloc (.cells #[.int .i64 n, .map (some w.heap.size), .slice none 0 0, .int .u64 0, .int .i64 0, .int .i64 0] 62) := ⟨_, rfl⟩
  have hR : ∃ R, CaAt w1 (w.heap.size + 1) R n [] 0 0 0 ∧ (∀ k, R k → w.heap.size ≤ k) ∧ Below w.heap.size w w1 := by
    refine ⟨_, ⟨w.heap.size, .slice none 0 0, [], [], 0, ⟨⟨?_, World.ownsRow_nil _ _ _ _, (fun i hi => by cases hi), Nat.zero_le _⟩, List.Perm.refl _, (fun j _ hj => by cases hj), ?_, List.Pairwise.nil, (fun s hs => by cases hs), Nat.zero_le _, h1, h2, (fun s hs => by cases hs)⟩, rfl, Nat.le_refl _, Nat.le_refl _, Nat.le_refl _, rfl⟩, fun k hk => ?_, ?_⟩
    · rw [hw1]
      have := Has.new (w.alloc (.map #[] 0)) [.int .i64 n, .map (some w.heap.size), .slice none 0 0, .int .u64 0, .int .i64 0, .int .i64 0] 62
      rw [World.size_alloc] at this
      exact this
    · rw [hw1]
      exact (MS.made w).same (Below.heap_alloc _ _ _ (by simp))
    · rcases hk with e | e | e | ⟨i, hi, _⟩
      · omega
      · omega
      · cases e
      · cases hi
    · rw [hw1]
      exact ((Chg.refl (fun _ => False) w).alloc _ |>.alloc _).below (Nat.le_refl _) (fun _ h => h.elim)
  have HR := Lib.hid hR
  clear hR
  have hmk : (Instr.makeMap 58 none).run Try.prog w = .ok (.map (some w.heap.size)) (w.alloc (.map #[] 0)) := by kernel_rfl
  have h3 : ¬ (n : Int) < 1 := by omega
  have h4 : ¬ 4096 < (n : Int) := by omega
  go_enter Try.func7, Try.ntmps7
  go_wp2
  go_ret2
  rw [← hw1]
  obtain ⟨R, r1, r2, r3⟩ := HR.out
  exact NwP.mk _ R rfl r1 r2 r3
theorem put_nil (x y z : Value) (w : World) (a g s : Int) (hx : x = .agg #[.int .i64 a, .int .u64 g, .int .u32 s]) : Calls Try.prog 10 #[.pointer none, x, y, z] w fun e w' => e = .returned (.tuple #[]) ∧ Below w.heap.size w w' := by
  subst hx
  have HB := Lib.hid (((Chg.refl (fun _ => False) w).alloc (.cells #[.int .i64 a, .int .u64 g, .int .u32 s] 35)).below (Nat.le_refl _) (fun _ h => h.elim))
  go_enter Try.func10, Try.ntmps10
  go_wp2
  refine bodyPost_ret (results_none rfl _ _ _) rfl ?_
  exact ⟨rfl, HB.out⟩
theorem get_nil (w : World) (a g s : Int) : Calls Try.prog 12 #[.pointer none, .agg #[.int .i64 a, .int .u64 g, .int .u32 s]] w fun e w' => e = .returned (.tuple #[.int .u8 0, .string ⟨#[]⟩, .bool false]) ∧ Below w.heap.size w w' := by
  have HB := Lib.hid (((Chg.refl (fun _ => False) w).alloc (.cells #[.int .i64 a, .int .u64 g, .int .u32 s] 35)).below (Nat.le_refl _) (fun _ h => h.elim))
  go_enter Try.func12, Try.ntmps12
  go_wp2
  go_ret3
  exact ⟨rfl, HB.out⟩
theorem drop_nil (x : Value) (w : World) : Calls Try.prog 14 #[.pointer none, x] w fun e w' => e = .returned (.tuple #[]) ∧ w' = w := by
  go_enter Try.func14, Try.ntmps14
  go_wp2
  refine bodyPost_ret (results_none rfl _ _ _) rfl ?_
  exact ⟨rfl, rfl⟩
theorem list_nil (w : World) : Calls Try.prog 16 #[.pointer none] w fun e w' => e = .returned (.slice none 0 0) ∧ w' = w := by
  go_enter Try.func16, Try.ntmps16
  go_wp2
  go_ret
  exact ⟨rfl, rfl⟩
theorem counts_nil (w : World) : Calls Try.prog 17 #[.pointer none] w fun e w' => e = .returned (.tuple #[.int .i64 0, .int .i64 0]) ∧ w' = w := by
  go_enter Try.func17, Try.ntmps17
  go_wp2
  go_ret2
  exact ⟨rfl, rfl⟩
end
end Go.Proofs.Ytbdiadbaapfdgaa.Ca
