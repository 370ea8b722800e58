/- Layer 3 (dev): a write that is appended to the cache. -/
import Derived.Test.YtlnocdmechidfaaDevMath
namespace Go.Proofs.Ytlnocdmechidfaa.Dev
open Go Go.RowKit Go.Proofs.Ytlnocdmechidfaa

/-- the device is D now; only its own blocks, and new ones, are others; it has none but its own and new ones -/
def Now (p sb : Nat) (cv : Value) (w : World) (D : Dv) (w' : World) : Prop :=
  ∃ cv', Chg (foot p sb cv) w w' ∧ DevAt w' p sb cv' D ∧ ∀ k, foot p sb cv' k → foot p sb cv k ∨ w.heap.size ≤ k
theorem Now.same {p sb : Nat} {cv : Value} {w w' : World} {D : Dv} (hc : Chg (foot p sb cv) w w') (h : DevAt w' p sb cv D) : Now p sb cv w D w' := ⟨cv, hc, h, fun _ hk => .inl hk⟩
theorem Now.trans {p sb : Nat} {cv : Value} {w w1 w2 : World} {D2 : Dv} (h1 : Chg (foot p sb cv) w w1) (h2 : Now p sb cv w1 D2 w2) : Now p sb cv w D2 w2 := by
  obtain ⟨cv', hc, hd, hf⟩ := h2
  refine ⟨cv', h1.trans hc (fun _ _ h => h), hd, fun k hk => ?_⟩
  rcases hf k hk with h | h
  · exact .inl h
  · exact .inr (Nat.le_trans h1.size h)

theorem flatW_snoc (l : List (Nat × ByteArray)) (i : Nat) (s : ByteArray) : flatW (l ++ [(i, s)]) = flatW l ++ [.int .i64 (i : Nat), .string s] := by
  unfold flatW; rw [List.flatMap_append]; rfl
theorem DevAt.append {w w1 : World} {p sb : Nat} {cv v' : Value} {D : Dv} (h : DevAt w p sb cv D) (o : Obj) (i : Nat) (s : ByteArray) (hi : i < D.n) (hs : s.size = D.size)
    (hown : w1.ownsRow 0 76 2 v' (D.cache.length + 1) (flatW D.cache ++ [.int .i64 (i : Nat), .string s])) (hg : (w.alloc o).grownBy w1 cv.ownBlock) (hat : v'.ownBlock = cv.ownBlock ∨ v'.ownBlock = some (w.alloc o).heap.size) :
    Now p sb cv w (D.push i s) (w1.setCell ⟨p, 3, none⟩ v') := by
  have hp := h.main.lt
  have hsb := h.secs.lt
  have hcv := fun k e => (h.cache.lt k e).2
  have hvp : v'.ownBlock ≠ some p := by
    rcases hat with e | e
    · rw [e]; exact h.cp
    · rw [e]; simp; omega
  have hvs : v'.ownBlock ≠ some sb := by
    rcases hat with e | e
    · rw [e]; exact h.cs
    · rw [e]; simp; omega
  have hm1 : Has w1 p 70 (D.cells sb cv) := (h.main.alloc o).same (hg.block p (by simp; omega) (fun e => h.cp e.symm))
  have hs1 : Has w1 sb 63 (flatS D.secs) := (h.secs.alloc o).same (hg.block sb (by simp; omega) (fun e => h.cs e.symm))
  have hlen : (D.cache ++ [(i, s)]).length = D.cache.length + 1 := by simp
  have e0 : (D.push i s) = { D with cache := D.cache ++ [(i, s)] } := by unfold Dv.push; rw [Int.toNat_natCast]
  rw [e0]
  refine ⟨v', ?_, ⟨?_, hs1.setOther h.ps _, ?_, h.ps, hvp, hvs, ?_⟩, ?_⟩
  · exact (((Chg.refl _ w).alloc o).grown hg (fun k _ e => .inr (.inr e))).setCell (fun _ => .inl rfl) _
  · exact hm1.set 3 v'
  · rw [show ({ D with cache := D.cache ++ [(i, s)] } : Dv).cache = D.cache ++ [(i, s)] from rfl, hlen, flatW_snoc]
    exact owns_same hown fun k e => Below.heap_setCell _ _ _ _ (fun e' => hvp (by rw [e]; exact congrArg some e'))
  · refine ⟨h.ok.n8, h.ok.n4096, h.ok.s128, h.ok.s1024, h.ok.media, ?_, ?_, h.ok.fuse, h.ok.lose, h.ok.stray⟩
    · intro x hx
      rcases List.mem_append.1 hx with hx | hx
      · exact h.ok.text x hx
      · rw [List.mem_singleton.1 hx]; exact hs
    · intro x hx
      rcases List.mem_append.1 hx with hx | hx
      · exact h.ok.sector x hx
      · rw [List.mem_singleton.1 hx]; exact hi
  · rintro k (rfl | rfl | e)
    · exact .inl (.inl rfl)
    · exact .inl (.inr (.inl rfl))
    · rcases hat with e' | e'
      · exact .inl (.inr (.inr (by rw [← e']; exact e)))
      · rw [e'] at e; simp at e; exact .inr (by omega)

/-! ### writes that last -/
theorem Dv.put_n (D : Dv) (i : Nat) (t : ByteArray) (k : Nat) : (D.put i t k).n = D.n := by
  unfold Dv.put; split
  · show List.length _ = _; rw [List.length_set]; rfl
  · rfl
theorem Dv.put_size (D : Dv) (i : Nat) (t : ByteArray) (k : Nat) : (D.put i t k).size = D.size := by unfold Dv.put; split <;> rfl
theorem Dv.put_cache (D : Dv) (i : Nat) (t : ByteArray) (k : Nat) : (D.put i t k).cache = D.cache := by unfold Dv.put; split <;> rfl
/-- of each write the first bytes last: as many as g tells -/
def Dv.puts (D : Dv) (l : List ((Nat × ByteArray) × Nat)) : Dv := l.foldl (fun D x => D.put x.1.1 x.1.2 x.2) D
theorem Dv.puts_n (l : List ((Nat × ByteArray) × Nat)) : ∀ D : Dv, (D.puts l).n = D.n := by
  induction l with
  | nil => intro D; rfl
  | cons x l ih => intro D; show (Dv.puts _ l).n = _; rw [ih, Dv.put_n]
theorem Dv.puts_size (l : List ((Nat × ByteArray) × Nat)) : ∀ D : Dv, (D.puts l).size = D.size := by
  induction l with
  | nil => intro D; rfl
  | cons x l ih => intro D; show (Dv.puts _ l).size = _; rw [ih, Dv.put_size]
theorem Dv.puts_cache (l : List ((Nat × ByteArray) × Nat)) : ∀ D : Dv, (D.puts l).cache = D.cache := by
  induction l with
  | nil => intro D; rfl
  | cons x l ih => intro D; show (Dv.puts _ l).cache = _; rw [ih, Dv.put_cache]
theorem Dv.puts_snoc (D : Dv) (l : List ((Nat × ByteArray) × Nat)) (x : (Nat × ByteArray) × Nat) : D.puts (l ++ [x]) = (D.puts l).put x.1.1 x.1.2 x.2 := by
  unfold Dv.puts; rw [List.foldl_append]; rfl
/-- the cache with how much of each lasts -/
def whole (D : Dv) : List ((Nat × ByteArray) × Nat) := D.cache.map fun x => (x, D.size)
theorem take_snoc' {α : Type} (l : List α) (k : Nat) (h : k < l.length) : l.take (k + 1) = l.take k ++ [l[k]] := by
  rw [List.take_succ_eq_append_getElem h]
theorem whole_take (D : Dv) (k : Nat) (h : k < D.cache.length) : (whole D).take (k + 1) = (whole D).take k ++ [(D.cache[k], D.size)] := by
  rw [take_snoc' _ k (by simpa [whole] using h)]; simp [whole]
def Dv.emptied (D : Dv) : Dv := { D with cache := [] }
def Dv.flushed (D : Dv) : Dv := { D with nf := bump D.nf }
def Dv.flushE (D : Dv) : Int := if refuse D ≠ 0 then refuse D else if stk D.fuse then 6 else 0
def Dv.flushD (D : Dv) : Dv := if refuse D ≠ 0 then D else if stk D.fuse then D.blow else ((D.blow.flushed).puts (whole D)).emptied
theorem DevAt.empty {w : World} {p sb : Nat} {cv : Value} {D : Dv} (h : DevAt w p sb cv D) : DevAt (w.setCell ⟨p, 3, none⟩ (.slice none 0 0)) p sb (.slice none 0 0) D.emptied :=
  ⟨h.main.set 3 _, h.secs.setOther h.ps _, World.ownsRow_nil _ _ _ _, h.ps, by simp [Value.ownBlock], by simp [Value.ownBlock],
   ⟨h.ok.n8, h.ok.n4096, h.ok.s128, h.ok.s1024, h.ok.media, fun x hx => (by cases hx), fun x hx => (by cases hx), h.ok.fuse, h.ok.lose, h.ok.stray⟩⟩
theorem foot_nil {p sb : Nat} {cv : Value} (k : Nat) (h : foot p sb (.slice none 0 0) k) : foot p sb cv k := by
  rcases h with rfl | rfl | h
  · exact .inl rfl
  · exact .inr (.inl rfl)
  · cases h
theorem Now.empty {w w' : World} {p sb : Nat} {cv : Value} {D : Dv} (hc : Chg (foot p sb cv) w w') (h : DevAt w' p sb (.slice none 0 0) D) : Now p sb cv w D w' := ⟨_, hc, h, fun k hk => .inl (foot_nil k hk)⟩
/-- the cache's value: nil, or in a block -/
theorem DevAt.cv_slice {w : World} {p sb : Nat} {cv : Value} {D : Dv} (h : DevAt w p sb cv D) : ∃ a cap, cv = .slice a D.cache.length cap ∧ (0 < D.cache.length → ∃ g, a = some ⟨g, 0, none⟩) := by
  rcases h.cache.2 with ⟨rfl, h0⟩ | ⟨g, cap, cur, rfl, _⟩
  · exact ⟨none, 0, by rw [h0], fun h => by omega⟩
  · exact ⟨_, cap, rfl, fun _ => ⟨g, rfl⟩⟩
theorem DevAt.cw0 {w : World} {p sb g len cap : Nat} {D : Dv} (h : DevAt w p sb (.slice (some ⟨g, 0, none⟩) len cap) D) (hl : len = D.cache.length) (k : Nat) (hk : k < D.cache.length) : w.cell? ⟨g, k * 2, none⟩ = some (.int .i64 ((D.cache[k].1 : Nat) : Int)) := by
  subst hl
  rw [h.cache.cellAt (k * 2) (by omega), flatW, flat2_get0 (fun x : Nat × ByteArray => Value.int .i64 (x.1 : Nat)) (fun x => Value.string x.2), List.getElem?_eq_getElem hk]; rfl
theorem DevAt.cw1 {w : World} {p sb g len cap : Nat} {D : Dv} (h : DevAt w p sb (.slice (some ⟨g, 0, none⟩) len cap) D) (hl : len = D.cache.length) (k : Nat) (hk : k < D.cache.length) : w.cell? ⟨g, k * 2 + 1, none⟩ = some (.string D.cache[k].2) := by
  subst hl
  rw [h.cache.cellAt (k * 2 + 1) (by omega), flatW, flat2_get1 (fun x : Nat × ByteArray => Value.int .i64 (x.1 : Nat)) (fun x => Value.string x.2), List.getElem?_eq_getElem hk]; rfl
theorem DevAt.cw0x {w : World} {p sb g len cap : Nat} {D : Dv} {x : Nat × ByteArray} (h : DevAt w p sb (.slice (some ⟨g, 0, none⟩) len cap) D) (hl : len = D.cache.length) (k : Nat) (hx : D.cache[k]? = some x) : w.cell? ⟨g, k * 2, none⟩ = some (.int .i64 (x.1 : Nat)) ∧ w.cell? ⟨g, k * 2 + 1, none⟩ = some (.string x.2) := by
  obtain ⟨hk, rfl⟩ := List.getElem?_eq_some_iff.1 hx
  exact ⟨h.cw0 hl k hk, h.cw1 hl k hk⟩
theorem whole_takex (D : Dv) (k : Nat) (x : Nat × ByteArray) (hx : D.cache[k]? = some x) : (whole D).take (k + 1) = (whole D).take k ++ [(x, D.size)] := by
  obtain ⟨hk, rfl⟩ := List.getElem?_eq_some_iff.1 hx
  exact whole_take D k hk
/-- the cache with what of each lasts behind a crash -/
def fated (D : Dv) (fs : List Int) : List ((Nat × ByteArray) × Nat) := List.zipWith (fun x f => (x, keptN f D.size)) D.cache fs
def Dv.calm (D : Dv) : Dv := { D with off := false, fuse := 0 }
def Dv.crashD (D : Dv) (fs : List Int) : Dv := ((D.puts (fated D fs)).emptied).calm
theorem fated_take (D : Dv) (fs : List Int) (k : Nat) (x : Nat × ByteArray) (f : Int) (hx : D.cache[k]? = some x) (hf : fs[k]? = some f) : (fated D fs).take (k + 1) = (fated D fs).take k ++ [(x, keptN f D.size)] := by
  obtain ⟨hk, rfl⟩ := List.getElem?_eq_some_iff.1 hx
  obtain ⟨hk', rfl⟩ := List.getElem?_eq_some_iff.1 hf
  rw [take_snoc' _ k (by unfold fated; rw [List.length_zipWith]; omega)]
  simp [fated]
theorem keptN_le (f : Int) (size : Nat) : keptN f size ≤ size := by
  unfold keptN; split
  · exact Nat.le_refl _
  · split <;> omega
end Go.Proofs.Ytlnocdmechidfaa.Dev
