/- Rows of children, for layer 17 on (four cells each; of the program, of the document and of the laws: the cells are alike). -/
import Derived.Test.YtfclecbhfamomaaUps
import Derived.Test.YtfclecbhfamomaaBufMath
import Derived.Test.YtfclecbhfamomaaAppF
import Derived.Lib.AppendZerosOnto
import Derived.Lib.SliceRun
import Derived.Test.YtfclecbhfamomaaEnvMath
import Derived.Test.YtfclecbhfamomaaLendR
namespace Go.Proofs.Ytfclecbhfamomaa.Node
open Go Go.RowKit Go.Proofs.Ytfclecbhfamomaa Go.Proofs.Ytfclecbhfamomaa.Lend Go.Proofs.Ytfclecbhfamomaa.Rec Go.Proofs.Ytfclecbhfamomaa.Msg Go.Proofs.Ytfclecbhfamomaa.Buf
set_option linter.unusedVariables false

/-- a child: its least key, and what is known of its block -/
structure Ch where
  low : List UInt8
  addr : Int
  gen : Int
  sum : Int
/-- a child's four cells -/
def encC (c : Ch) : List Value := [.string (Lend.strOf c.low), .int .i64 c.addr, .int .u64 c.gen, .int .u32 c.sum]
/-- numbers of a child that are in their kinds -/
def WfC (c : Ch) : Prop := (-9223372036854775808 ≤ c.addr ∧ c.addr ≤ 9223372036854775807) ∧ (0 ≤ c.gen ∧ c.gen < 18446744073709551616) ∧ (0 ≤ c.sum ∧ c.sum < 4294967296)
theorem ch_list (n : Nat) (P : Nat → Ch → Prop) (h : ∀ i, i < n → ∃ u, P i u) : ∃ l : List Ch, l.length = n ∧ ∀ i (hi : i < l.length), P i l[i] := by
  induction n with
  | zero => exact ⟨[], rfl, fun i hi => by cases hi⟩
  | succ n ih =>
    obtain ⟨l, hl, hp⟩ := ih fun i hi => h i (by omega)
    obtain ⟨u, hu⟩ := h n (by omega)
    refine ⟨l ++ [u], by simp [hl], fun i hi => ?_⟩
    rw [List.length_append, hl] at hi
    simp only [List.length_cons, List.length_nil] at hi
    by_cases h2 : i < n
    · rw [List.getElem_append_left (by omega)]; exact hp i (by omega)
    · have : i = n := by omega
      subst this
      rw [List.getElem_append_right (by omega)]
      simpa [hl] using hu
/-- a slice that reads as the children l -/
structure CR (w : World) (v : Value) (l : List Ch) : Prop where
  form : ∃ a cap, v = .slice a l.length cap ∧ (0 < l.length → ∃ g off, a = some ⟨g, off, none⟩ ∧ ∀ i (hi : i < l.length) j, j < 4 → w.cell? ⟨g, off + i * 4 + j, none⟩ = (encC l[i])[j]?)
theorem CR.below {w w' : World} {v : Value} {l : List Ch} (h : CR w v l) (hb : Below w.heap.size w w') : CR w' v l := by
  obtain ⟨a, cap, rfl, hx⟩ := h.form
  refine ⟨a, cap, rfl, fun h0 => ?_⟩
  obtain ⟨g, off, rfl, hc⟩ := hx h0
  refine ⟨g, off, rfl, fun i hi j hj => ?_⟩
  rw [← hc i hi j hj]
  have h1 := hc i hi j hj
  have h2 : (encC l[i])[j]? = some ((encC l[i])[j]'(by simpa [encC] using hj)) := List.getElem?_eq_getElem _
  rw [h2] at h1
  exact hb.cell (World.block_lt_of_cell? _ _ h1)
def flatC (l : List Ch) : List Value := l.flatMap encC
theorem flatC_length (l : List Ch) : (flatC l).length = l.length * 4 := by
  unfold flatC
  induction l with
  | nil => rfl
  | cons u l ih => rw [List.flatMap_cons, List.length_append, ih]; simp [encC]; omega
theorem flatC_snoc (l : List Ch) (u : Ch) : flatC (l ++ [u]) = flatC l ++ encC u := by unfold flatC; simp
theorem flatC_append (a b : List Ch) : flatC (a ++ b) = flatC a ++ flatC b := List.flatMap_append
theorem flatC_get : ∀ (l : List Ch) (i : Nat) (hi : i < l.length) (j : Nat), j < 4 → (flatC l)[i * 4 + j]? = (encC l[i])[j]?
  | [], i, hi, _, _ => by cases hi
  | u :: l, 0, _, j, hj => by
    unfold flatC
    rw [List.flatMap_cons, List.getElem?_append_left (by simp [encC]; omega)]
    simp
  | u :: l, i + 1, hi, j, hj => by
    have e : flatC (u :: l) = encC u ++ flatC l := by unfold flatC; simp
    rw [e, List.getElem?_append_right (by simp [encC]; omega), show (i + 1) * 4 + j - (encC u).length = i * 4 + j by simp [encC]; omega]
    exact flatC_get l i (by simpa using hi) j hj
theorem CR.of_own {w : World} {base : Nat} {e : TypeId} {v : Value} {l : List Ch} (h : w.ownsRow base e 4 v l.length (flatC l)) : CR w v l := by
  rcases h.2 with ⟨hv, h0⟩ | ⟨g, cap, cur, hv, hb, hg, hn, hm, hs, ht⟩
  · exact ⟨none, 0, by rw [hv, h0], fun hp => by omega⟩
  · refine ⟨some ⟨g, 0, none⟩, cap, hv, fun _ => ⟨g, 0, rfl, fun i hi j hj => ?_⟩⟩
    rw [← flatC_get l i hi j hj, ← ht, List.getElem?_take, if_pos (by omega)]
    unfold World.cell?
    simp only [hg]
    simp
theorem CR.slice {w : World} {v : Value} {l : List Ch} (h : CR w v l) : ∃ a cap, v = .slice a l.length cap := by obtain ⟨a, cap, hv, _⟩ := h.form; exact ⟨a, cap, hv⟩
theorem encC_one (u : Ch) : ∀ x ∈ encC u, x.oneCell' = true := by
  intro x hx
  simp only [encC, List.mem_cons, List.mem_nil_iff, or_false] at hx
  rcases hx with rfl | rfl | rfl | rfl <;> rfl
theorem flatC_one (l : List Ch) : ∀ u ∈ flatC l, u.oneCell' = true := by
  intro u hu
  obtain ⟨x, _, hx⟩ := List.mem_flatMap.1 hu
  exact encC_one x u hx
theorem cr_of {w : World} {a : Option Addr} {len cap : Nat} (Q : Ch → Prop) (h : 0 < len → ∃ b off, a = some ⟨b, off, none⟩ ∧ ∀ i, i < len → ∃ u : Ch, Q u ∧ ∀ j, j < 4 → w.cell? ⟨b, off + i * 4 + j, none⟩ = (encC u)[j]?) :
    ∃ l, len = l.length ∧ CR w (.slice a len cap) l ∧ ∀ u ∈ l, Q u := by
  by_cases h0 : 0 < len
  · obtain ⟨b, off, rfl, hx⟩ := h h0
    obtain ⟨l, hl, hp⟩ := ch_list len _ hx
    subst hl
    refine ⟨l, rfl, ⟨_, cap, rfl, fun _ => ⟨b, off, rfl, fun i hi => (hp i hi).2⟩⟩, fun u hu => ?_⟩
    obtain ⟨i, hi, rfl⟩ := List.mem_iff_getElem.1 hu
    exact (hp i hi).1
  · have : len = 0 := by omega
    subst this
    exact ⟨[], rfl, ⟨a, cap, rfl, fun h => by cases h⟩, fun u hu => by cases hu⟩
theorem CR.at_ {w : World} {ao : Option Addr} {n cap : Nat} {l : List Ch} (h : CR w (.slice ao n cap) l) (h0 : 0 < l.length) : ∃ g off, ao = some ⟨g, off, none⟩ ∧ ∀ i (hi : i < l.length) j, j < 4 → w.cell? ⟨g, off + i * 4 + j, none⟩ = (encC l[i])[j]? := by
  obtain ⟨a, cap', he, hx⟩ := h.form
  obtain ⟨g, off, ha, hc⟩ := hx h0
  refine ⟨g, off, ?_, hc⟩
  simp at he
  rw [he.1, ha]
/-- one child of a row -/
theorem CR.sub {w : World} {g off n cap : Nat} {l : List Ch} (h : CR w (.slice (some ⟨g, off, none⟩) n cap) l) (k c : Nat) (hk : k < l.length) : CR w (.slice (some ⟨g, off + k * 4, none⟩) 1 c) [l[k]] := by
  obtain ⟨a, cap', he, hx⟩ := h.form
  obtain ⟨b, o, ha, hc⟩ := hx (by omega)
  subst ha
  simp at he
  obtain ⟨⟨rfl, rfl⟩, _⟩ := he
  refine ⟨_, c, rfl, fun _ => ⟨_, _, rfl, fun i hi j hj => ?_⟩⟩
  have : i = 0 := by simp at hi; exact hi
  subst this
  rw [Nat.zero_mul, Nat.add_zero]
  exact hc k hk j hj
theorem CR.cap {w : World} {ao : Option Addr} {n c : Nat} {l : List Ch} (h : CR w (.slice ao n c) l) (c' : Nat) : CR w (.slice ao n c') l := by
  obtain ⟨a, cap, he, hx⟩ := h.form
  simp at he
  obtain ⟨rfl, rfl, rfl⟩ := he
  exact ⟨_, c', rfl, hx⟩
theorem CR.nil (w : World) : CR w (.slice none 0 0) [] := ⟨none, 0, rfl, fun h => by cases h⟩
/-- a row of children of one's own, of either type -/
abbrev CO (T : TypeId) (w : World) (base : Nat) (v : Value) (l : List Ch) : Prop := w.ownsRow base T 4 v l.length (flatC l)
def IsC (T : TypeId) : Prop := (Try.prog.info? T).map (fun i => (i.zero, i.size, i.bytes)) = some (some (.agg #[.string ⟨#[]⟩, .int .i64 0, .int .u64 0, .int .u32 0]), 4, 40)
theorem cr_news {w : World} {g off m c : Nat} {l : List Ch} (h : CR w (.slice (some ⟨g, off, none⟩) m c) l) : ∀ j u, (flatC l)[j]? = some u → w.cell? ((⟨g, off, none⟩ : Addr).add j) = some u := by
  intro j u hj
  rw [Addr.add_lit]
  have hl := (List.getElem?_eq_some_iff.1 hj).1
  rw [flatC_length] at hl
  have h0 : 0 < l.length := by omega
  obtain ⟨g', off', he, hc⟩ := CR.at_ h h0
  simp only [Option.some.injEq, Addr.mk.injEq, and_true] at he
  obtain ⟨rfl, rfl⟩ := he
  have hi : j / 4 < l.length := by omega
  have := hc (j / 4) hi (j % 4) (by omega)
  rw [← flatC_get l (j / 4) hi (j % 4) (by omega), show j / 4 * 4 + j % 4 = j by omega, hj] at this
  rw [← this]
  congr 2
  omega
theorem cr_len {w : World} {a : Option Addr} {m c : Nat} {l : List Ch} (h : CR w (.slice a m c) l) : m = l.length := by
  obtain ⟨a', c', he, _⟩ := h.form
  simp at he
  exact he.2.1
theorem cr_some {w : World} {a : Option Addr} {m c : Nat} {l : List Ch} (h : CR w (.slice a m c) l) (h0 : 0 < l.length) : ∃ g off, a = some ⟨g, off, none⟩ := by
  obtain ⟨g, off, he, _⟩ := CR.at_ h h0
  exact ⟨g, off, he⟩
/-- append(v, x...) -/
theorem capp_own {T S : TypeId} (hS : Try.prog.underlying S = some (.slice T)) (hI : IsC T) (ty : TypeId) {w : World} {B : Nat} {v x : Value} {la lb : List Ch} (ha : CO T w B v la) (hb : CR w x lb) (hB : B ≤ w.heap.size) (hn : la.length + lb.length ≤ 1000000000) :
    ∃ v' w', (Builtin.append_ #[S, S] ty #[v, x]).run Try.prog w = .ok v' w' ∧ CO T w' B v' (la ++ lb) ∧ w.grownBy w' v.ownBlock ∧ ∀ k, v'.ownBlock = some k → v.ownBlock = some k ∨ (w.heap.size ≤ k ∧ Below w.heap.size w w') := by
  obtain ⟨i0, hi, hz0, hz1, hz2⟩ := info_parts hI
  obtain ⟨a, cap, rfl, hx⟩ := hb.form
  by_cases h0 : 0 < lb.length
  · obtain ⟨g, off, rfl, hc⟩ := hx h0
    have hnews := cr_news hb
    obtain ⟨v', w', hr, h2, h3, _⟩ := run_append_own (P := Try.prog) w B S ty T i0 _ 4 40 hS hi hz0 hz1 hz2 rfl (by decide) v la.length (flatC la) ha ⟨g, off, none⟩ lb.length cap (flatC lb) (flatC_length lb) hnews (flatC_one lb) (by unfold maxLen; omega) (by omega) hB
    refine ⟨v', w', hr, by unfold CO; rw [flatC_append, List.length_append]; exact h2, h3, ?_⟩
    exact append_place (P := Try.prog) w B S ty T i0 _ 4 40 hS hi hz0 hz1 hz2 rfl (by decide) v la.length (flatC la) ha ⟨g, off, none⟩ lb.length cap (flatC lb) (flatC_length lb) hnews (flatC_one lb) (by unfold maxLen; omega) (by omega) hr
  · have hl0 : lb.length = 0 := by omega
    have : lb = [] := List.eq_nil_of_length_eq_zero hl0
    subst this
    refine ⟨v, w, ?_, by unfold CO; rw [List.append_nil]; exact ha, World.grownBy.refl _ _, fun k hk => .inl hk⟩
    have hsz : i0.size = 4 := hz1
    rcases ha.2 with ⟨rfl, h1⟩ | ⟨g, cap', cur, rfl, hb', hg, hn', hm, hs, ht⟩
    · cases a <;> simp [Builtin.append_, run_underlying hS, sizeOf, typeInfo, hi, Builtin.lenOf, Builtin.firstCells, loadCells, loadCellsFrom]
    · cases a <;> simp [Builtin.append_, run_underlying hS, sizeOf, typeInfo, hi, Builtin.lenOf, Builtin.firstCells, loadCells, loadCellsFrom, hn', storeCells]
theorem co_new {T : TypeId} (w : World) (cur : Array Value) (cap B : Nat) (hb : B ≤ w.heap.size) (hm : cap ≤ maxLen) (hs : cur.size = cap * 4) : CO T (w.alloc (.cells cur T)) B (.slice (some ⟨w.heap.size, 0, none⟩) 0 cap) [] := World.ownsRow_made w cur cap hb hm hs
theorem cr_cells {w : World} {a : Option Addr} {m c : Nat} {l : List Ch} (h : CR w (.slice a m c) l) (i : Nat) (hi : i < l.length) : ∃ g off, a = some ⟨g, off, none⟩ ∧ w.cell? ⟨g, off + i * 4, none⟩ = some (.string (Lend.strOf l[i].low)) ∧ w.cell? ⟨g, off + i * 4 + 1, none⟩ = some (.int .i64 l[i].addr) ∧ w.cell? ⟨g, off + i * 4 + 2, none⟩ = some (.int .u64 l[i].gen) ∧ w.cell? ⟨g, off + i * 4 + 3, none⟩ = some (.int .u32 l[i].sum) := by
  obtain ⟨g, off, rfl, hc⟩ := CR.at_ h (by omega)
  exact ⟨g, off, rfl, hc i hi 0 (by omega), hc i hi 1 (by omega), hc i hi 2 (by omega), hc i hi 3 (by omega)⟩
theorem cr_has {w : World} {b c : Nat} {T : TypeId} {l : List Ch} (h : Has w b T (flatC l)) : CR w (.slice (some ⟨b, 0, none⟩) l.length c) l :=
  ⟨_, c, rfl, fun _ => ⟨b, 0, rfl, fun i hi j hj => by rw [← flatC_get l i hi j hj, ← h.cell, Nat.zero_add]⟩⟩
/-- a child told by its cells -/
theorem ch_cells {w : World} {b off i : Nat} {x0 : ByteArray} {x1 x2 x3 : Int} (c0 : w.cell? ⟨b, off + (i * 4 + 0), none⟩ = some (.string x0)) (c1 : w.cell? ⟨b, off + (i * 4 + 1), none⟩ = some (.int .i64 x1)) (c2 : w.cell? ⟨b, off + (i * 4 + 2), none⟩ = some (.int .u64 x2)) (c3 : w.cell? ⟨b, off + (i * 4 + 3), none⟩ = some (.int .u32 x3)) :
    ∀ j, j < 4 → w.cell? ⟨b, off + i * 4 + j, none⟩ = (encC ⟨x0.data.toList, x1, x2, x3⟩)[j]? := by
  intro j hj
  have e : ∀ s : ByteArray, Lend.strOf s.data.toList = s := fun s => (Lend.strOf_ext rfl).symm
  rw [Nat.add_assoc]
  match j, hj with
  | 0, _ => rw [c0]; simp [encC, e]
  | 1, _ => rw [c1]; rfl
  | 2, _ => rw [c2]; rfl
  | 3, _ => rw [c3]; rfl
/-- append(v, x), x a child -/
theorem capp_one {T S : TypeId} (hS : Try.prog.underlying S = some (.slice T)) (hI : IsC T) (ty : TypeId) {w : World} {B : Nat} {v : Value} {la : List Ch} (x : Ch) (ha : CO T w B v la) (hB : B ≤ w.heap.size) (hn : la.length ≤ 1000000) :
    ∃ v' w', (Builtin.append_ #[S, S] ty #[v, .slice (some ⟨w.heap.size, 0, none⟩) 1 1]).run Try.prog (w.alloc (.cells #[.string (Lend.strOf x.low), .int .i64 x.addr, .int .u64 x.gen, .int .u32 x.sum] T)) = .ok v' w' ∧ CO T w' B v' (la ++ [x]) ∧ (w.alloc (.cells #[.string (Lend.strOf x.low), .int .i64 x.addr, .int .u64 x.gen, .int .u32 x.sum] T)).grownBy w' v.ownBlock := by
  have hb := below_new w (.cells #[.string (Lend.strOf x.low), .int .i64 x.addr, .int .u64 x.gen, .int .u32 x.sum] T)
  have hh : Has (w.alloc (.cells #[.string (Lend.strOf x.low), .int .i64 x.addr, .int .u64 x.gen, .int .u32 x.sum] T)) w.heap.size T (flatC [x]) := Has.new w (encC x) _
  obtain ⟨v', w', hr, h2, h3, _⟩ := capp_own hS hI ty (own_bel ha hb) (cr_has (c := 1) hh) (Nat.le_trans hB hb.size) (by simp; omega)
  exact ⟨v', w', hr, h2, h3⟩
end Go.Proofs.Ytfclecbhfamomaa.Node
/- Layer 17 (node), plain mathematics: which nodes may be, to which child a key belongs, the bytes. -/
namespace Go.Proofs.Ytfclecbhfamomaa.Node
open Go Go.RowKit Go.Proofs.Ytfclecbhfamomaa Go.Proofs.Ytfclecbhfamomaa.Lend Go.Proofs.Ytfclecbhfamomaa.Rec Go.Proofs.Ytfclecbhfamomaa.Buf
set_option linter.unusedVariables false

/-- to which child a key belongs: one more than its number; 0, if to none -/
def chN (l : List Ch) (k : List UInt8) : Nat := (l.reverse.dropWhile fun c => kLt k c.low).length
theorem chN_nil (k : List UInt8) : chN [] k = 0 := rfl
theorem chN_snoc (l : List Ch) (c : Ch) (k : List UInt8) : chN (l ++ [c]) k = if kLt k c.low = true then chN l k else l.length + 1 := by
  unfold chN
  rw [List.reverse_append, List.reverse_cons, List.reverse_nil, List.nil_append, List.singleton_append, List.dropWhile_cons]
  cases kLt k c.low <;> simp
theorem chN_take {l : List Ch} {i : Nat} (hi : i < l.length) (k : List UInt8) : chN (l.take (i + 1)) k = if kLt k l[i].low = true then chN (l.take i) k else i + 1 := by
  rw [List.take_succ_eq_append_getElem hi, chN_snoc, List.length_take, Nat.min_eq_left (by omega)]
theorem chN_le (l : List Ch) (k : List UInt8) : chN l k ≤ l.length := by
  unfold chN
  have := (List.dropWhile_sublist (l := l.reverse) fun c => kLt k c.low).length_le
  rwa [List.length_reverse] at this
/-- it is the last one that isn't above -/
theorem chN_spec (l : List Ch) (k : List UInt8) : (∀ i (hi : i < l.length), chN l k ≤ i → kLt k l[i].low = true) ∧ (∀ (h : 0 < chN l k), kLt k (l[chN l k - 1]'(by have := chN_le l k; omega)).low = false) := by
  have main : ∀ m, m ≤ l.length → (∀ i (hi : i < l.length), i < m → chN (l.take m) k ≤ i → kLt k l[i].low = true) ∧ (∀ (h : 0 < chN (l.take m) k) (hl : chN (l.take m) k - 1 < l.length), kLt k l[chN (l.take m) k - 1].low = false) := by
    intro m
    induction m with
    | zero => intro _; exact ⟨fun i _ h => by omega, fun h => by rw [List.take_zero, chN_nil] at h; omega⟩
    | succ m ih =>
      intro hm
      obtain ⟨h1, h2⟩ := ih (by omega)
      have e := chN_take (l := l) (i := m) (by omega) k
      by_cases hc : kLt k l[m].low = true
      · rw [if_pos hc] at e
        rw [e]
        refine ⟨fun i hi hlt hle => ?_, h2⟩
        by_cases hin : i = m
        · subst hin; exact hc
        · exact h1 i hi (by omega) hle
      · rw [if_neg hc] at e
        rw [e]
        refine ⟨fun i hi hlt hle => by omega, fun _ hl => ?_⟩
        simpa using hc
  obtain ⟨h1, h2⟩ := main l.length (Nat.le_refl _)
  rw [List.take_length] at h1 h2
  exact ⟨fun i hi hle => h1 i hi hi hle, fun h => h2 h _⟩
/-- what ChildOf and Child answer -/
def chI (l : List Ch) (k : List UInt8) : Int := (chN l k : Int) - 1
/-- which children may be -/
def okC (c : Ch) : Bool := Env.adB c.addr && decide (c.low.length ≤ 16)
def kyC (c : Ch) : Up := ⟨0, c.low, [], 0⟩
def kidB (l : List Ch) : Bool := decide (1 ≤ l.length) && (decide (l.length ≤ 16) && (l.all okC && (decide ((l.map Ch.low).head? = some []) && risB (l.map kyC))))
/-- what holds of the first so many -/
def kidUp (l : List Ch) (i : Nat) : Prop := (∀ j (hj : j < l.length), j < i → okC l[j] = true) ∧ (∀ h : 0 < l.length, 0 < i → (l[0]'h).low = []) ∧ (∀ j (hj : j + 1 < l.length), j + 1 < i → kLt (l[j]'(by omega)).low l[j + 1].low = true)
theorem kidUp_zero (l : List Ch) : kidUp l 0 := ⟨(fun j _ h => by omega), (fun _ h => by omega), (fun j _ h => by omega)⟩
theorem kidUp_succ {l : List Ch} {i : Nat} (hi : i < l.length) : kidUp l (i + 1) ↔ kidUp l i ∧ okC l[i] = true ∧ (i = 0 → l[i].low = []) ∧ (∀ (h : 0 < i), kLt (l[i - 1]'(by omega)).low l[i].low = true) := by
  constructor
  · rintro ⟨h1, h2, h3⟩
    refine ⟨⟨fun j hj h => h1 j hj (by omega), fun h h0 => h2 h (by omega), fun j hj h => h3 j hj (by omega)⟩, h1 i hi (by omega), fun e => by subst e; exact h2 hi (by omega), fun h => ?_⟩
    have := h3 (i - 1) (by omega) (by omega)
    simpa only [show i - 1 + 1 = i by omega] using this
  · rintro ⟨⟨h1, h2, h3⟩, g1, g2, g3⟩
    refine ⟨fun j hj h => ?_, fun h h0 => ?_, fun j hj h => ?_⟩
    · by_cases e : j = i
      · subst e; exact g1
      · exact h1 j hj (by omega)
    · by_cases e : i = 0
      · subst e; exact g2 rfl
      · exact h2 h (by omega)
    · by_cases e : j + 1 = i
      · subst e
        exact g3 (by omega)
      · exact h3 j hj (by omega)
theorem kidB_iff (l : List Ch) : kidB l = true ↔ (1 ≤ l.length ∧ l.length ≤ 16) ∧ kidUp l l.length := by
  unfold kidB
  simp only [Bool.and_eq_true, decide_eq_true_eq, List.all_eq_true]
  constructor
  · rintro ⟨h1, h2, h3, h4, h5⟩
    refine ⟨⟨h1, h2⟩, fun j hj _ => h3 _ (List.getElem_mem hj), fun h _ => ?_, fun j hj _ => ?_⟩
    · cases l with
      | nil => cases h
      | cons x l => simpa using h4
    · have := List.pairwise_iff_getElem.1 ((ris_iff _).1 h5) j (j + 1) (by rw [List.length_map]; omega) (by rw [List.length_map]; exact hj) (by omega)
      simpa [kyC] using this
  · rintro ⟨⟨h1, h2⟩, g1, g2, g3⟩
    refine ⟨h1, h2, fun x hx => ?_, ?_, ?_⟩
    · obtain ⟨j, hj, rfl⟩ := List.mem_iff_getElem.1 hx
      exact g1 j hj hj
    · have := g2 (by omega) (by omega)
      cases l with
      | nil => simp at h1
      | cons x l => simpa using this
    · refine ris_yes fun j hj => ?_
      rw [List.length_map] at hj
      have := g3 j hj hj
      simpa [kyC] using this
theorem kidB_no {l : List Ch} {i : Nat} (hi : i ≤ l.length) (h : ¬ kidUp l i) : kidB l = false := by
  cases g : kidB l with
  | false => rfl
  | true =>
    obtain ⟨_, h1, h2, h3⟩ := (kidB_iff l).1 g
    exact absurd ⟨fun j hj k => h1 j hj hj, fun h0 k => h2 h0 h0, fun j hj k => h3 j hj hj⟩ h
/-- may it be? -/
def nodB (cs : List Ch) (us : List Up) : Bool := kidB cs && (decide (us.length ≤ 64) && (decide (errL us = 0) && risB us))
/-- what is within the ranges -/
def loC (l : List Ch) (i : Int) : List UInt8 := if 0 ≤ i ∧ i < (l.length : Int) then (match l[i.toNat]? with | some c => c.low | none => []) else []
def hiC (l : List Ch) (i : Int) : List UInt8 := if 0 ≤ i ∧ i + 1 < (l.length : Int) then (match l[i.toNat + 1]? with | some c => c.low | none => []) else []
/-- the bytes -/
def txC (c : Ch) : List UInt8 := len8 c.low ++ encL Env.ptrW [c.addr, c.gen, c.sum]
def txK (l : List Ch) : List UInt8 := l.flatMap txC
theorem txK_snoc (l : List Ch) (c : Ch) : txK (l ++ [c]) = txK l ++ txC c := by unfold txK; simp
theorem txK_take {l : List Ch} {i : Nat} (hi : i < l.length) : txK (l.take (i + 1)) = txK (l.take i) ++ txC l[i] := by rw [List.take_succ_eq_append_getElem hi, txK_snoc]
def txN (cs : List Ch) (us : List Up) : List UInt8 := UInt8.ofNat cs.length :: (txK cs ++ txL us)
def teN (cs : List Ch) (us : List Up) : Int := if nodB cs us = true then 0 else 2
def ttN (cs : List Ch) (us : List Up) : List UInt8 := if nodB cs us = true then txN cs us else []
/-- one child of these bytes -/
def chB (s : List UInt8) : Bool := splB s && decide (16 ≤ (splR s).length)
def chU (s : List UInt8) : Ch := ⟨splT s, (getL ((splR s).take 4) : Int), (getL (((splR s).drop 4).take 8) : Int), (getL (((splR s).drop 12).take 4) : Int)⟩
def chR (s : List UInt8) : List UInt8 := (splR s).drop 16
def kidsL : Nat → List UInt8 → Option (List Ch × List UInt8)
  | 0, s => some ([], s)
  | n + 1, s => if chB s = true then (match kidsL n (chR s) with | some (l, r) => some (chU s :: l, r) | none => none) else none
theorem kidsL_snoc : ∀ (n : Nat) (s : List UInt8), kidsL (n + 1) s = match kidsL n s with
    | some (l, r) => if chB r = true then some (l ++ [chU r], chR r) else none
    | none => none
  | 0, s => by
    show (if chB s = true then some ([chU s], chR s) else none) = _
    rfl
  | n + 1, s => by
    have ih := kidsL_snoc n (chR s)
    show (if chB s = true then (match kidsL (n + 1) (chR s) with | some (l, r) => some (chU s :: l, r) | none => none) else none) = _
    rw [ih]
    have e : kidsL (n + 1) s = if chB s = true then (match kidsL n (chR s) with | some (l, r) => some (chU s :: l, r) | none => none) else none := rfl
    rw [e]
    by_cases h : chB s = true
    · rw [if_pos h, if_pos h]
      cases kidsL n (chR s) with
      | none => rfl
      | some p =>
        obtain ⟨l, r⟩ := p
        by_cases g : chB r = true
        · simp [g]
        · simp [g]
    · rw [if_neg h, if_neg h]
theorem kidsL_none {n m : Nat} (h : n ≤ m) {s : List UInt8} (hn : kidsL n s = none) : kidsL m s = none := by
  induction m with
  | zero => rw [show n = 0 by omega] at hn; exact hn
  | succ m ih =>
    by_cases e : n = m + 1
    · rw [← e]; exact hn
    · rw [kidsL_snoc, ih (by omega)]
theorem kidsL_len : ∀ {n : Nat} {s : List UInt8} {l : List Ch} {r : List UInt8}, kidsL n s = some (l, r) → l.length = n ∧ r.length ≤ s.length
  | 0, s, l, r, h => by
    simp only [kidsL, Option.some.injEq, Prod.mk.injEq] at h
    obtain ⟨rfl, rfl⟩ := h
    exact ⟨rfl, Nat.le_refl _⟩
  | n + 1, s, l, r, h => by
    unfold kidsL at h
    split at h
    · split at h
      · rename_i l' r' h'
        simp only [Option.some.injEq, Prod.mk.injEq] at h
        obtain ⟨rfl, rfl⟩ := h
        obtain ⟨i1, i2⟩ := kidsL_len h'
        refine ⟨by rw [List.length_cons, i1], Nat.le_trans i2 ?_⟩
        unfold chR
        rw [List.length_drop]
        have : (splR s).length ≤ s.length := by
          unfold splR
          split
          · simp
          · split
            · rw [List.length_drop, List.length_cons]; omega
            · simp
        omega
      · cases h
    · cases h
end Go.Proofs.Ytfclecbhfamomaa.Node
