/- Maps by texts, made by the law itself: what they hold is read as it is. -/
import Derived.Test.YtfmbjepjmjcgeaaUps
import Derived.Maps.Views
import Derived.Maps.OwnSet
import Derived.Maps.OwnOps
import Derived.Maps.Keyed
import Derived.Maps.RangeWalk
import Derived.StringKeys
import Derived.ChangeKeys
namespace Go.Proofs.Ytfmbjepjmjcgeaa.Mp
open Go Go.RowKit Go.Proofs.Ytfmbjepjmjcgeaa Go.Maps
set_option linter.unusedVariables false

/-- an entry -/
abbrev Ent := List UInt8 × Value
def rdV (v : Value) : Option (DataW Value × List MemPlace) := some (.held v, [])
theorem kl {x : List UInt8} : WideAt.IsKeyLit (.string x) := trivial
theorem key_ne {x y : List UInt8} (h : x ≠ y) : (Lit.string x) ≠ (Lit.string y) := by intro e; injection e with e; exact h e
/-- D holds these entries, no two of one key -/
structure KM (D : DataW Value) (es : List Ent) : Prop where
  tidy : Tidy D
  nodup : (es.map Prod.fst).Nodup
  has_ : ∀ x : List UInt8, has D (.string x) = es.any fun e => e.1 == x
  at_ : ∀ e ∈ es, ∀ z, D.atKey (.string e.1) z = .held e.2
  size : Maps.size D = es.length
theorem any_iff {es : List Ent} {x : List UInt8} : (es.any fun e => e.1 == x) = true ↔ ∃ e ∈ es, e.1 = x := by rw [List.any_eq_true]; simp
theorem any_no {es : List Ent} {x : List UInt8} (h : ∀ e ∈ es, e.1 ≠ x) : (es.any fun e => e.1 == x) = false := by
  cases g : es.any fun e => e.1 == x with
  | false => rfl
  | true => obtain ⟨e, h1, h2⟩ := any_iff.1 g; exact absurd h2 (h e h1)
theorem bool_ext {a b : Bool} (h : a = true ↔ b = true) : a = b := by cases a <;> cases b <;> simp_all
theorem KM.empty : KM (.map []) [] := ⟨tidy_empty, List.nodup_nil, fun _ => rfl, (fun s h => by cases h), rfl⟩
/-- one more, or another one in its place -/
def upd (es : List Ent) (k : List UInt8) (v : Value) : List Ent := (k, v) :: es.filter fun e => !(e.1 == k)
theorem upd_mem {es : List Ent} {k : List UInt8} {v : Value} {e : Ent} : e ∈ upd es k v ↔ e = (k, v) ∨ (e ∈ es ∧ e.1 ≠ k) := by
  unfold upd
  rw [List.mem_cons, List.mem_filter]
  simp
theorem strike_len {es : List Ent} {k : List UInt8} (h : (es.map Prod.fst).Nodup) : (es.filter fun e => !(e.1 == k)).length + (if (es.any fun e => e.1 == k) = true then 1 else 0) = es.length := by
  induction es with
  | nil => rfl
  | cons t es ih =>
    rw [List.map_cons, List.nodup_cons] at h
    have ih := ih h.2
    by_cases e : t.1 = k
    · have hno : ∀ x ∈ es, x.1 ≠ k := fun x hx e' => h.1 (by rw [e, ← e']; exact List.mem_map_of_mem hx)
      rw [any_no hno] at ih
      rw [List.filter_cons_of_neg (by simpa using e), List.any_cons, show (t.1 == k) = true by simpa using e]
      simp at ih ⊢
      omega
    · rw [List.filter_cons_of_pos (by simpa using e), List.any_cons, show (t.1 == k) = false by simpa using e, Bool.false_or, List.length_cons, List.length_cons]
      omega
theorem KM.put {D : DataW Value} {es : List Ent} (h : KM D es) (k : List UInt8) (v : Value) : KM (D.put (.string k) (.held v)) (upd es k v) := by
  refine ⟨h.tidy.put kl _, ?_, fun x => ?_, fun t ht z => ?_, ?_⟩
  · unfold upd
    rw [List.map_cons, List.nodup_cons]
    refine ⟨fun hm => ?_, h.nodup.sublist (List.Sublist.map _ List.filter_sublist)⟩
    obtain ⟨t, h1, h2⟩ := List.mem_map.1 hm
    have := (List.mem_filter.1 h1).2
    simp at this
    exact this h2
  · by_cases e : k = x
    · subst e
      rw [has_put_same h.tidy.isMap kl]
      unfold upd; simp
    · rw [has_put_other (key_ne (Ne.symm e)), h.has_]
      refine bool_ext ?_
      rw [any_iff, any_iff]
      constructor
      · rintro ⟨t, h1, h2⟩; exact ⟨t, upd_mem.2 (.inr ⟨h1, fun e' => e (by rw [← e', h2])⟩), h2⟩
      · rintro ⟨t, h1, h2⟩
        rcases upd_mem.1 h1 with rfl | ⟨h3, _⟩
        · exact absurd h2 e
        · exact ⟨t, h3, h2⟩
  · rcases upd_mem.1 ht with rfl | ⟨h1, h2⟩
    · exact atKey_put_same h.tidy.isMap kl _ _
    · rw [atKey_put_other (key_ne h2)]; exact h.at_ t h1 z
  · rw [size_put h.tidy, h.has_, h.size]
    have := strike_len (k := k) h.nodup
    unfold upd
    rw [List.length_cons]
    by_cases hh : (es.any fun e => e.1 == k) = true
    · rw [if_pos hh] at this ⊢; omega
    · rw [if_neg hh] at this ⊢; omega
/-- the map at b -/
def MM (w : World) (b : Nat) (es : List Ent) : Prop := ∃ D, w.ownsMap Try.prog 9 rdV b es.length D ∧ KM D es
theorem owns_size {w : World} {b : Nat} {P : Program} {k : TypeId} {R : Value → Option (DataW Value × List MemPlace)} {n : Nat} {D : DataW Value} (h : w.ownsMap P k R b n D) : w.ownsMap P k R b (Maps.size D) D := by
  obtain ⟨es, clock, hb, F, hs, rfl⟩ := h
  refine ⟨es, clock, hb, F, ?_, rfl⟩
  simp [Maps.size, length_sorted]
theorem str_key {s : ByteArray} (hs : s.size ≤ 1000000) : keyOf Try.prog 9 (.string s) = some (.string s.data.toList) := WideMaps.keyOf_string_mk Try.underlying9 (by unfold maxLen; omega)
theorem key_inv {key : Value} {k : Lit} (h : keyOf Try.prog 9 key = some k) : ∃ s : ByteArray, key = .string s ∧ k = .string s.data.toList := by
  rw [keyOf_string Try.underlying9] at h
  unfold mapKey at h
  rw [Try.underlying9] at h
  cases key <;> simp at h
  exact ⟨_, rfl, h.2.symm⟩
section
variable {w w' : World} {b : Nat} {es : List Ent}
theorem MM.made (w : World) : MM (w.alloc (.map #[] 0)) w.heap.size [] := ⟨_, World.ownsMap_made w _ _ _, KM.empty⟩
theorem MM.lt (h : MM w b es) : b < w.heap.size := by obtain ⟨D, h1, _⟩ := h; exact h1.lt
theorem MM.same (h : MM w b es) (hk : w'.heap[b]? = w.heap[b]?) : MM w' b es := by
  obtain ⟨D, ⟨es', clock, hb, F, hs, hD⟩, h2⟩ := h
  exact ⟨D, ⟨es', clock, hk.trans hb, F, hs, hD⟩, h2⟩
theorem MM.on (h : MM w b es) (hb : Below w.heap.size w w') : MM w' b es := h.same (hb.block b h.lt)
theorem MM.ne (h : MM w b es) {k : Nat} {t : TypeId} {cs : List Value} (hk : Has w k t cs) : k ≠ b := fun e => by
  obtain ⟨D, ⟨es', clock, hb, _⟩, _⟩ := h
  unfold Has at hk
  rw [e, hb] at hk
  cases hk
theorem MM.ne_row (h : MM w b es) {base : Nat} {e : TypeId} {sz : Nat} {v : Value} {n : Nat} {xs : List Value} (hr : w.ownsRow base e sz v n xs) : ∀ k, v.ownBlock = some k → k ≠ b := fun k hk e' => by
  obtain ⟨D, ⟨es', clock, hb, _⟩, _⟩ := h
  rcases hr.2 with ⟨rfl, _⟩ | ⟨g, cap, cur, rfl, _, hg, _⟩
  · cases hk
  · simp [Value.ownBlock] at hk
    rw [hk, e', hb] at hg
    cases hg
theorem MM.nodup (h : MM w b es) : (es.map Prod.fst).Nodup := by obtain ⟨D, _, h2⟩ := h; exact h2.nodup
theorem MM.look {T E : TypeId} (hT : Try.prog.underlying T = some (.map 9 E)) {z : Value} (hz : (zeroValue E).run Try.prog w = .ok z w) (h : MM w b es) {s : ByteArray} (hs : s.size ≤ 1000000) :
    (∀ e ∈ es, e.1 = s.data.toList → (Instr.lookup T (.map (some b)) (.string s) false).run Try.prog w = .ok e.2 w) ∧ ((∀ e ∈ es, e.1 ≠ s.data.toList) → (Instr.lookup T (.map (some b)) (.string s) false).run Try.prog w = .ok z w) := by
  obtain ⟨D, hown, hk⟩ := h
  obtain ⟨v, ps, hrun, hv⟩ := hown.lookup (string_keyed Try.underlying9) hT hz (zd := .held z) (zp := []) rfl (str_key hs)
  refine ⟨fun e he hek => ?_, fun hno => ?_⟩
  · rw [hrun]
    rw [← hek, hk.at_ e he] at hv
    unfold rdV at hv
    simp at hv
    rw [hv.1]
  · rw [hrun]
    have : has D (.string s.data.toList) = false := by rw [hk.has_]; exact any_no hno
    rw [atKey_of_not_has this] at hv
    unfold rdV at hv
    simp at hv
    rw [hv.1]
theorem MM.put {T E : TypeId} (hT : Try.prog.underlying T = some (.map 9 E)) (h : MM w b es) (hl : es.length ≤ 4096) {s : ByteArray} (hs : s.size ≤ 1000000) (v : Value) :
    ∃ w', (Instr.mapUpdate T (.map (some b)) (.string s) v).run Try.prog w = .ok () w' ∧ MM w' b (upd es s.data.toList v) ∧ w.grownBy w' (some b) := by
  obtain ⟨D, hown, hk⟩ := h
  obtain ⟨w', hrun, ho, hg⟩ := hown.update (string_keyed Try.underlying9) hT (by unfold maxLen; omega) (str_key hs) (val := v) (d := .held v) (ps := []) rfl
  have hk2 := hk.put s.data.toList v
  refine ⟨w', hrun, ⟨_, ?_, hk2⟩, hg⟩
  have := Mp.owns_size ho
  rwa [hk2.size] at this
theorem MM.len {T E : TypeId} (hT : Try.prog.underlying T = some (.map 9 E)) (h : MM w b es) (ty : TypeId) : (Builtin.len_ #[T] ty #[.map (some b)]).run Try.prog w = .ok (.int .i64 es.length) w := by
  obtain ⟨D, hown, hk⟩ := h
  rw [← hk.size]
  exact hown.len hT ty
/-- a range over the map at b is under way -/
def RM (w : World) (b r : Nat) (es : List Ent) (cnt : Nat) : Prop := ∃ D left, w.ranges Try.prog 9 rdV b r es.length D left cnt ∧ KM D es ∧ ∀ k, left k = true → has D k = true
theorem RM.mm {r cnt : Nat} (h : RM w b r es cnt) : MM w b es := by obtain ⟨D, left, hr, hk, _⟩ := h; exact ⟨D, hr.owns, hk⟩
theorem RM.left {r cnt : Nat} (h : RM w b r es cnt) : w.rangeLeft b r = cnt := by obtain ⟨D, left, hr, _⟩ := h; exact hr.left_eq
theorem RM.kept {r cnt : Nat} {row : Option Nat} (h : RM w b r es cnt) (hg : w.grownBy w' row) (h1 : some b ≠ row) (h2 : some r ≠ row) : RM w' b r es cnt := by
  obtain ⟨D, left, hr, hk⟩ := h; exact ⟨D, left, hr.kept hg h1 h2, hk⟩
theorem RM.on {r cnt : Nat} (h : RM w b r es cnt) (hb : Below w.heap.size w w') : RM w' b r es cnt := h.kept (row := none) ⟨hb.os, hb.tape, hb.output, hb.size, fun k hk _ => hb.block k hk⟩ (by simp) (by simp)
theorem wpList_rangeM {ops : Array Oper} {rest : List Oper} {o : Oper} {a : Act} {Q : Exit → Act → World → Prop} {T E : TypeId} (hT : Try.prog.underlying T = some (.map 9 E)) (hg : o.guard = none) (m : Operand) (hop : o.op = Op.range T m) (hm : a.eval m = .map (some b)) (h : MM w b es)
    (hK : ∀ w' cnt, RM w' b w.heap.size es cnt → Below w.heap.size w w' → w'.heap.size = w.heap.size + 1 → wpList Try.prog ops Q rest (a.put o.dst (.pointer (some ⟨w.heap.size, 0, none⟩))) w') : wpList Try.prog ops Q (o :: rest) a w := by
  obtain ⟨D, hown, hk⟩ := h
  refine wpList_range_own w hg m _ hop 9 E (string_keyed Try.underlying9) hT rdV b es.length D hm hown ?_
  intro w' hr hgr hsz
  exact hK w' _ ⟨D, _, hr, hk, fun k h => h⟩ ⟨hgr.os, hgr.tape, hgr.output, hgr.size, fun i hi => hgr.block i hi (by simp)⟩ hsz
theorem wpList_nextM {r cnt : Nat} {ops : Array Oper} {rest : List Oper} {o : Oper} {a : Act} {Q : Exit → Act → World → Prop} (hg : o.guard = none) (it : Operand) (hop : o.op = Op.next it false) (hit : a.eval it = .pointer (some ⟨r, 0, none⟩)) (h : RM w b r es cnt)
    (hDone : wpList Try.prog ops Q rest (a.put o.dst (.tuple #[.bool false])) w)
    (hMore : ∀ (e : Ent) (s : ByteArray) (w' : World) (cnt' : Nat), e ∈ es → s.data.toList = e.1 → RM w' b r es cnt' → cnt' < cnt →
      w.grownBy w' (some r) → w'.heap.size = w.heap.size → (Instr.entry (.pointer (some ⟨r, 0, none⟩))).run Try.prog w' = .ok (.tuple #[.string s, e.2]) w' → wpList Try.prog ops Q rest (a.put o.dst (.tuple #[.bool true, .string s, e.2])) w') : wpList Try.prog ops Q (o :: rest) a w := by
  obtain ⟨D, left, hr, hk, hle⟩ := h
  refine wpList_next_ranges w hg it hop 9 (string_keyed Try.underlying9) rdV Value.string (fun v : Value => v) (fun key kl hkey => by obtain ⟨s, h1, _⟩ := key_inv hkey; exact ⟨s, h1⟩) (fun v y hv => ⟨v, rfl⟩) b r es.length D left cnt hit hr ?_ ?_
  · intro _ _
    exact hDone
  · intro s c kl' y w' cnt' hkey hlk hv hat hrg hlt hgr hsz hen
    obtain ⟨s', e1, e2⟩ := key_inv hkey
    simp only [Value.string.injEq] at e1
    subst e1
    subst e2
    have hh := hle _ hlk
    rw [hk.has_] at hh
    obtain ⟨e, he, hek⟩ := any_iff.1 hh
    have hd := hk.at_ e he (.held c)
    rw [hek, hat (.held c)] at hd
    unfold rdV at hv
    simp at hv
    rw [← hv] at hd
    simp only at hd
    injection hd with hd
    subst hd
    exact hMore e s w' cnt' he hek.symm ⟨D, _, hrg, hk, fun k h => hle k (by simp at h; exact h.1)⟩ hlt hgr hsz hen
end
end Go.Proofs.Ytfmbjepjmjcgeaa.Mp
