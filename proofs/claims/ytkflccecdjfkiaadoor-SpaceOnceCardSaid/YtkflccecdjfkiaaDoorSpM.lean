/- Layer 10's law SpaceOnce: maps that stand for lists of bools, beside a space. -/
import Derived.Test.YtkflccecdjfkiaaDoorSpL
import Derived.Test.YtkflccecdjfkiaaDoorBitM
import Derived.Maps.RangeWalk
namespace Go.Proofs.YtkflccecdjfkiaaDoor.Spc
open Go Go.RowKit Go.Proofs.YtkflccecdjfkiaaDoor Go.Proofs.YtkflccecdjfkiaaDoor.Bit Go.Maps
set_option linter.unusedVariables false

theorem lst_put (l : List Bool) (k : Nat) (b : Bool) : ∀ j, j ≤ l.length → (lstL j (putL l k b)).length + (if k < j ∧ bg l k = true then 1 else 0) = (lstL j l).length + (if k < j ∧ b = true then 1 else 0)
  | 0, _ => by simp [lstL]
  | j + 1, hj => by
    have ih := lst_put l k b j (by omega)
    rw [lst_succ, lst_succ, putL_get _ _ _ _ (by omega)]
    by_cases e : j = k
    · subst e
      have e0 : (j : Int) = (j : Int) := rfl
      have e1 : ¬ j < j := by omega
      have e2 : j < j + 1 := by omega
      simp only [e1, e2, false_and, if_false, true_and, if_true] at ih ⊢
      cases b <;> cases bg l j <;> simp <;> omega
    · have e0 : ¬ (j : Int) = (k : Int) := by omega
      have e1 : (k < j + 1) = (k < j) := propext (by omega)
      simp only [e0, e1, if_false]
      cases bg l j <;> simp <;> omega
theorem cnt_put (l : List Bool) (k : Nat) (b : Bool) (hk : k < l.length) : cntL (putL l k b) + (if bg l k = true then 1 else 0) = cntL l + (if b = true then 1 else 0) := by
  have := lst_put l k b l.length (Nat.le_refl _)
  simp only [hk, true_and] at this
  unfold cntL; rw [putL_length]; exact this
/-- D holds just the numbers of l, each as true -/
structure KB (D : DataW Unit) (l : List Bool) : Prop where
  tidy : Tidy D
  has_ : ∀ x : Int, has D (.int .i64 x) = hasL l x
  at_ : ∀ x : Int, hasL l x = true → ∀ z, D.atKey (.int .i64 x) z = .lit (.bool true)
  size : Maps.size D = cntL l
theorem kl {x : Int} : WideAt.IsKeyLit (.int .i64 x) := trivial
theorem key_ne {x y : Int} (h : x ≠ y) : (Lit.int .i64 x) ≠ (Lit.int .i64 y) := by intro e; injection e with _ e; exact h e
theorem KB.empty (n : Nat) : KB (.map []) (noneL n) := by
  have e : ∀ x : Int, hasL (noneL n) x = false := fun x => by
    unfold hasL; split
    · rename_i h
      have : 0 ≤ x ∧ x < (noneL n).length := by simpa [inB] using h
      unfold noneL; rw [bg, List.getD_eq_getElem?_getD, List.getElem?_replicate]; split <;> rfl
    · rfl
  refine ⟨tidy_empty, fun x => by rw [e]; rfl, (fun x h => by rw [e] at h; cases h), ?_⟩
  show 0 = cntL (noneL n)
  unfold cntL lstL
  symm
  rw [List.length_map, List.length_eq_zero_iff, List.filter_eq_nil_iff]
  intro i hi
  have := e (i : Int)
  rw [hasL_in (by simpa using hi)] at this
  rw [this]; decide
theorem hasL_putL (l : List Bool) (k x : Int) (b : Bool) : hasL (putL l k b) x = if x = k ∧ inB l k = true then b else hasL l x := by
  unfold hasL
  have e : inB (putL l k b) x = inB l x := by unfold inB; rw [putL_length]
  rw [e]
  by_cases h : inB l x = true
  · rw [if_pos h, if_pos h]
    have hx : 0 ≤ x ∧ x < l.length := by simpa [inB] using h
    rw [putL_get _ _ _ _ (by omega)]
    have e2 : ((x.toNat : Int) = k) ↔ (x = k) := by omega
    simp only [e2]
    by_cases e3 : x = k
    · subst e3; rw [if_pos rfl, if_pos ⟨rfl, h⟩]
    · rw [if_neg e3, if_neg (fun c => e3 c.1)]
  · rw [if_neg h, if_neg h, if_neg (fun c : x = k ∧ inB l k = true => h (c.1 ▸ c.2))]
theorem KB.put {D : DataW Unit} {l : List Bool} (h : KB D l) {k : Nat} (hk : k < l.length) : KB (D.put (.int .i64 (k : Int)) (.lit (.bool true))) (putL l (k : Nat) true) := by
  have hik : inB l (k : Int) = true := inB_yes (by omega) (by omega)
  refine ⟨h.tidy.put kl _, fun x => ?_, fun x hx z => ?_, ?_⟩
  · rw [hasL_putL]
    by_cases e : x = k
    · subst e; rw [if_pos ⟨rfl, hik⟩, has_put_same h.tidy.isMap kl]
    · rw [if_neg (fun c => e c.1), has_put_other (key_ne e), h.has_]
  · rw [hasL_putL] at hx
    by_cases e : x = k
    · subst e; rw [atKey_put_same h.tidy.isMap kl]
    · rw [if_neg (fun c => e c.1)] at hx
      rw [atKey_put_other (key_ne e)]; exact h.at_ x hx z
  · rw [size_put h.tidy, h.has_, hasL_in hk, h.size]
    have := cnt_put l k true hk
    split <;> simp_all
theorem KB.del {D : DataW Unit} {l : List Bool} (h : KB D l) {k : Nat} (hk : k < l.length) : KB (D.del (.int .i64 (k : Int))) (putL l (k : Nat) false) := by
  have hik : inB l (k : Int) = true := inB_yes (by omega) (by omega)
  refine ⟨h.tidy.del _, fun x => ?_, fun x hx z => ?_, ?_⟩
  · rw [hasL_putL]
    by_cases e : x = k
    · subst e; rw [if_pos ⟨rfl, hik⟩, has_del_same]
    · rw [if_neg (fun c => e c.1), has_del_other (key_ne e), h.has_]
  · rw [hasL_putL] at hx
    by_cases e : x = k
    · subst e; rw [if_pos ⟨rfl, hik⟩] at hx; cases hx
    · rw [if_neg (fun c => e c.1)] at hx
      rw [atKey_del_other (key_ne e)]; exact h.at_ x hx z
  · have e1 := size_del (k := .int .i64 (k : Int)) h.tidy
    have e2 := cnt_put l k false hk
    rw [h.has_, hasL_in hk, h.size] at e1
    simp only [Bool.false_eq_true, if_false] at e2
    omega
theorem KB.look {D : DataW Unit} {l : List Bool} (h : KB D l) {x : Int} {b : Bool} (he : D.atKey (.int .i64 x) (.lit (.bool false)) = .lit (.bool b)) : b = hasL l x := by
  cases e : hasL l x with
  | true => rw [h.at_ x e] at he; injection he with he; injection he with he; exact he.symm
  | false => rw [atKey_of_not_has (by rw [h.has_, e])] at he; injection he with he; injection he with he; exact he.symm
theorem minusL_get (l m : List Bool) (i : Nat) (hi : i < l.length) : bg (minusL l m) i = (bg l i && !bg m i) := by
  unfold minusL; rw [bg, List.getD_eq_getElem?_getD, List.getElem?_map, List.getElem?_range hi]; rfl
/-! ### what is left of H, while the numbers of G are struck from it, one by one -/
def remL (H G : List Bool) (left : Lit → Bool) : List Bool := (List.range H.length).map fun i => bg H i && !(bg G i && !left (.int .i64 (i : Nat)))
theorem remL_length (H G : List Bool) (left : Lit → Bool) : (remL H G left).length = H.length := by simp [remL]
theorem remL_get (H G : List Bool) (left : Lit → Bool) (i : Nat) (hi : i < H.length) : bg (remL H G left) i = (bg H i && !(bg G i && !left (.int .i64 (i : Nat)))) := by
  unfold remL; rw [bg, List.getD_eq_getElem?_getD, List.getElem?_map, List.getElem?_range hi]; rfl
theorem rem_start {H G : List Bool} {D : DataW Unit} (hk : KB D G) (hl : G.length = H.length) : remL H G (Maps.has D) = H := ext_bg (remL_length _ _ _) fun i hi => by
  rw [remL_length] at hi
  rw [remL_get _ _ _ _ hi, hk.has_, hasL_in (by omega)]
  cases bg H i <;> cases bg G i <;> rfl
theorem rem_end {H G : List Bool} {left : Lit → Bool} (h : ∀ kl, left kl = false) : remL H G left = minusL H G := ext_bg (by rw [remL_length, minusL_length]) fun i hi => by
  rw [remL_length] at hi
  rw [remL_get _ _ _ _ hi, minusL_get _ _ _ hi, h]; simp
theorem rem_step {H G : List Bool} {left : Lit → Bool} {k : Nat} (hk : k < H.length) (hG : bg G k = true) : remL H G (fun z => left z && !z.sameKey (.int .i64 (k : Int))) = putL (remL H G left) (k : Nat) false := ext_bg (by rw [remL_length, putL_length, remL_length]) fun i hi => by
  rw [remL_length] at hi
  rw [remL_get _ _ _ _ hi, putL_get _ _ _ _ (by rw [remL_length]; exact hi), remL_get _ _ _ _ hi]
  by_cases e : i = k
  · subst e
    rw [if_pos rfl, hG]
    have : (Lit.int .i64 (i : Int)).sameKey (.int .i64 (i : Int)) = true := by simp [Lit.sameKey]
    rw [this]; simp
  · rw [if_neg (by omega)]
    have : (Lit.int .i64 (i : Int)).sameKey (.int .i64 (k : Int)) = false := sameKey_ne (key_ne (by omega))
    rw [this]; simp
theorem has_left {G : List Bool} {D : DataW Unit} (hk : KB D G) {x : Int} {y : DataW Unit} (hat : ∀ zd, D.atKey (.int .i64 x) zd = y) : ∃ k : Nat, x = k ∧ k < G.length ∧ bg G k = true := by
  have h1 := has_true_of_atKey hat
  rw [hk.has_] at h1
  unfold hasL at h1
  split at h1
  · rename_i hi
    have : 0 ≤ x ∧ x < G.length := by simpa [inB] using hi
    exact ⟨x.toNat, by omega, by omega, h1⟩
  · cases h1
abbrev mapsB (w : World) (b m : Nat) (D : DataW Unit) : Prop := w.ownsMap Tryd.prog 3 (plainElem (H := Unit) Tryd.prog 4) b m D
/-- the map at b holds the numbers of l -/
def MB (w : World) (b n : Nat) (l : List Bool) : Prop := ∃ m D, m ≤ n ∧ mapsB w b m D ∧ KB D l
section
variable {w0 w w' : World} {p b hb tb gb n n' : Nat} {l H T G H' T' G' : List Bool} {S S' : Sp} {R : List Nat}
theorem MB.same (h : MB w b n l) (hk : w'.heap[b]? = w.heap[b]?) : MB w' b n l := by obtain ⟨m, D, h1, h2, h3⟩ := h; exact ⟨m, D, h1, owns_map_same h2 hk, h3⟩
theorem MB.lt (h : MB w b n l) : b < w.heap.size := by obtain ⟨m, D, h1, h2, h3⟩ := h; exact owns_map_lt h2
theorem MB.mono (h : MB w b n l) (hn : n ≤ n') : MB w b n' l := by obtain ⟨m, D, h1, h2, h3⟩ := h; exact ⟨m, D, Nat.le_trans h1 hn, h2, h3⟩
theorem MB.cast (h : MB w b n l) (e : l = H) : MB w b n H := e ▸ h
theorem MB.size (h : MB w b n l) (P : Program) : ∃ m D, m ≤ n ∧ mapsB w b m D ∧ KB D l ∧ Maps.size D = cntL l := by obtain ⟨m, D, h1, h2, h3⟩ := h; exact ⟨m, D, h1, h2, h3, h3.size⟩
theorem MB.look (h : MB w b n l) {x : Int} (h0 : -9223372036854775808 ≤ x) (h1 : x ≤ 9223372036854775807) : (Instr.lookup 55 (.map (some b)) (.int .i64 x) false).run Tryd.prog w = .ok (.bool (hasL l x)) w := by
  obtain ⟨m, D, hm, hown, hkb⟩ := h
  obtain ⟨c, hrun, hat⟩ := lookup_bool hown (int_keyed Tryd.underlying3) Tryd.underlying55 Tryd.underlying4 (zero_bool _) (keyOf_int_mk Tryd.underlying3 (int_wf h0 h1))
  rw [hkb.look hat] at hrun; exact hrun
theorem MB.len (h : MB w b n l) (ty : TypeId) : (Builtin.len_ #[55] ty #[.map (some b)]).run Tryd.prog w = .ok (.int .i64 (cntL l)) w := by
  obtain ⟨m, D, hm, hown, hkb⟩ := h
  rw [← hkb.size]
  exact hown.len Tryd.underlying55 ty
theorem wpList_putB {ops : Array Oper} {rest : List Oper} {o : Oper} {a : Act} {Q : Exit → Act → World → Prop} (hg : o.guard = none) (m x v : Operand) (hop : o.op = Op.mapUpdate 55 m x v)
    (hm : a.eval m = .map (some b)) (h : MB w b n l) (hn : n < 4611686018427387904) (k : Nat) (hk : k < l.length) (hk2 : k < 4096) (hx : a.eval x = .int .i64 (k : Int)) (hv : a.eval v = .bool true)
    (hK : ∀ w', MB w' b (n + 1) (putL l (k : Nat) true) → w.grownBy w' (some b) → wpList Tryd.prog ops Q rest (a.put o.dst undef) w') : wpList Tryd.prog ops Q (o :: rest) a w := by
  obtain ⟨j, D, hj, hown, hkb⟩ := h
  refine wpList_mapUpdate_own w hg m x v _ hop 3 4 (int_keyed Tryd.underlying3) Tryd.underlying55 (plainElem (H := Unit) Tryd.prog 4) b j D hm hown (by unfold maxLen; omega) _ _ (.int .i64 (k : Int)) hx hv (keyOf_int_mk Tryd.underlying3 (int_wf (by omega) (by omega))) (.lit (.bool true)) [] (plainElem_bool Tryd.underlying4 true) ?_
  intro w' hown' hg'
  exact hK w' ⟨j + 1, _, by omega, hown', hkb.put hk⟩ hg'
theorem wpList_delB {ops : Array Oper} {rest : List Oper} {o : Oper} {a : Act} {Q : Exit → Act → World → Prop} (hg : o.guard = none) (m x : Operand) (hop : o.op = Op.call { callee := Callee.builtin Builtin.delete, args := #[m, x], argTypes := #[55, 3] })
    (hm : a.eval m = .map (some b)) (h : MB w b n l) (k : Nat) (hk : k < l.length) (hk2 : k < 4096) (hx : a.eval x = .int .i64 (k : Int))
    (hK : ∀ w', MB w' b n (putL l (k : Nat) false) → w.grownBy w' (some b) → wpList Tryd.prog ops Q rest (a.put o.dst (.tuple #[])) w') : wpList Tryd.prog ops Q (o :: rest) a w := by
  obtain ⟨j, D, hj, hown, hkb⟩ := h
  refine wpList_delete_own w hg m x _ _ hop 4 (int_keyed Tryd.underlying3) Tryd.underlying55 (plainElem (H := Unit) Tryd.prog 4) b j D hm hown _ (.int .i64 (k : Int)) hx (keyOf_int_mk Tryd.underlying3 (int_wf (by omega) (by omega))) ?_
  intro w' hown' ht
  exact hK w' ⟨j, _, hj, hown', hkb.del hk⟩ ht.grown
abbrev rangesB (w : World) (b r m : Nat) (D : DataW Unit) (left : Lit → Bool) (cnt : Nat) : Prop := w.ranges Tryd.prog 3 (plainElem (H := Unit) Tryd.prog 4) b r m D left cnt
/-- the map at b, that holds the numbers of G, is gone through; H is left of had -/
def RB (w : World) (b r n : Nat) (G : List Bool) (left : Lit → Bool) (cnt : Nat) : Prop := ∃ m D, m ≤ n ∧ rangesB w b r m D left cnt ∧ KB D G
theorem wpList_rangeB {ops : Array Oper} {rest : List Oper} {o : Oper} {a : Act} {Q : Exit → Act → World → Prop} (hg : o.guard = none) (m : Operand) (hop : o.op = Op.range 55 m) (hm : a.eval m = .map (some b)) (h : MB w b n G) (hH : H.length = G.length)
    (hK : ∀ w' left cnt, RB w' b w.heap.size n G left cnt → remL H G left = H → Below w.heap.size w w' → w'.heap.size = w.heap.size + 1 → wpList Tryd.prog ops Q rest (a.put o.dst (.pointer (some ⟨w.heap.size, 0, none⟩))) w') : wpList Tryd.prog ops Q (o :: rest) a w := by
  obtain ⟨j, D, hj, hown, hkb⟩ := h
  refine wpList_range_own w hg m _ hop 3 4 (int_keyed Tryd.underlying3) Tryd.underlying55 (plainElem (H := Unit) Tryd.prog 4) b j D hm hown ?_
  intro w' hr hgr hsz
  exact hK w' _ _ ⟨j, D, hj, hr, hkb⟩ (rem_start hkb hH.symm) ⟨hgr.os, hgr.tape, hgr.output, hgr.size, fun i hi => hgr.block i hi (by simp)⟩ hsz
theorem wpList_nextB {r cnt : Nat} {left : Lit → Bool} {ops : Array Oper} {rest : List Oper} {o : Oper} {a : Act} {Q : Exit → Act → World → Prop} (hg : o.guard = none) (it : Operand) (hop : o.op = Op.next it false) (hit : a.eval it = .pointer (some ⟨r, 0, none⟩)) (h : RB w b r n G left cnt) (hH : H.length = G.length)
    (hDone : remL H G left = minusL H G → MB w b n G → wpList Tryd.prog ops Q rest (a.put o.dst (.tuple #[.bool false])) w)
    (hMore : ∀ (k : Nat) (w' : World) (left' : Lit → Bool) (cnt' : Nat), k < G.length → remL H G left' = putL (remL H G left) (k : Nat) false → RB w' b r n G left' cnt' → w'.rangeLeft b r < w.rangeLeft b r →
      w.grownBy w' (some r) → w'.heap.size = w.heap.size → (Instr.entry (.pointer (some ⟨r, 0, none⟩))).run Tryd.prog w' = .ok (.tuple #[.int .i64 (k : Int), .bool true]) w' → wpList Tryd.prog ops Q rest (a.put o.dst (.tuple #[.bool true, .int .i64 (k : Int), .bool true])) w') : wpList Tryd.prog ops Q (o :: rest) a w := by
  obtain ⟨j, D, hj, hr, hkb⟩ := h
  refine wpList_next_ranges w hg it hop 3 (int_keyed Tryd.underlying3) (plainElem (H := Unit) Tryd.prog 4) (Value.int .i64) Value.bool (fun key kl hkey => by obtain ⟨x, rfl, _⟩ := Maps.keyOf_int_inv Tryd.underlying3 hkey; exact ⟨x, rfl⟩) (fun v y hv => by obtain ⟨c, rfl, _⟩ := plainElem_bool_inv Tryd.underlying4 hv; exact ⟨c, rfl⟩) b r j D left cnt hit hr ?_ ?_
  · intro _ hl0
    exact hDone (rem_end hl0) ⟨j, D, hj, hr.owns, hkb⟩
  · intro x c kl y w' cnt' hkey hlk hv hat hrg hlt hgr hsz hen
    obtain ⟨x', ex, rfl, hwx⟩ := Maps.keyOf_int_inv Tryd.underlying3 hkey
    cases ex
    obtain ⟨c', ec, rfl⟩ := plainElem_bool_inv Tryd.underlying4 hv
    cases ec
    obtain ⟨k, rfl, hkG, hbk⟩ := has_left hkb hat
    have hc : c = true := by
      have e1 := hat (.lit (.bool false))
      rw [hkb.at_ _ (by rw [hasL_in hkG]; exact hbk)] at e1
      injection e1 with e1; injection e1 with e1; exact e1.symm
    subst hc
    exact hMore k w' _ cnt' hkG (rem_step (by omega) hbk) ⟨j, D, hj, hrg, hkb⟩ (by rw [hrg.left_eq, hr.left_eq]; exact hlt) hgr hsz hen
theorem RB.kept {r cnt : Nat} {left : Lit → Bool} {row : Option Nat} (h : RB w b r n G left cnt) (hg : w.grownBy w' row) (h1 : some b ≠ row) (h2 : some r ≠ row) : RB w' b r n G left cnt := by
  obtain ⟨j, D, hj, hr, hkb⟩ := h; exact ⟨j, D, hj, hr.kept hg h1 h2, hkb⟩
theorem RB.left {r cnt : Nat} {left : Lit → Bool} (h : RB w b r n G left cnt) : w.rangeLeft b r = cnt := by obtain ⟨j, D, hj, hr, hkb⟩ := h; exact hr.left_eq
theorem RB.mb {r cnt : Nat} {left : Lit → Bool} (h : RB w b r n G left cnt) : MB w b n G := by obtain ⟨j, D, hj, hr, hkb⟩ := h; exact ⟨j, D, hj, hr.owns, hkb⟩
theorem owns_cell_ne {w : World} {P : Program} {k : TypeId} {R : Value → Option (DataW Unit × List MemPlace)} {mb n : Nat} {D : DataW Unit} (h : w.ownsMap P k R mb n D) {q : Nat} {t : TypeId} {cs : List Value} (hc : Has w q t cs) : q ≠ mb := by
  obtain ⟨es, clock, hb, _⟩ := h
  rintro rfl
  unfold Has at hc
  rw [hb] at hc
  cases hc
/-- a space and the law's three maps -/
structure St (w0 : World) (p hb tb gb n : Nat) (S : Sp) (H T G : List Bool) (w : World) : Prop where
  sp : ∃ R, Own w0 p R S w ∧ hb ∉ R ∧ tb ∉ R ∧ gb ∉ R
  had : MB w hb n H
  taken : MB w tb n T
  given : MB w gb n G
  ne : hb ≠ tb ∧ hb ≠ gb ∧ tb ≠ gb
  ge : w0.heap.size ≤ hb ∧ w0.heap.size ≤ tb ∧ w0.heap.size ≤ gb
theorem St.bel (h : St w0 p hb tb gb n S H T G w) : Below w0.heap.size w0 w := by obtain ⟨R, o, _⟩ := h.sp; exact o.bel
theorem St.on (h : St w0 p hb tb gb n S H T G w) (hb_ : Below w.heap.size w w') : St w0 p hb tb gb n S H T G w' := by
  obtain ⟨R, o, h1⟩ := h.sp
  exact ⟨⟨R, o.on hb_, h1⟩, h.had.same (hb_.block _ h.had.lt), h.taken.same (hb_.block _ h.taken.lt), h.given.same (hb_.block _ h.given.lt), h.ne, h.ge⟩
theorem St.mono (h : St w0 p hb tb gb n S H T G w) (hn : n ≤ n') : St w0 p hb tb gb n' S H T G w := ⟨h.sp, h.had.mono hn, h.taken.mono hn, h.given.mono hn, h.ne, h.ge⟩
theorem St.call (h : St w0 p hb tb gb n S H T G w) {P : Program} {f : FuncId} {args : Array Value} {E : Ending} (hc : ∀ R, Tz w → SpAt w p R S → Calls P f args w fun e w' => e = E ∧ Kept w p R S' w') : Calls P f args w fun e w' => e = E ∧ St w0 p hb tb gb n S' H T G w' := by
  obtain ⟨R, o, h1, h2, h3⟩ := h.sp
  refine (hc R o.tw o.at_).mono ?_
  rintro e w' ⟨rfl, hk⟩
  obtain ⟨R', o', hR, hch⟩ := o.kept hk
  have q1 := h.had.lt
  have q2 := h.taken.lt
  have q3 := h.given.lt
  have key : ∀ b, b < w.heap.size → b ∉ R → b ∉ R' := fun b hb hn e => by
    rcases hR b e with k | k
    · exact hn k
    · omega
  exact ⟨rfl, ⟨R', o', key _ q1 h1, key _ q2 h2, key _ q3 h3⟩, h.had.same (hch.block _ q1 h1), h.taken.same (hch.block _ q2 h2), h.given.same (hch.block _ q3 h3), h.ne, h.ge⟩
theorem St.calm (h : St w0 p hb tb gb n S H T G w) {P : Program} {f : FuncId} {args : Array Value} {E : Ending} (hc : ∀ R, Tz w → SpAt w p R S → Calls P f args w fun e w' => e = E ∧ Below w.heap.size w w') : Calls P f args w fun e w' => e = E ∧ St w0 p hb tb gb n S H T G w' := by
  obtain ⟨R, o, _⟩ := id h.sp
  refine (hc R o.tw o.at_).mono ?_
  rintro e w' ⟨rfl, hb⟩
  exact ⟨rfl, h.on hb⟩
theorem own_grown (o : Own w0 p R S w) (hg : w.grownBy w' (some b)) (hR : b ∉ R) (hge : w0.heap.size ≤ b) : Own w0 p R S w' :=
  ⟨o.at_.same fun k hk => hg.block k (o.at_.lt k hk) (fun e => hR (by injection e with e; exact e ▸ hk)), o.ge, o.bel.grown hg o.bel.size (fun q hq => by injection hq with hq; omega), o.tz⟩
theorem St.putH (h : St w0 p hb tb gb n S H T G w) (hg : w.grownBy w' (some hb)) (hn : n ≤ n') (hm : MB w' hb n' H') : St w0 p hb tb gb n' S H' T G w' := by
  obtain ⟨R, o, h1, h2, h3⟩ := h.sp
  obtain ⟨n1, n2, n3⟩ := h.ne
  exact ⟨⟨R, own_grown o hg h1 h.ge.1, h1, h2, h3⟩, hm, (h.taken.same (hg.block _ h.taken.lt (by simp; omega))).mono hn, (h.given.same (hg.block _ h.given.lt (by simp; omega))).mono hn, h.ne, h.ge⟩
theorem St.putT (h : St w0 p hb tb gb n S H T G w) (hg : w.grownBy w' (some tb)) (hn : n ≤ n') (hm : MB w' tb n' T') : St w0 p hb tb gb n' S H T' G w' := by
  obtain ⟨R, o, h1, h2, h3⟩ := h.sp
  obtain ⟨n1, n2, n3⟩ := h.ne
  exact ⟨⟨R, own_grown o hg h2 h.ge.2.1, h1, h2, h3⟩, (h.had.same (hg.block _ h.had.lt (by simp; omega))).mono hn, hm, (h.given.same (hg.block _ h.given.lt (by simp; omega))).mono hn, h.ne, h.ge⟩
theorem St.putG (h : St w0 p hb tb gb n S H T G w) (hg : w.grownBy w' (some gb)) (hn : n ≤ n') (hm : MB w' gb n' G') : St w0 p hb tb gb n' S H T G' w' := by
  obtain ⟨R, o, h1, h2, h3⟩ := h.sp
  obtain ⟨n1, n2, n3⟩ := h.ne
  exact ⟨⟨R, own_grown o hg h3 h.ge.2.2, h1, h2, h3⟩, (h.had.same (hg.block _ h.had.lt (by simp; omega))).mono hn, (h.taken.same (hg.block _ h.taken.lt (by simp; omega))).mono hn, hm, h.ne, h.ge⟩
theorem St.begin (o : Own w0 p R S w) (k : Nat) : St w0 p w.heap.size (w.heap.size + 1) (w.heap.size + 1 + 1) 0 S (noneL k) (noneL k) (noneL k) (((w.alloc (.map #[] 0)).alloc (.map #[] 0)).alloc (.map #[] 0)) := by
  have b3 : Below w.heap.size w (((w.alloc (.map #[] 0)).alloc (.map #[] 0)).alloc (.map #[] 0)) := b_nw (b_nw (b_new _ _) _) _
  have m1 := World.ownsMap_made (H := Unit) w Tryd.prog 3 (plainElem (H := Unit) Tryd.prog 4)
  have m2 := World.ownsMap_made (H := Unit) (w.alloc (.map #[] 0)) Tryd.prog 3 (plainElem (H := Unit) Tryd.prog 4)
  have m3 := World.ownsMap_made (H := Unit) ((w.alloc (.map #[] 0)).alloc (.map #[] 0)) Tryd.prog 3 (plainElem (H := Unit) Tryd.prog 4)
  rw [World.size_alloc] at m2
  rw [World.size_alloc, World.size_alloc] at m3
  have hlt := o.at_.lt
  have qb := o.bel.size
  exact ⟨⟨R, o.on b3, fun e => by have := hlt _ e; omega, fun e => by have := hlt _ e; omega, fun e => by have := hlt _ e; omega⟩,
    ⟨0, _, Nat.le_refl _, owns_map_on (owns_map_on m1 (b_new _ _)) (b_new _ _), KB.empty k⟩, ⟨0, _, Nat.le_refl _, owns_map_on m2 (b_new _ _), KB.empty k⟩, ⟨0, _, Nat.le_refl _, m3, KB.empty k⟩, ⟨by omega, by omega, by omega⟩, ⟨by omega, by omega, by omega⟩⟩
/-- a map xb is gone through by the iterator r, while numbers are struck from the map hb -/
structure Lp (w0 : World) (p hb xb r n : Nat) (S : Sp) (H G : List Bool) (left : Lit → Bool) (cnt : Nat) (w : World) : Prop where
  sp : ∃ R, Own w0 p R S w ∧ hb ∉ R ∧ r ∉ R
  had : MB w hb n H
  rb : RB w xb r n G left cnt
  ne : hb ≠ xb ∧ hb ≠ r ∧ xb ≠ r
  ge : w0.heap.size ≤ hb ∧ w0.heap.size ≤ r
theorem Lp.startG (h : St w0 p hb tb gb n S H T G w) {left : Lit → Bool} {cnt : Nat} (hr : RB w' gb w.heap.size n G left cnt) (hb_ : Below w.heap.size w w') : Lp w0 p hb gb w.heap.size n S H G left cnt w' := by
  obtain ⟨R, o, h1, h2, h3⟩ := h.sp
  have hlt := o.at_.lt
  exact ⟨⟨R, o.on hb_, h1, fun e => by have := hlt _ e; omega⟩, h.had.same (hb_.block _ h.had.lt), hr, ⟨h.ne.2.1, by have := h.had.lt; omega, by have := h.given.lt; omega⟩, h.ge.1, h.bel.size⟩
theorem Lp.startT (h : St w0 p hb tb gb n S H T G w) {left : Lit → Bool} {cnt : Nat} (hr : RB w' tb w.heap.size n T left cnt) (hb_ : Below w.heap.size w w') : Lp w0 p hb tb w.heap.size n S H T left cnt w' := by
  obtain ⟨R, o, h1, h2, h3⟩ := h.sp
  have hlt := o.at_.lt
  exact ⟨⟨R, o.on hb_, h1, fun e => by have := hlt _ e; omega⟩, h.had.same (hb_.block _ h.had.lt), hr, ⟨h.ne.1, by have := h.had.lt; omega, by have := h.taken.lt; omega⟩, h.ge.1, h.bel.size⟩
theorem Lp.step {xb r cnt cnt' : Nat} {left left' : Lit → Bool} (h : Lp w0 p hb xb r n S H G left cnt w) (hg : w.grownBy w' (some r)) (hr : RB w' xb r n G left' cnt') : Lp w0 p hb xb r n S H G left' cnt' w' := by
  obtain ⟨R, o, h1, h2⟩ := h.sp
  exact ⟨⟨R, own_grown o hg h2 h.ge.2, h1, h2⟩, h.had.same (hg.block _ h.had.lt (by have := h.ne.2.1; simp; omega)), hr, h.ne, h.ge⟩
theorem Lp.del {xb r cnt : Nat} {left : Lit → Bool} (h : Lp w0 p hb xb r n S H G left cnt w) (hg : w.grownBy w' (some hb)) (hm : MB w' hb n H') : Lp w0 p hb xb r n S H' G left cnt w' := by
  obtain ⟨R, o, h1, h2⟩ := h.sp
  exact ⟨⟨R, own_grown o hg h1 h.ge.1, h1, h2⟩, hm, h.rb.kept hg (by have := h.ne.1; simp; omega) (by have := h.ne.2.1; simp; omega), h.ne, h.ge⟩
theorem Lp.left {xb r cnt : Nat} {left : Lit → Bool} (h : Lp w0 p hb xb r n S H G left cnt w) : w.rangeLeft xb r = cnt := h.rb.left
/-- two new maps, that hold nothing -/
theorem Lp.anew {xb r cnt : Nat} {left : Lit → Bool} (h : Lp w0 p hb xb r n S H G left cnt w) (k : Nat) : St w0 p hb w.heap.size (w.heap.size + 1) n S H (noneL k) (noneL k) ((w.alloc (.map #[] 0)).alloc (.map #[] 0)) := by
  have hb2 : Below w.heap.size w ((w.alloc (.map #[] 0)).alloc (.map #[] 0)) := b_nw (b_new _ _) _
  have m1 := World.ownsMap_made (H := Unit) w Tryd.prog 3 (plainElem (H := Unit) Tryd.prog 4)
  have m2 := World.ownsMap_made (H := Unit) (w.alloc (.map #[] 0)) Tryd.prog 3 (plainElem (H := Unit) Tryd.prog 4)
  rw [World.size_alloc] at m2
  obtain ⟨R, o, r1, r2⟩ := h.sp
  have hlt := o.at_.lt
  have q := h.had.lt
  have qb := o.bel.size
  exact ⟨⟨R, o.on hb2, r1, fun e => by have := hlt _ e; omega, fun e => by have := hlt _ e; omega⟩, h.had.same (hb2.block _ q), ⟨0, _, Nat.zero_le _, owns_map_on m1 (b_new _ _), KB.empty k⟩, ⟨0, _, Nat.zero_le _, m2, KB.empty k⟩, ⟨by omega, by omega, by omega⟩, ⟨h.ge.1, by omega, by omega⟩⟩
end
/-- what is had: the used ones but 0 -/
def hadL (S : Sp) : List Bool := putL S.used 0 false
structure Inv (S : Sp) : Prop where
  len : S.used.length = 9
  tl : S.taken.length = 9
  gl : S.given.length = 9
  first : S.first = 1
  u0 : bg S.used 0 = true
  t0 : bg S.taken 0 = false
  g0 : bg S.given 0 = false
theorem hadL_length (S : Sp) : (hadL S).length = S.used.length := putL_length _ _ _
theorem hadL_get (S : Sp) (i : Nat) (hi : i < S.used.length) : bg (hadL S) i = if i = 0 then false else bg S.used i := by
  unfold hadL; rw [putL_get _ _ _ _ hi]
  by_cases e : i = 0
  · rw [if_pos (by omega), if_pos e]
  · rw [if_neg (by omega), if_neg e]
theorem bg_none (n i : Nat) : bg (noneL n) i = false := by
  unfold noneL; rw [bg, List.getD_eq_getElem?_getD, List.getElem?_replicate]; split <;> rfl
theorem Inv.start : Inv (Sp.fresh 9 1 0 0) := ⟨by decide, by decide, by decide, rfl, by decide, by decide, by decide⟩
theorem had_start : hadL (Sp.fresh 9 1 0 0) = noneL 9 := by decide
theorem had_cnt {S : Sp} (h : Inv S) : freeN S = 8 - (cntL (hadL S) : Int) := by
  have e := cnt_put S.used 0 false (by rw [h.len]; decide)
  rw [h.u0] at e
  simp only [if_true, Bool.false_eq_true, if_false] at e
  have e2 : cntL (hadL S) = cntL (putL S.used ((0 : Nat) : Int) false) := rfl
  unfold freeN; rw [h.len]; omega
theorem take_full {S : Sp} (h : Inv S) (ht : takeO S = none) : cntL (hadL S) = 8 := by
  have h1 := next_isn ht
  have e : hadL S = (List.range 9).map fun i => decide (i ≠ 0) := by
    refine ext_bg (by rw [hadL_length, h.len]; simp) fun i hi => ?_
    rw [hadL_length] at hi
    rw [hadL_get _ _ hi]
    have hi9 : i < 9 := by have := h.len; omega
    have e1 : bg ((List.range 9).map fun i => decide (i ≠ 0)) i = decide (i ≠ 0) := by rw [bg, List.getD_eq_getElem?_getD, List.getElem?_map, List.getElem?_range hi9]; rfl
    rw [e1]
    by_cases e0 : i = 0
    · simp [e0]
    · have := h1 i hi (by omega)
      simp [e0]
      simpa using this
  rw [e]; decide
theorem take_fresh {S : Sp} (h : Inv S) {K : Nat} (ht : takeO S = some K) : K < 9 ∧ K ≠ 0 ∧ hasL (hadL S) (K : Nat) = false ∧ Inv S.take ∧ hadL S.take = putL (hadL S) (K : Nat) true ∧ S.take.taken = putL S.taken (K : Nat) true ∧ S.take.given = S.given := by
  obtain ⟨h1, h2, h3, h4⟩ := next_is ht
  have hK0 : K ≠ 0 := fun e => by subst e; rw [h.u0] at h3; cases h3
  have eT : S.take = { S with used := putL S.used (K : Nat) true, taken := putL S.taken (K : Nat) true } := by rw [Sp.take, ht]
  have hlen := h.len
  have hc0 : ¬ ((0 : Nat) : Int) = (K : Int) := by omega
  refine ⟨by omega, hK0, ?_, ?_, ?_, by rw [eT], by rw [eT]⟩
  · rw [hasL_in (by rw [hadL_length]; exact h1), hadL_get _ _ h1, if_neg hK0]; exact h3
  · rw [eT]
    exact ⟨by show List.length (putL _ _ _) = 9; rw [putL_length]; exact h.len, by show List.length (putL _ _ _) = 9; rw [putL_length]; exact h.tl, h.gl, h.first, by show bg (putL _ _ _) 0 = true; rw [putL_get _ _ _ _ (by omega), if_neg hc0]; exact h.u0, by show bg (putL _ _ _) 0 = false; rw [putL_get _ _ _ _ (by have := h.tl; omega), if_neg hc0]; exact h.t0, h.g0⟩
  · rw [eT]
    have hL : List.length (putL S.used (K : Nat) true) = S.used.length := putL_length _ _ _
    refine ext_bg ((hadL_length _).trans (hL.trans ((putL_length (hadL S) (K : Nat) true).trans (hadL_length S)).symm)) fun i hi => ?_
    have hi1 : i < List.length (putL S.used (K : Nat) true) := by rw [hadL_length] at hi; exact hi
    have hi' : i < S.used.length := by omega
    have e1 := hadL_get ({ S with used := putL S.used (K : Nat) true, taken := putL S.taken (K : Nat) true } : Sp) i hi1
    have e2 := putL_get (hadL S) (K : Nat) true i (by rw [hadL_length]; exact hi')
    have e3 := putL_get S.used (K : Nat) true i hi'
    rw [hadL_get S i hi'] at e2
    refine e1.trans (Eq.trans ?_ e2.symm)
    show (if i = 0 then false else bg (putL S.used (K : Nat) true) i) = _
    rw [e3]
    by_cases e : i = K
    · subst e; simp [hK0]
    · have : ¬ (i : Int) = (K : Int) := by omega
      simp [this]
theorem give_is {S : Sp} (h : Inv S) {k : Nat} (hk : k < 9) : decide (giveE S (k : Nat) = 0) = (hasL (hadL S) (k : Nat) && !hasL S.given (k : Nat)) := by
  have hl := h.len
  rw [hasL_in (by rw [hadL_length]; omega), hadL_get _ _ (by omega)]
  unfold giveE
  by_cases e : k = 0
  · subst e
    rw [if_pos (by simp [outB, h.first])]; simp
  · have ho : outB S (k : Nat) = false := by simp [outB, h.first]; omega
    rw [ho, if_neg (by decide), if_neg e, hasL_in (l := S.used) (by omega)]
    cases bg S.used k <;> cases hasL S.given (k : Nat) <;> simp
theorem give_inv {S : Sp} (h : Inv S) (k : Nat) : Inv (S.give (k : Nat)) := by
  unfold Sp.give; split
  · rename_i hE
    refine ⟨h.len, h.tl, by show List.length (putL _ _ _) = 9; rw [putL_length]; exact h.gl, h.first, h.u0, h.t0, ?_⟩
    show bg (putL _ _ _) 0 = false
    rw [putL_get _ _ _ _ (by have := h.gl; omega)]
    rw [if_neg]; exact h.g0
    intro e
    have e0 : k = 0 := by omega
    subst e0
    unfold giveE at hE
    rw [if_pos (by simp [outB, h.first])] at hE
    cases hE
  · exact h
theorem give_had {S : Sp} (k : Int) : hadL (S.give k) = hadL S ∧ (S.give k).taken = S.taken := by unfold Sp.give; split <;> exact ⟨rfl, rfl⟩
theorem give_no {S : Sp} (h : Inv S) {k : Nat} (hk : k < 9) (hc : hasL (hadL S) (k : Nat) = false) : (S.give (k : Nat)).given = S.given := by
  have e := give_is h hk
  rw [hc] at e
  simp at e
  unfold Sp.give; rw [if_neg e]
theorem give_yes {S : Sp} (h : Inv S) {k : Nat} (hk : k < 9) (hc : hasL (hadL S) (k : Nat) = true) : (S.give (k : Nat)).given = putL S.given (k : Nat) true := by
  have e := give_is h hk
  rw [hc] at e
  have hg := h.gl
  cases hG : hasL S.given (k : Nat) with
  | true =>
    rw [hG] at e
    simp at e
    unfold Sp.give; rw [if_neg e]
    exact (putL_same (by omega) (by rw [← hasL_in (by omega)]; exact hG)).symm
  | false =>
    rw [hG] at e
    simp at e
    unfold Sp.give; rw [if_pos e]
theorem settle_inv {S : Sp} (h : Inv S) : Inv S.settle ∧ hadL S.settle = minusL (hadL S) S.given ∧ S.settle.taken = noneL 9 ∧ S.settle.given = noneL 9 := by
  have hl : (minusL S.used S.given).length = 9 := by rw [minusL_length]; exact h.len
  refine ⟨⟨hl, ?_, ?_, h.first, ?_, ?_, ?_⟩, ?_, ?_, ?_⟩
  · show (noneL (minusL S.used S.given).length).length = 9; rw [hl]; rfl
  · show (noneL (minusL S.used S.given).length).length = 9; rw [hl]; rfl
  · show bg (minusL S.used S.given) 0 = true; rw [minusL_get _ _ _ (by have := h.len; omega), h.u0, h.g0]; rfl
  · exact bg_none _ _
  · exact bg_none _ _
  · refine ext_bg (by rw [hadL_length, minusL_length, hadL_length]; exact minusL_length _ _) fun i hi => ?_
    rw [hadL_length] at hi
    have hi' : i < S.used.length := by have : S.settle.used.length = S.used.length := minusL_length _ _; omega
    rw [hadL_get _ _ hi, minusL_get _ _ _ (by rw [hadL_length]; exact hi'), hadL_get _ _ hi']
    show (if i = 0 then false else bg (minusL S.used S.given) i) = _
    rw [minusL_get _ _ _ hi']
    by_cases e : i = 0 <;> simp [e]
  · show noneL (minusL S.used S.given).length = noneL 9; rw [hl]
  · show noneL (minusL S.used S.given).length = noneL 9; rw [hl]
theorem undo_inv {S : Sp} (h : Inv S) : Inv S.undo ∧ hadL S.undo = minusL (hadL S) S.taken ∧ S.undo.taken = noneL 9 ∧ S.undo.given = noneL 9 := by
  have hl : (minusL S.used S.taken).length = 9 := by rw [minusL_length]; exact h.len
  refine ⟨⟨hl, ?_, ?_, h.first, ?_, ?_, ?_⟩, ?_, ?_, ?_⟩
  · show (noneL (minusL S.used S.taken).length).length = 9; rw [hl]; rfl
  · show (noneL (minusL S.used S.taken).length).length = 9; rw [hl]; rfl
  · show bg (minusL S.used S.taken) 0 = true; rw [minusL_get _ _ _ (by have := h.len; omega), h.u0, h.t0]; rfl
  · exact bg_none _ _
  · exact bg_none _ _
  · refine ext_bg (by rw [hadL_length, minusL_length, hadL_length]; exact minusL_length _ _) fun i hi => ?_
    rw [hadL_length] at hi
    have hi' : i < S.used.length := by have : S.undo.used.length = S.used.length := minusL_length _ _; omega
    rw [hadL_get _ _ hi, minusL_get _ _ _ (by rw [hadL_length]; exact hi'), hadL_get _ _ hi']
    show (if i = 0 then false else bg (minusL S.used S.taken) i) = _
    rw [minusL_get _ _ _ hi']
    by_cases e : i = 0 <;> simp [e]
  · show noneL (minusL S.used S.taken).length = noneL 9; rw [hl]
  · show noneL (minusL S.used S.taken).length = noneL 9; rw [hl]
end Go.Proofs.YtkflccecdjfkiaaDoor.Spc
