/- Layer 11's law CacheLast: what was put last, and in which order. -/
import Derived.Test.YtbdiadbaapfdgaaCaY
namespace Go.Proofs.Ytbdiadbaapfdgaa.Ca
open Go Go.RowKit Go.Proofs.Ytbdiadbaapfdgaa Go.Maps
set_option linter.unusedVariables false

theorem take_rm (a : Int) : ∀ (F : List En) (n : Nat), (F.map En.addr).Nodup → (rmE (F.take n) a).take (n - 1) = (rmE F a).take (n - 1)
  | [], n, _ => by simp
  | x :: F, 0, _ => by simp
  | x :: F, k + 1, h => by
    rw [List.map_cons, List.nodup_cons] at h
    rw [List.take_succ_cons, Nat.add_sub_cancel]
    by_cases e : x.addr = a
    · have h1 : ∀ (l : List En), (∀ s ∈ l, s ∈ F) → rmE l a = l := fun l hl => List.filter_eq_self.2 fun s hs => by
        simpa using fun c : s.addr = a => h.1 (e.trans c.symm ▸ List.mem_map_of_mem (hl s hs))
      have e1 : rmE (x :: F.take k) a = F.take k := by
        have := h1 (F.take k) fun s hs => List.mem_of_mem_take hs
        unfold rmE at this ⊢
        rw [List.filter_cons_of_neg (by simpa using e)]; exact this
      have e2 : rmE (x :: F) a = F := by
        have := h1 F fun s hs => hs
        unfold rmE at this ⊢
        rw [List.filter_cons_of_neg (by simpa using e)]; exact this
      rw [e1, e2, List.take_take, Nat.min_self]
    · have e1 : rmE (x :: F.take k) a = x :: rmE (F.take k) a := by unfold rmE; rw [List.filter_cons_of_pos (by simpa using e)]
      have e2 : rmE (x :: F) a = x :: rmE F a := by unfold rmE; rw [List.filter_cons_of_pos (by simpa using e)]
      rw [e1, e2]
      cases k with
      | zero => rfl
      | succ j =>
        rw [List.take_succ_cons, List.take_succ_cons]
        have := take_rm a F (j + 1) h.2
        rw [Nat.add_sub_cancel] at this
        rw [this]
theorem put_take {F : List En} {n : Nat} (hn : (F.map En.addr).Nodup) (h1 : 1 ≤ n) (e : En) : putE n (F.take n) e = (e :: rmE F e.addr).take n := by
  obtain ⟨k, rfl⟩ : ∃ k, n = k + 1 := ⟨n - 1, by omega⟩
  unfold putE
  rw [take_rm _ _ _ hn, List.take_succ_cons]; rfl
theorem rmE_nodup {F : List En} {a : Int} (h : (F.map En.addr).Nodup) : ((rmE F a).map En.addr).Nodup := h.sublist (List.Sublist.map _ (by unfold rmE; exact List.filter_sublist))
theorem rmE_mem {F : List En} {a : Int} {e : En} : e ∈ rmE F a ↔ e ∈ F ∧ e.addr ≠ a := by unfold rmE; rw [List.mem_filter]; simp
theorem gt_mem {es : List En} (hn : (es.map En.addr).Nodup) {t : En} (ht : t ∈ es) : gtE es t.addr = some t := by
  obtain ⟨i, hi, rfl⟩ := List.getElem_of_mem ht
  exact gt_at hn hi
/-- all blocks that were put, what was put last first -/
structure Lst (F : List En) (i : Nat) : Prop where
  nodup : (F.map En.addr).Nodup
  all : ∀ e ∈ F, 0 ≤ e.addr ∧ e.addr < 40 ∧ e.sum = 0 ∧ ∃ g : Nat, g < i ∧ e.gen = (g : Int) ∧ e.pay = Utf8.encode (97 + (g : Int) % 20)
theorem Lst.start : Lst [] 0 where
  nodup := List.nodup_nil
  all := fun e h => by cases h
theorem Lst.put {F : List En} {i : Nat} (h : Lst F i) {a : Int} (h0 : 0 ≤ a) (h1 : a < 40) (k : Int) : Lst (⟨a, (i : Int), 0, k, Utf8.encode (97 + (i : Int) % 20)⟩ :: rmE F a) (i + 1) := by
  refine ⟨?_, fun e he => ?_⟩
  · rw [List.map_cons, List.nodup_cons]
    exact ⟨fun hm => by obtain ⟨e, he, e2⟩ := List.mem_map.1 hm; exact (rmE_mem.1 he).2 e2, rmE_nodup h.nodup⟩
  · rcases List.mem_cons.1 he with rfl | he
    · refine ⟨h0, h1, rfl, i, Nat.lt_succ_self i, ?_, ?_⟩
      · with_reducible rfl
      · with_reducible rfl
    · obtain ⟨x1, x2, x3, g, x4, x5, x6⟩ := h.all e (rmE_mem.1 he).1
      exact ⟨x1, x2, x3, g, by omega, x5, x6⟩
set_option maxRecDepth 100000 in
theorem Lst.len {F : List En} {i : Nat} (h : Lst F i) : F.length ≤ 40 := by
  have := few (n := 40) (F.map En.addr) h.nodup fun x hx => by
    obtain ⟨e, he, rfl⟩ := List.mem_map.1 hx
    have h5 := h.all e he
    exact ⟨h5.1, by have := h5.2.1; omega⟩
  simpa using this
/-- D's values are the generations of F, by their addresses -/
structure KL (D : DataW Unit) (F : List En) : Prop where
  tidy : Tidy D
  at_ : ∀ e ∈ F, ∀ z, D.atKey (.int .i64 e.addr) z = .lit (.int .u64 e.gen)
theorem KL.put {D : DataW Unit} {F : List En} (h : KL D F) (e : En) : KL (D.put (.int .i64 e.addr) (.lit (.int .u64 e.gen))) (e :: rmE F e.addr) := by
  refine ⟨h.tidy.put kl _, fun t ht z => ?_⟩
  rcases List.mem_cons.1 ht with rfl | ht
  · exact atKey_put_same h.tidy.isMap kl _ _
  · rw [atKey_put_other (key_ne (rmE_mem.1 ht).2)]; exact h.at_ t (rmE_mem.1 ht).1 z
/-- the map of generations at b, behind i writes -/
def LM (w : World) (b i : Nat) (F : List En) : Prop := ∃ D, w.ownsMap Try.prog 3 (plainElem (H := Unit) Try.prog 30) b i D ∧ KL D F
theorem zero_u64 (w : World) : (zeroValue 30).run Try.prog w = .ok (.int .u64 0) w := by kernel_rfl
section
variable {w w' : World} {b i : Nat} {F : List En}
theorem LM.lt (h : LM w b i F) : b < w.heap.size := by obtain ⟨D, h1, _⟩ := h; exact h1.lt
theorem LM.same (h : LM w b i F) (hk : w'.heap[b]? = w.heap[b]?) : LM w' b i F := by
  obtain ⟨D, ⟨es, clock, hb, F, hs, hD⟩, h2⟩ := h
  exact ⟨D, ⟨es, clock, hk.trans hb, F, hs, hD⟩, h2⟩
theorem LM.made (w : World) : LM (w.alloc (.map #[] 0)) w.heap.size 0 [] := ⟨_, World.ownsMap_made w _ _ _, tidy_empty, fun e h => by cases h⟩
set_option maxRecDepth 100000 in
theorem LM.look (h : LM w b i F) {e : En} (he : e ∈ F) (h0 : in64 e.addr) : (Instr.lookup 54 (.map (some b)) (.int .i64 e.addr) false).run Try.prog w = .ok (.int .u64 e.gen) w := by
  obtain ⟨D, hown, hk⟩ := h
  obtain ⟨c, hrun, hat, _⟩ := hown.lookup_int (int_keyed Try.underlying3) Try.underlying54 Try.underlying30 (zero_u64 w) (keyOf_int_mk Try.underlying3 (int_wf h0.1 h0.2))
  rw [hk.at_ e he] at hat
  injection hat with hat
  injection hat with _ hat
  rw [hrun, hat]
theorem u64_wf {x : Int} (h0 : 0 ≤ x) (h1 : x ≤ 18446744073709551615) : (Lit.int .u64 x).wf = true := by
  simp only [Lit.wf, Bool.and_eq_true, decide_eq_true_eq, show IntKind.u64.min = 0 from rfl, show IntKind.u64.max = 18446744073709551615 from rfl]
  exact ⟨h0, h1⟩
theorem LM.update (h : LM w b i F) (hi : i ≤ 4096) (e : En) (h0 : in64 e.addr) (h1 : 0 ≤ e.gen) (h2 : e.gen ≤ 18446744073709551615) : ∃ w', (Instr.mapUpdate 54 (.map (some b)) (.int .i64 e.addr) (.int .u64 e.gen)).run Try.prog w = .ok () w' ∧ LM w' b (i + 1) (e :: rmE F e.addr) ∧ w.grownBy w' (some b) := by
  obtain ⟨D, hown, hk⟩ := h
  obtain ⟨w', hrun, ho, hg⟩ := hown.update (int_keyed Try.underlying3) Try.underlying54 (by unfold maxLen; omega) (keyOf_int_mk Try.underlying3 (int_wf h0.1 h0.2)) (val := .int .u64 e.gen) (d := .lit (.int .u64 e.gen)) (ps := []) (plainElem_int Try.underlying30 (u64_wf h1 h2))
  exact ⟨w', hrun, ⟨_, ho, hk.put e⟩, hg⟩
end
/-- the addresses, what was put first first -/
def adr (F : List En) : List Value := (F.map fun e => Value.int .i64 e.addr).reverse
theorem adr_length (F : List En) : (adr F).length = F.length := by unfold adr; simp
theorem adr_get {F : List En} {j : Nat} (hj : j < F.length) : (adr F)[j]? = some (.int .i64 (F[F.length - 1 - j]'(by omega)).addr) := by
  unfold adr
  rw [List.getElem?_reverse (by simpa using hj), List.length_map, List.getElem?_map, List.getElem?_eq_getElem (by omega)]; rfl
theorem adr_cons (e : En) (F : List En) : adr (e :: F) = adr F ++ [.int .i64 e.addr] := by unfold adr; simp
/-- of the first j addresses those that aren't a -/
def rest (F : List En) (a : Int) (j : Nat) : List Value := ((F.map En.addr).reverse.take j).filter (fun x => !(x == a)) |>.map (Value.int .i64)
theorem rest_step {F : List En} {a : Int} {j : Nat} (hj : j < F.length) : rest F a (j + 1) = rest F a j ++ (if (F[F.length - 1 - j]'(by omega)).addr = a then [] else [.int .i64 (F[F.length - 1 - j]'(by omega)).addr]) := by
  unfold rest
  have hl : j < (F.map En.addr).reverse.length := by simpa using hj
  have e1 : (F.map En.addr).reverse[j] = (F[F.length - 1 - j]'(by omega)).addr := by
    rw [List.getElem_reverse, List.getElem_map]; congr 1; congr 1; simp
  rw [List.take_succ_eq_append_getElem hl, List.filter_append, List.map_append, e1]
  congr 1
  by_cases e : (F[F.length - 1 - j]'(by omega)).addr = a
  · rw [if_pos e, List.filter_cons_of_neg (by simpa using e)]; rfl
  · rw [if_neg e, List.filter_cons_of_pos (by simpa using e)]; rfl
theorem rest_all (F : List En) (a : Int) : rest F a F.length = adr (rmE F a) := by
  unfold rest adr rmE
  rw [List.take_of_length_le (by simp), List.filter_reverse, List.map_reverse, List.filter_map, List.map_map]; rfl
theorem rest_len (F : List En) (a : Int) (j : Nat) : (rest F a j).length ≤ j := by
  unfold rest
  rw [List.length_map]
  exact Nat.le_trans (List.length_filter_le _ _) (List.length_take_le _ _)
section
variable {w0 w w' : World} {K K' : Nat → Prop} {p n : Nat} {es : List En} {c f m : Nat}
/-- other blocks are kept, that are new -/
theorem Tw.other (h : Tw w0 K p n es [] (.slice none 0 0) c f m w) (hb : Below w.heap.size w w') (hK : ∀ k, K' k → K k ∨ (w.heap.size ≤ k ∧ k < w'.heap.size)) : Tw w0 K' p n es [] (.slice none 0 0) c f m w' := by
  obtain ⟨R, o, r, a⟩ := h
  refine ⟨R, o.on hb, World.ownsRow_nil _ _ _ _, fun k hk => ?_⟩
  rcases hk with hk | hk
  · cases hk
  · rcases hK k hk with e | e
    · exact ⟨Nat.lt_of_lt_of_le (a k (.inr e)).1 hb.size, (a k (.inr e)).2⟩
    · exact ⟨e.2, fun hr => by have := o.at_.lt hr; omega⟩
end
end Go.Proofs.Ytbdiadbaapfdgaa.Ca
