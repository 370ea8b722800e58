/- Layer 16 (leaf): slices.Insert of one entry, slices.Delete of one, a value in its place. -/
import Derived.Test.YtfmbjepjmjcgeaaLeA
import Derived.Test.YtfmbjepjmjcgeaaCopyK
import Derived.Lib.Overlaps
import Derived.Shelf.RegionOpenPlain
import Derived.Deep.RegionLaw
namespace Go.Proofs.Ytfmbjepjmjcgeaa.Leaf
open Go Go.RowKit Go.Proofs.Ytfmbjepjmjcgeaa Go.Proofs.Ytfmbjepjmjcgeaa.Lend Go.Proofs.Ytfmbjepjmjcgeaa.Rec Go.Proofs.Ytfmbjepjmjcgeaa.Msg Go.Proofs.Ytfmbjepjmjcgeaa.Buf
set_option linter.unusedVariables false

/-- append as a step of a region that draws, its run being known -/
theorem step_app_eq {P : Program} {ops : Array Oper} {o : Oper} {a : Act} {w : World} {K : Act → World → Prop} {Q : Exit → Act → World → Prop} {E : Prop}
    (hg : o.guard = none) (p q : Operand) (S T : TypeId) (hop : o.op = Op.call { callee := Callee.builtin Builtin.append, args := #[p, q], argTypes := #[S, T] })
    (x y : Value) (hp : a.eval p = x) (hq : a.eval q = y) {z : Value} {w' : World} (hr : (Builtin.append_ #[S, T] o.type #[x, y]).run P w = .ok z w') (hK : K (a.put o.dst z) w') :
    if Region.wanted o (yielded ops a.tmps) = true then Oper.wp P o a w K Q else E := by
  rw [if_pos (show Region.wanted o (yielded ops a.tmps) = true by simp [Region.wanted, hg])]
  unfold Oper.wp execOp
  simp only [hop, resolve, invoke, builtin, Sem.run_bind, Sem.run_pure, Result.andThen_ok, List.map_toArray, List.map_cons, List.map_nil, hp, hq, hr]
  exact hK
/-- copy likewise -/
theorem step_cpy_eq {P : Program} {ops : Array Oper} {o : Oper} {a : Act} {w : World} {K : Act → World → Prop} {Q : Exit → Act → World → Prop} {E : Prop}
    (hg : o.guard = none) (p q : Operand) (S T : TypeId) (hop : o.op = Op.call { callee := Callee.builtin Builtin.copy, args := #[p, q], argTypes := #[S, T] })
    (x y : Value) (hp : a.eval p = x) (hq : a.eval q = y) {z : Value} {w' : World} (hr : (Builtin.copy_ #[S, T] o.type #[x, y]).run P w = .ok z w') (hK : K (a.put o.dst z) w') :
    if Region.wanted o (yielded ops a.tmps) = true then Oper.wp P o a w K Q else E := by
  rw [if_pos (show Region.wanted o (yielded ops a.tmps) = true by simp [Region.wanted, hg])]
  unfold Oper.wp execOp
  simp only [hop, resolve, invoke, builtin, Sem.run_bind, Sem.run_pure, Result.andThen_ok, List.map_toArray, List.map_cons, List.map_nil, hp, hq, hr]
  exact hK
theorem wpList_cpy_eq {P : Program} {w w' : World} {ops : Array Oper} {rest : List Oper} {o : Oper} {a : Act} {Q : Exit → Act → World → Prop} (hgd : o.guard = none) (p q : Operand) (S T : TypeId)
    (ho : o.op = .call { callee := .builtin .copy, args := #[p, q], argTypes := #[S, T] }) (x y z : Value) (hp : a.eval p = x) (hq : a.eval q = y)
    (hr : (Builtin.copy_ #[S, T] o.type #[x, y]).run P w = .ok z w') (h : wpList P ops Q rest (a.put o.dst z) w') : wpList P ops Q (o :: rest) a w := by
  refine wpList_plain hgd fun K hK => ?_
  unfold Oper.wp execOp
  simp only [ho, resolve, invoke, builtin, Sem.run_bind, Sem.run_pure, Result.andThen_ok, List.map_toArray, List.map_cons, List.map_nil, hp, hq, hr]
  exact hK _ _ h
theorem wpList_clr_eq {P : Program} {w w' : World} {ops : Array Oper} {rest : List Oper} {o : Oper} {a : Act} {Q : Exit → Act → World → Prop} (hgd : o.guard = none) (p : Operand) (S : TypeId)
    (ho : o.op = .call { callee := .builtin .clear, args := #[p], argTypes := #[S] }) (x z : Value) (hp : a.eval p = x)
    (hr : (Builtin.clear_ #[S] o.type #[x]).run P w = .ok z w') (h : wpList P ops Q rest (a.put o.dst z) w') : wpList P ops Q (o :: rest) a w := by
  refine wpList_plain hgd fun K hK => ?_
  unfold Oper.wp execOp
  simp only [ho, resolve, invoke, builtin, Sem.run_bind, Sem.run_pure, Result.andThen_ok, List.map_toArray, List.map_cons, List.map_nil, hp, hr]
  exact hK _ _ h
theorem gby_chg {w w' : World} {g : Nat} (h : Chg (fun k => k = g) w w') : w.grownBy w' (some g) := ⟨h.os, h.tape, h.output, h.size, fun k hk hn => h.block k hk (fun e => hn (by rw [e]))⟩
theorem gby_trans {w w1 w2 : World} {r : Option Nat} (h : w.grownBy w1 r) (k : w1.grownBy w2 r) : w.grownBy w2 r :=
  ⟨k.os.trans h.os, k.tape.trans h.tape, k.output.trans h.output, Nat.le_trans h.size k.size, fun i hi hn => (k.block i (Nat.lt_of_lt_of_le hi h.size) hn).trans (h.block i hi hn)⟩
theorem gby_drew (w : World) (r : Option Nat) : w.grownBy w.drew r := ⟨rfl, rfl, rfl, Nat.le_refl _, fun _ _ _ => rfl⟩
theorem flatE_take (l : List Up) (i : Nat) (hi : i ≤ l.length) : flatE (l.take i) = (flatE l).take (i * 2) := by
  conv => rhs; rw [← List.take_append_drop i l, flatE_append]
  rw [List.take_left' (by rw [flatE_length, List.length_take]; omega)]
theorem flatE_drop (l : List Up) (i : Nat) (hi : i ≤ l.length) : flatE (l.drop i) = (flatE l).drop (i * 2) := by
  conv => rhs; rw [← List.take_append_drop i l, flatE_append]
  rw [List.drop_left' (by rw [flatE_length, List.length_take]; omega)]
theorem flatE_cons (x : Up) (l : List Up) : flatE (x :: l) = encE x ++ flatE l := by unfold flatE; simp
theorem encE_len (x : Up) : (encE x).length = 2 := rfl
theorem eo_mk {T : TypeId} {w : World} {B g cap : Nat} {cs : List Value} {l : List Up} (hB : B ≤ g) (hh : Has w g T cs) (hn : l.length ≤ cap) (hm : cap ≤ maxLen) (hs : cs.length = cap * 2) (ht : cs.take (l.length * 2) = flatE l) : EO T w B (.slice (some ⟨g, 0, none⟩) l.length cap) l :=
  ⟨flatE_length l, .inr ⟨g, cap, cs.toArray, rfl, hB, hh, hn, hm, by simpa using hs, by simpa using ht⟩⟩
theorem eo_cases {T : TypeId} {w : World} {B : Nat} {v : Value} {l : List Up} (h : EO T w B v l) : (v = .slice none 0 0 ∧ l = []) ∨ ∃ g cap cs, v = .slice (some ⟨g, 0, none⟩) l.length cap ∧ B ≤ g ∧ Has w g T cs ∧ l.length ≤ cap ∧ cap ≤ maxLen ∧ cs.length = cap * 2 ∧ cs.take (l.length * 2) = flatE l := by
  rcases h.2 with ⟨hv, h0⟩ | ⟨g, cap, cur, hv, hb, hg, hn, hm, hs, ht⟩
  · exact .inl ⟨hv, List.eq_nil_of_length_eq_zero h0⟩
  · exact .inr ⟨g, cap, cur.toList, hv, hb, by unfold Has; simpa using hg, hn, hm, by simpa using hs, ht⟩
/-- the cells of a beginning -/
theorem take_at {cs : List Value} {l : List Up} {n i : Nat} (ht : cs.take (n * 2) = flatE l) (hi : i ≤ l.length) (hn : n = l.length) : cs.take (i * 2) = flatE (l.take i) := by
  rw [flatE_take l i hi, ← ht, List.take_take, show min (i * 2) (n * 2) = i * 2 by omega]
theorem cells_from {w : World} {g : Nat} {T : TypeId} {cs : List Value} {l : List Up} {n : Nat} (hh : Has w g T cs) (ht : cs.take (n * 2) = flatE l) (hn : n = l.length) (k : Nat) (hk : k ≤ l.length) : ∀ j v, (flatE (l.drop k))[j]? = some v → w.cell? ((⟨g, k * 2, none⟩ : Addr).add j) = some v := by
  intro j v hj
  rw [Addr.add_lit, hh.cell]
  rw [flatE_drop l k hk, List.getElem?_drop, ← ht, List.getElem?_take] at hj
  split at hj
  · exact hj
  · cases hj
theorem ret_v {a b : Value} (h : a = b) : Ending.returned a = .returned b := by rw [h]
theorem info2 : (Try.prog.info? 53).map (·.size) = some 2 := by
  obtain ⟨i0, hi, hz0, hz1, hz2⟩ := info_parts isE_p
  rw [hi]; simp [hz1]
/-- one entry's block, as the slice that Insert is given -/
theorem er_one {w : World} {vb : Nat} {T : TypeId} {x : Up} (hx : Has w vb T (encE x)) : ER w (.slice (some ⟨vb, 0, none⟩) 1 1) [x] := by
  refine ⟨_, 1, rfl, fun _ => ⟨vb, 0, rfl, fun i hi j hj => ?_⟩⟩
  have : i = 0 := by simp at hi; exact hi
  subst this
  rw [show 0 + 0 * 2 + j = j by omega]
  exact hx.cell j
theorem erun_from (a : Option Addr) (n cap k : Nat) (hk : k ≤ n) (hc : n ≤ cap) : ∃ X, ∀ w, (Instr.slice 23 (.slice a n cap) (some (.int .i64 (k : Int))) none none).run Try.prog w = .ok X w := by
  have h0 : (0 : Int) ≤ (k : Int) := by omega
  have h1 : (k : Int) ≤ (n : Int) := by omega
  refine ⟨.slice (if cap = k then a else Option.map (fun x => x.add (k * 2)) a) (n - k) (cap - k), fun w => ?_⟩
  go_simp
theorem erun_f (g N cap k : Nat) (hk : k ≤ N) (hc : N ≤ cap) (hne : ¬ cap = k) : ∀ w, (Instr.slice 23 (.slice (some ⟨g, 0, none⟩) N cap) (some (.int .i64 (k : Int))) none none).run Try.prog w = .ok (.slice (some ⟨g, k * 2, none⟩) (N - k) (cap - k)) w := fun w => by
  have h0 : (0 : Int) ≤ (k : Int) := by omega
  have h1 : (k : Int) ≤ (N : Int) := by omega
  go_simp
theorem erun_t (g n cap t : Nat) (ht : t ≤ cap) (h0 : 0 < cap) : ∀ w, (Instr.slice 23 (.slice (some ⟨g, 0, none⟩) n cap) none (some (.int .i64 (t : Int))) none).run Try.prog w = .ok (.slice (some ⟨g, 0, none⟩) t cap) w := fun w => by
  have h1 : (0 : Int) ≤ (t : Int) := by omega
  have h2 : (t : Int) ≤ (cap : Int) := by omega
  have h3 : ¬ cap = 0 := by omega
  go_simp
/-- how Insert ends -/
def InP (w : World) (B : Nat) (r : Option Nat) (l : List Up) (e : Ending) (w' : World) : Prop := ∃ v', e = .returned v' ∧ EA w' B v' l ∧ w.grownBy w' r
set_option maxRecDepth 100000 in
set_option maxHeartbeats 4000000 in
/-- at the end -/
theorem insert_end {w : World} {B : Nat} {v : Value} {l : List Up} (h : EA w B v l) (hB : B ≤ w.heap.size) {vb : Nat} {x : Up} (hx : Has w vb 53 (encE x)) (hl : l.length ≤ 1000000) :
    Calls Try.prog 54 #[v, .int .i64 (l.length : Nat), .slice (some ⟨vb, 0, none⟩) 1 1] w (InP w B v.ownBlock (l ++ [x])) := by
  obtain ⟨v', w', hr, ho, hg, _⟩ := eapp_own und_e isE_p 23 h (er_one hx) hB (by simp; omega)
  have HO := Lib.hid ho
  have HG := Lib.hid hg
  have HR := Lib.hid hr
  obtain ⟨ao, cap, rfl, hc⟩ := own_shape h
  obtain ⟨n, hn⟩ : ∃ n, n = l.length := ⟨_, rfl⟩
  rw [← hn] at HR HG hc hl ⊢
  obtain ⟨X, hX⟩ := erun_from ao n cap n (Nat.le_refl _) hc
  clear ho hg hr h hx hn
  go_enter Try.func54, Try.ntmps54
  go_wp2_with (at_builtin; refine wpList_append_run rfl _ _ _ _ rfl _ _ _ rfl rfl HR.out ?_)
  go_ret
  exact ⟨_, rfl, HO.out, HG.out⟩
end Go.Proofs.Ytfmbjepjmjcgeaa.Leaf
/- Layer 16 (leaf): slices.Insert where there is room. -/
namespace Go.Proofs.Ytfmbjepjmjcgeaa.Leaf
open Go Go.RowKit Go.Proofs.Ytfmbjepjmjcgeaa Go.Proofs.Ytfmbjepjmjcgeaa.Lend Go.Proofs.Ytfmbjepjmjcgeaa.Rec Go.Proofs.Ytfmbjepjmjcgeaa.Msg Go.Proofs.Ytfmbjepjmjcgeaa.Buf
set_option linter.unusedVariables false

/-- the cells when one more stands among them -/
theorem ins_cells {cs F X S : List Value} {i n : Nat} (hF : F.length = n * 2) (hX : X.length = 2) (hi : i ≤ n) (hP : cs.take (i * 2) = F.take (i * 2)) (hl : (i + 1) * 2 ≤ cs.length) :
    ((cs.take ((i + 1) * 2) ++ F.drop (i * 2) ++ S).take (i * 2) ++ X ++ (cs.take ((i + 1) * 2) ++ F.drop (i * 2) ++ S).drop (i * 2 + X.length)).take ((n + 1) * 2) = F.take (i * 2) ++ X ++ F.drop (i * 2) := by
  have h1 : (cs.take ((i + 1) * 2) ++ F.drop (i * 2) ++ S).take (i * 2) = F.take (i * 2) := by
    rw [List.append_assoc, List.take_append_of_le_length (by rw [List.length_take]; omega), List.take_take, show min (i * 2) ((i + 1) * 2) = i * 2 by omega, hP]
  have h2 : (cs.take ((i + 1) * 2) ++ F.drop (i * 2) ++ S).drop (i * 2 + X.length) = F.drop (i * 2) ++ S := by
    rw [List.append_assoc, List.drop_left' (by rw [List.length_take, hX]; omega)]
  rw [h1, h2, ← List.append_assoc, List.take_left' (by rw [List.length_append, List.length_append, List.length_take, List.length_drop, hX]; omega)]
theorem hov_e {w : World} {vb g : Nat} {TA : TypeId} {x cs : List Value} (hx : Has w vb TA x) (hg : Has w g 53 cs) (hne : vb ≠ g) (h0 : 0 < cs.length) (o lb cb : Nat) :
    (callFunc 65 #[.slice (some ⟨vb, 0, none⟩) 1 1, .slice (some ⟨g, o, none⟩) lb cb]).run Try.prog w = .ok (.value (.bool false)) w := by
  have hz : ∀ w, (Go.sizeOf 53).run Try.prog w = .ok 2 w := fun w => by
    obtain ⟨i0, hi, hz0, hz1, hz2⟩ := info_parts isE_p
    simp [Go.sizeOf, typeInfo, hi, hz1]
  rw [run_callFunc_extern Try.func65 (by kernel_rfl) (by kernel_rfl) (by kernel_rfl) (e := Extern.SlicesOverlaps.overlaps #[23, 23] #[4]) (by kernel_rfl),
    Lib.run_overlaps_apart w 23 4 53 und_e 2 hz ⟨vb, 0, none⟩ ⟨g, o, none⟩ 1 1 lb cb hne TA 53 x.length cs.length (by unfold World.shape?; unfold Has at hx; simp [hx]) (by unfold World.shape?; unfold Has at hg; simp [hg]) (by omega) (hx.frozen 0) (hx.frozen _)]
  rfl
set_option maxRecDepth 100000 in
set_option maxHeartbeats 4000000 in
theorem insert_room {w : World} {B g cap : Nat} {cs : List Value} {l : List Up} (hB : B ≤ g) (hh : Has w g 53 cs) (hn : l.length < cap) (hm : cap ≤ maxLen) (hs : cs.length = cap * 2) (ht : cs.take (l.length * 2) = flatE l) (i : Nat) (hi : i < l.length)
    {vb : Nat} {x : Up} (hx : Has w vb 53 (encE x)) (hne : vb ≠ g) :
    Calls Try.prog 54 #[.slice (some ⟨g, 0, none⟩) l.length cap, .int .i64 (i : Nat), .slice (some ⟨vb, 0, none⟩) 1 1] w (InP w B (some g) (l.take i ++ x :: l.drop i)) := by
  obtain ⟨n, hnl⟩ : ∃ n, n = l.length := ⟨_, rfl⟩
  rw [← hnl] at hn ht hi ⊢
  have hdl : (flatE (l.drop i)).length = (n - i) * 2 := by rw [flatE_length, List.length_drop, hnl]
  have hfl : (flatE l).length = n * 2 := by rw [flatE_length, hnl]
  have hov := hov_e hx hh hne (by omega) ((i + 1) * 2)
  obtain ⟨w1, hr1, hh1, hc1, hs1⟩ := CopyK.run_copy_hasK (P := Try.prog) (w := w.drew) 23 23 3 53 2 und_e info2 g ((i + 1) * 2) (n + 1 - (i + 1)) (cap - (i + 1)) ⟨g, i * 2, none⟩ (n + 1 - i) (cap - i) cs _ hh (flatE (l.drop i))
    (by rw [hdl, show Nat.min (n + 1 - i) (n + 1 - (i + 1)) = n - i by simp only [Nat.min_def]; split <;> omega]) (cells_from hh.drew ht hnl i (by omega)) (by rw [hdl]; omega) (flatE_one _)
  have hx1 : Has w1 vb 53 (encE x) := hc1.has hx.drew hne
  obtain ⟨w2, hr2, hh2, hc2, hs2⟩ := CopyK.run_copy_hasK (P := Try.prog) (w := w1) 23 23 3 53 2 und_e info2 g (i * 2) (n + 1 - i) (cap - i) ⟨vb, 0, none⟩ 1 1 _ _ hh1 (encE x)
    (by rw [encE_len, show Nat.min 1 (n + 1 - i) = 1 by simp only [Nat.min_def]; split <;> omega]) (fun j v hj => by rw [Addr.add_lit, Nat.zero_add, hx1.cell]; exact hj) (by simp only [List.length_append, List.length_take, List.length_drop, encE_len, hdl]; omega) (encE_one _)
  have HO := Lib.hid (show EA w2 B (.slice (some ⟨g, 0, none⟩) (n + 1) cap) (l.take i ++ x :: l.drop i) by
    have e : (l.take i ++ x :: l.drop i).length = n + 1 := by rw [List.length_append, List.length_cons, List.length_take, List.length_drop]; omega
    have := eo_mk (T := 53) (l := l.take i ++ x :: l.drop i) hB hh2 (by omega) hm (by simp only [List.length_append, List.length_take, List.length_drop, encE_len, hdl]; omega) (by
      rw [e, flatE_drop l i (by omega), ins_cells hfl (encE_len x) (by omega) ?_ (by omega), flatE_append, flatE_cons, flatE_take l i (by omega), flatE_drop l i (by omega), List.append_assoc]
      rw [take_at ht (by omega) hnl, flatE_take l i (by omega)])
    rwa [e] at this)
  have HG := Lib.hid (show w.grownBy w2 (some g) from gby_trans (gby_drew _ _) (gby_trans (gby_chg hc1) (gby_chg hc2)))
  obtain ⟨X, hX⟩ := erun_from (some ⟨g, 0, none⟩) n cap i (by omega) (by omega)
  have hm2 : cap ≤ 9223372036854775807 := by unfold maxLen at hm; exact hm
  have hf1 := erun_f g (n + 1) cap (i + 1) (by omega) (by omega) (by omega)
  rw [show ((i + 1 : Nat) : Int) = (i : Int) + 1 by omega] at hf1
  have hf2 := erun_f g (n + 1) cap i (by omega) (by omega) (by omega)
  have hf3 := erun_t g n cap (n + 1) (by omega) (by omega)
  rw [show ((n + 1 : Nat) : Int) = (n : Int) + 1 by omega] at hf3
  have hz1 : ¬ ((i : Int) = (n : Int)) := by omega
  have hz2 : ¬ ((cap : Int) < (n : Int) + 1) := by omega
  have hw1 : IntKind.i64.wrap ((i : Int) + 1) = (i : Int) + 1 := by rw [IntKind.wrap_i64]; omega
  have hw2 : IntKind.i64.wrap ((n : Int) + 1) = (n : Int) + 1 := by rw [IntKind.wrap_i64]; omega
  clear hx hh hh1 hh2 hc1 hc2 hs1 hs2 hx1 ht hs hnl hdl hfl
  go_enter Try.func54, Try.ntmps54
  have mixed : Try.prog.follows .mixedOrders = true := by kernel_rfl
  go_wp2_with (simp only [hov])
  go_region_law_o (refine step_cpy_eq rfl _ _ 23 23 rfl (.slice (some ⟨g, (i + 1) * 2, none⟩) (n + 1 - (i + 1)) (cap - (i + 1))) (.slice (some ⟨g, i * 2, none⟩) (n + 1 - i) (cap - i)) (by simp [Act.eval, Act.put]) (by simp [Act.eval, Act.put]) hr1 ?_)
  go_wp2_with (at_builtin; refine wpList_cpy_eq rfl _ _ 23 23 rfl _ _ _ rfl rfl hr2 ?_)
  go_ret
  exact ⟨_, rfl, HO.out, HG.out⟩
end Go.Proofs.Ytfmbjepjmjcgeaa.Leaf
/- Layer 16 (leaf): slices.Insert where there is no room; Insert; Delete; a value in its place. -/
namespace Go.Proofs.Ytfmbjepjmjcgeaa.Leaf
open Go Go.RowKit Go.Proofs.Ytfmbjepjmjcgeaa Go.Proofs.Ytfmbjepjmjcgeaa.Lend Go.Proofs.Ytfmbjepjmjcgeaa.Rec Go.Proofs.Ytfmbjepjmjcgeaa.Msg Go.Proofs.Ytfmbjepjmjcgeaa.Buf
set_option linter.unusedVariables false

theorem grow_cells {A X Z D S : List Value} {i n : Nat} (hA : A.length = i * 2) (hX : X.length = 2) (hD : D.length = (n - i) * 2) (hi : i ≤ n) : ((A ++ X ++ Z).take ((i + 1) * 2) ++ D ++ S).take ((n + 1) * 2) = A ++ X ++ D := by
  have e : (A ++ X ++ Z).take ((i + 1) * 2) = A ++ X := List.take_left' (by rw [List.length_append, hA, hX]; omega)
  rw [e, List.take_left' (by simp only [List.length_append, hA, hX, hD]; omega)]
set_option maxRecDepth 100000 in
set_option maxHeartbeats 4000000 in
theorem insert_grow {w : World} {B g cap : Nat} {cs : List Value} {l : List Up} (hB : B ≤ w.heap.size) (hh : Has w g 53 cs) (hn : l.length = cap) (hs : cs.length = cap * 2) (ht : cs.take (l.length * 2) = flatE l) (i : Nat) (hi : i < l.length) (hl : l.length ≤ 1000000)
    {vb : Nat} {x : Up} (hx : Has w vb 53 (encE x)) :
    Calls Try.prog 54 #[.slice (some ⟨g, 0, none⟩) l.length cap, .int .i64 (i : Nat), .slice (some ⟨vb, 0, none⟩) 1 1] w (InP w B (some g) (l.take i ++ x :: l.drop i)) := by
  obtain ⟨n, hnl⟩ : ∃ n, n = l.length := ⟨_, rfl⟩
  rw [← hnl] at hn ht hi hl ⊢
  subst hn
  have hdl : (flatE (l.drop i)).length = (n - i) * 2 := by rw [flatE_length, List.length_drop, hnl]
  have hfl : (flatE l).length = n * 2 := by rw [flatE_length, hnl]
  obtain ⟨i0, hi0, hz0, hz1, hz2⟩ := info_parts isE_p
  have htl : (flatE (l.take i)).length = i * 2 := by rw [flatE_length, List.length_take]; omega
  have hold : (Builtin.firstCells i0.size i (.slice (some ⟨g, 0, none⟩) i n)).run Try.prog w.drew = .ok (flatE (l.take i)).toArray w.drew := by
    rw [hz1]
    exact run_firstCells_some w.drew 2 i ⟨g, 0, none⟩ i n (flatE (l.take i)) htl (fun j u hj => by
      rw [Addr.add_lit, Nat.zero_add, (hh.drew).cell]
      rw [flatE_take l i (by omega), List.getElem?_take, ← ht, List.getElem?_take] at hj
      split at hj
      · split at hj
        · exact hj
        · cases hj
      · cases hj)
  have hrz := Lib.run_append_grow_zeros (P := Try.prog) w 23 3 23 53 i0 _ .i64 .i64 und_e Try.underlying3 hi0 hz0 (some ⟨g, 0, none⟩) i n (flatE (l.take i)) hold (n + 1 - i) (by omega) (by omega) (by omega) (by omega) (by rw [hz2]; omega) (by rw [hz2, show i + (n + 1 - i) = n + 1 by omega]; exact growslice_fits (by omega) (by omega))
  rw [show i + (n + 1 - i) = n + 1 by omega, show ((n + 1 - i : Nat) : Int) = (n : Int) + 1 - (i : Int) by omega] at hrz
  have hGn : n + 1 ≤ grownCap w (n + 1) n 53 := grownCap_ge w _ _ _
  have hGm : grownCap w (n + 1) n 53 ≤ maxLen := grownCap_le_maxLen w (n + 1) n 53 (by unfold maxLen; omega)
  obtain ⟨G, hG⟩ : ∃ G, G = grownCap w (n + 1) n 53 := ⟨_, rfl⟩
  rw [← hG] at hrz hGn hGm
  obtain ⟨ROW, hR⟩ : ∃ z : List Value, z = flatE (l.take i) ++ ((Builtin.zeroCells (Value.agg #[.string ⟨#[]⟩, .string ⟨#[]⟩]).cells (n + 1 - i)).toList ++ (Builtin.zeroCells (Value.agg #[.string ⟨#[]⟩, .string ⟨#[]⟩]).cells (G - (n + 1))).toList) := ⟨_, rfl⟩
  have hRl : ROW.length = G * 2 := by
    rw [hR, List.length_append, List.length_append, htl, Array.length_toList, Array.length_toList, size_zeroCells, size_zeroCells]
    show i * 2 + ((n + 1 - i) * 2 + (G - (n + 1)) * 2) = G * 2
    omega
  have hRt : ROW.take (i * 2) = (flatE l).take (i * 2) := by rw [hR, List.take_left' htl, flatE_take l i (by omega)]
  obtain ⟨w1, hw1⟩ : ∃ z, z = w.drew.alloc (.cells ROW.toArray 53) := ⟨_, rfl⟩
  have hrz : (Builtin.append_ #[23, 3] 23 #[.slice (some ⟨g, 0, none⟩) i n, .int .i64 ((n : Int) + 1 - (i : Int))]).run Try.prog w = .ok (.slice (some ⟨w.heap.size, 0, none⟩) (n + 1) G) w1 := by
    rw [hrz, hw1, hR]
    congr 3
    simp [Array.append_assoc]
  obtain ⟨p, hp⟩ : ∃ p, p = w.heap.size := ⟨_, rfl⟩
  have hb1 : Below w.heap.size w w1 := by rw [hw1]; exact ((Below.refl _ _).drew).alloc (Nat.le_refl _) _
  have hh1 : Has w1 p 53 ROW := by rw [hw1, hp]; exact Has.new w.drew ROW _
  have hx1 : Has w1 vb 53 (encE x) := hx.below hb1 hx.lt
  have ho1 : Has w1 g 53 cs := hh.below hb1 hh.lt
  have hgp : g ≠ p := by have := hh.lt; omega
  have hvp : vb ≠ p := by have := hx.lt; omega
  rw [← hp] at hrz hB hb1
  obtain ⟨w2, hr2, hh2, hc2, hs2⟩ := CopyK.run_copy_hasK (P := Try.prog) (w := w1) 23 23 3 53 2 und_e info2 p (i * 2) (n + 1 - i) (G - i) ⟨vb, 0, none⟩ 1 1 _ _ hh1 (encE x)
    (by rw [encE_len, show Nat.min 1 (n + 1 - i) = 1 by simp only [Nat.min_def]; split <;> omega]) (fun j v hj => by rw [Addr.add_lit, Nat.zero_add, hx1.cell]; exact hj) (by rw [encE_len, hRl]; omega) (encE_one _)
  have ho2 : Has w2.drew g 53 cs := (hc2.has ho1 hgp).drew
  have hh2d : Has w2.drew p 53 _ := hh2.drew
  obtain ⟨w3, hr3, hh3, hc3, hs3⟩ := CopyK.run_copy_hasK (P := Try.prog) (w := w2.drew) 23 23 3 53 2 und_e info2 p ((i + 1) * 2) (n + 1 - (i + 1)) (G - (i + 1)) ⟨g, i * 2, none⟩ (n - i) (n - i) _ _ hh2d (flatE (l.drop i))
    (by rw [hdl, show Nat.min (n - i) (n + 1 - (i + 1)) = n - i by simp only [Nat.min_def]; split <;> omega]) (cells_from ho2 ht hnl i (by omega)) (by simp only [List.length_append, List.length_take, List.length_drop, encE_len, hdl, hRl]; omega) (flatE_one _)
  have HO := Lib.hid (show EA w3 B (.slice (some ⟨p, 0, none⟩) (n + 1) G) (l.take i ++ x :: l.drop i) by
    have e : (l.take i ++ x :: l.drop i).length = n + 1 := by rw [List.length_append, List.length_cons, List.length_take, List.length_drop]; omega
    have := eo_mk (T := 53) (l := l.take i ++ x :: l.drop i) hB hh3 (by omega) hGm (by simp only [List.length_append, List.length_take, List.length_drop, encE_len, hdl, hRl]; omega) (by
      rw [e, hRt, grow_cells (by rw [List.length_take, hfl]; omega) (encE_len x) hdl (by omega), flatE_append, flatE_cons, flatE_take l i (by omega), List.append_assoc])
    rwa [e] at this)
  have HG := Lib.hid (show w.grownBy w3 (some g) from by
    have hb3 : Below p w w3 := hb1.trans (((hc2.below (Nat.le_trans (Nat.le_of_eq hp) hb1.size) (fun k e => Nat.le_of_eq e.symm)).drew).trans (hc3.below (by have := hb1.size; have := hc2.size; show p ≤ w2.heap.size; omega) (fun k e => Nat.le_of_eq e.symm)))
    exact ⟨hb3.os, hb3.tape, hb3.output, hb3.size, fun k hk _ => hb3.block k (by rw [hp]; exact hk)⟩)
  have hm2 : G ≤ 9223372036854775807 := by unfold maxLen at hGm; exact hGm
  have hf0 := erun_t g n n i (by omega) (by omega)
  have hf1 := erun_f p (n + 1) G (i + 1) (by omega) (by omega) (by omega)
  rw [show ((i + 1 : Nat) : Int) = (i : Int) + 1 by omega] at hf1
  have hf2 := erun_f p (n + 1) G i (by omega) (by omega) (by omega)
  have hf3 := erun_f g n n i (by omega) (by omega) (by omega)
  have hz1 : ¬ ((i : Int) = (n : Int)) := by omega
  have hz2 : (n : Int) < (n : Int) + 1 := by omega
  have hw1' : IntKind.i64.wrap ((i : Int) + 1) = (i : Int) + 1 := by rw [IntKind.wrap_i64]; omega
  have hw2 : IntKind.i64.wrap ((n : Int) + 1) = (n : Int) + 1 := by rw [IntKind.wrap_i64]; omega
  have hw3 : IntKind.i64.wrap ((n : Int) + 1 - (i : Int)) = (n : Int) + 1 - (i : Int) := by rw [IntKind.wrap_i64]; omega
  have mixed : Try.prog.follows .mixedOrders = true := by kernel_rfl
  clear hx hh hh1 hh2 hc2 hs2 hx1 ht hs hnl hdl hfl hi0 hz0 hold htl hR hRl hRt hw1 hp hb1 ho1 ho2 hh2d hh3 hc3 hs3 hG hgp hvp
  go_enter Try.func54, Try.ntmps54
  go_wp2_with (first
    | (at_builtin; refine Lib.wpList_append_run _ rfl _ _ _ _ rfl _ _ rfl rfl _ _ hrz ?_)
    | (at_builtin; refine wpList_cpy_eq rfl _ _ 23 23 rfl _ _ _ rfl rfl hr2 ?_))
  go_region_law_o (refine step_cpy_eq rfl _ _ 23 23 rfl (.slice (some ⟨p, (i + 1) * 2, none⟩) (n + 1 - (i + 1)) (G - (i + 1))) (.slice (some ⟨g, i * 2, none⟩) (n - i) (n - i)) (by simp [Act.eval, Act.put]) (by simp [Act.eval, Act.put]) hr3 ?_)
  go_wp2_with fail
  go_ret
  exact ⟨_, rfl, HO.out, HG.out⟩
theorem insert_any {w : World} {B : Nat} {v : Value} {l : List Up} (h : EA w B v l) (hB : B ≤ w.heap.size) (i : Nat) (hi : i ≤ l.length) (hl : l.length ≤ 1000000) {vb : Nat} {x : Up} (hx : Has w vb 53 (encE x)) (hne : ∀ k, v.ownBlock = some k → vb ≠ k) :
    Calls Try.prog 54 #[v, .int .i64 (i : Nat), .slice (some ⟨vb, 0, none⟩) 1 1] w (InP w B v.ownBlock (l.take i ++ x :: l.drop i)) := by
  by_cases e : i = l.length
  · subst e
    rw [List.take_length, List.drop_length]
    exact insert_end h hB hx hl
  · rcases eo_cases h with ⟨rfl, rfl⟩ | ⟨g, cap, cs, rfl, hBg, hh, hn, hm, hs, ht⟩
    · simp at hi; exact absurd hi e
    · by_cases hc : l.length = cap
      · exact insert_grow hB hh hc hs ht i (by omega) hl hx
      · exact insert_room hBg hh (by omega) hm hs ht i (by omega) hx (hne g rfl)
end Go.Proofs.Ytfmbjepjmjcgeaa.Leaf
/- Layer 16 (leaf): slices.Delete of one; a value in its place. -/
namespace Go.Proofs.Ytfmbjepjmjcgeaa.Leaf
open Go Go.RowKit Go.Proofs.Ytfmbjepjmjcgeaa Go.Proofs.Ytfmbjepjmjcgeaa.Lend Go.Proofs.Ytfmbjepjmjcgeaa.Rec Go.Proofs.Ytfmbjepjmjcgeaa.Msg Go.Proofs.Ytfmbjepjmjcgeaa.Buf
set_option linter.unusedVariables false

theorem zero_e (w : World) : (zeroValue 53).run Try.prog w = .ok (.agg #[.string ⟨#[]⟩, .string ⟨#[]⟩]) w := by kernel_rfl
theorem erun_g (g n cap q : Nat) (A : Addr) (hq : q ≤ n) (hc : n ≤ cap) (hA : (if cap = q then (some ⟨g, 0, none⟩ : Option Addr) else some ⟨g, q * 2, none⟩) = some A) : ∀ w, (Instr.slice 23 (.slice (some ⟨g, 0, none⟩) n cap) (some (.int .i64 (q : Int))) none none).run Try.prog w = .ok (.slice (some A) (n - q) (cap - q)) w := fun w => by
  have h0 : (0 : Int) ≤ (q : Int) := by omega
  have h1 : (q : Int) ≤ (n : Int) := by omega
  rw [← hA]
  go_simp
theorem erun_m (g m n cap q : Nat) (hq : q ≤ n) (hc : n ≤ cap) (hne : ¬ cap = q) : ∀ w, (Instr.slice 23 (.slice (some ⟨g, 0, none⟩) m cap) (some (.int .i64 (q : Int))) (some (.int .i64 (n : Int))) none).run Try.prog w = .ok (.slice (some ⟨g, q * 2, none⟩) (n - q) (cap - q)) w := fun w => by
  have h0 : (0 : Int) ≤ (q : Int) := by omega
  have h1 : (q : Int) ≤ (n : Int) := by omega
  have h2 : (0 : Int) ≤ (n : Int) := by omega
  have h3 : (n : Int) ≤ (cap : Int) := by omega
  go_simp
theorem erun_3 (g n cap p q : Nat) (hp : p ≤ q) (hq : q ≤ n) (hc : n ≤ cap) : ∃ X, ∀ w, (Instr.slice 23 (.slice (some ⟨g, 0, none⟩) n cap) (some (.int .i64 (p : Int))) (some (.int .i64 (q : Int))) (some (.int .i64 (n : Int)))).run Try.prog w = .ok X w := by
  have h0 : (0 : Int) ≤ (p : Int) := by omega
  have h1 : (p : Int) ≤ (q : Int) := by omega
  have h2 : (0 : Int) ≤ (q : Int) := by omega
  have h3 : (q : Int) ≤ (n : Int) := by omega
  have h4 : (0 : Int) ≤ (n : Int) := by omega
  have h5 : (n : Int) ≤ (cap : Int) := by omega
  refine ⟨.slice (if n = p then some ⟨g, 0, none⟩ else some ⟨g, p * 2, none⟩) (q - p) (n - p), fun w => ?_⟩
  go_simp
theorem zero_one : ∀ v ∈ (Value.agg #[.string ⟨#[]⟩, .string ⟨#[]⟩]).cells, v.oneCell' = true := by
  intro v hv
  have : v = .string ⟨#[]⟩ := by simpa [Value.cells] using hv
  subst this
  rfl
set_option maxRecDepth 100000 in
set_option maxHeartbeats 4000000 in
theorem delete_any {w : World} {B : Nat} {v : Value} {l : List Up} (h : EA w B v l) (p : Nat) (hp : p < l.length) (hl : l.length ≤ 1000000) :
    Calls Try.prog 53 #[v, .int .i64 (p : Nat), .int .i64 ((p : Int) + 1)] w (InP w B v.ownBlock (l.take p ++ l.drop (p + 1))) := by
  rcases eo_cases h with ⟨rfl, rfl⟩ | ⟨g, cap, cs, rfl, hBg, hh, hn, hm, hs, ht⟩
  · simp at hp
  · obtain ⟨n, hnl⟩ : ∃ n, n = l.length := ⟨_, rfl⟩
    rw [← hnl] at hn ht hp hl ⊢
    obtain ⟨i0, hi0, hz0, hz1, hz2⟩ := info_parts isE_p
    have hdl : (flatE (l.drop (p + 1))).length = (n - (p + 1)) * 2 := by rw [flatE_length, List.length_drop, hnl]
    have hfl : (flatE l).length = n * 2 := by rw [flatE_length, hnl]
    have htl : (flatE (l.take p)).length = p * 2 := by rw [flatE_length, List.length_take]; omega
    have hm2 : cap ≤ 9223372036854775807 := by unfold maxLen at hm; exact hm
    obtain ⟨A, hA, hsrc⟩ : ∃ A : Addr, (if cap = p + 1 then (some ⟨g, 0, none⟩ : Option Addr) else some ⟨g, (p + 1) * 2, none⟩) = some A ∧ ∀ j u, (flatE (l.drop (p + 1)))[j]? = some u → w.drew.cell? (A.add j) = some u := by
      by_cases hc : cap = p + 1
      · refine ⟨⟨g, 0, none⟩, by simp [hc], fun j u hu => ?_⟩
        rw [List.eq_nil_of_length_eq_zero (show (flatE (l.drop (p + 1))).length = 0 by rw [hdl]; omega)] at hu
        cases hu
      · exact ⟨⟨g, (p + 1) * 2, none⟩, by simp [hc], cells_from hh.drew ht hnl (p + 1) (by omega)⟩
    have hr1 := run_append_room (P := Try.prog) w.drew 23 23 53 i0 und_e hi0 g p cap cs.toArray hh.drew A (n - (p + 1)) (cap - (p + 1)) (flatE (l.drop (p + 1))) (by rw [hdl, hz1]) hsrc (flatE_one _) (by omega) (by rw [hz1, hdl]; simp; omega)
    obtain ⟨w1, hw1⟩ : ∃ z, z = w.drew.setRow g (cs.toArray.toList.take (p * i0.size) ++ flatE (l.drop (p + 1)) ++ cs.toArray.toList.drop (p * i0.size + (flatE (l.drop (p + 1))).length)).toArray := ⟨_, rfl⟩
    rw [← hw1, show p + (n - (p + 1)) = n - 1 by omega] at hr1
    have hh1 : Has w1 g 53 (cs.take (p * 2) ++ flatE (l.drop (p + 1)) ++ cs.drop (p * 2 + (flatE (l.drop (p + 1))).length)) := by
      rw [hw1, hz1]
      show w.drew.setRow g _ |>.heap[g]? = _
      rw [setRow_heap w.drew g cs.toArray _ 53 _ hh.drew]
    have hc1 : Chg (fun k => k = g) w.drew w1 := by
      rw [hw1]
      exact ⟨rfl, rfl, rfl, by simp [World.setRow], fun k _ hk => setRow_other w.drew g k _ (fun e => hk e)⟩
    have hl1 : (cs.take (p * 2) ++ flatE (l.drop (p + 1)) ++ cs.drop (p * 2 + (flatE (l.drop (p + 1))).length)).length = cap * 2 := by
      simp only [List.length_append, List.length_take, List.length_drop, hdl]; omega
    have ht1 : (cs.take (p * 2) ++ flatE (l.drop (p + 1)) ++ cs.drop (p * 2 + (flatE (l.drop (p + 1))).length)).take ((n - 1) * 2) = flatE (l.take p ++ l.drop (p + 1)) := by
      rw [List.take_left' (by simp only [List.length_append, List.length_take, hdl]; omega), take_at ht (by omega) hnl, flatE_append]
    obtain ⟨w2, mid, hr2, hmid, hh2, hc2⟩ := CopyK.run_clear_has (P := Try.prog) (w := w1) 23 53 0 _ 2 und_e (zero_e w1) rfl zero_one g ((n - 1) * 2) 1 (cap - (n - 1)) _ _ hh1 (by omega) (by omega) (by rw [hl1]; omega)
    have e : (l.take p ++ l.drop (p + 1)).length = n - 1 := by rw [List.length_append, List.length_take, List.length_drop]; omega
    have HO := Lib.hid (show EA w2 B (.slice (some ⟨g, 0, none⟩) (n - 1) cap) (l.take p ++ l.drop (p + 1)) by
      have := eo_mk (T := 53) (l := l.take p ++ l.drop (p + 1)) hBg hh2 (by omega) hm (by
        rw [List.length_append, List.length_append, List.length_take, List.length_drop, hl1, hmid]; omega) (by
        rw [e, List.append_assoc, List.take_append_of_le_length (by rw [List.length_take, hl1]; omega), List.take_take, Nat.min_self, ht1])
      rwa [e] at this)
    have HG := Lib.hid (show w.grownBy w2 (some g) from gby_trans (gby_drew _ _) (gby_trans (gby_chg hc1) (gby_chg hc2)))
    have hf1 := erun_g g n cap (p + 1) A (by omega) (by omega) hA
    rw [show ((p + 1 : Nat) : Int) = (p : Int) + 1 by omega] at hf1
    have hf2 := erun_t g n cap p (by omega) (by omega)
    have hf3 := erun_m g (n - 1) n cap (n - 1) (by omega) (by omega) (by omega)
    rw [show n - (n - 1) = 1 by omega] at hf3
    obtain ⟨X, hX⟩ := erun_3 g n cap p (p + 1) (by omega) (by omega) (by omega)
    rw [show ((p + 1 : Nat) : Int) = (p : Int) + 1 by omega] at hX
    have hz1 : ¬ ((p : Int) = (p : Int) + 1) := by omega
    have hw1' : IntKind.i64.wrap ((p : Int) + 1) = (p : Int) + 1 := by rw [IntKind.wrap_i64]; omega
    have mixed : Try.prog.follows .mixedOrders = true := by kernel_rfl
    clear h hh hh1 hh2 hc1 hc2 ht hs hnl hdl hfl htl hi0 hz0 hz1 hz2 hA hsrc hw1 hl1 ht1 hmid e
    go_enter Try.func53, Try.ntmps53
    go_wp2_with fail
    go_region_law_o (refine step_app_eq rfl _ _ 23 23 rfl (.slice (some ⟨g, 0, none⟩) p cap) (.slice (some A) (n - (p + 1)) (cap - (p + 1))) (by simp [Act.eval, Act.put]) (by simp [Act.eval, Act.put]) hr1 ?_)
    go_wp2_with (at_builtin; refine wpList_clr_eq rfl _ 23 rfl _ _ rfl hr2 ?_)
    go_ret
    exact ⟨_, rfl, HO.out, HG.out⟩
end Go.Proofs.Ytfmbjepjmjcgeaa.Leaf
