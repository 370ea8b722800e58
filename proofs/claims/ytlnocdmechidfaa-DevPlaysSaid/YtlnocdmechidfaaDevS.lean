/- Contracts of layer 3 (dev): Stick; slices.IndexFunc and slices.DeleteFunc at its closure. -/
import Derived.Deep.DeepCutAuto
import Derived.Test.YtlnocdmechidfaaRegionW
import Derived.Test.YtlnocdmechidfaaDevA
import Derived.Test.YtlnocdmechidfaaDevMathB
namespace Go.Proofs.Ytlnocdmechidfaa.Dev
open Go.RowKit Go.Proofs.Ytlnocdmechidfaa
set_option linter.unusedVariables false

theorem pred_any (a i : Int) (t : ByteArray) (bx : Nat) (w : World) (hc : w.cell? ⟨bx, 0, none⟩ = some (.int .i64 i)) (hb : bx < w.heap.size) :
    Calls Try.prog 39 #[.agg #[.int .i64 a, .string t], .pointer (some ⟨bx, 0, none⟩)] w fun e w' => e = .returned (.bool (a == i)) ∧ Below w.heap.size w w' := by
  go_enter Try.func39, Try.ntmps39
  go_wp2
  go_ret
  exact ⟨rfl, (Below.refl _ _).alloc (Nat.le_refl _) _⟩

/-- is a write to another sector? -/
def keeps (i : Nat) (x : Nat × ByteArray) : Bool := x.1 != i
/-- the first place of a write to sector i, or -1 -/
def place (i : Nat) : List (Nat × ByteArray) → Int
  | [] => -1
  | x :: l => if x.1 = i then 0 else if place i l = -1 then -1 else place i l + 1
theorem place_lt (i : Nat) : ∀ l : List (Nat × ByteArray), -1 ≤ place i l ∧ place i l < l.length
  | [] => by simp [place]
  | x :: l => by
    have := place_lt i l
    unfold place
    simp only [List.length_cons]
    split
    · omega
    · split <;> omega
theorem place_none {i : Nat} : ∀ {l : List (Nat × ByteArray)}, (∀ x ∈ l, x.1 ≠ i) → place i l = -1
  | [], _ => rfl
  | x :: l, h => by
    unfold place
    rw [if_neg (h x (by simp)), place_none (fun y hy => h y (by simp [hy])), if_pos rfl]
theorem place_some {i k : Nat} : ∀ {l : List (Nat × ByteArray)} {x : Nat × ByteArray}, l[k]? = some x → x.1 = i → (∀ y ∈ l.take k, y.1 ≠ i) → place i l = k
  | [], x, h, _, _ => by simp at h
  | y :: l, x, h, hx, hn => by
    cases k with
    | zero => simp at h; subst h; unfold place; rw [if_pos hx]; rfl
    | succ k =>
      have := place_some (l := l) (k := k) (by simpa using h) hx (fun z hz => hn z (by simp [hz]))
      unfold place
      rw [if_neg (hn y (by simp)), this, if_neg (by omega)]; omega
theorem take_none {i k : Nat} {l : List (Nat × ByteArray)} (hk : k < l.length) (h : ∀ y ∈ l.take k, y.1 ≠ i) (hx : (l[k]'hk).1 ≠ i) : ∀ y ∈ l.take (k + 1), y.1 ≠ i := by
  intro y hy
  rw [take_snoc' l k hk] at hy
  rcases List.mem_append.1 hy with hy | hy
  · exact h y hy
  · rw [List.mem_singleton.1 hy]; exact hx

/-- the row's cells, as they are read: a list of writes, and whatever stands behind them -/
def WRow (w : World) (g : Nat) (l : List (Nat × ByteArray)) (tail : List Value) : Prop := Has w g 76 (flatW l ++ tail)
theorem WRow.cells {w : World} {g : Nat} {l : List (Nat × ByteArray)} {tail : List Value} (h : WRow w g l tail) {k : Nat} {x : Nat × ByteArray} (hx : l[k]? = some x) :
    w.cell? ⟨g, k * 2, none⟩ = some (.int .i64 (x.1 : Nat)) ∧ w.cell? ⟨g, k * 2 + 1, none⟩ = some (.string x.2) := by
  have hk : k < l.length := (List.getElem?_eq_some_iff.1 hx).1
  have hl : (flatW l).length = l.length * 2 := flat2_len _ _ _
  constructor
  · rw [Has.cell h, List.getElem?_append_left (by omega), flatW, flat2_get0 (fun x : Nat × ByteArray => Value.int .i64 (x.1 : Nat)) (fun x => Value.string x.2), hx]; rfl
  · rw [Has.cell h, List.getElem?_append_left (by omega), flatW, flat2_get1 (fun x : Nat × ByteArray => Value.int .i64 (x.1 : Nat)) (fun x => Value.string x.2), hx]; rfl
theorem flatW_set (l : List (Nat × ByteArray)) (k : Nat) (hk : k < l.length) (x : Nat × ByteArray) (tail : List Value) :
    ((flatW l ++ tail).set (k * 2) (.int .i64 (x.1 : Nat))).set (k * 2 + 1) (.string x.2) = flatW (l.set k x) ++ tail := by
  have hl : (flatW l).length = l.length * 2 := flat2_len _ _ _
  rw [List.set_append_left _ _ (by omega), List.set_append_left _ _ (by rw [List.length_set]; omega)]
  congr 1
  unfold flatW
  apply flat2_ext (fun x : Nat × ByteArray => Value.int .i64 (x.1 : Nat)) (fun x => Value.string x.2)
  · rw [List.length_set, List.length_set, flat2_len, List.length_set]
  · intro j hj
    rw [List.length_set] at hj
    rw [List.getElem?_set_ne (by omega)]
    by_cases e : k = j
    · subst e; rw [List.getElem?_set_self (by rw [flat2_len]; omega), List.getElem?_set_self hk]; rfl
    · rw [List.getElem?_set_ne (by omega), List.getElem?_set_ne e, flat2_get0]
  · intro j hj
    rw [List.length_set] at hj
    by_cases e : k = j
    · subst e; rw [List.getElem?_set_self (by rw [List.length_set, flat2_len]; omega), List.getElem?_set_self hk]; rfl
    · rw [List.getElem?_set_ne (by omega), List.getElem?_set_ne (by omega), List.getElem?_set_ne e, flat2_get1]
theorem WRow.set {w : World} {g : Nat} {l : List (Nat × ByteArray)} {tail : List Value} (h : WRow w g l tail) (k : Nat) (hk : k < l.length) (x : Nat × ByteArray) :
    WRow ((w.setCell ⟨g, k * 2, none⟩ (.int .i64 (x.1 : Nat))).setCell ⟨g, k * 2 + 1, none⟩ (.string x.2)) g (l.set k x) tail := by
  have := (Has.set h (k * 2) (.int .i64 (x.1 : Nat))).set (k * 2 + 1) (.string x.2)
  rw [flatW_set l k hk x tail] at this
  exact this

set_option maxRecDepth 100000 in
set_option maxHeartbeats 1000000 in
theorem index_any (g cap i bx : Nat) (ws : List (Nat × ByteArray)) (tail : List Value) (w : World) (h : WRow w g ws tail) (hc : w.cell? ⟨bx, 0, none⟩ = some (.int .i64 (i : Nat))) (hl : ws.length ≤ 1000000000) :
    Calls Try.prog 55 #[.slice (some ⟨g, 0, none⟩) ws.length cap, .func (.func 39) #[] #[.pointer (some ⟨bx, 0, none⟩)]] w fun e w' => e = .returned (.int .i64 (place i ws)) ∧ Below w.heap.size w w' := by
  have hbx := World.block_lt_of_cell? w _ hc
  simp only at hbx
  have hg := Has.lt h
  obtain ⟨n, hn⟩ : ∃ n, n = ws.length := ⟨_, rfl⟩
  have HN := Lib.hid hn
  have HW := Lib.hid h
  have HC := Lib.hid hc
  rw [← hn] at hl ⊢
  clear hn h hc
  go_enter Try.func55, Try.ntmps55
  go_wp2
  go_loopw [5, 8] (fun j k wr => ∃ m : Nat, m ≤ n ∧ k = .int .i64 m ∧ (∀ y ∈ ws.take m, y.1 ≠ i) ∧ Below w.heap.size w wr) (fun _ k _ => n - (intOf k).toNat)
  case atStart => exact ⟨0, Nat.zero_le _, rfl, fun y hy => by simp at hy, Below.refl _ _⟩
  case round =>
    obtain ⟨m, hm, rfl, hno, hb⟩ := hrel
    have hs := hb.size
    have HB := Lib.hid hb
    have HNO := Lib.hid hno
    clear hb hno
    by_cases hlt : m < n
    · have hm' : m < ws.length := by rw [← HN.out]; exact hlt
      obtain ⟨⟨si, st⟩, hx⟩ : ∃ x, ws[m]? = some x := ⟨_, List.getElem?_eq_getElem hm'⟩
      obtain ⟨h0, h1⟩ := HW.out.cells hx
      have hx0 : wr.cell? ⟨g, m * 2, none⟩ = some (.int .i64 (si : Nat)) := by rw [HB.out.cell (p := ⟨g, m * 2, none⟩) hg]; exact h0
      have hx1 : wr.cell? ⟨g, m * 2 + 1, none⟩ = some (.string st) := by rw [HB.out.cell (p := ⟨g, m * 2 + 1, none⟩) hg]; exact h1
      have hcb : wr.cell? ⟨bx, 0, none⟩ = some (.int .i64 (i : Nat)) := by rw [HB.out.cell (p := ⟨bx, 0, none⟩) hbx]; exact HC.out
      have HCB := Lib.hid hcb
      have HX := Lib.hid hx
      have hmn : (m : Int) < (n : Int) := by omega
      clear h0 h1 hx hcb
      go_wp2_with fail
      refine (pred_any (si : Nat) (i : Nat) st bx _ HCB.out (by omega)).mono ?_
      rintro e w2 ⟨rfl, hb2⟩
      have HB2 := Lib.hid (HB.out.trans (hb2.mono hs))
      clear hb2 hx0 hx1
      by_cases he : si = i
      · have ht : ((si : Int) == (i : Int)) = true := by simp [he]
        have HP := Lib.hid (show place i ws = m from place_some HX.out he HNO.out)
        clear he
        go_wp2
        go_ret
        exact ⟨by rw [HP.out]; rfl, HB2.out⟩
      · have ht : ((si : Int) == (i : Int)) = false := by simp; omega
        have HNX := Lib.hid (show ∀ y ∈ ws.take (m + 1), y.1 ≠ i from take_none hm' HNO.out (by rw [(List.getElem?_eq_some_iff.1 HX.out).2]; exact he))
        clear he
        go_wp2_with fail
        go_roundw
        case rel => exact ⟨m + 1, by omega, by go_num, HNX.out, HB2.out⟩
        case measure => simp [intOf]; omega
    · obtain rfl : m = n := by omega
      have HP := Lib.hid (show place i ws = -1 from place_none (fun x hx => HNO.out x (by rw [List.take_of_length_le (by rw [← HN.out]; exact Nat.le_refl _)]; exact hx)))
      go_wp2
      go_ret
      exact ⟨by rw [HP.out]; rfl, HB.out⟩

theorem place_inv {i k : Nat} {l : List (Nat × ByteArray)} (h : place i l = (k : Nat)) : k < l.length ∧ (∀ y ∈ l.take k, y.1 ≠ i) ∧ ∃ x, l[k]? = some x ∧ x.1 = i := by
  induction l generalizing k with
  | nil => simp [place] at h
  | cons y l ih =>
    unfold place at h
    split at h
    · rename_i e
      obtain rfl : k = 0 := by omega
      exact ⟨by simp, by simp, y, by simp, e⟩
    · rename_i e
      split at h
      · omega
      · obtain ⟨k, rfl⟩ : ∃ m, k = m + 1 := ⟨k - 1, by have := place_lt i l; omega⟩
        obtain ⟨h1, h2, x, h3, h4⟩ := ih (k := k) (by omega)
        refine ⟨by simp; omega, fun z hz => ?_, x, by simpa using h3, h4⟩
        rw [List.take_succ_cons] at hz
        rcases List.mem_cons.1 hz with rfl | hz
        · exact e
        · exact h2 z hz
theorem place_neg {i : Nat} {l : List (Nat × ByteArray)} (h : place i l = -1) : l.filter (keeps i) = l := by
  rw [List.filter_eq_self]
  induction l with
  | nil => intro a ha; cases ha
  | cons y l ih =>
    unfold place at h
    split at h
    · omega
    · rename_i e
      split at h
      · rename_i e2
        intro a ha
        rcases List.mem_cons.1 ha with rfl | ha
        · simpa [keeps] using e
        · exact ih e2 a ha
      · have := place_lt i l; omega
theorem filter_take_none {i k : Nat} {l : List (Nat × ByteArray)} (h : ∀ y ∈ l.take k, y.1 ≠ i) : (l.take k).filter (keeps i) = l.take k := by
  rw [List.filter_eq_self]; intro a ha; simpa [keeps] using h a ha
theorem take_succ_get {l : List (Nat × ByteArray)} {k : Nat} {x : Nat × ByteArray} (h : l[k]? = some x) : l.take (k + 1) = l.take k ++ [x] := by
  obtain ⟨hk, rfl⟩ := List.getElem?_eq_some_iff.1 h
  exact take_snoc' l k hk
theorem drop_get {l : List (Nat × ByteArray)} {k : Nat} {x : Nat × ByteArray} (h : l[k]? = some x) : l.drop k = x :: l.drop (k + 1) := by
  obtain ⟨hk, rfl⟩ := List.getElem?_eq_some_iff.1 h
  exact List.drop_eq_getElem_cons hk
/-- in the midst of it: behind j elements k are kept, and stand first -/
structure Mid (i : Nat) (ws : List (Nat × ByteArray)) (j k : Nat) (L : List (Nat × ByteArray)) : Prop where
  ex : ∃ mid, L = (ws.take j).filter (keeps i) ++ mid ++ ws.drop j ∧ 1 ≤ mid.length ∧ ((ws.take j).filter (keeps i)).length + mid.length = j
  k_eq : k = ((ws.take j).filter (keeps i)).length
theorem Mid.len {i : Nat} {ws L : List (Nat × ByteArray)} {j k : Nat} (h : Mid i ws j k L) (hj : j ≤ ws.length) : L.length = ws.length ∧ k < j := by
  obtain ⟨⟨mid, rfl, h1, h2⟩, hk⟩ := h
  refine ⟨?_, by omega⟩
  rw [List.length_append, List.length_append, List.length_drop]; omega
theorem Mid.get {i : Nat} {ws L : List (Nat × ByteArray)} {j k : Nat} (h : Mid i ws j k L) : L[j]? = ws[j]? := by
  obtain ⟨⟨mid, rfl, h1, h2⟩, hk⟩ := h
  rw [List.getElem?_append_right (by rw [List.length_append]; omega), List.length_append, h2, Nat.sub_self, List.getElem?_drop]; rfl
theorem Mid.kept {i : Nat} {ws L : List (Nat × ByteArray)} {j k : Nat} {x : Nat × ByteArray} (h : Mid i ws j k L) (hx : ws[j]? = some x) (he : x.1 ≠ i) : Mid i ws (j + 1) (k + 1) (L.set k x) := by
  obtain ⟨⟨mid, rfl, h1, h2⟩, rfl⟩ := h
  have hf : (ws.take (j + 1)).filter (keeps i) = (ws.take j).filter (keeps i) ++ [x] := by
    rw [take_succ_get hx, List.filter_append, List.filter_cons_of_pos (by simpa [keeps] using he)]; rfl
  obtain ⟨m, mid, rfl⟩ : ∃ m mid', mid = m :: mid' := by
    cases mid with
    | nil => simp at h1
    | cons m mid => exact ⟨m, mid, rfl⟩
  refine ⟨⟨mid ++ [x], ?_, by simp, by rw [hf]; simp at h2 ⊢; omega⟩, by rw [hf]; simp⟩
  rw [hf, drop_get hx]
  simp
theorem Mid.gone {i : Nat} {ws L : List (Nat × ByteArray)} {j k : Nat} {x : Nat × ByteArray} (h : Mid i ws j k L) (hx : ws[j]? = some x) (he : x.1 = i) : Mid i ws (j + 1) k L := by
  obtain ⟨⟨mid, rfl, h1, h2⟩, rfl⟩ := h
  have hf : (ws.take (j + 1)).filter (keeps i) = (ws.take j).filter (keeps i) := by
    rw [take_succ_get hx, List.filter_append, List.filter_cons_of_neg (by simpa [keeps] using he)]; simp
  refine ⟨⟨mid ++ [x], ?_, by simp, by rw [hf]; simp at h2 ⊢; omega⟩, by rw [hf]⟩
  rw [hf, drop_get hx]
  simp
theorem Mid.start {i k : Nat} {ws : List (Nat × ByteArray)} (h : place i ws = (k : Nat)) : Mid i ws (k + 1) k ws := by
  obtain ⟨h1, h2, x, h3, h4⟩ := place_inv h
  have hf : (ws.take (k + 1)).filter (keeps i) = ws.take k := by
    rw [take_succ_get h3, List.filter_append, filter_take_none h2, List.filter_cons_of_neg (by simpa [keeps] using h4)]; simp
  refine ⟨⟨[x], ?_, by simp, by rw [hf]; simp; omega⟩, by rw [hf]; simp; omega⟩
  rw [hf]
  conv => lhs; rw [← List.take_append_drop k ws, drop_get h3]
  simp

theorem run_clear_has {P : Program} {w : World} (t e ty : TypeId) (z : Value) (sz : Nat) (ht : P.underlying t = some (.slice e)) (hv : (zeroValue e).run P w = .ok z w) (hz : z.cells.size = sz) (h1 : ∀ v ∈ z.cells, v.oneCell' = true)
    (g off n c : Nat) (cur : List Value) (tt : TypeId) (hg : Has w g tt cur) (hn : 0 < n) (hs : 0 < sz) (hfit : off + n * sz ≤ cur.length) :
    ∃ w' mid, (Builtin.clear_ #[t] ty #[.slice (some ⟨g, off, none⟩) n c]).run P w = .ok (.tuple #[]) w' ∧ mid.length = n * sz ∧ Has w' g tt (cur.take off ++ mid ++ cur.drop (off + n * sz)) ∧ Chg (fun k => k = g) w w' := by
  obtain ⟨zs, hzs⟩ : ∃ zs, zs = (Builtin.zeroCells z.cells n).toList := ⟨_, rfl⟩
  have hl : zs.length = n * sz := by rw [hzs]; simp [Builtin.zeroCells, hz]
  have hone : ∀ v ∈ zs, v.oneCell' = true := by
    intro v hv
    rw [hzs] at hv
    simp only [Builtin.zeroCells, Array.toList_map, List.mem_map] at hv
    obtain ⟨j, _, rfl⟩ := hv
    refine h1 _ ?_
    rw [getElem!_pos z.cells (j % z.cells.size) (Nat.mod_lt _ (by omega))]
    exact Array.getElem_mem _
  have hst := run_storeCells_at P g off tt zs 0 cur.toArray w hg (by simp; omega) hone
  simp only [Nat.add_zero] at hst
  obtain ⟨m, rfl⟩ : ∃ m, n = m + 1 := ⟨n - 1, by omega⟩
  refine ⟨w.setRow g (cur.take off ++ zs ++ cur.drop (off + zs.length)).toArray, zs, ?_, hl, ?_, ?_⟩
  · simp [Builtin.clear_, run_underlying ht, hv, ← hzs, hst]
  · show w.setRow g _ |>.heap[g]? = _
    rw [setRow_heap w g cur.toArray _ tt _ hg, hl]
  · exact ⟨rfl, rfl, rfl, by simp [World.setRow], fun k _ hk => setRow_other w g k _ (fun e => hk e)⟩
theorem zero_write (w : World) : (zeroValue 76).run Try.prog w = .ok (.agg #[.int .i64 0, .string ⟨#[]⟩]) w := by kernel_rfl

theorem wpList_clear_hasK {P : Program} {w : World} {ops : Array Oper} {rest : List Oper} {o : Oper} {a : Act} {Q : Exit → Act → World → Prop} (hgd : o.guard = none) (s : Operand) (t : TypeId)
    (ho : o.op = .call { callee := .builtin .clear, args := #[s], argTypes := #[t] }) (e : TypeId) (z : Value) (sz : Nat) (ht : P.underlying t = some (.slice e)) (hv : (zeroValue e).run P w = .ok z w) (hz : z.cells.size = sz) (h1 : ∀ v ∈ z.cells, v.oneCell' = true)
    (g off n c : Nat) (hs : a.eval s = .slice (some ⟨g, off, none⟩) n c) (cur : List Value) (tt : TypeId) (hg : Has w g tt cur) (hn : 0 < n) (hsz : 0 < sz) (hfit : off + n * sz ≤ cur.length)
    (h : ∀ w' mid, mid.length = n * sz → Has w' g tt (cur.take off ++ mid ++ cur.drop (off + n * sz)) → Chg (fun k => k = g) w w' → wpList P ops Q rest (a.put o.dst (.tuple #[])) w') : wpList P ops Q (o :: rest) a w := by
  refine wpList_plain hgd fun K hK => ?_
  obtain ⟨w', mid, hr, hm, hg', hc⟩ := run_clear_has (P := P) (w := w) t e o.type z sz ht hv hz h1 g off n c cur tt hg hn hsz hfit
  unfold Oper.wp
  simp [execOp, ho, resolve, invoke, builtin, hs, hr, Result.andThen]
  exact hK _ _ (h _ _ hm hg' hc)

set_option maxRecDepth 100000 in
set_option maxHeartbeats 2000000 in
theorem delete_any (g cap i bx : Nat) (ws : List (Nat × ByteArray)) (tail : List Value) (w : World) (h : WRow w g ws tail) (hc : w.cell? ⟨bx, 0, none⟩ = some (.int .i64 (i : Nat))) (hl : ws.length ≤ 1000000000) (hcap : ws.length ≤ cap) (hne : bx ≠ g) :
    Calls Try.prog 38 #[.slice (some ⟨g, 0, none⟩) ws.length cap, .func (.func 39) #[] #[.pointer (some ⟨bx, 0, none⟩)]] w fun e w' =>
      ∃ rest, e = .returned (.slice (some ⟨g, 0, none⟩) (ws.filter (keeps i)).length cap) ∧ rest.length + (ws.filter (keeps i)).length * 2 = ws.length * 2 + tail.length ∧ WRow w' g (ws.filter (keeps i)) rest ∧ Chg (fun k => k = g) w w' := by
  have hbx := World.block_lt_of_cell? w _ hc
  simp only at hbx
  have hg := Has.lt h
  have HI := Lib.hid (index_any g cap i bx ws tail w h hc hl)
  obtain ⟨n, hn⟩ : ∃ n, n = ws.length := ⟨_, rfl⟩
  have HN := Lib.hid hn
  have HW := Lib.hid h
  have HC := Lib.hid hc
  rw [← hn] at hl hcap HI ⊢
  rcases Classical.em (place i ws = -1) with hp | hp
  · have hf := place_neg hp
    rw [hf, ← hn]
    have HP := Lib.hid hp
    clear hn h hc hf hp
    go_enter Try.func38, Try.ntmps38
    go_wp2_with fail
    refine HI.out.mono ?_
    rintro e w1 ⟨rfl, hb⟩
    rw [HP.out]
    have HB := Lib.hid hb
    clear hb
    go_wp2
    go_ret
    exact ⟨tail, rfl, by omega, HW.out.below HB.out hg, Chg.of_below HB.out (Nat.le_refl _)⟩
  · obtain ⟨k, hk⟩ : ∃ k : Nat, place i ws = (k : Nat) := ⟨(place i ws).toNat, by have := place_lt i ws; omega⟩
    have hkn : k < n := by rw [hn]; exact (place_inv hk).1
    have HM := Lib.hid (Mid.start hk)
    have HP := Lib.hid hk
    clear hn h hc hp hk
    go_enter Try.func38, Try.ntmps38
    go_wp2_with fail
    refine HI.out.mono ?_
    rintro e w1 ⟨rfl, hb⟩
    rw [HP.out]
    have hsz1 := hb.size
    have HW1 := Lib.hid (show WRow w1 g ws tail from HW.out.below hb hg)
    have HC1 := Lib.hid (show Chg (fun k => k = g) w w1 from Chg.of_below hb (Nat.le_refl _))
    have hkb : ((k : Int) == -1) = false := by simp
    clear hb
    go_wp2_with fail
    go_loopw [5, 6, 7] (fun a b _ wr => ∃ (m j : Nat) (L : List (Nat × ByteArray)), j ≤ n ∧ a = .int .i64 m ∧ b = .int .i64 j ∧ Mid i ws j m L ∧ WRow wr g L tail ∧ Chg (fun k => k = g) w wr) (fun _ b _ _ => n - (intOf b).toNat)
    case atStart => exact ⟨k, k + 1, ws, hkn, rfl, rfl, HM.out, HW1.out, HC1.out⟩
    case round =>
      obtain ⟨m, j, L, hj, rfl, rfl, hmid, hrow, hchg⟩ := hrel
      clear HW1 HC1 hsz1
      have hlen := hmid.len (by rw [← HN.out]; exact hj)
      rw [← HN.out] at hlen
      obtain ⟨hLn, hmj⟩ := hlen
      have HMID := Lib.hid hmid
      have HROW := Lib.hid hrow
      have HCHG := Lib.hid hchg
      have hszr := hchg.size
      have HLN := Lib.hid hLn
      clear hmid hrow hchg hLn
      by_cases hlt : j < n
      · obtain ⟨⟨si, st⟩, hx⟩ : ∃ x, ws[j]? = some x := ⟨_, List.getElem?_eq_getElem (by rw [← HN.out]; exact hlt)⟩
        obtain ⟨hx0, hx1⟩ := HROW.out.cells (HMID.out.get.trans hx)
        simp only at hx0 hx1
        have hcb : wr.cell? ⟨bx, 0, none⟩ = some (.int .i64 (i : Nat)) := (World.cell?_of_block (HCHG.out.block bx hbx hne)).trans HC.out
        have HCB := Lib.hid hcb
        have HX := Lib.hid hx
        have hjn : (j : Int) < (n : Int) := by omega
        have hmn : (m : Int) < (n : Int) := by omega
        have hbxr : bx < wr.heap.size := by omega
        have hgr : g < wr.heap.size := by omega
        clear hx hcb
        go_wp2_with fail
        refine (pred_any (si : Nat) (i : Nat) st bx _ (by rw [World.cell?_alloc_lt _ _ _ hbxr]; exact HCB.out) (by rw [World.size_alloc]; omega)).mono ?_
        rintro e w2 ⟨rfl, hb2⟩
        have hvb := (Has.new wr [.int .i64 (si : Nat), .string st] 76).below hb2 (by simp)
        have hrow2 : WRow w2 g L tail := ((Has.alloc HROW.out _).below hb2 (by rw [World.size_alloc]; omega))
        have HCHG2 := Lib.hid (show Chg (fun k => k = g) w w2 from HCHG.out.trans (((Chg.refl (fun k => k = g) wr).alloc (.cells #[.int .i64 (si : Nat), .string st] 76)).trans (Chg.of_below (R := fun k => k = g) hb2 (Nat.le_refl _)) (fun _ _ h => h)) (fun _ _ h => h))
        have HROW2 := Lib.hid hrow2
        have hv0 := hvb.cell 0
        have hv1 := hvb.cell 1
        simp only [List.getElem?_cons_succ, List.getElem?_cons_zero] at hv0 hv1
        clear hb2 hx0 hx1 hvb hrow2
        by_cases he : si = i
        · have ht : ((si : Int) == (i : Int)) = true := by simp [he]
          have HG := Lib.hid (HMID.out.gone HX.out he)
          clear he
          go_wp2_with fail
          go_roundw
          case rel => exact ⟨m, j + 1, L, by omega, rfl, by go_num, HG.out, HROW2.out, HCHG2.out⟩
          case measure => simp [intOf]; omega
        · have ht : ((si : Int) == (i : Int)) = false := by simp; omega
          have hmL : m < L.length := by rw [HLN.out]; omega
          have HG := Lib.hid (HMID.out.kept HX.out he)
          obtain ⟨y, hy⟩ : ∃ y, L[m]? = some y := ⟨_, List.getElem?_eq_getElem hmL⟩
          obtain ⟨hy0, hy1⟩ := HROW2.out.cells hy
          have hf0 := Has.frozen HROW2.out (m * 2)
          have hf1 := Has.frozen HROW2.out (m * 2 + 1)
          have HS := Lib.hid (HROW2.out.set m hmL (si, st))
          have HCS := Lib.hid (show Chg (fun k => k = g) w ((w2.setCell ⟨g, m * 2, none⟩ (.int .i64 (si : Nat))).setCell ⟨g, m * 2 + 1, none⟩ (.string st)) from (HCHG2.out.setCell (fun _ => rfl) _).setCell (fun _ => rfl) _)
          clear he hy
          go_wp2_with fail
          go_roundw
          case rel => exact ⟨m + 1, j + 1, _, by omega, by go_num, by go_num, HG.out, HS.out, HCS.out⟩
          case measure => simp [intOf]; omega
      · obtain rfl : j = n := by omega
        have hcm : ¬ cap = m := by omega
        have hfin : L = ws.filter (keeps i) ++ L.drop m ∧ (ws.filter (keeps i)).length = m := by
          obtain ⟨⟨mid, hL, h1, h2⟩, hk⟩ := HMID.out
          have htk : ws.take j = ws := List.take_of_length_le (by rw [← HN.out]; exact Nat.le_refl _)
          have hdr : ws.drop j = [] := List.drop_of_length_le (by rw [← HN.out]; exact Nat.le_refl _)
          rw [htk] at hL h2 hk
          rw [hdr, List.append_nil] at hL
          refine ⟨?_, hk.symm⟩
          rw [hL, hk]; simp
        have HFIN := Lib.hid hfin
        have HROW' := Lib.hid (show Has wr g 76 (flatW L ++ tail) from HROW.out)
        have HFIT := Lib.hid (show m * 2 + (j - m) * 2 ≤ (flatW L ++ tail).length by rw [List.length_append]; have : (flatW L).length = L.length * 2 := flat2_len _ _ _; rw [this, HLN.out]; omega)
        have hmn : (m : Int) < (j : Int) := by omega
        clear hfin
        go_wp2_with (with_reducible refine wpList_clear_hasK (o := ⟨none, _, _, _, _, _⟩) rfl (.tmp 38) 66 rfl 76 (.agg #[.int .i64 0, .string ⟨#[]⟩]) 2 Try.underlying66 (zero_write _) rfl (by decide) g (m * 2) (j - m) (cap - m) rfl _ 76 HROW'.out (by omega) (by omega) HFIT.out ?_)
        intro w3 mid hml hg3 hc3
        have HE := Lib.hid (show ∃ rest : List Value, rest.length + m * 2 = j * 2 + tail.length ∧ WRow w3 g (ws.filter (keeps i)) rest by
          have hlL : (flatW L).length = j * 2 := by rw [← HLN.out]; exact flat2_len _ _ _
          have hlF : (flatW (ws.filter (keeps i))).length = m * 2 := by rw [← HFIN.out.2]; exact flat2_len _ _ _
          have hsp : flatW L = flatW (ws.filter (keeps i)) ++ flatW (L.drop m) := by
            conv => lhs; rw [HFIN.out.1]
            unfold flatW; rw [List.flatMap_append]
          refine ⟨mid ++ (flatW L ++ tail).drop (m * 2 + (j - m) * 2), ?_, ?_⟩
          · rw [List.length_append, hml, List.length_drop, List.length_append, hlL]; omega
          · have := hg3
            rw [show (flatW L ++ tail).take (m * 2) = flatW (ws.filter (keeps i)) by rw [hsp, List.append_assoc (flatW _), List.take_left' hlF]] at this
            exact this)
        have HC3 := Lib.hid (show Chg (fun k => k = g) w w3 from HCHG.out.trans hc3 (fun _ _ h => h))
        have HM := Lib.hid HFIN.out.2
        clear hml hg3 hc3
        go_wp2_with fail
        go_ret
        obtain ⟨rest, h1, h2⟩ := HE.out
        exact ⟨rest, by rw [HM.out]; rfl, by rw [HM.out]; exact h1, h2, HC3.out⟩

theorem index_nil (v : Value) (w : World) :
    Calls Try.prog 55 #[.slice none 0 0, v] w fun e w' => e = .returned (.int .i64 (-1)) ∧ w = w' := by
  go_enter Try.func55, Try.ntmps55
  go_wp2
  go_loop [8] (fun k => k = .int .i64 0) (fun _ => 0)
  case atStart => rfl
  case round =>
    obtain rfl := hrel
    go_wp2
    go_ret
    exact ⟨rfl, rfl⟩
theorem delete_nil (v : Value) (w : World) :
    Calls Try.prog 38 #[.slice none 0 0, v] w fun e w' => e = .returned (.slice none 0 0) ∧ w = w' := by
  go_enter Try.func38, Try.ntmps38
  go_wp2_with fail
  refine (index_nil _ _).mono ?_
  rintro e w' ⟨rfl, rfl⟩
  go_wp2
  go_ret
  exact ⟨rfl, rfl⟩

def Dv.spoiled (D : Dv) (k : Nat) : Dv := match D.secs[k]? with | some s => { D with secs := D.secs.set k (s.1, true) } | none => D
def Dv.stickD (D : Dv) (i : Int) : Dv := if hasB D i then { D.spoiled i.toNat with cache := D.cache.filter (keeps i.toNat) } else D
theorem Dv.spoiled_eq (D : Dv) (k : Nat) (hk : k < D.n) : D.spoiled k = { D with secs := D.secs.set k ((D.secs[k]'hk).1, true) } := by unfold Dv.spoiled; rw [List.getElem?_eq_getElem hk]
theorem Dv.spoiled_ok (D : Dv) (ok : D.Ok) (k : Nat) (hk : k < D.n) : (D.spoiled k).Ok := by
  rw [D.spoiled_eq k hk]
  have hn : (D.secs.set k ((D.secs[k]'hk).1, true)).length = D.n := by rw [List.length_set]; rfl
  refine ⟨?_, ?_, ok.s128, ok.s1024, ?_, ok.text, ?_, ok.fuse, ok.lose, ok.stray⟩
  · show 8 ≤ List.length _; rw [hn]; exact ok.n8
  · show List.length _ ≤ 4096; rw [hn]; exact ok.n4096
  · intro x hx
    rcases List.mem_or_eq_of_mem_set hx with hx | hx
    · exact ok.media x hx
    · subst hx; exact ok.media (D.secs[k]'hk) (List.getElem_mem hk)
  · intro x hx; show x.1 < List.length _; rw [hn]; exact ok.sector x hx
/-- what becomes of the device's cache, if another slice is stored in its place -/
theorem DevAt.cached {w w1 : World} {p sb : Nat} {cv v' : Value} {D : Dv} {c : List (Nat × ByteArray)} (h : DevAt w p sb cv D) (hc : Chg (fun k => cv.ownBlock = some k) w w1) (hown : w1.ownsRow 0 76 2 v' c.length (flatW c)) (hv : v'.ownBlock = cv.ownBlock)
    (ht : ∀ x ∈ c, x ∈ D.cache) : DevAt (w1.setCell ⟨p, 3, none⟩ v') p sb v' { D with cache := c } := by
  have hm1 := hc.has h.main h.cp
  have hs1 := hc.has h.secs h.cs
  refine ⟨hm1.set 3 v', hs1.setOther h.ps _, owns_same hown fun k e => Below.heap_setCell _ _ _ _ (fun e' => h.cp (by rw [← hv, e]; exact congrArg some e')), h.ps, by rw [hv]; exact h.cp, by rw [hv]; exact h.cs, ?_⟩
  exact ⟨h.ok.n8, h.ok.n4096, h.ok.s128, h.ok.s1024, h.ok.media, fun x hx => h.ok.text x (ht x hx), fun x hx => h.ok.sector x (ht x hx), h.ok.fuse, h.ok.lose, h.ok.stray⟩

theorem delete_cv {W : World} {cv : Value} (c : List (Nat × ByteArray)) (k bx : Nat) (h : W.ownsRow 0 76 2 cv c.length (flatW c)) (hc : W.cell? ⟨bx, 0, none⟩ = some (.int .i64 (k : Nat))) (hne : cv.ownBlock ≠ some bx) (hl : c.length ≤ 1000000000) :
    Calls Try.prog 38 #[cv, .func (.func 39) #[] #[.pointer (some ⟨bx, 0, none⟩)]] W fun e w' =>
      ∃ a n m, e = .returned (.slice a n m) ∧ (Value.slice a n m).ownBlock = cv.ownBlock ∧ Chg (fun b => cv.ownBlock = some b) W w' ∧ w'.ownsRow 0 76 2 (.slice a n m) (c.filter (keeps k)).length (flatW (c.filter (keeps k))) := by
  rcases h.2 with ⟨rfl, h0⟩ | ⟨g, cap, cur, rfl, _, hg, hcap, hmx, hcs, htk⟩
  · have : c = [] := List.eq_nil_of_length_eq_zero h0
    subst this
    exact (delete_nil _ W).mono fun e w' ⟨he, hw⟩ => ⟨_, _, _, he, rfl, by subst hw; exact Chg.refl _ _, World.ownsRow_nil _ _ _ _⟩
  · have hfl : (flatW c).length = c.length * 2 := flat2_len _ _ _
    have hw : WRow W g c (cur.toList.drop (c.length * 2)) := by
      show Has W g _ _
      rw [← htk, List.take_append_drop]
      unfold Has; rw [hg]
    refine (delete_any g cap k bx c _ W hw hc hl hcap (fun e => hne (by rw [e]; rfl))).mono ?_
    rintro e w' ⟨rest, he, hr, hw', hch⟩
    refine ⟨_, _, _, he, rfl, hch.mono (fun b _ e => by subst e; rfl), flat2_len _ _ _, .inr ⟨g, cap, (flatW (c.filter (keeps k)) ++ rest).toArray, rfl, Nat.zero_le _, hw', ?_, hmx, ?_, ?_⟩⟩
    · exact Nat.le_trans (List.length_filter_le _ _) hcap
    · have : (flatW (c.filter (keeps k))).length = (c.filter (keeps k)).length * 2 := flat2_len _ _ _
      simp only [List.size_toArray, List.length_append, this]
      have hcl : cur.toList.length = cap * 2 := hcs
      rw [List.length_drop, hcl] at hr
      omega
    · have : (flatW (c.filter (keeps k))).length = (c.filter (keeps k)).length * 2 := flat2_len _ _ _
      show (flatW (c.filter (keeps k)) ++ rest).take _ = _
      rw [← this, List.take_left]

set_option maxRecDepth 100000 in
set_option maxHeartbeats 2000000 in
theorem stick_any {p sb : Nat} {cv : Value} {D : Dv} (i : Int) (w : World) (h : DevAt w p sb cv D) (hl : D.cache.length ≤ 1000000000) :
    Calls Try.prog 14 #[.pointer (some ⟨p, 0, none⟩), .int .i64 i] w fun e w' => e = .returned (.tuple #[]) ∧ Now p sb cv w (D.stickD i) w' := by
  have hlt := h.lt
  have hp := h.main.lt
  have hsb := h.secs.lt
  cases hh : hasB D i with
  | false =>
    have e1 : D.stickD i = D := by unfold Dv.stickD; rw [hh]; rfl
    rw [e1]
    have HH := Lib.hid hh
    have HD := Lib.hid h
    clear e1 hh h hlt
    go_enter Try.func14, Try.ntmps14
    go_wp2_with fail
    refine (has_any i _ (HD.out.alloc _)).mono ?_
    rintro e w' ⟨rfl, rfl⟩
    rw [HH.out]
    go_wp2
    refine bodyPost_ret (results_none rfl _ _ _) rfl ?_
    exact ⟨rfl, .same ((Chg.refl _ _).alloc _) (HD.out.alloc _)⟩
  | true =>
    have hrr : 0 ≤ i ∧ i < D.n := by unfold hasB at hh; simpa using hh
    obtain ⟨k, rfl⟩ := Int.eq_ofNat_of_zero_le hrr.1
    have hk : k < D.n := by omega
    have hki : (k : Int) < (D.n : Int) := hrr.2
    have hn4 := h.ok.n4096
    have h2 := h.c2
    have hb := h.bad k hk
    have hfb := h.sfz (k * 2 + 1)
    have e1 : D.stickD k = { D.spoiled k with cache := D.cache.filter (keeps k) } := by unfold Dv.stickD; rw [hh, Int.toNat_natCast]; rfl
    rw [e1]
    have hd0 := h.setBad k hk true _ (D.spoiled_eq k hk) (D.spoiled_ok h.ok k hk)
    have h3 := hd0.c3
    have HD2 := Lib.hid ((hd0.alloc (.cells #[.int .i64 (k : Nat)] 3)).drew)
    have HC2 := Lib.hid ((((Chg.refl (foot p sb cv) w).setCell (p := ⟨sb, k * 2 + 1, none⟩) (fun _ => .inr (.inl rfl)) (.bool true)).alloc (.cells #[.int .i64 (k : Nat)] 3)).drew)
    have hcell : ((w.setCell ⟨sb, k * 2 + 1, none⟩ (.bool true)).alloc (.cells #[.int .i64 (k : Nat)] 3)).drew.cell? ⟨w.heap.size, 0, none⟩ = some (.int .i64 (k : Nat)) := by
      show ((w.setCell ⟨sb, k * 2 + 1, none⟩ (.bool true)).alloc (.cells #[.int .i64 (k : Nat)] 3)).cell? ⟨w.heap.size, 0, none⟩ = _
      have := World.cell?_alloc_new (w.setCell ⟨sb, k * 2 + 1, none⟩ (.bool true)) #[.int .i64 (k : Nat)] 3 0
      rw [World.size_setCell] at this
      rw [this]; rfl
    have HCELL := Lib.hid hcell
    have HH := Lib.hid hh
    have HD := Lib.hid h
    have hcache : (D.spoiled k).cache = D.cache := by rw [D.spoiled_eq k hk]
    have HCA := Lib.hid hcache
    have hcvlt : ∀ g, cv.ownBlock = some g → g < w.heap.size := fun g e => (h.cache.lt g e).2
    have HLT := Lib.hid hcvlt
    clear e1 hh h hlt hrr hcell hcache hcvlt hd0
    go_enter Try.func14, Try.ntmps14
    go_wp2_with fail
    refine (has_any k _ (HD.out.alloc _)).mono ?_
    rintro e w' ⟨rfl, rfl⟩
    rw [HH.out]
    go_wp2
    refine Reg.still_tail 7 (by kernel_rfl) (by kernel_rfl) ?_
    simp only [List.take_succ_cons, List.take_zero, List.drop_succ_cons, List.drop_zero]
    repeat still_step
    try refine wpStill_nil ?_
    go_wp2_with fail
    refine (delete_cv D.cache k w.heap.size (by have := HD2.out.cache; rw [HCA.out] at this; exact this) HCELL.out (fun e => by have := HLT.out _ e; omega) hl).mono ?_
    rintro e w5 ⟨va, vn, vc, rfl, hv, hc5, hown⟩
    have hch := HD2.out.cached hc5 hown hv (fun x hx => by rw [HCA.out]; exact (List.mem_filter.1 hx).1)
    have hcp := HD2.out.cp
    have hm5 := hc5.has HD2.out.main hcp
    have h35 : w5.cell? ⟨p, 3, none⟩ = some cv := hm5.cell 3
    have hf35 := hm5.frozen 3
    have HCH := Lib.hid hch
    have HC5 := Lib.hid (show Chg (foot p sb cv) w (w5.setCell ⟨p, 3, none⟩ (.slice va vn vc)) from (HC2.out.trans hc5 (fun _ _ h => .inr (.inr h))).setCell (fun _ => .inl rfl) _)
    have HV := Lib.hid hv
    clear hc5 hown hch hcp hm5 hv h3 hb hfb h2
    go_wp2
    go_end0
    refine ⟨rfl, _, HC5.out, HCH.out, fun q hq => .inl ?_⟩
    rcases hq with e | e | e
    · exact .inl e
    · exact .inr (.inl e)
    · exact .inr (.inr (by rw [← HV.out]; exact e))
end Go.Proofs.Ytlnocdmechidfaa.Dev
