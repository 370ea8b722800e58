/- Layer 11 (cache): the heap's row of slots; its methods. -/
import Derived.Test.YtbdiadbaapfdgaaBase
import Derived.Test.YtbdiadbaapfdgaaHeap
import Derived.Test.YtbdiadbaapfdgaaRegionW
import Derived.Test.YtbdiadbaapfdgaaRegionV
import Derived.Test.YtbdiadbaapfdgaaCaMath
import Derived.Test.YtbdiadbaapfdgaaChecked
import Derived.StillTailTactics
import Derived.WalkLawsBesides
import Derived.WalkSpells
import Derived.Lib.Hide
import Derived.Outline
import Derived.Deep.DeepCutAuto
import Derived.Deep.RegionWith
import Derived.OpenShut
import Derived.Deep.QuietTactic
import Derived.BigQuiet
namespace Go.Proofs.Ytbdiadbaapfdgaa.Ca
open Go Go.RowKit Go.Proofs.Ytbdiadbaapfdgaa
set_option linter.unusedVariables false

abbrev ptr (s : Sl) : Value := .pointer (some ⟨s.blk, 0, none⟩)
def sc (s : Sl) (i : Nat) : List Value := [.int .i64 s.addr, .int .u64 s.gen, .int .u32 s.sum, .int .u8 s.kind, .string s.pay, .int .u64 s.use, .int .i64 i]
structure Hd where
  most : Int
  mb : Nat
  uses : Nat
  found : Nat
  missed : Nat
def cc (C : Hd) (v : Value) : List Value := [.int .i64 C.most, .map (some C.mb), v, .int .u64 C.uses, .int .i64 C.found, .int .i64 C.missed]
/-- the cache at p: its row v of slots is H -/
structure Hp (w : World) (p : Nat) (C : Hd) (v : Value) (H : List Sl) : Prop where
  main : Has w p 62 (cc C v)
  row : w.ownsRow 0 65 1 v H.length (H.map ptr)
  slot : ∀ i, i < H.length → Has w (sg H i).blk 64 (sc (sg H i) i)
  few : H.length ≤ 4096
/-- the row's block, and the slots' -/
def ft (v : Value) (H : List Sl) (k : Nat) : Prop := v.ownBlock = some k ∨ ∃ i, i < H.length ∧ (sg H i).blk = k
theorem has_ne {w : World} {b b' : Nat} {t t' : TypeId} {cs cs' : List Value} (h : Has w b t cs) (h' : Has w b' t' cs') (ht : t ≠ t') : b ≠ b' := fun e => by
  subst e
  unfold Has at h h'
  rw [h] at h'
  injection h' with h'; injection h' with _ h'
  exact ht h'
section
variable {w w' : World} {p : Nat} {C : Hd} {v : Value} {H : List Sl}
theorem Hp.same (h : Hp w p C v H) (hk : ∀ k, k = p ∨ ft v H k → w'.heap[k]? = w.heap[k]?) : Hp w' p C v H :=
  ⟨h.main.same (hk p (.inl rfl)), owns_same h.row (fun k e => hk k (.inr (.inl e))), fun i hi => (h.slot i hi).same (hk _ (.inr (.inr ⟨i, hi, rfl⟩))), h.few⟩
theorem Hp.drewN (h : Hp w p C v H) (n : Nat) : Hp (w.drewN n) p C v H := h.same fun _ _ => rfl
theorem Hp.form (h : Hp w p C v H) (h0 : 0 < H.length) : ∃ g cap, v = .slice (some ⟨g, 0, none⟩) H.length cap := by
  rcases h.row.2 with ⟨_, e⟩ | ⟨g, cap, _, e, _⟩
  · omega
  · exact ⟨g, cap, e⟩
theorem Hp.formA (h : Hp w p C v H) : ∃ a cap, v = .slice a H.length cap := by
  rcases h.row.2 with ⟨e, e2⟩ | ⟨g, cap, _, e, _⟩
  · exact ⟨none, 0, by rw [e, e2]⟩
  · exact ⟨_, cap, e⟩
variable {g cap : Nat}
theorem Hp.blk (h : Hp w p C (.slice (some ⟨g, 0, none⟩) H.length cap) H) : ∃ cur : Array Value, w.heap[g]? = some (.cells cur 65 (0, 0)) := by
  rcases h.row.2 with ⟨e, _⟩ | ⟨g', cap', cur, e, _, hg, _⟩
  · simp at e
  · simp only [Value.slice.injEq, Option.some.injEq, Addr.mk.injEq, and_true, true_and] at e
    obtain ⟨rfl, rfl⟩ := e
    exact ⟨cur, hg⟩
theorem Hp.gne (h : Hp w p C (.slice (some ⟨g, 0, none⟩) H.length cap) H) {i : Nat} (hi : i < H.length) : (sg H i).blk ≠ g := fun e => by
  obtain ⟨cur, hc⟩ := h.blk
  have := h.slot i hi
  unfold Has at this
  rw [e, hc] at this
  injection this with this; injection this with _ this
  exact absurd this (by decide)
theorem Hp.gp (h : Hp w p C (.slice (some ⟨g, 0, none⟩) H.length cap) H) : p ≠ g := fun e => by
  obtain ⟨cur, hc⟩ := h.blk
  have := h.main
  unfold Has at this
  rw [e, hc] at this
  injection this with this; injection this with _ this
  exact absurd this (by decide)
theorem Hp.pne (h : Hp w p C v H) {i : Nat} (hi : i < H.length) : (sg H i).blk ≠ p := has_ne (h.slot i hi) h.main (by decide)
theorem Hp.inj (h : Hp w p C v H) {i j : Nat} (hi : i < H.length) (hj : j < H.length) (e : (sg H i).blk = (sg H j).blk) : i = j := by
  have a := (h.slot i hi).cell 6
  have b := (h.slot j hj).cell 6
  rw [e] at a
  rw [a] at b
  have b : (i : Int) = j := by simpa [sc] using b
  omega
theorem Hp.c (h : Hp w p C (.slice (some ⟨g, 0, none⟩) H.length cap) H) {i : Nat} (hi : i < H.length) : w.cell? ⟨g, i, none⟩ = some (ptr (sg H i)) := by
  rw [h.row.cellAt i (by omega), List.getElem?_map, List.getElem?_eq_getElem hi, sg_eq hi]; rfl
theorem Hp.cz (h : Hp w p C (.slice (some ⟨g, 0, none⟩) H.length cap) H) {i : Nat} (hi : i < H.length) : w.frozen? ⟨g, i, none⟩ = false := h.row.frozenAt i
theorem Hp.ord (h : Hp w p C v H) : w.cell? ⟨p, 2, none⟩ = some v := h.main.cell 2
end
section
variable {w : World} {p : Nat} {C : Hd} {v : Value} {H : List Sl} {g cap : Nat}
theorem len_any (h : Hp w p C v H) : Calls Try.prog 65 #[v] w fun e w' => e = .returned (.int .i64 H.length) ∧ w' = w := by
  obtain ⟨a, cap, rfl⟩ := h.formA
  clear h
  go_enter Try.func65, Try.ntmps65
  go_wp2
  go_ret
  exact ⟨rfl, rfl⟩
theorem less_any (h : Hp w p C v H) (i j : Nat) (hi : i < H.length) (hj : j < H.length) : Calls Try.prog 66 #[v, .int .i64 i, .int .i64 j] w fun e w' => e = .returned (.bool (decide ((sg H i).use < (sg H j).use))) ∧ ∃ n, w' = w.drewN n := by
  obtain ⟨g, cap, rfl⟩ := h.form (by omega)
  have c1 := h.c hi
  have c2 := h.c hj
  have c3 := (h.slot i hi).cell 5
  have c4 := (h.slot j hj).cell 5
  have hfew := h.few
  simp only [sc, List.getElem?_cons_zero, List.getElem?_cons_succ] at c3 c4
  have hd : decide (((sg H i).use : Int) < ((sg H j).use : Int)) = decide ((sg H i).use < (sg H j).use) := by simp
  have HDD := Lib.hid hd
  clear hd
  have hii : (i : Int) < (H.length : Int) := by omega
  have hjj : (j : Int) < (H.length : Int) := by omega
  dsimp only [ptr] at c1 c2
  generalize (sg H i).blk = b1 at *
  generalize (sg H j).blk = b2 at *
  generalize (sg H i).use = u1 at *
  generalize (sg H j).use = u2 at *
  clear h
  go_enter Try.func66, Try.ntmps66
  go_wp2
  go_quiet (fail)
  go_wp2
  go_ret
  exact ⟨by first | rfl | rw [HDD.out], _, rfl⟩
theorem map_swp (H : List Sl) {i j : Nat} (hi : i < H.length) (hj : j < H.length) : ((H.map ptr).set i (ptr (sg H j))).set j (ptr (sg H i)) = (swpL H i j).map ptr := by
  unfold swpL
  rw [List.map_set, List.map_set]
/-- what a swap has done so far: to the row, to the places of both slots -/
structure Sw (w : World) (p : Nat) (C : Hd) (v : Value) (H : List Sl) (i j : Nat) (X : List Value) (a b : Nat) (wy : World) : Prop where
  row : wy.ownsRow 0 65 1 v H.length X
  main : Has wy p 62 (cc C v)
  si : Has wy (sg H i).blk 64 (sc (sg H i) a)
  sj : Has wy (sg H j).blk 64 (sc (sg H j) b)
  sx : ∀ x, x < H.length → x ≠ i → x ≠ j → Has wy (sg H x).blk 64 (sc (sg H x) x)
  chg : Chg (ft v H) w wy
section
variable {i j a b n : Nat} {X : List Value} {wy : World}
theorem Sw.drew (h : Sw w p C v H i j X a b wy) : Sw w p C v H i j X a b wy.drew := ⟨h.row.drew, h.main.drew, h.si.drew, h.sj.drew, fun x h1 h2 h3 => (h.sx x h1 h2 h3).drew, h.chg.drew⟩
theorem Sw.cellAt (h : Sw w p C (.slice (some ⟨g, 0, none⟩) H.length cap) H i j X a b wy) (x : Nat) (hx : x < H.length) : wy.cell? ⟨g, x, none⟩ = X[x]? := h.row.cellAt x (by omega)
theorem blk_ty {cur : Array Value} {t t' : TypeId} {bb : Nat} {cs : List Value} (hc : wy.heap[bb]? = some (.cells cur t (0, 0))) (h : Has wy bb t' cs) : t = t' := by
  unfold Has at h; rw [hc] at h; injection h with h; injection h
theorem Sw.gcur (h : Sw w p C (.slice (some ⟨g, 0, none⟩) H.length cap) H i j X a b wy) : ∃ cur : Array Value, wy.heap[g]? = some (.cells cur 65 (0, 0)) := by
  rcases h.row.2 with ⟨e, _⟩ | ⟨g', cap', cur, e, _, hg, _⟩
  · simp at e
  · simp only [Value.slice.injEq, Option.some.injEq, Addr.mk.injEq, and_true, true_and] at e
    obtain ⟨rfl, rfl⟩ := e
    exact ⟨cur, hg⟩
theorem Sw.ne (h : Sw w p C (.slice (some ⟨g, 0, none⟩) H.length cap) H i j X a b wy) {k : Nat} {t : TypeId} {cs : List Value} (hk : Has wy k t cs) (ht : t ≠ 65) : g ≠ k := fun e => by
  obtain ⟨cur, hc⟩ := h.gcur
  subst e
  exact ht (blk_ty hc hk).symm
theorem Sw.store (h : Sw w p C (.slice (some ⟨g, 0, none⟩) H.length cap) H i j X a b wy) (x : Nat) (u : Value) : Sw w p C (.slice (some ⟨g, 0, none⟩) H.length cap) H i j (X.set x u) a b (wy.setCell ⟨g, x, none⟩ u) :=
  ⟨(h.row.stored x u).1, h.main.setOther (a := ⟨g, x, none⟩) (h.ne h.main (by decide)) _, h.si.setOther (a := ⟨g, x, none⟩) (h.ne h.si (by decide)) _, h.sj.setOther (a := ⟨g, x, none⟩) (h.ne h.sj (by decide)) _, fun y h1 h2 h3 => (h.sx y h1 h2 h3).setOther (a := ⟨g, x, none⟩) (h.ne (h.sx y h1 h2 h3) (by decide)) _, h.chg.setCell (p := ⟨g, x, none⟩) (fun _ => .inl rfl) _⟩
theorem sc_set (s : Sl) (a b : Nat) : (sc s a).set 6 (.int .i64 (b : Int)) = sc s b := rfl
theorem row_other {wy : World} {v : Value} {X : List Value} {n k : Nat} {t : TypeId} {cs : List Value} (h : wy.ownsRow 0 65 1 v n X) (hk : Has wy k t cs) (ht : t ≠ 65) (o : Nat) (u : Value) : (wy.setCell ⟨k, o, none⟩ u).ownsRow 0 65 1 v n X := by
  refine owns_same h fun g e => Below.heap_setCell _ _ _ _ fun e2 => ?_
  rcases h.2 with ⟨e3, _⟩ | ⟨g', cap', cur, e3, _, hg, _⟩
  · rw [e3] at e; cases e
  · rw [e3] at e
    injection e with e
    have e2 : g' = k := e.trans e2
    subst e2
    exact ht (blk_ty hg hk).symm
theorem Sw.seti (h : Sw w p C v H i j X a b wy) (hi : i < H.length) (hij : (sg H i).blk ≠ (sg H j).blk) (hd : ∀ x, x < H.length → x ≠ i → (sg H x).blk ≠ (sg H i).blk) (c : Nat) : Sw w p C v H i j X c b (wy.setCell ⟨(sg H i).blk, 6, none⟩ (.int .i64 (c : Int))) :=
  ⟨row_other h.row h.si (by decide) _ _, h.main.setOther (a := ⟨(sg H i).blk, 6, none⟩) (has_ne h.si h.main (by decide)) _, by have := h.si.set 6 (.int .i64 (c : Int)); rwa [sc_set] at this, h.sj.setOther (a := ⟨(sg H i).blk, 6, none⟩) hij _,
   fun x h1 h2 h3 => (h.sx x h1 h2 h3).setOther (a := ⟨(sg H i).blk, 6, none⟩) (fun e => hd x h1 h2 e.symm) _, h.chg.setCell (p := ⟨(sg H i).blk, 6, none⟩) (fun _ => .inr ⟨i, hi, rfl⟩) _⟩
theorem Sw.setj (h : Sw w p C v H i j X a b wy) (hj : j < H.length) (hij : (sg H i).blk ≠ (sg H j).blk) (hd : ∀ x, x < H.length → x ≠ j → (sg H x).blk ≠ (sg H j).blk) (c : Nat) : Sw w p C v H i j X a c (wy.setCell ⟨(sg H j).blk, 6, none⟩ (.int .i64 (c : Int))) :=
  ⟨row_other h.row h.sj (by decide) _ _, h.main.setOther (a := ⟨(sg H j).blk, 6, none⟩) (has_ne h.sj h.main (by decide)) _, h.si.setOther (a := ⟨(sg H j).blk, 6, none⟩) (fun e => hij e.symm) _, by have := h.sj.set 6 (.int .i64 (c : Int)); rwa [sc_set] at this,
   fun x h1 h2 h3 => (h.sx x h1 h2 h3).setOther (a := ⟨(sg H j).blk, 6, none⟩) (fun e => hd x h1 h3 e.symm) _, h.chg.setCell (p := ⟨(sg H j).blk, 6, none⟩) (fun _ => .inr ⟨j, hj, rfl⟩) _⟩
theorem Sw.start (h : Hp w p C v H) (hi : i < H.length) (hj : j < H.length) : Sw w p C v H i j (H.map ptr) i j w := ⟨h.row, h.main, h.slot i hi, h.slot j hj, fun x hx _ _ => h.slot x hx, Chg.refl _ w⟩
theorem Sw.end (h : Sw w p C v H i j ((swpL H i j).map ptr) j i wy) (hi : i < H.length) (hj : j < H.length) (hf : H.length ≤ 4096) : Hp wy p C v (swpL H i j) := by
  refine ⟨h.main, by rw [swpL_length]; exact h.row, fun x hx => ?_, by rw [swpL_length]; exact hf⟩
  rw [swpL_length] at hx
  rw [swpL_get hi hj]
  by_cases e1 : x = i
  · rw [if_pos e1, e1]; exact h.sj
  · rw [if_neg e1]
    by_cases e2 : x = j
    · rw [if_pos e2, e2]; exact h.si
    · rw [if_neg e2]; exact h.sx x hx e1 e2
end
theorem map_get (H : List Sl) {i : Nat} (hi : i < H.length) : (H.map ptr)[i]? = some (ptr (sg H i)) := by rw [List.getElem?_map, List.getElem?_eq_getElem hi, sg_eq hi]; rfl
set_option maxRecDepth 100000 in
theorem swap_any (h : Hp w p C v H) (i j : Nat) (hi : i < H.length) (hj : j < H.length) (hne : i ≠ j) : Calls Try.prog 67 #[v, .int .i64 i, .int .i64 j] w fun e w' => e = .returned (.tuple #[]) ∧ Hp w' p C v (swpL H i j) ∧ Chg (ft v H) w w' := by
  obtain ⟨g, cap, rfl⟩ := h.form (by omega)
  have hii : (i : Int) < (H.length : Int) := by omega
  have hjj : (j : Int) < (H.length : Int) := by omega
  have HS := Lib.hid (Sw.start h hi hj)
  have HIJ := Lib.hid (fun e => hne (h.inj hi hj e) : (sg H i).blk ≠ (sg H j).blk)
  have HDI := Lib.hid (fun x hx hne e => hne (h.inj hx hi e) : ∀ x, x < H.length → x ≠ i → (sg H x).blk ≠ (sg H i).blk)
  have HDJ := Lib.hid (fun x hx hne e => hne (h.inj hx hj e) : ∀ x, x < H.length → x ≠ j → (sg H x).blk ≠ (sg H j).blk)
  have HF := Lib.hid h.few
  have HI := Lib.hid hi
  have HJ := Lib.hid hj
  have HC1 := Lib.hid (fun (wy : World) (a b : Nat) (hs : Sw w p C (.slice (some ⟨g, 0, none⟩) H.length cap) H i j (H.map ptr) a b wy) => (hs.cellAt i hi).trans (map_get H hi))
  have HC2 := Lib.hid (fun (wy : World) (a b : Nat) (hs : Sw w p C (.slice (some ⟨g, 0, none⟩) H.length cap) H i j (H.map ptr) a b wy) => (hs.cellAt j hj).trans (map_get H hj))
  have hl := @swpL_length H i j
  have HC3 := Lib.hid (fun (wy : World) (a b : Nat) (hs : Sw w p C (.slice (some ⟨g, 0, none⟩) H.length cap) H i j ((swpL H i j).map ptr) a b wy) => ((hs.cellAt i hi).trans (map_get _ (by rw [hl]; exact hi))).trans (by rw [swpL_get hi hj, if_pos rfl] : some (ptr (sg (swpL H i j) i)) = some (ptr (sg H j))))
  have HC4 := Lib.hid (fun (wy : World) (a b : Nat) (hs : Sw w p C (.slice (some ⟨g, 0, none⟩) H.length cap) H i j ((swpL H i j).map ptr) a b wy) => ((hs.cellAt j hj).trans (map_get _ (by rw [hl]; exact hj))).trans (by rw [swpL_get hi hj, if_neg (Ne.symm hne), if_pos rfl] : some (ptr (sg (swpL H i j) j)) = some (ptr (sg H i))))
  have HX := Lib.hid (map_swp H hi hj)
  have hz : ∀ (wy : World) (X : List Value) (a b x : Nat), x < H.length → Sw w p C (.slice (some ⟨g, 0, none⟩) H.length cap) H i j X a b wy → wy.frozen? ⟨g, x, none⟩ = false ∧ ∃ u, wy.cell? ⟨g, x, none⟩ = some u := fun wy X a b x hx hs => ⟨hs.row.frozenAt x, X[x]'(by rw [hs.row.1]; omega), by rw [hs.cellAt x hx, List.getElem?_eq_getElem (by rw [hs.row.1]; omega)]⟩
  have HZ := Lib.hid hz
  clear hl h hne hi hj hz
  obtain ⟨Y0, hY0⟩ : ∃ X, X = H.map ptr := ⟨_, rfl⟩
  obtain ⟨Y1, hY1⟩ : ∃ X, X = Y0.set i (ptr (sg H j)) := ⟨_, rfl⟩
  obtain ⟨Y2, hY2⟩ : ∃ X, X = (swpL H i j).map ptr := ⟨_, rfl⟩
  have HY12 := Lib.hid (show Y1.set j (ptr (sg H i)) = Y2 by rw [hY1, hY2, hY0]; exact HX.out)
  have HY1 := Lib.hid hY1
  have HY2 := Lib.hid hY2
  have HY0 := Lib.hid hY0
  rw [← hY0] at HS HC1 HC2
  rw [← hY2] at HC3 HC4
  clear hY0 hY1 hY2 HX
  dsimp only [ptr] at HC1 HC2 HC3 HC4 HY1 HY12
  obtain ⟨b1, hb1⟩ : ∃ b, b = (sg H i).blk := ⟨_, rfl⟩
  obtain ⟨b2, hb2⟩ : ∃ b, b = (sg H j).blk := ⟨_, rfl⟩
  rw [← hb1] at HC1 HC4 HIJ HDI HY12
  rw [← hb2] at HC2 HC3 HIJ HDJ HY1
  have HB1 := Lib.hid hb1
  have HB2 := Lib.hid hb2
  clear hb1 hb2
  go_enter Try.func67, Try.ntmps67
  go_upto_region 0 with fail
  refine Reg.region_vals (by kernel_rfl) [(6, .slice (some ⟨g, 0, none⟩) H.length cap), (7, .int .i64 (i : Nat)), (8, .slice (some ⟨g, 0, none⟩) H.length cap), (9, .int .i64 (j : Nat)), (10, .slice (some ⟨g, 0, none⟩) H.length cap), (11, .int .i64 (j : Nat)), (12, .pointer (some ⟨g, j, none⟩)), (13, .pointer (some ⟨b2, 0, none⟩)), (14, .slice (some ⟨g, 0, none⟩) H.length cap), (15, .int .i64 (i : Nat)), (16, .pointer (some ⟨g, i, none⟩)), (17, .pointer (some ⟨b1, 0, none⟩)), (18, .pointer (some ⟨g, i, none⟩)), (19, .pointer (some ⟨g, j, none⟩))] (fun l wy => Sw w p C (.slice (some ⟨g, 0, none⟩) H.length cap) H i j (bif l 15 then Y2 else bif l 13 then Y1 else Y0) i j wy) (by kernel_rfl) (by kernel_rfl) (by kernel_rfl) (HS.out.drew) ⟨?_, ?_, ?_, ?_, ?_, ?_, ?_, ?_, ?_, ?_, ?_, ?_, ?_, ?_, ?_, ?_, trivial⟩ ?hend
  · -- 0: 6 := Op.move t0
    intro aq wq lq hI hl hdone hlater hold hd ho
    have h0 : aq.tmps.getD 0 undef = .slice (some ⟨g, 0, none⟩) H.length cap := ho 0 (by kernel_rfl)
    clear hd ho hdone hlater hold
    exact Reg.step2_move (.tmp 0) rfl h0 hI trivial
  · -- 1: 7 := Op.move t1
    intro aq wq lq hI hl hdone hlater hold hd ho
    have h1 : aq.tmps.getD 1 undef = .int .i64 (i : Nat) := ho 1 (by kernel_rfl)
    clear hd ho hdone hlater hold
    exact Reg.step2_move (.tmp 1) rfl h1 hI trivial
  · -- 2: 8 := Op.move t0
    intro aq wq lq hI hl hdone hlater hold hd ho
    have h0 : aq.tmps.getD 0 undef = .slice (some ⟨g, 0, none⟩) H.length cap := ho 0 (by kernel_rfl)
    clear hd ho hdone hlater hold
    exact Reg.step2_move (.tmp 0) rfl h0 hI trivial
  · -- 3: 9 := Op.move t2
    intro aq wq lq hI hl hdone hlater hold hd ho
    have h2 : aq.tmps.getD 2 undef = .int .i64 (j : Nat) := ho 2 (by kernel_rfl)
    clear hd ho hdone hlater hold
    exact Reg.step2_move (.tmp 2) rfl h2 hI trivial
  · -- 4: 10 := Op.move t0
    intro aq wq lq hI hl hdone hlater hold hd ho
    have h0 : aq.tmps.getD 0 undef = .slice (some ⟨g, 0, none⟩) H.length cap := ho 0 (by kernel_rfl)
    clear hd ho hdone hlater hold
    exact Reg.step2_move (.tmp 0) rfl h0 hI trivial
  · -- 5: 11 := Op.move t2
    intro aq wq lq hI hl hdone hlater hold hd ho
    have h2 : aq.tmps.getD 2 undef = .int .i64 (j : Nat) := ho 2 (by kernel_rfl)
    clear hd ho hdone hlater hold
    exact Reg.step2_move (.tmp 2) rfl h2 hI trivial
  · -- 6: 12 := Op.indexAddr 60 t10 t11
    intro aq wq lq hI hl hdone hlater hold hd ho
    have h10 : aq.tmps.getD 10 undef = .slice (some ⟨g, 0, none⟩) H.length cap := hd 10 (by kernel_rfl)
    have h11 : aq.tmps.getD 11 undef = .int .i64 (j : Nat) := hd 11 (by kernel_rfl)
    clear hd ho hdone hlater hold
    rw [Array.getD_eq_getD_getElem?] at h10 h11
    refine Reg.step2_val (.pointer (some ⟨g, j, none⟩)) ?_ rfl hI trivial
    go_simp
  · -- 7: 13 := Op.load 65 t12
    intro aq wq lq hI hl hdone hlater hold hd ho
    have h12 : aq.tmps.getD 12 undef = .pointer (some ⟨g, j, none⟩) := hd 12 (by kernel_rfl)
    have gl13 : lq 13 = false := hlater 13 (by kernel_rfl)
    have gl15 : lq 15 = false := hlater 15 (by kernel_rfl)
    clear hd ho hdone hlater hold
    rw [Array.getD_eq_getD_getElem?] at h12
    have hJ := hI
    rw [gl13, gl15] at hJ
    have e0 := HC2.out _ _ _ hJ
    refine Reg.step2_val (.pointer (some ⟨b2, 0, none⟩)) ?_ rfl hI trivial
    clear hI hJ
    go_simp
  · -- 8: 14 := Op.move t0
    intro aq wq lq hI hl hdone hlater hold hd ho
    have h0 : aq.tmps.getD 0 undef = .slice (some ⟨g, 0, none⟩) H.length cap := ho 0 (by kernel_rfl)
    clear hd ho hdone hlater hold
    exact Reg.step2_move (.tmp 0) rfl h0 hI trivial
  · -- 9: 15 := Op.move t1
    intro aq wq lq hI hl hdone hlater hold hd ho
    have h1 : aq.tmps.getD 1 undef = .int .i64 (i : Nat) := ho 1 (by kernel_rfl)
    clear hd ho hdone hlater hold
    exact Reg.step2_move (.tmp 1) rfl h1 hI trivial
  · -- 10: 16 := Op.indexAddr 60 t14 t15
    intro aq wq lq hI hl hdone hlater hold hd ho
    have h14 : aq.tmps.getD 14 undef = .slice (some ⟨g, 0, none⟩) H.length cap := hd 14 (by kernel_rfl)
    have h15 : aq.tmps.getD 15 undef = .int .i64 (i : Nat) := hd 15 (by kernel_rfl)
    clear hd ho hdone hlater hold
    rw [Array.getD_eq_getD_getElem?] at h14 h15
    refine Reg.step2_val (.pointer (some ⟨g, i, none⟩)) ?_ rfl hI trivial
    go_simp
  · -- 11: 17 := Op.load 65 t16
    intro aq wq lq hI hl hdone hlater hold hd ho
    have h16 : aq.tmps.getD 16 undef = .pointer (some ⟨g, i, none⟩) := hd 16 (by kernel_rfl)
    have gl13 : lq 13 = false := hlater 13 (by kernel_rfl)
    have gl15 : lq 15 = false := hlater 15 (by kernel_rfl)
    clear hd ho hdone hlater hold
    rw [Array.getD_eq_getD_getElem?] at h16
    have hJ := hI
    rw [gl13, gl15] at hJ
    have e0 := HC1.out _ _ _ hJ
    refine Reg.step2_val (.pointer (some ⟨b1, 0, none⟩)) ?_ rfl hI trivial
    clear hI hJ
    go_simp
  · -- 12: 18 := Op.indexAddr 60 t6 t7
    intro aq wq lq hI hl hdone hlater hold hd ho
    have h6 : aq.tmps.getD 6 undef = .slice (some ⟨g, 0, none⟩) H.length cap := hd 6 (by kernel_rfl)
    have h7 : aq.tmps.getD 7 undef = .int .i64 (i : Nat) := hd 7 (by kernel_rfl)
    clear hd ho hdone hlater hold
    rw [Array.getD_eq_getD_getElem?] at h6 h7
    refine Reg.step2_val (.pointer (some ⟨g, i, none⟩)) ?_ rfl hI trivial
    go_simp
  · -- 13: None := Op.store 65 t18 t13
    intro aq wq lq hI hl hdone hlater hold hd ho
    have h18 : aq.tmps.getD 18 undef = .pointer (some ⟨g, i, none⟩) := hd 18 (by kernel_rfl)
    have h13 : aq.tmps.getD 13 undef = .pointer (some ⟨b2, 0, none⟩) := hd 13 (by kernel_rfl)
    have gl15 : lq 15 = false := hlater 15 (by kernel_rfl)
    clear hd ho hdone hlater hold
    rw [Array.getD_eq_getD_getElem?] at h18 h13
    have hJ := hI
    clear hI
    rw [gl15, show lq 13 = false from hl] at hJ
    obtain ⟨f0, u0, e0⟩ := HZ.out _ _ _ _ i HI.out hJ
    refine Reg.step2_skip (wq.setCell ⟨g, i, none⟩ (.pointer (some ⟨b2, 0, none⟩))) rfl ?_ (by show Sw _ _ _ _ _ _ _ (bif lq 15 then _ else Y1) _ _ _; rw [gl15, HY1.out]; exact hJ.store i _) trivial
    clear hJ
    simp [execOp]
    go_simp
  · -- 14: 19 := Op.indexAddr 60 t8 t9
    intro aq wq lq hI hl hdone hlater hold hd ho
    have h8 : aq.tmps.getD 8 undef = .slice (some ⟨g, 0, none⟩) H.length cap := hd 8 (by kernel_rfl)
    have h9 : aq.tmps.getD 9 undef = .int .i64 (j : Nat) := hd 9 (by kernel_rfl)
    clear hd ho hdone hlater hold
    rw [Array.getD_eq_getD_getElem?] at h8 h9
    refine Reg.step2_val (.pointer (some ⟨g, j, none⟩)) ?_ rfl hI trivial
    go_simp
  · -- 15: None := Op.store 65 t19 t17
    intro aq wq lq hI hl hdone hlater hold hd ho
    have h19 : aq.tmps.getD 19 undef = .pointer (some ⟨g, j, none⟩) := hd 19 (by kernel_rfl)
    have h17 : aq.tmps.getD 17 undef = .pointer (some ⟨b1, 0, none⟩) := hd 17 (by kernel_rfl)
    have gd13 : lq 13 = true := hdone 13 (by kernel_rfl)
    clear hd ho hdone hlater hold
    rw [Array.getD_eq_getD_getElem?] at h19 h17
    have hJ := hI
    clear hI
    rw [gd13, show lq 15 = false from hl] at hJ
    obtain ⟨f0, u0, e0⟩ := HZ.out _ _ _ _ j HJ.out hJ
    refine Reg.step2_skip (wq.setCell ⟨g, j, none⟩ (.pointer (some ⟨b1, 0, none⟩))) rfl ?_ (by show Sw _ _ _ _ _ _ _ Y2 _ _ _; rw [← HY12.out]; exact hJ.store j _) trivial
    clear hJ
    simp [execOp]
    go_simp
  case hend =>
  intro wx hI
  simp only [Reg.fill, List.foldl_cons, List.foldl_nil, List.setIfInBounds_toArray, List.set_cons_zero, List.set_cons_succ]
  have HS2 := Lib.hid (show Sw w p C (.slice (some ⟨g, 0, none⟩) H.length cap) H i j Y2 i j wx from hI)
  clear hI
  go_upto_region 1 with fail
  refine Reg.region_vals (by kernel_rfl) [(20, .slice (some ⟨g, 0, none⟩) H.length cap), (21, .int .i64 (i : Nat)), (22, .pointer (some ⟨g, i, none⟩)), (23, .pointer (some ⟨b2, 0, none⟩)), (24, .slice (some ⟨g, 0, none⟩) H.length cap), (25, .int .i64 (j : Nat)), (26, .pointer (some ⟨g, j, none⟩)), (27, .pointer (some ⟨b1, 0, none⟩)), (28, .int .i64 (i : Nat)), (29, .int .i64 (j : Nat)), (30, .pointer (some ⟨b2, 0, none⟩)), (31, .pointer (some ⟨b2, 6, none⟩)), (32, .pointer (some ⟨b1, 0, none⟩)), (33, .pointer (some ⟨b1, 6, none⟩))] (fun l wy => Sw w p C (.slice (some ⟨g, 0, none⟩) H.length cap) H i j Y2 (bif l 15 then j else i) (bif l 12 then i else j) wy) (by kernel_rfl) (by kernel_rfl) (by kernel_rfl) (HS2.out.drew) ⟨?_, ?_, ?_, ?_, ?_, ?_, ?_, ?_, ?_, ?_, ?_, ?_, ?_, ?_, ?_, ?_, trivial⟩ ?hend
  · -- 0: 20 := Op.move t0
    intro aq wq lq hI hl hdone hlater hold hd ho
    have h0 : aq.tmps.getD 0 undef = .slice (some ⟨g, 0, none⟩) H.length cap := ho 0 (by kernel_rfl)
    clear hd ho hdone hlater hold
    exact Reg.step2_move (.tmp 0) rfl h0 hI trivial
  · -- 1: 21 := Op.move t1
    intro aq wq lq hI hl hdone hlater hold hd ho
    have h1 : aq.tmps.getD 1 undef = .int .i64 (i : Nat) := ho 1 (by kernel_rfl)
    clear hd ho hdone hlater hold
    exact Reg.step2_move (.tmp 1) rfl h1 hI trivial
  · -- 2: 22 := Op.indexAddr 60 t20 t21
    intro aq wq lq hI hl hdone hlater hold hd ho
    have h20 : aq.tmps.getD 20 undef = .slice (some ⟨g, 0, none⟩) H.length cap := hd 20 (by kernel_rfl)
    have h21 : aq.tmps.getD 21 undef = .int .i64 (i : Nat) := hd 21 (by kernel_rfl)
    clear hd ho hdone hlater hold
    rw [Array.getD_eq_getD_getElem?] at h20 h21
    refine Reg.step2_val (.pointer (some ⟨g, i, none⟩)) ?_ rfl hI trivial
    go_simp
  · -- 3: 23 := Op.load 65 t22
    intro aq wq lq hI hl hdone hlater hold hd ho
    have h22 : aq.tmps.getD 22 undef = .pointer (some ⟨g, i, none⟩) := hd 22 (by kernel_rfl)
    clear hd ho hdone hlater hold
    rw [Array.getD_eq_getD_getElem?] at h22
    have e0 := HC3.out _ _ _ hI
    refine Reg.step2_val (.pointer (some ⟨b2, 0, none⟩)) ?_ rfl hI trivial
    clear hI
    go_simp
  · -- 4: 24 := Op.move t0
    intro aq wq lq hI hl hdone hlater hold hd ho
    have h0 : aq.tmps.getD 0 undef = .slice (some ⟨g, 0, none⟩) H.length cap := ho 0 (by kernel_rfl)
    clear hd ho hdone hlater hold
    exact Reg.step2_move (.tmp 0) rfl h0 hI trivial
  · -- 5: 25 := Op.move t2
    intro aq wq lq hI hl hdone hlater hold hd ho
    have h2 : aq.tmps.getD 2 undef = .int .i64 (j : Nat) := ho 2 (by kernel_rfl)
    clear hd ho hdone hlater hold
    exact Reg.step2_move (.tmp 2) rfl h2 hI trivial
  · -- 6: 26 := Op.indexAddr 60 t24 t25
    intro aq wq lq hI hl hdone hlater hold hd ho
    have h24 : aq.tmps.getD 24 undef = .slice (some ⟨g, 0, none⟩) H.length cap := hd 24 (by kernel_rfl)
    have h25 : aq.tmps.getD 25 undef = .int .i64 (j : Nat) := hd 25 (by kernel_rfl)
    clear hd ho hdone hlater hold
    rw [Array.getD_eq_getD_getElem?] at h24 h25
    refine Reg.step2_val (.pointer (some ⟨g, j, none⟩)) ?_ rfl hI trivial
    go_simp
  · -- 7: 27 := Op.load 65 t26
    intro aq wq lq hI hl hdone hlater hold hd ho
    have h26 : aq.tmps.getD 26 undef = .pointer (some ⟨g, j, none⟩) := hd 26 (by kernel_rfl)
    clear hd ho hdone hlater hold
    rw [Array.getD_eq_getD_getElem?] at h26
    have e0 := HC4.out _ _ _ hI
    refine Reg.step2_val (.pointer (some ⟨b1, 0, none⟩)) ?_ rfl hI trivial
    clear hI
    go_simp
  · -- 8: 28 := Op.move t1
    intro aq wq lq hI hl hdone hlater hold hd ho
    have h1 : aq.tmps.getD 1 undef = .int .i64 (i : Nat) := ho 1 (by kernel_rfl)
    clear hd ho hdone hlater hold
    exact Reg.step2_move (.tmp 1) rfl h1 hI trivial
  · -- 9: 29 := Op.move t2
    intro aq wq lq hI hl hdone hlater hold hd ho
    have h2 : aq.tmps.getD 2 undef = .int .i64 (j : Nat) := ho 2 (by kernel_rfl)
    clear hd ho hdone hlater hold
    exact Reg.step2_move (.tmp 2) rfl h2 hI trivial
  · -- 10: 30 := Op.nilCheck t23
    intro aq wq lq hI hl hdone hlater hold hd ho
    have h23 : aq.tmps.getD 23 undef = .pointer (some ⟨b2, 0, none⟩) := hd 23 (by kernel_rfl)
    clear hd ho hdone hlater hold
    rw [Array.getD_eq_getD_getElem?] at h23
    refine Reg.step2_val (.pointer (some ⟨b2, 0, none⟩)) ?_ rfl hI trivial
    go_simp
  · -- 11: 31 := Op.fieldAddr 64 t30 4
    intro aq wq lq hI hl hdone hlater hold hd ho
    have h30 : aq.tmps.getD 30 undef = .pointer (some ⟨b2, 0, none⟩) := hd 30 (by kernel_rfl)
    clear hd ho hdone hlater hold
    rw [Array.getD_eq_getD_getElem?] at h30
    refine Reg.step2_val (.pointer (some ⟨b2, 6, none⟩)) ?_ rfl hI trivial
    go_simp
  · -- 12: None := Op.store 3 t31 t28
    intro aq wq lq hI hl hdone hlater hold hd ho
    have h31 : aq.tmps.getD 31 undef = .pointer (some ⟨b2, 6, none⟩) := hd 31 (by kernel_rfl)
    have h28 : aq.tmps.getD 28 undef = .int .i64 (i : Nat) := hd 28 (by kernel_rfl)
    clear hd ho hdone hlater hold
    rw [Array.getD_eq_getD_getElem?] at h31 h28
    have hJ := hI
    clear hI
    have f0 := hJ.sj.frozen 6
    have e0 := hJ.sj.cell 6
    rw [← HB2.out] at f0 e0
    simp only [sc, List.getElem?_cons_zero, List.getElem?_cons_succ] at e0
    refine Reg.step2_skip (wq.setCell ⟨b2, 6, none⟩ (.int .i64 (i : Nat))) rfl ?_ (by show Sw _ _ _ _ _ _ _ _ (bif lq 15 then j else i) i _; rw [HB2.out]; exact hJ.setj HJ.out (by rw [← HB1.out, ← HB2.out]; exact HIJ.out) (by rw [← HB2.out]; exact HDJ.out) i) trivial
    clear hJ
    simp [execOp]
    go_simp
  · -- 13: 32 := Op.nilCheck t27
    intro aq wq lq hI hl hdone hlater hold hd ho
    have h27 : aq.tmps.getD 27 undef = .pointer (some ⟨b1, 0, none⟩) := hd 27 (by kernel_rfl)
    clear hd ho hdone hlater hold
    rw [Array.getD_eq_getD_getElem?] at h27
    refine Reg.step2_val (.pointer (some ⟨b1, 0, none⟩)) ?_ rfl hI trivial
    go_simp
  · -- 14: 33 := Op.fieldAddr 64 t32 4
    intro aq wq lq hI hl hdone hlater hold hd ho
    have h32 : aq.tmps.getD 32 undef = .pointer (some ⟨b1, 0, none⟩) := hd 32 (by kernel_rfl)
    clear hd ho hdone hlater hold
    rw [Array.getD_eq_getD_getElem?] at h32
    refine Reg.step2_val (.pointer (some ⟨b1, 6, none⟩)) ?_ rfl hI trivial
    go_simp
  · -- 15: None := Op.store 3 t33 t29
    intro aq wq lq hI hl hdone hlater hold hd ho
    have h33 : aq.tmps.getD 33 undef = .pointer (some ⟨b1, 6, none⟩) := hd 33 (by kernel_rfl)
    have h29 : aq.tmps.getD 29 undef = .int .i64 (j : Nat) := hd 29 (by kernel_rfl)
    clear hd ho hdone hlater hold
    rw [Array.getD_eq_getD_getElem?] at h33 h29
    have hJ := hI
    clear hI
    have f0 := hJ.si.frozen 6
    have e0 := hJ.si.cell 6
    rw [← HB1.out] at f0 e0
    simp only [sc, List.getElem?_cons_zero, List.getElem?_cons_succ] at e0
    refine Reg.step2_skip (wq.setCell ⟨b1, 6, none⟩ (.int .i64 (j : Nat))) rfl ?_ (by show Sw _ _ _ _ _ _ _ _ j (bif lq 12 then i else j) _; rw [HB1.out]; exact hJ.seti HI.out (by rw [← HB1.out, ← HB2.out]; exact HIJ.out) (by rw [← HB1.out]; exact HDI.out) j) trivial
    clear hJ
    simp [execOp]
    go_simp
  case hend =>
  intro wz hI
  simp only [Reg.fill, List.foldl_cons, List.foldl_nil, List.setIfInBounds_toArray, List.set_cons_zero, List.set_cons_succ]
  have hE : Sw w p C (.slice (some ⟨g, 0, none⟩) H.length cap) H i j Y2 j i wz := hI
  clear hI
  go_wp2
  go_end0
  rw [HY2.out] at hE
  exact ⟨rfl, hE.end HI.out HJ.out HF.out, hE.chg⟩
end
end Go.Proofs.Ytbdiadbaapfdgaa.Ca
