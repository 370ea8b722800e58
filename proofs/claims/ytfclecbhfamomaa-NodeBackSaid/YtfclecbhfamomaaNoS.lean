/- '[]byte(s)' and appends of texts to it: the conversion's row has a mark behind its cells, so it is no row of one's own in the library's sense. -/
import Derived.Lib.ConvBytes
import Derived.Lib.FrozenHead
import Derived.Test.YtfclecbhfamomaaLendW
import Derived.Test.YtfclecbhfamomaaUps
import Derived.Test.YtfclecbhfamomaaNoA
import Derived.Test.YtfclecbhfamomaaNoC
namespace Go.Proofs.Ytfclecbhfamomaa
open Go Go.RowKit Go.Proofs.Ytfclecbhfamomaa.Lend
set_option linter.unusedVariables false

/-- a row of bytes of one's own, with no mark on its cells -/
def Far (w : World) (B : Nat) (v : Value) (xs : List UInt8) : Prop :=
  ∃ g cap cur fz, v = .slice (some ⟨g, 0, none⟩) xs.length cap ∧ B ≤ g ∧ w.heap[g]? = some (.cells cur 5 fz) ∧ (∀ j, j < cur.size → ¬ (fz.1 ≤ j ∧ j < fz.2)) ∧ xs.length ≤ cap ∧ cap ≤ maxLen ∧ cur.size = cap ∧ cur.toList.take xs.length = xs.map Lend.u8V
theorem Far.lt {w : World} {B : Nat} {v : Value} {xs : List UInt8} (h : Far w B v xs) : ∀ k, v.ownBlock = some k → B ≤ k ∧ k < w.heap.size := by
  obtain ⟨g, cap, cur, fz, rfl, hb, hg, _⟩ := h
  intro k hk
  simp [Value.ownBlock] at hk
  subst hk
  exact ⟨hb, (Array.getElem?_eq_some_iff.1 hg).1⟩
theorem Far.bel {w w' : World} {B : Nat} {v : Value} {xs : List UInt8} (h : Far w B v xs) (hb : Below w.heap.size w w') : Far w' B v xs := by
  obtain ⟨g, cap, cur, fz, rfl, hB, hg, r⟩ := h
  exact ⟨g, cap, cur, fz, rfl, hB, (hb.block g (Array.getElem?_eq_some_iff.1 hg).1).trans hg, r⟩
theorem Far.cells {w : World} {B g cap : Nat} {xs : List UInt8} (h : Far w B (.slice (some ⟨g, 0, none⟩) xs.length cap) xs) : ∀ j u, (xs.map Lend.u8V)[j]? = some u → w.cell? ((⟨g, 0, none⟩ : Addr).add j) = some u := by
  obtain ⟨g', cap', cur, fz, hv, _, hg, _, _, _, _, ht⟩ := h
  simp only [Value.slice.injEq, Option.some.injEq, Addr.mk.injEq, and_true, true_and] at hv
  obtain ⟨rfl, rfl⟩ := hv
  intro j u hu
  rw [Addr.add_lit, Nat.zero_add]
  rw [← ht, List.getElem?_take] at hu
  split at hu
  · simp only [World.cell?, hg]
    simpa using hu
  · cases hu
theorem far_new (w : World) (s : List UInt8) (B : Nat) (hB : B ≤ w.heap.size) (hs : s.length ≤ 1000000) : Far (Lib.bytesWorld w 5 (Lend.strOf s)) B (.slice (some ⟨w.heap.size, 0, none⟩) s.length (grownCap w s.length 0 5)) s := by
  have hge := grownCap_ge w s.length 0 5
  have hle := grownCap_le_maxLen w s.length 0 5 (by unfold maxLen; omega)
  have hz : (Lend.strOf s).size = s.length := rfl
  have hcs : (Lib.bytesCells w 5 (Lend.strOf s)).size = grownCap w s.length 0 5 := by
    simp only [Lib.bytesCells, Array.size_append, Array.size_map, Array.size_replicate, hz]
    show s.toArray.size + _ = _
    simp; omega
  refine ⟨_, _, _, _, rfl, hB, Lib.bytesWorld_at_new w 5 (Lend.strOf s), fun j hj h => by simp only at h; omega, hge, hle, hcs, ?_⟩
  simp only [Lib.bytesCells, Array.toList_append, Array.toList_map]
  rw [List.take_append_of_le_length (by simp [Lend.strOf])]
  simp [Lend.strOf]
  rw [List.take_of_length_le (by simp)]
  rfl
theorem run_store_far (P : Program) (g o : Nat) (t : TypeId) (fz : Nat × Nat) : ∀ (vs : List Value) (i : Nat) (cur : Array Value) (w : World), w.heap[g]? = some (.cells cur t fz) → (∀ j, j < cur.size → ¬ (fz.1 ≤ j ∧ j < fz.2)) → o + i + vs.length ≤ cur.size → (∀ v ∈ vs, v.oneCell' = true) →
    (storeCells ⟨g, o, none⟩ vs i).run P w = .ok () (w.setRow g (cur.toList.take (o + i) ++ vs ++ cur.toList.drop (o + i + vs.length)).toArray)
  | [], i, cur, w, hg, _, _, _ => by
    have e := setRow_self w g cur t fz hg
    simp [storeCells, e]
  | v :: vs, i, cur, w, hg, hz, hl, h1 => by
    rw [List.length_cons] at hl
    have ha : (⟨g, o, none⟩ : Addr).add i = ⟨g, o + i, none⟩ := Addr.add_lit _ _ _
    have hf : w.frozen? ⟨g, o + i, none⟩ = false := by
      have := hz (o + i) (by omega)
      simp only [World.frozen?, hg]
      cases fz
      simpa using this
    have hc : w.cell? ⟨g, o + i, none⟩ = some (cur[o + i]'(by omega)) := by
      simp only [World.cell?, hg]
      exact Array.getElem?_eq_getElem (by omega)
    have hs : (store ((⟨g, o, none⟩ : Addr).add i) v).run P w = .ok () (w.setRow g (cur.setIfInBounds (o + i) v)) := by
      rw [ha, run_store P w _ v _ (h1 v (List.mem_cons_self ..)), hc]
      simp [hf, setCell_eq_setRow w g (o + i) cur t fz v hg]
    have ih := run_store_far P g o t fz vs (i + 1) (cur.setIfInBounds (o + i) v) (w.setRow g (cur.setIfInBounds (o + i) v)) (setRow_heap w g cur _ t _ hg) (fun j hj => hz j (by simpa using hj)) (by simp; omega) (fun x hx => h1 x (List.mem_cons_of_mem _ hx))
    have e := list_seg_step cur.toList (o + i) v vs (by simp; omega)
    simp only [storeCells, Sem.run_bind, hs, Result.andThen_ok, ih, setRow_setRow]
    congr 3
    rw [Array.toList_setIfInBounds]
    simpa [Nat.add_assoc] using e
theorem strCells_own (s : List UInt8) : Lib.strCells (Lend.strOf s) = s.map Lend.u8V := by
  unfold Lib.strCells
  simp [Lend.strOf, Lend.u8V]
theorem far_append (ty : TypeId) {w : World} {B : Nat} {v : Value} {xs : List UInt8} (h : Far w B v xs) (s : List UInt8) (hB : B ≤ w.heap.size) (hn : xs.length + s.length ≤ 1000000) :
    ∃ v' w', (Builtin.append_ #[54, 9] ty #[v, .string (Lend.strOf s)]).run Try.prog w = .ok v' w' ∧ Far w' B v' (xs ++ s) ∧ w.grownBy w' v.ownBlock := by
  obtain ⟨i0, hi, hz0, hz1, hz2⟩ := info_parts info_u8
  have hcell := h
  obtain ⟨g, cap, cur, fz, rfl, hb, hg, hz, hnc, hcm, hcs, ht⟩ := h
  have hsz : (Lend.strOf s).size = s.length := rfl
  by_cases hroom : xs.length + s.length ≤ cap
  · have hst := run_store_far Try.prog g xs.length 5 fz (s.map Lend.u8V) 0 cur w hg hz (by simp; omega) (by rw [← strCells_own]; exact Lib.strCells_oneCell _)
    have hf := Lib.run_firstCells_string (P := Try.prog) w 1 (Lend.strOf s)
    simp only [Nat.add_zero, List.length_map] at hst
    have hr : (Builtin.append_ #[54, 9] ty #[.slice (some ⟨g, 0, none⟩) xs.length cap, .string (Lend.strOf s)]).run Try.prog w = .ok (.slice (some ⟨g, 0, none⟩) (xs.length + s.length) cap) (w.setRow g (cur.toList.take xs.length ++ s.map Lend.u8V ++ cur.toList.drop (xs.length + s.length)).toArray) := by
      rw [strCells_own, hsz] at hf
      simp [Builtin.append_, run_underlying Try.underlying54, run_underlying Try.underlying9, sizeOf, typeInfo, hi, hz1, Builtin.lenOf, hsz, hroom, hf, Addr.add_lit, hst]
    refine ⟨_, _, hr, ⟨g, cap, _, fz, by rw [List.length_append], hb, setRow_heap w g cur _ _ _ hg, ?_, by rw [List.length_append]; exact hroom, hcm, ?_, ?_⟩, rfl, rfl, rfl, by simp, fun k _ hk => setRow_other w g k _ (fun e => hk (by simp [Value.ownBlock, e]))⟩
    · intro j hj
      refine hz j ?_
      simp at hj
      omega
    · simp; omega
    · rw [ht, List.length_append, List.map_append]
      show List.take _ (List.map Lend.u8V xs ++ List.map Lend.u8V s ++ _) = _
      rw [List.take_append_of_le_length (by simp)]
      exact List.take_of_length_le (by simp)
  · have hr := Lib.run_append_grow_string (P := Try.prog) w 54 9 ty 5 i0 (.int .u8 0) Try.underlying54 Try.underlying9 hi hz0 ⟨g, 0, none⟩ xs.length cap (xs.map Lend.u8V) (by rw [hz1]; simp) (Far.cells hcell) (Lend.strOf s) (by omega) (by omega) (by rw [hz2]; exact growslice_fits (by omega) (by omega))
    have hge := grownCap_ge w (xs.length + (Lend.strOf s).size) cap 5
    have hcm2 := grownCap_le_maxLen w (xs.length + (Lend.strOf s).size) cap 5 (by unfold maxLen; omega)
    rw [strCells_own, hsz] at hr
    rw [hsz] at hge hcm2
    refine ⟨_, _, hr, ⟨w.heap.size, _, _, (0, 0), by rw [List.length_append], hB, heap_alloc_new w.drew _, fun j _ h => by simp at h, by rw [List.length_append]; exact hge, hcm2, ?_, ?_⟩, rfl, rfl, rfl, by simp, fun k hk _ => Below.heap_alloc w.drew _ k hk⟩
    · have hz1 : (Value.int IntKind.u8 0).cells.size = 1 := rfl
      simp only [Array.size_append, List.size_toArray, size_zeroCells, hz1, List.length_map]
      omega
    · simp only [Array.toList_append, List.append_assoc]
      rw [← List.append_assoc, List.map_append, List.length_append]
      rw [List.take_append_of_le_length (by simp)]
      exact List.take_of_length_le (by simp)
theorem wpList_far {ops : Array Oper} {rest : List Oper} {o : Oper} {a : Act} {w : World} {Q : Exit → Act → World → Prop} (hgd : o.guard = none) (sl x : Operand)
    (ho : o.op = .call { callee := .builtin .append, args := #[sl, x], argTypes := #[54, 9] })
    {B : Nat} {v : Value} {xs : List UInt8} (hs : a.eval sl = v) (hown : Far w B v xs) (s : List UInt8) (hx : a.eval x = .string (Lend.strOf s)) (hB : B ≤ w.heap.size) (hn : xs.length + s.length ≤ 1000000)
    (h : ∀ v' w', Far w' B v' (xs ++ s) → w.grownBy w' v.ownBlock → wpList Try.prog ops Q rest (a.put o.dst v') w') : wpList Try.prog ops Q (o :: rest) a w := by
  refine wpList_plain hgd fun _ hK => ?_
  obtain ⟨v', w', hr, h2, h3⟩ := far_append o.type hown s hB hn
  unfold Oper.wp execOp
  simp only [ho, resolve, invoke, builtin, Sem.run_bind, Sem.run_pure, Result.andThen_ok, List.map_toArray, List.map_cons, List.map_nil, hs, hx, hr]
  exact hK _ _ (h v' w' h2 h3)
theorem far_string {w : World} {B : Nat} {v : Value} {xs : List UInt8} (h : Far w B v xs) : (convert 54 9 v).run Try.prog w = .ok (.string (Lend.strOf xs)) w := by
  have hcell := h
  obtain ⟨g, cap, cur, fz, rfl, hb, hg, hz, hnc, hcm, hcs, ht⟩ := h
  rw [run_convert_bytes_string w _ _ _ _ _ _ Try.underlying54 Try.underlying5 Try.underlying9]
  have hc := run_loadCells_list (P := Try.prog) (w := w) ⟨g, 0, none⟩ (xs.map Lend.u8V) (Far.cells hcell)
  rw [List.length_map] at hc
  have e : xs.map Lend.u8V = (xs.map fun b => (b.toNat : Int)).map (Value.int .u8) := by simp [Lend.u8V]
  rw [e] at hc
  rw [run_bytesToString w _ _ _ _ hc, Lend.foldl_push]
  have ef : ((fun n : Int => UInt8.ofNat n.toNat) ∘ fun b : UInt8 => (b.toNat : Int)) = id := by funext b; simp
  simp [Lend.strOf, ByteArray.empty, ByteArray.emptyWithCapacity, ef]
  rfl
end Go.Proofs.Ytfclecbhfamomaa
/- Layer 17 (node): Text. -/
namespace Go.Proofs.Ytfclecbhfamomaa.Node
open Go Go.RowKit Go.Proofs.Ytfclecbhfamomaa Go.Proofs.Ytfclecbhfamomaa.Lend Go.Proofs.Ytfclecbhfamomaa.Rec Go.Proofs.Ytfclecbhfamomaa.Msg Go.Proofs.Ytfclecbhfamomaa.Buf
set_option linter.unusedVariables false

theorem one_fits {n : Nat} (h : n ≤ 255) : wrB [1] [(n : Int)] = true ∧ wrS [1] [(n : Int)] = Lend.strOf [UInt8.ofNat n] := by
  have hf : fitsL [1] [(n : Int)] = true := by
    simp [fitsL, fitsB]
    omega
  have hb : wrB [1] [(n : Int)] = true := by unfold wrB; rw [hf]; rfl
  refine ⟨hb, ?_⟩
  unfold wrS
  rw [if_pos hb]
  simp [encL, encN, byteAt]
  rw [show ((n : Int) % 256).toNat = n by omega]
theorem cwb_any (w : World) : Calls Try.prog 25 #[] w fun e w' => ∃ b, e = .returned (.slice (some ⟨b, 0, none⟩) 1 1) ∧ Row .i64 w' (some ⟨b, 0, none⟩) 1 [1] ∧ Below w.heap.size w w' :=
  (cw_any w).mono fun e w' h => by
    obtain ⟨h1, h2⟩ := h
    subst h2
    exact ⟨_, h1, row_one .i64 w 1 _, below_new _ _⟩
theorem row_oneAt (kd : IntKind) (w : World) (a : Int) (e : TypeId) (n : Nat) (h : n = w.heap.size) : Row kd (w.alloc (.cells #[.int kd a] e)) (some ⟨n, 0, none⟩) 1 [a] := by subst h; exact row_one kd w a e
set_option maxRecDepth 100000 in
set_option maxHeartbeats 8000000 in
theorem text_any {w : World} {kv bv : Value} {cs : List Ch} {us : List Up} (h : CR w kv cs) (hu : UR w bv us) (hwc : ∀ c ∈ cs, WfC c) (hwf : ∀ u ∈ us, WfU u) (hr : risB us = true) :
    Calls Try.prog 9 #[.agg #[kv, bv]] w fun e w' => e = .returned (.tuple #[.string (Lend.strOf (ttN cs us)), .int .i64 (teN cs us)]) ∧ Below w.heap.size w w' := by
  obtain ⟨a, cap, rfl⟩ := h.slice
  obtain ⟨b, cbp, rfl⟩ := hu.slice
  obtain ⟨w1, hw1⟩ : ∃ x, x = w.alloc (.cells #[.slice a cs.length cap, .slice b us.length cbp] 31) := ⟨_, rfl⟩
  have HX := Lib.hid (show Has w1 w.heap.size 31 [.slice a cs.length cap, .slice b us.length cbp] by rw [hw1]; exact Has.new w _ _)
  have HB := Lib.hid (show Below w.heap.size w w1 by rw [hw1]; exact below_new w _)
  have HC := Lib.hid (h.below HB.out)
  have HU := Lib.hid (hu.below HB.out)
  have HRI := Lib.hid (right_any HC.out HU.out hwc hwf hr)
  have HWC := Lib.hid hwc
  have HWF := Lib.hid hwf
  have HNP := Lib.hid (fun h => nod_parts (cs := cs) (us := us) h)
  have HE : Hid (nodB cs us = false → ttN cs us = [] ∧ teN cs us = 2) := Lib.hid fun h => by unfold ttN teN; rw [h]; exact ⟨rfl, rfl⟩
  have HY : Hid (nodB cs us = true → ttN cs us = txN cs us ∧ teN cs us = 0) := Lib.hid fun h => by unfold ttN teN; rw [h]; exact ⟨rfl, rfl⟩
  obtain ⟨n, hn⟩ : ∃ n, n = cs.length := ⟨_, rfl⟩
  obtain ⟨m, hm⟩ : ∃ m, m = us.length := ⟨_, rfl⟩
  have HN := Lib.hid hn
  have HM := Lib.hid hm
  rw [← hn] at hw1 HX HC HRI
  rw [← hm] at hw1 HX HU HRI
  rw [← hn, ← hm]
  have x0 : w1.cell? ⟨w.heap.size, 0, none⟩ = some (.slice a n cap) := HX.out.cell 0
  have x1 : w1.cell? ⟨w.heap.size, 1, none⟩ = some (.slice b m cbp) := HX.out.cell 1
  clear h hu hwf hwc hn hm hr
  go_enter Try.func9, Try.ntmps9
  go_upto_region 1 with fail
  rw [← hw1]
  clear hw1
  go_wp2_with fail
  refine HRI.out.mono ?_
  clear HRI x0 x1
  rintro e w2 ⟨rfl, hb2⟩
  have HX2 := Lib.hid (HX.out.below hb2 HX.out.lt)
  have HB2 := Lib.hid (below_on HB.out hb2)
  have HC2 := Lib.hid (HC.out.below hb2)
  have HU2 := Lib.hid (HU.out.below hb2)
  clear hb2
  cases hN : nodB cs us with
  | false =>
    have HR := Lib.hid (HE.out hN)
    clear hN
    go_wp2_with fail
    go_ret2
    exact ⟨ret_te (by rw [HR.out.1]; rfl) (by rw [HR.out.2]), HB2.out⟩
  | true =>
    have HR := Lib.hid (HY.out hN)
    have HP := Lib.hid (HNP.out hN)
    have hn16 : n ≤ 16 := by have := ((kidB_iff cs).1 HP.out.1).1; have := HN.out; omega
    have HKA := Lib.hid (fun j (hj : j < cs.length) => kid_at HP.out.1 hj)
    have x0 : w2.cell? ⟨w.heap.size, 0, none⟩ = some (.slice a n cap) := HX2.out.cell 0
    have HWR := Lib.hid (one_fits (n := n) (by omega))
    have hwn : IntKind.u64.wrap (n : Int) = n := by rw [wrap_u64]; omega
    have HNN : Hid (∀ x ∈ [(n : Int)], 0 ≤ x ∧ x < 18446744073709551616) := Lib.hid fun x hx => by rw [List.mem_singleton.1 hx]; omega
    clear hN
    go_wp2_with fail
    go_upto_region 3 with fail
    obtain ⟨D, hD⟩ : ∃ D, D = Lend.strOf [UInt8.ofNat n] := ⟨_, rfl⟩
    rw [← hD] at HWR
    have HD := Lib.hid hD
    clear hD
    go_cut [4] (fun s wx => s = .string D ∧ Below w2.heap.size w2 wx)
    case first =>
      go_region_held3 (fun W => W.cell? ⟨w.heap.size, 0, none⟩ = some (.slice a n cap))
        (first
          | with_reducible exact keep1 (by assumption) (by assumption)
          | with_reducible exact keep1 (by assumption) (below_new _ _)
          | go_keep)
        (first
          | (go_at_call 25; refine (cwb_any _).mono ?_; rintro e wm ⟨bm, rfl, hrow, hbel⟩)
          | (go_at_call 24
             refine (write_any _ _ 1 1 1 1 [1] [(n : Int)] _ ?_ ?_ (by decide) (by decide) HNN.out).mono ?_
             · repeat (first | assumption | apply Row.drw | apply Row.new | refine Row.later ?_ (by assumption))
             · repeat (first | (refine row_oneAt _ _ _ _ _ ?_; first | rfl | (simp; done)) | apply Row.drw | apply Row.new | refine Row.later ?_ (by assumption))
             rintro e wo ⟨rfl, hbel2⟩
             rw [HWR.out.1, HWR.out.2]))
      all_goals (go_wp2_with fail; go_meet; exact ⟨rfl, by repeat (first | exact Below.refl _ _ | apply below_nw | apply below_dr | refine below_on ?_ (by assumption))⟩)
    case rest =>
      obtain ⟨rfl, hbc⟩ := hcut
      rename World => w3
      rw [HD.out]
      have HX3 := Lib.hid (HX2.out.below hbc HX2.out.lt)
      have HB3 := Lib.hid (below_on HB2.out hbc)
      have HC3 := Lib.hid (HC2.out.below hbc)
      have HU3 := Lib.hid (HU2.out.below hbc)
      have hcv := Lib.run_convert_string_bytes (P := Try.prog) w3 9 54 5 (Lend.strOf [UInt8.ofNat n]) Try.underlying9 Try.underlying54 Try.underlying5
      have hfar := far_new w3 [UInt8.ofNat n] w3.heap.size (Nat.le_refl _) (by simp)
      have hbw : Below w3.heap.size w3 (Lib.bytesWorld w3 5 (Lend.strOf [UInt8.ofNat n])) := ⟨rfl, rfl, rfl, by rw [Lib.bytesWorld_size]; omega, fun k hk => Lib.bytesWorld_at_old w3 _ _ k hk⟩
      have e1 : (Lend.strOf [UInt8.ofNat n]).size = [UInt8.ofNat n].length := rfl
      rw [e1] at hcv
      obtain ⟨w4, hw4⟩ : ∃ z, z = Lib.bytesWorld w3 5 (Lend.strOf [UInt8.ofNat n]) := ⟨_, rfl⟩
      rw [← hw4] at hcv hfar hbw
      obtain ⟨cp, hcp⟩ : ∃ z, z = grownCap w3 [UInt8.ofNat n].length 0 5 := ⟨_, rfl⟩
      rw [← hcp] at hcv hfar
      have HF := Lib.hid hfar
      have HX4 := Lib.hid (HX3.out.below hbw HX3.out.lt)
      have HB4 := Lib.hid (below_on HB3.out hbw)
      have HC4 := Lib.hid (HC3.out.below hbw)
      have HU4 := Lib.hid (HU3.out.below hbw)
      have HLE := Lib.hid hbw
      have y0 : w4.cell? ⟨w.heap.size, 0, none⟩ = some (.slice a n cap) := HX4.out.cell 0
      clear hw4 hcp hfar hbw hbc e1 x0
      go_wp2_with fail
      clear hcv y0
      go_loopw [6, 29] (fun v i wr => ∃ j : Nat, j ≤ n ∧ i = .int .i64 j ∧ Far wr w3.heap.size v (UInt8.ofNat n :: txK (cs.take j)) ∧ Below w3.heap.size w3 wr) (fun _ i _ => n - (intOf i).toNat)
      case atStart => exact ⟨0, Nat.zero_le _, rfl, HF.out, HLE.out⟩
      case round =>
        obtain ⟨j, hj, rfl, hfar, hb⟩ := hrel
        rename World => wr
        have HBR := Lib.hid hb
        have HF := Lib.hid hfar
        clear hfar hb
        by_cases hlt : j < n
        · have hji : (j : Int) < (n : Int) := by omega
          have hj0 : 0 ≤ (j : Int) := by omega
          have hjl : j < cs.length := by rw [← HN.out]; exact hlt
          obtain ⟨g, off, rfl, c0, c1, c2, c3⟩ := cr_cells (HC3.out.below HBR.out) j hjl
          have hka := HKA.out j hjl
          have hwc := HWC.out _ (List.getElem_mem hjl)
          have HTK := Lib.hid (txK_take hjl)
          have htl := txK_len (l := cs.take (j + 1)) (fun c hc => by
            obtain ⟨i, hi, rfl⟩ := List.mem_iff_getElem.1 (List.mem_of_mem_take hc)
            exact (HKA.out i hi).2.2)
          have htn : (cs.take (j + 1)).length ≤ 16 := by rw [List.length_take]; omega
          obtain ⟨x, hx⟩ : ∃ x, x = cs[j] := ⟨_, rfl⟩
          rw [← hx] at c0 c1 c2 c3 hka hwc HTK
          obtain ⟨w5, hw5⟩ : ∃ z, z = wr.alloc (.cells #[.string (Lend.strOf x.low), .int .i64 x.addr, .int .u64 x.gen, .int .u32 x.sum] 76) := ⟨_, rfl⟩
          have hb5 : Below wr.heap.size wr w5 := by rw [hw5]; exact below_new _ _
          have HX5 := Lib.hid (show Has w5 wr.heap.size 76 (encC x) by rw [hw5]; exact Has.new wr _ _)
          have HB5 := Lib.hid (below_on HBR.out hb5)
          have HF5 := Lib.hid (HF.out.bel hb5)
          have HCT := Lib.hid (ctext_any w5 hwc (by omega) (by simp [Env.adB]; omega))
          have y0 : w5.cell? ⟨wr.heap.size, 0, none⟩ = some (.string (Lend.strOf x.low)) := HX5.out.cell 0
          have y1 : w5.cell? ⟨wr.heap.size, 1, none⟩ = some (.int .i64 x.addr) := HX5.out.cell 1
          have y2 : w5.cell? ⟨wr.heap.size, 2, none⟩ = some (.int .u64 x.gen) := HX5.out.cell 2
          have y3 : w5.cell? ⟨wr.heap.size, 3, none⟩ = some (.int .u32 x.sum) := HX5.out.cell 3
          have HSZ := Lib.hid (show (UInt8.ofNat n :: txK (cs.take j)).length + (txC x).length ≤ 1000000 by
            have := htl
            rw [HTK.out, List.length_append] at this
            rw [List.length_cons]
            omega)
          clear hx hb5 hka hwc htl htn
          go_upto_region 8 with fail
          rw [← hw5]
          clear hw5 c0 c1 c2 c3
          go_wp2_with fail
          refine HCT.out.mono ?_
          clear HCT y0 y1 y2 y3
          rintro e w6 ⟨rfl, hb6⟩
          have HB6 := Lib.hid (below_on HB5.out hb6)
          have HF6 := Lib.hid (HF5.out.bel hb6)
          clear hb6
          go_wp2_with (at_builtin; refine wpList_far rfl _ _ rfl rfl HF6.out (txC x) rfl ?c3 HSZ.out ?_)
          case c3 => exact HB6.out.size
          intro v7 w7 hf7 hg7
          have HB7 := Lib.hid (HB6.out.grown hg7 HB6.out.size (fun q hq => (HF.out.lt q hq).1))
          have HF7 := Lib.hid (show Far w7 w3.heap.size v7 (UInt8.ofNat n :: txK (cs.take (j + 1))) by rw [HTK.out]; exact hf7)
          clear hf7 hg7
          go_wp2_with fail
          go_roundw
          case rel => exact ⟨j + 1, by omega, by go_num, HF7.out, HB7.out⟩
          case measure => simp [intOf]; omega
        · obtain rfl : j = n := by omega
          have hji : ¬ ((j : Int) < (j : Int)) := by omega
          have y1 : wr.cell? ⟨w.heap.size, 1, none⟩ = some (.slice b m cbp) := keep1 (HX3.out.cell 1) HBR.out
          have HT := Lib.hid (btext_any (HU3.out.below HBR.out) (by have := HM.out; have := HP.out.2.1; omega) HWF.out)
          have htk : cs.take j = cs := List.take_of_length_le (by have := HN.out; omega)
          have htl := txK_len (l := cs) (fun c hc => by
            obtain ⟨i, hi, rfl⟩ := List.mem_iff_getElem.1 hc
            exact (HKA.out i hi).2.2)
          have hfr := HF.out
          rw [htk] at hfr
          have HFR := Lib.hid hfr
          have ht : txT us = txL us := by unfold txT; rw [if_pos HP.out.2.2.1]
          rw [ht, HP.out.2.2.1] at HT
          have hln : (Lend.strOf (UInt8.ofNat j :: txK cs)).size ≤ 4000 := by rw [ssize, List.length_cons]; have := HN.out; omega
          have htz : (Lend.strOf (txL us)).size ≤ 4000 := by rw [ssize]; have := txb_le us HP.out.2.2.1; have := HP.out.2.1; omega
          have HFN := Lib.hid (show Lend.strOf (UInt8.ofNat j :: txK cs) ++ Lend.strOf (txL us) = Lend.strOf (txN cs us) by
            rw [sapp]
            unfold txN
            rw [← HN.out]; rfl)
          obtain ⟨T, hT⟩ : ∃ z, z = Lend.strOf (UInt8.ofNat j :: txK cs) := ⟨_, rfl⟩
          obtain ⟨U, hU⟩ : ∃ z, z = Lend.strOf (txL us) := ⟨_, rfl⟩
          have HTE := Lib.hid hT
          rw [← hT] at hln HFN
          rw [← hU] at htz HFN HT
          have hz1 : ¬ 9223372036854775807 < T.size + U.size := by omega
          clear hT hU htz hln htk hfr ht htl
          go_wp2_with fail
          refine HT.out.mono ?_
          clear HT y1
          rintro e w5 ⟨rfl, hb5⟩
          have HB5 := Lib.hid (below_on (below_on HB3.out HBR.out) hb5)
          have hcv := far_string (HFR.out.bel hb5)
          rw [← HTE.out] at hcv
          clear hb5
          go_wp2_with fail
          go_ret2
          exact ⟨ret_te (by rw [HR.out.1, ← HFN.out]) (by rw [HR.out.2]), HB5.out⟩
end Go.Proofs.Ytfclecbhfamomaa.Node
