/- Layer 15 (buf): append of rows of updates; slices.Clone, slices.Grow, slices.Concat. -/
import Derived.Test.YtfclecbhfamomaaBufMath
import Derived.Test.YtfclecbhfamomaaAppF
import Derived.Test.YtfclecbhfamomaaRecE
import Derived.Lib.AppendZerosOnto
import Derived.Lib.SliceRun
namespace Go.Proofs.Ytfclecbhfamomaa.Buf
open Go Go.RowKit Go.Proofs.Ytfclecbhfamomaa Go.Proofs.Ytfclecbhfamomaa.Lend Go.Proofs.Ytfclecbhfamomaa.Rec Go.Proofs.Ytfclecbhfamomaa.Msg
set_option linter.unusedVariables false

/-- a row of updates of one's own, of either type -/
abbrev RO (T : TypeId) (w : World) (base : Nat) (v : Value) (l : List Up) : Prop := w.ownsRow base T 4 v l.length (flatU l)
def IsU (T : TypeId) : Prop := (Try.prog.info? T).map (fun i => (i.zero, i.size, i.bytes)) = some (some (.agg #[.int .u8 0, .string ⟨#[]⟩, .string ⟨#[]⟩, .int .u64 0]), 4, 48)
theorem ur_news {w : World} {g off m c : Nat} {l : List Up} (h : UR w (.slice (some ⟨g, off, none⟩) m c) l) : ∀ j u, (flatU l)[j]? = some u → w.cell? ((⟨g, off, none⟩ : Addr).add j) = some u := by
  intro j u hj
  rw [Addr.add_lit]
  have hl := (List.getElem?_eq_some_iff.1 hj).1
  rw [flatU_length] at hl
  have h0 : 0 < l.length := by omega
  obtain ⟨g', off', he, hc⟩ := UR.at_ h h0
  simp only [Option.some.injEq, Addr.mk.injEq, and_true] at he
  obtain ⟨rfl, rfl⟩ := he
  have hi : j / 4 < l.length := by omega
  have := hc (j / 4) hi (j % 4) (by omega)
  rw [← flatU_get l (j / 4) hi (j % 4) (by omega), show j / 4 * 4 + j % 4 = j by omega, hj] at this
  rw [← this]
  congr 2
  omega
theorem ur_len {w : World} {a : Option Addr} {m c : Nat} {l : List Up} (h : UR w (.slice a m c) l) : m = l.length := by
  obtain ⟨a', c', he, _⟩ := h.form
  simp at he
  exact he.2.1
theorem ur_some {w : World} {a : Option Addr} {m c : Nat} {l : List Up} (h : UR w (.slice a m c) l) (h0 : 0 < l.length) : ∃ g off, a = some ⟨g, off, none⟩ := by
  obtain ⟨g, off, he, _⟩ := UR.at_ h h0
  exact ⟨g, off, he⟩
/-- append(v, x...) -/
theorem app_own {T S : TypeId} (hS : Try.prog.underlying S = some (.slice T)) (hI : IsU T) (ty : TypeId) {w : World} {B : Nat} {v x : Value} {la lb : List Up} (ha : RO T w B v la) (hb : UR w x lb) (hB : B ≤ w.heap.size) (hn : la.length + lb.length ≤ 1000000000) :
    ∃ v' w', (Builtin.append_ #[S, S] ty #[v, x]).run Try.prog w = .ok v' w' ∧ RO T w' B v' (la ++ lb) ∧ w.grownBy w' v.ownBlock ∧ ∀ k, v'.ownBlock = some k → v.ownBlock = some k ∨ (w.heap.size ≤ k ∧ Below w.heap.size w w') := by
  obtain ⟨i0, hi, hz0, hz1, hz2⟩ := info_parts hI
  obtain ⟨a, cap, rfl, hx⟩ := hb.form
  by_cases h0 : 0 < lb.length
  · obtain ⟨g, off, rfl, hc⟩ := hx h0
    have hnews := ur_news hb
    obtain ⟨v', w', hr, h2, h3, _⟩ := run_append_own (P := Try.prog) w B S ty T i0 _ 4 48 hS hi hz0 hz1 hz2 rfl (by decide) v la.length (flatU la) ha ⟨g, off, none⟩ lb.length cap (flatU lb) (flatU_length lb) hnews (flat_one lb) (by unfold maxLen; omega) (by omega) hB
    refine ⟨v', w', hr, by unfold RO; rw [flatU_append, List.length_append]; exact h2, h3, ?_⟩
    exact append_place (P := Try.prog) w B S ty T i0 _ 4 48 hS hi hz0 hz1 hz2 rfl (by decide) v la.length (flatU la) ha ⟨g, off, none⟩ lb.length cap (flatU lb) (flatU_length lb) hnews (flat_one lb) (by unfold maxLen; omega) (by omega) hr
  · have hl0 : lb.length = 0 := by omega
    have : lb = [] := List.eq_nil_of_length_eq_zero hl0
    subst this
    refine ⟨v, w, ?_, by unfold RO; rw [List.append_nil]; exact ha, World.grownBy.refl _ _, fun k hk => .inl hk⟩
    have hsz : i0.size = 4 := hz1
    rcases ha.2 with ⟨rfl, h1⟩ | ⟨g, cap', cur, rfl, hb', hg, hn', hm, hs, ht⟩
    · cases a <;> simp [Builtin.append_, run_underlying hS, sizeOf, typeInfo, hi, Builtin.lenOf, Builtin.firstCells, loadCells, loadCellsFrom]
    · cases a <;> simp [Builtin.append_, run_underlying hS, sizeOf, typeInfo, hi, Builtin.lenOf, Builtin.firstCells, loadCells, loadCellsFrom, hn', storeCells]
theorem isU_up : IsU 70 := info_up
theorem und_up : Try.prog.underlying 27 = some (.slice 70) := Try.underlying27
theorem ro_new {T : TypeId} (w : World) (cur : Array Value) (cap B : Nat) (hb : B ≤ w.heap.size) (hm : cap ≤ maxLen) (hs : cur.size = cap * 4) : RO T (w.alloc (.cells cur T)) B (.slice (some ⟨w.heap.size, 0, none⟩) 0 cap) [] := World.ownsRow_made w cur cap hb hm hs
set_option maxRecDepth 100000 in
set_option maxHeartbeats 4000000 in
theorem clone_any {v : Value} {l : List Up} {w : World} (h : UR w v l) (hl : l.length ≤ 1000000) : Calls Try.prog 39 #[v] w fun e w' => ∃ v', e = .returned v' ∧ RA w' w.heap.size v' l ∧ Below w.heap.size w w' := by
  obtain ⟨a, cap, rfl, hx⟩ := h.form
  have q22 : ∀ (w : World) (a : Option Addr) (n c n' c' : Nat), (binOp .eql 27 (.slice a n c) (.slice none n' c')).run Try.prog w = .ok (.bool a.isNone) w := fun w a n c n' c' => Lib.run_eql_slice_nil w _ _ a n c n' c' und_up
  have HX := Lib.hid hx
  have HU := Lib.hid h
  have HL := Lib.hid hl
  clear h hx hl
  cases a with
  | none =>
    have e0 : l = [] := by
      refine List.eq_nil_of_length_eq_zero ?_
      have := HX.out
      by_cases h0 : 0 < l.length
      · obtain ⟨g, off, h1, _⟩ := this h0; cases h1
      · omega
    subst e0
    go_enter Try.func39, Try.ntmps39
    go_wp2_with fail
    go_ret
    exact ⟨_, rfl, World.ownsRow_nil _ _ _ _, Below.refl _ _⟩
  | some ad =>
    have HB0 := Lib.hid (below_new w (.cells #[] 70))
    have HR0 : Hid (RA (w.alloc (.cells #[] 70)) w.heap.size (.slice (some ⟨w.heap.size, 0, none⟩) 0 0) []) := Lib.hid (ro_new w #[] 0 _ (Nat.le_refl _) (by unfold maxLen; omega) rfl)
    obtain ⟨v', w', hr, hro, hg, _⟩ := app_own und_up isU_up 27 HR0.out (HU.out.below HB0.out) HB0.out.size (by have := HL.out; simp only [List.length_nil]; omega)
    have HRO := Lib.hid hro
    have HB := Lib.hid (HB0.out.grown hg HB0.out.size (fun k hk => (HR0.out.lt k hk).1))
    have HR := Lib.hid hr
    clear hr hro hg
    go_enter Try.func39, Try.ntmps39
    go_wp2_with (at_builtin; refine wpList_append_run rfl _ _ _ _ rfl _ _ _ rfl rfl HR.out ?_)
    go_ret
    exact ⟨_, rfl, HRO.out, HB.out⟩
set_option maxRecDepth 100000 in
set_option maxHeartbeats 4000000 in
theorem grow_any (n : Nat) (w : World) (hn : n ≤ 1000000000) : Calls Try.prog 58 #[.slice none 0 0, .int .i64 n] w fun e w' => ∃ v', e = .returned v' ∧ RA w' w.heap.size v' [] ∧ Below w.heap.size w w' := by
  by_cases h0 : n = 0
  · subst h0
    go_enter Try.func58, Try.ntmps58
    go_wp2_with fail
    go_ret
    exact ⟨_, rfl, World.ownsRow_nil _ _ _ _, Below.refl _ _⟩
  · obtain ⟨i0, hi, hz0, hz1, hz2⟩ := info_parts info_up
    have hpos : 0 < n := by omega
    have hold : (Builtin.firstCells i0.size 0 (.slice none 0 0)).run Try.prog w.drew = .ok ([] : List Value).toArray w.drew := run_firstCells_none w.drew i0.size 0 0 0
    have hr := Lib.run_append_grow_zeros (P := Try.prog) w 27 3 27 70 i0 _ .i64 .i64 und_up Try.underlying3 hi hz0 none 0 0 [] hold n hpos (by omega) (by omega) (by omega) (by rw [hz2]; omega) (by rw [hz2]; exact growslice_fits (by omega) (by omega))
    have hGn : 0 + n ≤ grownCap w (0 + n) 0 70 := grownCap_ge w _ _ _
    have hGm : grownCap w (0 + n) 0 70 ≤ maxLen := grownCap_le_maxLen w (0 + n) 0 70 (by unfold maxLen; omega)
    rw [Nat.zero_add] at hr hGn hGm
    obtain ⟨G, hG⟩ : ∃ G, G = grownCap w n 0 70 := ⟨_, rfl⟩
    rw [← hG] at hr hGn hGm
    obtain ⟨cur, hcur⟩ : ∃ c, c = (([] : List Value).toArray ++ Builtin.zeroCells (Value.agg #[.int .u8 0, .string ⟨#[]⟩, .string ⟨#[]⟩, .int .u64 0]).cells n ++ Builtin.zeroCells (Value.agg #[.int .u8 0, .string ⟨#[]⟩, .string ⟨#[]⟩, .int .u64 0]).cells (G - n)) := ⟨_, rfl⟩
    rw [← hcur] at hr
    have hcs : cur.size = G * 4 := by
      rw [hcur, Array.size_append, Array.size_append, size_zeroCells, size_zeroCells]
      show 0 + n * 4 + (G - n) * 4 = G * 4
      omega
    have HR := Lib.hid hr
    have HO := Lib.hid (ro_new (T := 70) w.drew cur G w.heap.size (Nat.le_refl _) hGm hcs)
    have HB := Lib.hid (((Below.refl w.heap.size w).drew).alloc (Nat.le_refl _) (.cells cur 70))
    have hgi : G ≤ 9223372036854775807 := by unfold maxLen at hGm; exact hGm
    have hni : ¬ ((n : Int) < 0) := by omega
    have hnp : (n : Int) > 0 := by omega
    clear hr hold hcur hcs hG hGm h0
    go_enter Try.func58, Try.ntmps58
    go_wp2_with (at_builtin; refine Lib.wpList_append_run _ rfl _ _ _ _ rfl _ _ rfl rfl _ _ HR.out ?_)
    all_goals (go_ret; exact ⟨_, rfl, HO.out, HB.out⟩)
end Go.Proofs.Ytfclecbhfamomaa.Buf
/- Layer 15 (buf): slices.Concat; rising. -/
namespace Go.Proofs.Ytfclecbhfamomaa.Buf
open Go Go.RowKit Go.Proofs.Ytfclecbhfamomaa Go.Proofs.Ytfclecbhfamomaa.Lend Go.Proofs.Ytfclecbhfamomaa.Rec Go.Proofs.Ytfclecbhfamomaa.Msg
set_option linter.unusedVariables false

/-- slices, one behind the other in a block, that read as lists of updates -/
def Parts (w : World) (b : Nat) (Ls : List (List Up)) : Prop := ∀ i (hi : i < Ls.length), ∃ v, w.cell? ⟨b, i, none⟩ = some v ∧ UR w v Ls[i]
theorem Parts.on {w w' : World} {b : Nat} {Ls : List (List Up)} (h : Parts w b Ls) (hb : Below w.heap.size w w') : Parts w' b Ls := fun i hi => by
  obtain ⟨v, h1, h2⟩ := h i hi
  exact ⟨v, keep1 h1 hb, h2.below hb⟩
theorem flat_take {Ls : List (List Up)} {k : Nat} (h : k < Ls.length) : (Ls.take (k + 1)).flatten = (Ls.take k).flatten ++ Ls[k] := by
  rw [List.take_succ_eq_append_getElem h, List.flatten_append]; simp
theorem flat_le (Ls : List (List Up)) (k : Nat) : (Ls.take k).flatten.length ≤ Ls.flatten.length := by
  have : Ls.flatten = (Ls.take k).flatten ++ (Ls.drop k).flatten := by rw [← List.flatten_append, List.take_append_drop]
  rw [this, List.length_append]; omega
set_option maxRecDepth 100000 in
set_option maxHeartbeats 4000000 in
theorem concat_any {b : Nat} {Ls : List (List Up)} (n : Nat) {w : World} (hn : n = Ls.length) (h : Parts w b Ls) (hk : n ≤ 1000) (hl : Ls.flatten.length ≤ 1000000) :
    Calls Try.prog 40 #[.slice (some ⟨b, 0, none⟩) n n] w fun e w' => ∃ v', e = .returned v' ∧ RA w' w.heap.size v' Ls.flatten ∧ Below w.heap.size w w' := by
  have HP := Lib.hid h
  have HN := Lib.hid hn
  have HF := Lib.hid hl
  obtain ⟨S, hS⟩ : ∃ x : Nat → Nat, ∀ k, x k = (Ls.take k).flatten.length := ⟨_, fun _ => rfl⟩
  have HS := Lib.hid hS
  have HSL := Lib.hid (show ∀ k, S k ≤ 1000000 from fun k => by rw [hS]; exact Nat.le_trans (flat_le Ls k) hl)
  have HS0 := Lib.hid (show S 0 = 0 by rw [hS]; rfl)
  clear h hn hl hS
  go_enter Try.func40, Try.ntmps40
  go_wp2_with fail
  go_loop [3, 11] (fun s i => ∃ k : Nat, k ≤ n ∧ i = .int .i64 k ∧ s = .int .i64 (S k)) (fun _ i => n - (intOf i).toNat)
  case atStart => exact ⟨0, Nat.zero_le _, rfl, by rw [HS0.out]; rfl⟩
  case round =>
    obtain ⟨k, hkn, rfl, rfl⟩ := hrel
    have hs1 := HSL.out k
    by_cases hlt : k < n
    · have hki : (k : Int) < (n : Int) := by omega
      have hkl : k < Ls.length := by rw [← HN.out]; exact hlt
      obtain ⟨v, hc, hu⟩ := HP.out k hkl
      obtain ⟨a, cap, rfl, _⟩ := hu.form
      have hs2 := HSL.out (k + 1)
      have e1 : S (k + 1) = S k + (Ls[k]'hkl).length := by rw [HS.out, HS.out, flat_take hkl, List.length_append]
      obtain ⟨m, hm⟩ : ∃ m, m = (Ls[k]'hkl).length := ⟨_, rfl⟩
      rw [← hm] at hc e1
      have HE := Lib.hid e1
      have hml : S k + m ≤ 1000000 := by omega
      have hge : ¬ ((S k : Int) + (m : Int) < 0) := by omega
      clear hm e1 hu hs2
      go_wp2_with fail
      go_round
      case rel => exact ⟨k + 1, by omega, by go_num, by rw [HE.out]; go_num⟩
      case measure => simp [intOf]; omega
    · obtain rfl : k = n := by omega
      have hki : ¬ ((k : Int) < (k : Int)) := by omega
      obtain ⟨T, hT⟩ : ∃ T, T = S k := ⟨_, rfl⟩
      rw [← hT] at hs1 ⊢
      have HT := Lib.hid hT
      clear hT
      go_wp2_with fail
      refine (grow_any T _ (by omega)).mono ?_
      rintro e w1 ⟨v1, rfl, hro, hb1⟩
      have HR1 := Lib.hid hro
      have HB1 := Lib.hid hb1
      clear hro hb1
      go_wp2_with fail
      go_loopw [6, 27] (fun nv i wr => ∃ (j : Nat) (v : Value), j ≤ k ∧ v = nv ∧ i = .int .i64 j ∧ RA wr w.heap.size v (Ls.take j).flatten ∧ Below w.heap.size w wr) (fun _ i _ => k - (intOf i).toNat)
      case atStart => exact ⟨0, _, Nat.zero_le _, rfl, rfl, HR1.out, HB1.out⟩
      case round =>
        obtain ⟨j, v, hj, rfl, rfl, hr, hb⟩ := hrel
        rename World => wr
        have HR := Lib.hid hr
        have HB := Lib.hid hb
        clear hr hb
        by_cases hlt2 : j < k
        · have hji : (j : Int) < (k : Int) := by omega
          have hjl : j < Ls.length := by rw [← HN.out]; exact hlt2
          obtain ⟨x, hc, hu⟩ := HP.out.on (w' := wr) (HB.out) j hjl
          have HFT := Lib.hid (flat_take hjl)
          have hln : (Ls.take j).flatten.length + (Ls[j]'hjl).length ≤ 1000000 := by
            rw [← List.length_append, ← HFT.out]
            exact Nat.le_trans (flat_le Ls (j + 1)) HF.out
          obtain ⟨v', w', happ, hro, hg, _⟩ := app_own und_up isU_up 27 HR.out hu HB.out.size (by omega)
          have HA := Lib.hid happ
          have HR2 := Lib.hid hro
          have HB2 := Lib.hid (HB.out.grown hg HB.out.size (fun q hq => (HR.out.lt q hq).1))
          clear hu hln happ hro hg
          go_wp2_with (at_builtin; refine wpList_append_run rfl _ _ _ _ rfl _ _ _ rfl rfl HA.out ?_)
          go_roundw
          case rel => exact ⟨j + 1, _, by omega, rfl, by go_num, by rw [HFT.out]; exact HR2.out, HB2.out⟩
          case measure => simp [intOf]; omega
        · obtain rfl : j = k := by omega
          have hji : ¬ ((j : Int) < (j : Int)) := by omega
          have HR3 := Lib.hid (show RA wr w.heap.size v Ls.flatten by
            have := HR.out
            rwa [show (Ls.take j).flatten = Ls.flatten by rw [List.take_of_length_le (by rw [HN.out]; exact Nat.le_refl _)]] at this)
          clear HR
          go_wp2_with fail
          go_ret
          exact ⟨_, rfl, HR3.out, HB.out⟩
end Go.Proofs.Ytfclecbhfamomaa.Buf
/- Layer 15 (buf): rising, the program's and the document's. -/
namespace Go.Proofs.Ytfclecbhfamomaa.Buf
open Go Go.RowKit Go.Proofs.Ytfclecbhfamomaa Go.Proofs.Ytfclecbhfamomaa.Lend Go.Proofs.Ytfclecbhfamomaa.Rec Go.Proofs.Ytfclecbhfamomaa.Msg
set_option linter.unusedVariables false

theorem bl_str (a b : List UInt8) : Op.bytesLess (Lend.strOf a).toList (Lend.strOf b).toList = kLt a b := by
  rw [ByteArray.toList_eq, ByteArray.toList_eq]; rfl
/-- the first ones rise -/
def RisTo (l : List Up) (j : Nat) : Prop := ∀ i (hi : i + 1 < l.length), i < j → kLt l[i].key l[i + 1].key = true
/-- the cells of an update -/
theorem ur_key {w : World} {g off m c : Nat} {l : List Up} (h : UR w (.slice (some ⟨g, off, none⟩) m c) l) (i : Nat) (hi : i < l.length) : w.cell? ⟨g, off + i * 4 + 1, none⟩ = some (.string (Lend.strOf l[i].key)) := by
  obtain ⟨g', off', he, hc⟩ := UR.at_ h (by omega)
  simp only [Option.some.injEq, Addr.mk.injEq, and_true] at he
  obtain ⟨rfl, rfl⟩ := he
  exact hc i hi 1 (by omega)
set_option maxRecDepth 100000 in
set_option maxHeartbeats 4000000 in
theorem rising_any {v : Value} {l : List Up} {w : World} (h : UR w v l) (hl : l.length ≤ 1000000) : Calls Try.prog 55 #[v] w fun e w' => e = .returned (.bool (risB l)) ∧ ∃ n, w' = w.drewN n := by
  obtain ⟨a, cap, rfl, _⟩ := h.form
  have HU := Lib.hid h
  obtain ⟨n, hn⟩ : ∃ n, n = l.length := ⟨_, rfl⟩
  have HN := Lib.hid hn
  rw [← hn] at hl ⊢
  clear h hn
  go_enter Try.func55, Try.ntmps55
  go_wp2_with fail
  go_loopw [3] (fun i wr => ∃ j : Nat, i = .int .i64 ((j : Int) + 1) ∧ j ≤ n ∧ Hid (RisTo l j) ∧ ∃ q, wr = w.drewN q) (fun i _ => n + 1 - (intOf i).toNat)
  case atStart => exact ⟨0, rfl, Nat.zero_le _, Lib.hid (fun i _ h => by omega), 0, rfl⟩
  case round =>
    obtain ⟨j, rfl, hjn, HRT, q, rfl⟩ := hrel
    by_cases hlt : j + 1 < n
    · have hji : (j : Int) + 1 < (n : Int) := by omega
      have hj1 : j + 1 < l.length := by rw [← HN.out]; exact hlt
      obtain ⟨g, off, rfl⟩ := ur_some HU.out (by omega)
      obtain ⟨w1, hw1⟩ : ∃ x, x = w.drewN q := ⟨_, rfl⟩
      have c0 : w1.cell? ⟨g, off + j * 4 + 1, none⟩ = some (.string (Lend.strOf (l[j]'(by omega)).key)) := by rw [hw1]; exact ur_key HU.out j (by omega)
      have c1 : w1.cell? ⟨g, off + (j + 1) * 4 + 1, none⟩ = some (.string (Lend.strOf (l[j + 1]'hj1).key)) := by rw [hw1]; exact ur_key HU.out (j + 1) hj1
      have hb := bl_str (l[j]'(by omega)).key (l[j + 1]'hj1).key
      have hwr : IntKind.i64.wrap ((j : Int) + 1 - 1) = (j : Int) := by rw [show (j : Int) + 1 - 1 = j by omega]; exact IntWalk.i64_in _ (by omega)
      have hj0 : (j : Int) < (n : Int) := by omega
      have hjz : 0 ≤ (j : Int) + 1 := by omega
      have htn : ((j : Int) + 1).toNat = j + 1 := by omega
      rw [← hw1]
      have HW1 := Lib.hid hw1
      clear hw1
      cases hk : kLt (l[j]'(by omega)).key (l[j + 1]'hj1).key with
      | true =>
        rw [hk] at hb
        have HK := Lib.hid hk
        generalize Lend.strOf (l[j]'(by omega)).key = K0 at *
        generalize Lend.strOf (l[j + 1]'hj1).key = K1 at *
        clear hk
        go_wp2_with fail
        go_quiet (fail)
        go_wp2_with fail
        go_roundw
        case rel => exact ⟨j + 1, by go_num, by omega, Lib.hid (fun i hi hij => by
          by_cases e : i = j
          · subst e; exact HK.out
          · exact HRT.out i hi (by omega)), q + nq, by rw [HW1.out, World.drewN_drewN]⟩
        case measure => simp [intOf]; omega
      | false =>
        rw [hk] at hb
        have HR := Lib.hid (ris_no hj1 hk)
        generalize Lend.strOf (l[j]'(by omega)).key = K0 at *
        generalize Lend.strOf (l[j + 1]'hj1).key = K1 at *
        clear hk
        go_wp2_with fail
        go_quiet (fail)
        go_wp2_with fail
        go_ret
        exact ⟨by rw [HR.out]; rfl, q + nq, by rw [HW1.out, World.drewN_drewN]⟩
    · have hji : ¬ ((j : Int) + 1 < (n : Int)) := by omega
      have HR := Lib.hid (show risB l = true from ris_yes fun k hk => HRT.out k hk (by have := HN.out; omega))
      go_wp2_with fail
      go_ret
      exact ⟨by rw [HR.out]; rfl, q, rfl⟩
set_option maxRecDepth 100000 in
set_option maxHeartbeats 4000000 in
theorem refrising_any {v : Value} {l : List Up} {w : World} (h : UR w v l) (hl : l.length ≤ 1000000) : Calls Try.prog 31 #[v] w fun e w' => e = .returned (.bool (risB l)) ∧ ∃ n, w' = w.drewN n := by
  obtain ⟨a, cap, rfl, _⟩ := h.form
  have HU := Lib.hid h
  obtain ⟨n, hn⟩ : ∃ n, n = l.length := ⟨_, rfl⟩
  have HN := Lib.hid hn
  rw [← hn] at hl ⊢
  clear h hn
  go_enter Try.func31, Try.ntmps31
  go_wp2_with fail
  go_loopw [3] (fun i wr => ∃ j : Nat, i = .int .i64 ((j : Int) + 1) ∧ j ≤ n ∧ Hid (RisTo l j) ∧ ∃ q, wr = w.drewN q) (fun i _ => n + 1 - (intOf i).toNat)
  case atStart => exact ⟨0, rfl, Nat.zero_le _, Lib.hid (fun i _ h => by omega), 0, rfl⟩
  case round =>
    obtain ⟨j, rfl, hjn, HRT, q, rfl⟩ := hrel
    by_cases hlt : j + 1 < n
    · have hji : (j : Int) + 1 < (n : Int) := by omega
      have hj1 : j + 1 < l.length := by rw [← HN.out]; exact hlt
      obtain ⟨g, off, rfl⟩ := ur_some HU.out (by omega)
      obtain ⟨w1, hw1⟩ : ∃ x, x = w.drewN q := ⟨_, rfl⟩
      have c0 : w1.cell? ⟨g, off + j * 4 + 1, none⟩ = some (.string (Lend.strOf (l[j]'(by omega)).key)) := by rw [hw1]; exact ur_key HU.out j (by omega)
      have c1 : w1.cell? ⟨g, off + (j + 1) * 4 + 1, none⟩ = some (.string (Lend.strOf (l[j + 1]'hj1).key)) := by rw [hw1]; exact ur_key HU.out (j + 1) hj1
      have hb := bl_str (l[j]'(by omega)).key (l[j + 1]'hj1).key
      have hwr : IntKind.i64.wrap ((j : Int) + 1 - 1) = (j : Int) := by rw [show (j : Int) + 1 - 1 = j by omega]; exact IntWalk.i64_in _ (by omega)
      have hj0 : (j : Int) < (n : Int) := by omega
      have hjz : 0 ≤ (j : Int) + 1 := by omega
      have htn : ((j : Int) + 1).toNat = j + 1 := by omega
      rw [← hw1]
      have HW1 := Lib.hid hw1
      clear hw1
      cases hk : kLt (l[j]'(by omega)).key (l[j + 1]'hj1).key with
      | true =>
        rw [hk] at hb
        have HK := Lib.hid hk
        generalize Lend.strOf (l[j]'(by omega)).key = K0 at *
        generalize Lend.strOf (l[j + 1]'hj1).key = K1 at *
        clear hk
        go_wp2_with fail
        go_quiet (fail)
        go_wp2_with fail
        go_roundw
        case rel => exact ⟨j + 1, by go_num, by omega, Lib.hid (fun i hi hij => by
          by_cases e : i = j
          · subst e; exact HK.out
          · exact HRT.out i hi (by omega)), q + nq, by rw [HW1.out, World.drewN_drewN]⟩
        case measure => simp [intOf]; omega
      | false =>
        rw [hk] at hb
        have HR := Lib.hid (ris_no hj1 hk)
        generalize Lend.strOf (l[j]'(by omega)).key = K0 at *
        generalize Lend.strOf (l[j + 1]'hj1).key = K1 at *
        clear hk
        go_wp2_with fail
        go_quiet (fail)
        go_wp2_with fail
        go_ret
        exact ⟨by rw [HR.out]; rfl, q + nq, by rw [HW1.out, World.drewN_drewN]⟩
    · have hji : ¬ ((j : Int) + 1 < (n : Int)) := by omega
      have HR := Lib.hid (show risB l = true from ris_yes fun k hk => HRT.out k hk (by have := HN.out; omega))
      go_wp2_with fail
      go_ret
      exact ⟨by rw [HR.out]; rfl, q, rfl⟩
end Go.Proofs.Ytfclecbhfamomaa.Buf
/- Layer 15 (buf): the place of a key: the closure, sort.Search, place. -/
namespace Go.Proofs.Ytfclecbhfamomaa.Buf
open Go Go.RowKit Go.Proofs.Ytfclecbhfamomaa Go.Proofs.Ytfclecbhfamomaa.Lend Go.Proofs.Ytfclecbhfamomaa.Rec Go.Proofs.Ytfclecbhfamomaa.Msg
set_option linter.unusedVariables false

/-- a buffer and a key, each in its box -/
structure Bk (w : World) (pb pk : Nat) (v : Value) (key : List UInt8) (l : List Up) : Prop where
  b : Has w pb 29 [v]
  k : Has w pk 9 [.string (Lend.strOf key)]
  ur : UR w v l
theorem Bk.drewN {w : World} {pb pk : Nat} {v : Value} {key : List UInt8} {l : List Up} (h : Bk w pb pk v key l) (n : Nat) : Bk (w.drewN n) pb pk v key l := ⟨h.b.drewN n, h.k.drewN n, by
  obtain ⟨a, cap, he, hc⟩ := h.ur.form
  exact ⟨a, cap, he, hc⟩⟩
set_option maxRecDepth 100000 in
set_option maxHeartbeats 4000000 in
theorem closure_any {w : World} {pb pk : Nat} {v : Value} {key : List UInt8} {l : List Up} (h : Bk w pb pk v key l) (hs : Srt l) (hl : l.length ≤ 1000000) (i : Nat) (hi : i < l.length) :
    Calls Try.prog 60 #[.int .i64 i, .pointer (some ⟨pb, 0, none⟩), .pointer (some ⟨pk, 0, none⟩)] w fun e w' => e = .returned (.bool (!decide (i < plK l key))) ∧ ∃ q, w' = w.drewN q := by
  obtain ⟨a, cap, rfl, _⟩ := h.ur.form
  obtain ⟨g, off, rfl⟩ := ur_some h.ur (by omega)
  have cb := h.b.cell 0
  have ck := h.k.cell 0
  have cc := ur_key h.ur i hi
  have hb := bl_str l[i].key key
  rw [plK_get hs i hi] at hb
  simp only [List.getElem?_cons_zero] at cb ck
  obtain ⟨n, hn⟩ : ∃ n, n = l.length := ⟨_, rfl⟩
  have hin : (i : Int) < (n : Int) := by omega
  rw [← hn] at cb hl
  generalize Lend.strOf l[i].key = K0 at *
  generalize Lend.strOf key = K1 at *
  cases hp : decide (i < plK l key)
  all_goals
    rw [hp] at hb
    clear hp h hs hn hi
    go_enter Try.func60, Try.ntmps60
    go_wp2_with fail
    go_quiet (fail)
    go_wp2_with fail
    go_ret
    exact ⟨rfl, _, rfl⟩
set_option maxRecDepth 100000 in
set_option maxHeartbeats 4000000 in
theorem search_any {w : World} {pb pk : Nat} {v : Value} {key : List UInt8} {l : List Up} (n : Nat) (h : Bk w pb pk v key l) (hs : Srt l) (hl : l.length ≤ 1000000) (hn : n = l.length) :
    Calls Try.prog 59 #[.int .i64 n, .func (.func 60) #[] #[.pointer (some ⟨pb, 0, none⟩), .pointer (some ⟨pk, 0, none⟩)]] w fun e w' => e = .returned (.int .i64 (plK l key : Nat)) ∧ ∃ q, w' = w.drewN q := by
  have HB := Lib.hid h
  have HS := Lib.hid hs
  have HL := Lib.hid hl
  have HN := Lib.hid hn
  have hnl : n ≤ 1000000 := by omega
  have hpn : plK l key ≤ n := by rw [hn]; exact plK_le l key
  obtain ⟨p, hp⟩ : ∃ p, p = plK l key := ⟨_, rfl⟩
  have HC := Lib.hid (fun (q i : Nat) (hi : i < l.length) => closure_any (HB.out.drewN q) HS.out HL.out i hi)
  rw [← hp] at HC hpn ⊢
  clear h hs hl hn hp
  go_enter Try.func59, Try.ntmps59
  go_wp2_with fail
  go_loopw [5, 6] (fun lo hi wr => ∃ i j q : Nat, lo = .int .i64 i ∧ hi = .int .i64 j ∧ i ≤ p ∧ p ≤ j ∧ j ≤ n ∧ wr = w.drewN q) (fun lo hi _ => (intOf hi).toNat - (intOf lo).toNat)
  case atStart => exact ⟨0, n, 0, rfl, rfl, Nat.zero_le _, hpn, Nat.le_refl _, rfl⟩
  case round =>
    obtain ⟨i, j, q, rfl, rfl, hip, hpj, hjn, hw⟩ := hrel
    rename World => wr
    have HW := Lib.hid hw
    have hc := HC.out q ((i + j) / 2)
    rw [← hw] at hc
    have HN' := HN.out
    clear hw
    by_cases hlt : i < j
    · have hij : (i : Int) < (j : Int) := by omega
      have hc := hc (by omega)
      rw [show (((i + j) / 2 : Nat) : Int) = ((i : Int) + (j : Int)) / 2 by omega] at hc
      clear HN'
      by_cases hm : (i + j) / 2 < p
      · rw [show decide ((i + j) / 2 < p) = true by simpa using hm] at hc
        have HC2 := Lib.hid hc
        clear hc
        go_wp2_with fail
        refine HC2.out.mono ?_
        rintro e w2 ⟨rfl, q2, hw2⟩
        have HW2 := Lib.hid hw2
        clear hw2
        go_wp2_with fail
        go_roundw
        case rel => exact ⟨(i + j) / 2 + 1, j, q + q2, by rw [show ((i : Int) + (j : Int)) / 2 + 1 = (((i + j) / 2 + 1 : Nat) : Int) by omega], rfl, by omega, hpj, hjn, by rw [HW2.out, HW.out, World.drewN_drewN]⟩
        case measure => simp [intOf]; omega
      · rw [show decide ((i + j) / 2 < p) = false by simpa using hm] at hc
        have HC2 := Lib.hid hc
        clear hc
        go_wp2_with fail
        refine HC2.out.mono ?_
        rintro e w2 ⟨rfl, q2, hw2⟩
        have HW2 := Lib.hid hw2
        clear hw2
        go_wp2_with fail
        go_roundw
        case rel => exact ⟨i, (i + j) / 2, q + q2, rfl, by rw [show ((i : Int) + (j : Int)) / 2 = (((i + j) / 2 : Nat) : Int) by omega], hip, by omega, by omega, by rw [HW2.out, HW.out, World.drewN_drewN]⟩
        case measure => simp [intOf]; omega
    · have hij : ¬ ((i : Int) < (j : Int)) := by omega
      obtain rfl : i = p := by omega
      clear hc HN'
      go_wp2_with fail
      go_ret
      exact ⟨rfl, q, HW.out⟩
theorem eq_str (a b : List UInt8) : ((Lend.strOf a).toList == (Lend.strOf b).toList) = (a == b) := by
  rw [ByteArray.toList_eq, ByteArray.toList_eq]; rfl
theorem bk_new (w : World) (v : Value) (key : List UInt8) {l : List Up} (h : UR w v l) :
    Bk ((w.alloc (.cells #[v] 29)).alloc (.cells #[.string (Lend.strOf key)] 9)) w.heap.size (w.heap.size + 1) v key l := by
  have h1 := Has.new w [v] 29
  have h2 := Has.new (w.alloc (.cells #[v] 29)) [.string (Lend.strOf key)] 9
  simp only [World.size_alloc] at h2
  exact ⟨h1.alloc _, h2, (h.below (below_new w _)).below (below_new _ _)⟩
theorem bel_q {w w' : World} {q : Nat} (h : Below w.heap.size w w') : Below w.heap.size w (w'.drewN q) := ⟨h.os, h.tape, h.output, h.size, h.block⟩
set_option maxRecDepth 100000 in
set_option maxHeartbeats 4000000 in
theorem place_any {w : World} {v : Value} {l : List Up} (key : List UInt8) (h : UR w v l) (hs : Srt l) (hl : l.length ≤ 1000000) :
    Calls Try.prog 41 #[.agg #[v], .string (Lend.strOf key)] w fun e w' => e = .returned (.tuple #[.int .i64 (plK l key : Nat), .bool (thK l key)]) ∧ Below w.heap.size w w' := by
  have HBK := Lib.hid (bk_new w v key h)
  have HB := Lib.hid (below_nw (below_new w (.cells #[v] 29)) (.cells #[.string (Lend.strOf key)] 9))
  obtain ⟨a, cap, rfl, _⟩ := h.form
  obtain ⟨w1, hw1⟩ : ∃ x, x = (w.alloc (.cells #[.slice a l.length cap] 29)).alloc (.cells #[.string (Lend.strOf key)] 9) := ⟨_, rfl⟩
  rw [← hw1] at HBK HB
  have cb := HBK.out.b.cell 0
  simp only [List.getElem?_cons_zero] at cb
  have HSE := Lib.hid (search_any _ HBK.out hs hl rfl)
  obtain ⟨n, hn⟩ : ∃ n, n = l.length := ⟨_, rfl⟩
  obtain ⟨p, hp⟩ : ∃ p, p = plK l key := ⟨_, rfl⟩
  have hpn : p ≤ n := by rw [hn, hp]; exact plK_le l key
  have hT : thK l key = match l[p]? with | some x => x.key == key | none => false := by rw [hp]; rfl
  rw [← hn, ← hp] at HSE
  rw [← hn] at cb hw1 hl ⊢
  rw [← hp]
  have HP := Lib.hid hpn
  clear hp hpn h hs
  by_cases hlt : p < n
  · have hpl : p < l.length := by omega
    rw [List.getElem?_eq_getElem hpl] at hT
    replace hT : thK l key = (l[p].key == key) := hT
    obtain ⟨g, off, rfl⟩ := ur_some HBK.out.ur (by omega)
    have HCC := Lib.hid (ur_key HBK.out.ur p hpl)
    have he := eq_str l[p].key key
    rw [← hT] at he
    have ck := HBK.out.k.cell 0
    simp only [List.getElem?_cons_zero] at ck
    have hpi : (p : Int) < (n : Int) := by omega
    have hpi' : decide ((p : Int) < (n : Int)) = true := by simpa using hlt
    generalize Lend.strOf l[p].key = K0 at *
    generalize Lend.strOf key = K1 at *
    clear hn
    cases ht : thK l key
    all_goals
      rw [ht] at he
      clear hT ht
      go_enter Try.func41, Try.ntmps41
      go_wp2_with fail
      rw [← hw1]
      clear hw1
      go_wp2_with fail
      refine HSE.out.mono ?_
      rintro e w2 ⟨rfl, q, hw2⟩
      have HB2 := Lib.hid (show Below w.heap.size w w2 by rw [hw2]; exact bel_q HB.out)
      have c0 : w2.cell? ⟨w.heap.size, 0, none⟩ = some (.slice (some ⟨g, off, none⟩) n cap) := by rw [hw2]; exact cb
      have c1 : w2.cell? ⟨w.heap.size + 1, 0, none⟩ = some (.string K1) := by rw [hw2]; exact ck
      have c2 : w2.cell? ⟨g, off + p * 4 + 1, none⟩ = some (.string K0) := by rw [hw2]; exact HCC.out
      clear hw2 cb ck
      go_wp2_with fail
      go_quiet (fail)
      go_wp2_with fail
      go_ret2
      exact ⟨rfl, bel_q HB2.out⟩
  · have hpl : l[p]? = none := List.getElem?_eq_none (by omega)
    rw [hpl] at hT
    replace hT : thK l key = false := hT
    have hpi : ¬ ((p : Int) < (n : Int)) := by omega
    have hpi' : decide ((p : Int) < (n : Int)) = false := by simpa using hlt
    rw [hT]
    generalize Lend.strOf key = K1 at *
    clear hn hpl hT
    go_enter Try.func41, Try.ntmps41
    go_wp2_with fail
    rw [← hw1]
    clear hw1
    go_wp2_with fail
    refine HSE.out.mono ?_
    rintro e w2 ⟨rfl, q, hw2⟩
    have HB2 := Lib.hid (show Below w.heap.size w w2 by rw [hw2]; exact bel_q HB.out)
    have c0 : w2.cell? ⟨w.heap.size, 0, none⟩ = some (.slice a n cap) := by rw [hw2]; exact cb
    clear hw2 cb
    go_wp2_with fail
    go_quiet (fail)
    go_wp2_with fail
    go_ret2
    exact ⟨rfl, bel_q HB2.out⟩
end Go.Proofs.Ytfclecbhfamomaa.Buf
