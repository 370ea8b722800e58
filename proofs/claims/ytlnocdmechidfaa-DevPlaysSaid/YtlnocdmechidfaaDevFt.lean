/- The law's fates. -/
import Derived.Deep.DeepCutAuto
import Derived.Deep.RegionWith
import Derived.Test.YtlnocdmechidfaaDevL
namespace Go.Proofs.Ytlnocdmechidfaa.Dev
open Go Go.RowKit Go.Proofs.Ytlnocdmechidfaa
set_option linter.unusedVariables false
theorem info_fate : (Try.prog.info? 84).map (fun i => (i.zero, i.size, i.bytes)) = some (some (.int .i64 0), 1, 8) := by kernel_rfl
set_option maxRecDepth 100000 in
set_option maxHeartbeats 4000000 in
theorem fates_any (fa : Option Addr) (fl fc : Nat) (fs : List Int) (w : World) (hrow : Row .i64 w fa fl fs) (hfl : fl ≤ 1000000) :
    Calls Try.prog 22 #[.slice fa fl fc] w fun e w' => ∃ v, e = .returned v ∧ w'.ownsRow w.heap.size 84 1 v fl (fs.map (Value.int .i64)) ∧ Below w.heap.size w w' := by
  have HROW := Lib.hid hrow
  have HFL := Lib.hid hrow.len_eq
  clear hrow
  go_enter Try.func22, Try.ntmps22
  go_wp2_with fail
  go_loopw [3, 8] (fun v i wr => ∃ t : Nat, t ≤ fl ∧ i = .int .i64 t ∧ wr.ownsRow w.heap.size 84 1 v t ((fs.take t).map (Value.int .i64)) ∧ Below w.heap.size w wr) (fun _ i _ => fl - (intOf i).toNat)
  case atStart => exact ⟨0, Nat.zero_le _, rfl, World.ownsRow_nil _ _ _ _, Below.refl _ _⟩
  case round =>
    obtain ⟨t, ht, rfl, hown, hbel⟩ := hrel
    by_cases hlt : t < fl
    · have hti : (t : Int) < (fl : Int) := by omega
      obtain ⟨fb, fo, rfl, hcells⟩ := HROW.out.at_ (by omega)
      have hcw := hcells t (by omega)
      have hlw := World.block_lt_of_cell? w _ hcw
      obtain ⟨f, hf⟩ : ∃ f, f = fs.getD t 0 := ⟨_, rfl⟩
      have hc : wr.cell? ⟨fb, fo + t, none⟩ = some (.int .i64 f) := by rw [hbel.cell (p := ⟨fb, fo + t, none⟩) hlw, hf]; exact hcw
      have hnext : (fs.take (t + 1)).map (Value.int .i64) = (fs.take t).map (Value.int .i64) ++ [.int .i64 f] := by
        have hl : t < fs.length := by rw [HFL.out]; exact hlt
        rw [take_snoc' _ _ hl, List.map_append, hf, List.getD_eq_getElem?_getD, List.getElem?_eq_getElem hl]; rfl
      have HNX := Lib.hid hnext
      obtain ⟨i0, hi, hz0, hz1, hz2⟩ := info_parts info_fate
      have hsz := hbel.size
      clear hcells hcw hf hlw hnext
      go_wp2_with (at_builtin; refine wpList_append_own _ rfl _ _ 55 rfl w.heap.size 84 i0 (.int .i64 0) 1 8 Try.underlying55 hi hz0 hz1 hz2 rfl (by decide) _ _ _ rfl (hown.alloc _) ⟨wr.heap.size, 0, none⟩ 1 1 [.int .i64 f] rfl rfl ?c1 ?c2 ?c3 ?c4 ?c5 ?_)
      case c1 =>
        intro j u hj
        match j, hj with
        | 0, hj => simp at hj; subst hj; simp [Addr.add]
      case c2 => intro u hu; simp at hu; subst hu; rfl
      case c3 => unfold maxLen; omega
      case c4 => omega
      case c5 => simp; omega
      intro v' wn hown' hgrow _
      have HB' := Lib.hid (show Below w.heap.size w wn from (hbel.alloc (by omega) _).grown hgrow (by simp; omega) (fun q hq => (hown.lt q hq).1))
      have HO' := Lib.hid hown'
      clear hown' hgrow hown hbel hc
      go_wp2_with fail
      go_roundw
      case rel => exact ⟨t + 1, by omega, by go_num, by rw [HNX.out, List.map_take]; exact HO'.out, HB'.out⟩
      case measure => simp [intOf]; omega
    · obtain rfl : t = fl := by omega
      have HO := Lib.hid (show wr.ownsRow w.heap.size 84 1 _ t (fs.map (Value.int .i64)) by have := hown; rw [List.take_of_length_le (by rw [HFL.out]; exact Nat.le_refl _)] at this; exact this)
      have HB := Lib.hid hbel
      clear hown hbel
      go_wp2_with fail
      go_ret
      exact ⟨_, rfl, HO.out, HB.out⟩
end Go.Proofs.Ytlnocdmechidfaa.Dev
