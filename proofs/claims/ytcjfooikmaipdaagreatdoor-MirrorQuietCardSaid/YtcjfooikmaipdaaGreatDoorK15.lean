/- Layers' contracts, bundled: MirBad. -/
import Derived.RangeFuncBox
import Derived.RangeFuncNested
import Derived.RangeFuncBound
import Derived.RangeFuncCalls
import Derived.RangeFuncLeaves
import Derived.Shelf.Abstract
import Derived.Shelf.RegionOpen
import Derived.WalkKit
import Derived.OwnWalkIn
import Derived.TacticsInMore
import Derived.LoopNIn
import Derived.LoopIn
import Derived.Maps.OwnIn
import Derived.Sort.MapsRangeIn
import Derived.Outline
import Derived.Test.YtcjfooikmaipdaaGreatDoorK14
/- Layer 8 (mirror): Bad, where no place is. -/
namespace Go.Proofs.YtcjfooikmaipdaaGreatDoor.Mir
open Go Go.RowKit Go.Shelf Go.Proofs.YtcjfooikmaipdaaGreatDoor Dev Tab Rem Go.Maps Go.WideMaps
set_option linter.unusedVariables false
attribute [local go_sem] Oper.semAt_some

set_option maxRecDepth 100000 in
set_option maxHeartbeats 2000000 in
theorem keys0_in (F : Fence) (d : Nat) (h7 : F.fn 95) (hro : F.round = none) (l Bs bb n : Nat) (D : DataW Unit) (J : List Empty → World → Prop) (W : World) (hJ : AbidesFrom W.heap.size J)
    (hBs : W.cell? ⟨Bs, 0, none⟩ = some (.map (some bb))) (hm : MapB W bb n D) (he : ∀ z, Maps.has D z = false) (h0 : J [] W) :
    CallsIn F d Tryz.prog 95 #[.func (.yield l) #[] #[], .pointer (some ⟨Bs, 0, none⟩)] W fun e W' => (∃ v, e = .returned v) ∧ J [] W' := by
  refine callsIn_of_wp Tryz.func95 rfl h7 ?_ hro
  simp only [Tryz.ntmps95, List.size_toArray, List.length_cons, List.length_nil, Nat.reduceAdd, Nat.reduceSub, Array.replicate_succ, Array.replicate_zero, List.push_toArray, List.append_toArray, List.nil_append, List.cons_append]
  gi_wp2_with (first
    | (gi_at_range; refine wpListIn_range_own _ rfl _ 106 rfl 144 148 keyedP Tryz.underlying106 _ bb n _ rfl hm ?_; intro w0 hrg0 hg0 hs0)
    | gi_in)
  go_frame
  gi_loopw [3] (fun _ wr => wr.ranges Tryz.prog 144 badR bb W.heap.size n D (Maps.has D) (Maps.size D) ∧ J [] wr) (fun _ wr => 0)
  case atStart => exact ⟨hrg0, hJ [] W w0 none h0 hg0 (fun r e => by cases e)⟩
  case round =>
    obtain ⟨hrg, hJs⟩ := hrel
    gi_wp2_with (first
      | (gi_at_next; refine wpListIn_next_ranges _ rfl _ rfl 144 keyedP badR (fun x : Value => x) (fun x : Value => x) (fun key kl hk => ⟨key, rfl⟩) (fun v _ _ => ⟨v, rfl⟩) bb W.heap.size n _ _ _ rfl hrg ?_ ?_)
      | gi_in)
    intro hc0
    clear hc0
    gi_wp2
    go_end0
    exact ⟨⟨_, rfl⟩, hJs⟩
theorem keys_stops0 (F : Fence) (d : Nat) (h7 : F.fn 95) (hro : F.round = none) (Bs bb n : Nat) (D : DataW Unit) (w : World) (hBs : Bs < w.heap.size) (hc : w.cell? ⟨Bs, 0, none⟩ = some (.map (some bb))) (hm : MapB w bb n D) (he : ∀ z, Maps.has D z = false) :
    SeqStopsK (α := Empty) F d Tryz.prog 95 #[.pointer (some ⟨Bs, 0, none⟩)] (fun x => x.elim) (fun _ _ => True) (fun _ => True) (fun _ => False) 0 w := fun l J Jx W hW hJ _ _ h0 =>
  (keys0_in F d h7 hro l Bs bb n D J W hJ ((hW.cell (p := ⟨Bs, 0, none⟩) hBs).trans hc) (mapB_same hm (hW.block bb (mapB_lt hm))) he h0).mono fun _ _ ⟨h1, h2⟩ => ⟨h1, .inl ⟨[], trivial, h2⟩⟩
set_option maxRecDepth 100000 in
set_option maxHeartbeats 4000000 in
theorem appendSeq0 (Bs bb n : Nat) (D : DataW Unit) (w : World) (hBs : Bs < w.heap.size) (hc : w.cell? ⟨Bs, 0, none⟩ = some (.map (some bb))) (hm : MapB w bb n D) (he : ∀ z, Maps.has D z = false) :
    Calls Tryz.prog 113 #[.slice none 0 0, .func (.func 95) #[] #[.pointer (some ⟨Bs, 0, none⟩)]] w fun e w' => e = .returned (.slice none 0 0) ∧ Below w.heap.size w w' := by
  refine (callsIn_wide (n := 6)).1 ?_
  obtain ⟨F, hF⟩ : ∃ F, F = Fence.wide := ⟨_, rfl⟩
  obtain ⟨d, hd6⟩ : ∃ d, d = 6 := ⟨_, rfl⟩
  rw [← hF, ← hd6]
  have h1 : F.fn 113 := by rw [hF]; trivial
  have h3 : F.fn 95 := by rw [hF]; trivial
  have hro : F.round = none := by rw [hF]; rfl
  have hd1 : 1 ≤ d := by omega
  clear hF hd6
  have hbx := Boxed.new w 54 (.slice none 0 0)
  have hst := keys_stops0 F (d - 1) h3 hro Bs bb n D (w.alloc (.cells #[.slice none 0 0] 54)) (by simp; omega) (by rw [(Tab.b_new w _).cell (p := ⟨Bs, 0, none⟩) hBs]; exact hc) (mapB_same hm (Below.heap_alloc _ _ _ (mapB_lt hm))) he
  refine callsIn_of_wp_marks Tryz.func113 rfl h1 ?_ hro
  simp only [Tryz.ntmps113, List.size_toArray, List.length_cons, List.length_nil, Nat.reduceAdd, Nat.reduceSub, Array.replicate_succ, Array.replicate_zero, List.push_toArray, List.append_toArray, List.nil_append, List.cons_append]
  gi_wp2
  have hB0 := Tab.b_new w (.cells #[.slice none 0 0] 54)
  have hsz : (w.alloc (.cells #[.slice none 0 0] 54)).heap.size = w.heap.size + 1 := by simp
  obtain ⟨W0, hW0⟩ : ∃ W0, W0 = w.alloc (.cells #[.slice none 0 0] 54) := ⟨_, rfl⟩
  rw [← hW0] at hbx hst hB0 hsz ⊢
  clear hW0
  refine wpIn_rangeFunc_ownH hro hd1 (gf := 95) (lb := #[.pointer (some ⟨Bs, 0, none⟩)]) rfl h3 (enters_of Tryz.func95 (by kernel_rfl) rfl)
    hst (fun _ _ => trivial) (fun _ _ _ _ _ _ _ _ => trivial) (Below.refl _ _) (fun x => x.elim)
    (fun _ W => Below W0.heap.size W0 W) (fun _ _ W => Below W0.heap.size W0 W) (ownFrom_below (Nat.le_refl _) (Nat.le_refl _)) (fun _ => ownFrom_below (Nat.le_refl _) (Nat.le_refl _)) (Below.refl _ _)
    (fun _ _ _ => True) (fun x _ => x.elim) (fun _ _ x => x.elim) (fun _ _ x => x.elim) ?done (fun _ _ _ _ _ h => h.elim)
  case done =>
    rintro Dd ys W hD - hb hK
    have hx : W.cell? ⟨w.heap.size, 0, none⟩ = some (.slice none 0 0) := (Boxed.cell (show Boxed W w.heap.size _ _ from (hb.block w.heap.size (by omega)).trans hbx))
    gi_wp2
    have hB := hB0.trans (hb.mono (by omega))
    refine ⟨by simp, .inl ⟨_, _, rfl, run_takeDeferred hK, ?_⟩⟩
    refine ⟨.slice none 0 0, ?_, rfl, hB.trans (belowK_b (w := w) (Nat.le_refl _) W Dd _ _ (by omega) hK rfl rfl)⟩
    simp [results, Tryz.f113, go_sem]
theorem collect0 (Bs bb n : Nat) (D : DataW Unit) (w : World) (hBs : Bs < w.heap.size) (hc : w.cell? ⟨Bs, 0, none⟩ = some (.map (some bb))) (hm : MapB w bb n D) (he : ∀ z, Maps.has D z = false) :
    Calls Tryz.prog 93 #[.func (.func 95) #[] #[.pointer (some ⟨Bs, 0, none⟩)]] w fun e w' => e = .returned (.slice none 0 0) ∧ Below w.heap.size w w' := by
  have H := Lib.hid (appendSeq0 Bs bb n D w hBs hc hm he)
  clear hBs hc hm he
  go_enter Tryz.func93, Tryz.ntmps93
  go_wp2_with fail
  refine H.out.mono ?_
  rintro e w1 ⟨rfl, hb⟩
  have HB := Lib.hid hb
  clear hb
  go_wp2
  go_ret
  exact ⟨rfl, HB.out⟩
set_option maxRecDepth 100000 in
theorem len0 (w : World) : Calls Tryz.prog 139 #[.int .u64 0] w fun e w' => e = .returned (.int .i64 0) ∧ w = w' := by
  go_enter Tryz.func139, Tryz.ntmps139
  go_wp2
  go_ret
  exact ⟨by kernel_rfl, rfl⟩
theorem lenU0 (w : World) : Calls Tryz.prog 115 #[.int .u64 0] w fun e w' => e = .returned (.int .i64 0) ∧ w = w' := by
  go_enter Tryz.func115, Tryz.ntmps115
  go_wp2_with fail
  refine (len0 _).mono ?_
  rintro e w' ⟨rfl, rfl⟩
  go_wp2
  go_ret
  exact ⟨rfl, rfl⟩
theorem ins0 (v : Value) (w : World) : Calls Tryz.prog 130 #[.slice none 0 0, .int .i64 0, .int .i64 0, v] w fun e w' => e = .returned (.tuple #[]) ∧ w = w' := by
  go_enter Tryz.func130, Tryz.ntmps130
  go_wp2_with fail
  go_loopw [8] (fun i wr => i = .int .i64 1 ∧ wr = w) (fun _ _ => 0)
  case atStart => exact ⟨rfl, rfl⟩
  case round =>
    obtain ⟨rfl, rfl⟩ := hrel
    go_wp2
    go_end0
    exact ⟨rfl, rfl⟩
theorem pdq0 (v : Value) (w : World) : Calls Tryz.prog 114 #[.slice none 0 0, .int .i64 0, .int .i64 0, .int .i64 0, v] w fun e w' => e = .returned (.tuple #[]) ∧ w = w' := by
  go_enter Tryz.func114, Tryz.ntmps114
  go_wp2_with fail
  go_loopw [1, 2] (fun i j wr => i = .int .i64 0 ∧ j = .int .i64 0 ∧ wr = w) (fun _ _ _ => 0)
  case atStart => exact ⟨rfl, rfl, rfl⟩
  case round =>
    obtain ⟨rfl, rfl, rfl⟩ := hrel
    go_wp2_with fail
    refine (ins0 _ _).mono ?_
    rintro e w' ⟨rfl, rfl⟩
    go_wp2
    refine bodyPost_ret (results_none rfl _ _ _) rfl ?_
    exact ⟨rfl, rfl⟩
theorem sort0 (v : Value) (w : World) : Calls Tryz.prog 94 #[.slice none 0 0, v] w fun e w' => e = .returned (.tuple #[]) ∧ w = w' := by
  go_enter Tryz.func94, Tryz.ntmps94
  go_wp2_with fail
  refine (lenU0 _).mono ?_
  rintro e w' ⟨rfl, rfl⟩
  go_wp2_with fail
  refine (pdq0 _ _).mono ?_
  rintro e w' ⟨rfl, rfl⟩
  go_wp2
  go_end0
  exact ⟨rfl, rfl⟩
theorem sorted0 (v : Value) (Bs bb n : Nat) (D : DataW Unit) (w : World) (hBs : Bs < w.heap.size) (hc : w.cell? ⟨Bs, 0, none⟩ = some (.map (some bb))) (hm : MapB w bb n D) (he : ∀ z, Maps.has D z = false) :
    Calls Tryz.prog 60 #[.func (.func 95) #[] #[.pointer (some ⟨Bs, 0, none⟩)], v] w fun e w' => e = .returned (.slice none 0 0) ∧ Below w.heap.size w w' := by
  have H := Lib.hid (collect0 Bs bb n D w hBs hc hm he)
  clear hBs hc hm he
  go_enter Tryz.func60, Tryz.ntmps60
  go_wp2_with fail
  refine H.out.mono ?_
  rintro e w1 ⟨rfl, hb⟩
  have HB := Lib.hid hb
  clear hb
  go_wp2_with fail
  refine (sort0 _ _).mono ?_
  rintro e w' ⟨rfl, rfl⟩
  go_wp2
  go_ret
  exact ⟨rfl, HB.out⟩
theorem keysM (bb : Nat) (w : World) : Calls Tryz.prog 61 #[.map (some bb)] w fun e w' => e = .returned (.func (.func 95) #[] #[.pointer (some ⟨w.heap.size, 0, none⟩)]) ∧ w' = w.alloc (.cells #[.map (some bb)] 106) := by
  go_enter Tryz.func61, Tryz.ntmps61
  go_wp2
  go_ret
  exact ⟨rfl, rfl⟩
section
variable {w0 w : World} {Y : List Nat} {q c mm tb bb R : Nat} {pd : Nat → Nat} {S : Nat → Sd} {G : Nat → Bool}
/-- as long as there are spares on both sides, no place is bad -/
theorem Bad_0 (h : MG w0 Y mm tb bb q pd S G c R w) (hm : ∀ t, t < 2 → (S t).m.length < 6) : Calls Tryz.prog 21 #[.pointer (some ⟨mm, 0, none⟩)] w fun e w' => e = .returned (.slice none 0 0) ∧ Below w.heap.size w w' := by
  obtain ⟨n, D, hn, hmap, hbad⟩ := h.map
  have he : ∀ z, Maps.has D z = false := fun z => by
    cases hz : Maps.has D z with
    | false => rfl
    | true =>
      obtain ⟨s, b, h1, h2, h3, h4⟩ := hbad.2 z hz
      have := hm s h1; omega
  have c3 := h.c3
  have HE := Lib.hid he
  have HMP := Lib.hid (mapB_same hmap (Below.heap_alloc w (.cells #[.map (some bb)] 106) _ (mapB_lt hmap)))
  have HC := Lib.hid ((Has.new w [.map (some bb)] 106).cell 0)
  have HB0 := Lib.hid (Tab.b_new w (.cells #[.map (some bb)] 106))
  clear hn hmap hbad he h
  go_enter Tryz.func21, Tryz.ntmps21
  go_wp2_with fail
  refine (keysM bb _).mono ?_
  rintro e w1 ⟨rfl, rfl⟩
  go_wp2_with fail
  refine (sorted0 _ w.heap.size bb n D _ (by simp) HC.out HMP.out HE.out).mono ?_
  rintro e w2 ⟨rfl, hb⟩
  have HB := Lib.hid (HB0.out.trans (hb.mono HB0.out.size))
  clear hb
  go_wp2
  go_ret
  exact ⟨rfl, HB.out⟩
end
end Go.Proofs.YtcjfooikmaipdaaGreatDoor.Mir

