/- Contracts of layer 3 (dev): lasts, Flush, Crash. -/
import Derived.Deep.DeepCutAuto
import Derived.Deep.RegionWith
import Derived.Test.YtlnocdmechidfaaDevC
namespace Go.Proofs.Ytlnocdmechidfaa.Dev
open Go.RowKit Go.Proofs.Ytlnocdmechidfaa
set_option linter.unusedVariables false

set_option maxRecDepth 100000 in
set_option maxHeartbeats 1000000 in
theorem lasts_any {p sb : Nat} {cv : Value} {D : Dv} (i k : Nat) (t : ByteArray) (w : World) (h : DevAt w p sb cv D) (hi : i < D.n) (ht : t.size = D.size) (hk : k ≤ D.size) :
    Calls Try.prog 36 #[.pointer (some ⟨p, 0, none⟩), .agg #[.int .i64 (i : Nat), .string t], .int .i64 (k : Nat)] w fun e w' => e = .returned (.tuple #[]) ∧ Chg (foot p sb cv) w w' ∧ DevAt w' p sb cv (D.put i t k) := by
  have h2 := h.c2
  have hm := h.media i hi
  have hf := h.sfz (i * 2)
  have hn4 := h.ok.n4096
  have hs4 := h.ok.s1024
  have hps : p < w.heap.size := h.main.lt
  have hss : sb < w.heap.size := h.secs.lt
  have hmz := h.ok.media _ (List.getElem_mem hi)
  have HD := Lib.hid (show ∀ n, DevAt (((w.alloc (.cells #[.int .i64 (i : Nat), .string t] 76)).setCell ⟨sb, i * 2, none⟩ (.string (mixB t (D.secs[i]'hi).1 k))).drewN n) p sb cv (D.put i t k) from
    fun n => ((h.alloc _).setMedia i hi _ _ (D.put_eq i t k hi) (D.put_ok h.ok i t k hi ht hk)).drewN n)
  have HC := Lib.hid (show ∀ n, Chg (foot p sb cv) w (((w.alloc (.cells #[.int .i64 (i : Nat), .string t] 76)).setCell ⟨sb, i * 2, none⟩ (.string (mixB t (D.secs[i]'hi).1 k))).drewN n) from
    fun n => (((Chg.refl _ _).alloc _).setCell (fun _ => .inr (.inl rfl)) _).drewN n)
  obtain ⟨m, hme⟩ : ∃ m, m = (D.secs[i]'hi).1 := ⟨_, rfl⟩
  rw [← hme] at hm hmz HD HC
  have hii : (i : Int) < (D.n : Int) := by omega
  have hkt : k ≤ t.size := by omega
  have hkm : k ≤ m.size := by omega
  have hms : ¬ 9223372036854775807 < m.size := by omega
  unfold mixB at HD HC
  clear hme h ht hmz
  go_enter Try.func36, Try.ntmps36
  go_wp2
  go_quiet (fail)
  go_wp2
  refine Reg.still_tail 14 (by kernel_rfl) (by kernel_rfl) ?_
  simp only [List.take_succ_cons, List.take_zero, List.drop_succ_cons, List.drop_zero]
  repeat still_step
  try refine wpStill_nil ?_
  go_wp2
  trace_state
  go_end0
  exact ⟨rfl, HC.out _, HD.out _⟩
end Go.Proofs.Ytlnocdmechidfaa.Dev
