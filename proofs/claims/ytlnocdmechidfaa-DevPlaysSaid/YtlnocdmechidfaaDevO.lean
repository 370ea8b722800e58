/- Contracts for layer 3's laws: the calls of a device that the law itself made. -/
import Derived.Test.YtlnocdmechidfaaDevW
import Derived.Test.YtlnocdmechidfaaDevS
namespace Go.Proofs.Ytlnocdmechidfaa.Dev
open Go.RowKit Go.Proofs.Ytlnocdmechidfaa
set_option linter.unusedVariables false
theorem stick_own {w0 w : World} {p : Nat} {D : Dv} (i : Int) (h : Own9 w0 p D w) (hl : D.cache.length ≤ 1000000000) :
    Calls Try.prog 14 #[.pointer (some ⟨p, 0, none⟩), .int .i64 i] w fun e w' => e = .returned (.tuple #[]) ∧ Own9 w0 p (D.stickD i) w' := by
  obtain ⟨sb, cv, hd, hf, hb⟩ := h
  exact (stick_any i w hd hl).mono fun e w' ⟨he, hn⟩ => ⟨he, Own9.now hf hb hn⟩
theorem lose_own {w0 w : World} {p : Nat} {D : Dv} (n : Int) (h : Own9 w0 p D w) (hn : n ≤ 9223372036854775807) :
    Calls Try.prog 18 #[.pointer (some ⟨p, 0, none⟩), .int .i64 n] w fun e w' => e = .returned (.tuple #[]) ∧ Own9 w0 p { D with lose := n.toNat } w' := by
  obtain ⟨sb, cv, hd, hf, hb⟩ := h
  exact (lose_any n w hd hn).mono fun e w' ⟨he, hc, hd'⟩ => ⟨he, Own9.now hf hb (.same hc hd')⟩
theorem fuse_own {w0 w : World} {p : Nat} {D : Dv} (n : Int) (h : Own9 w0 p D w) (hn : n ≤ 9223372036854775807) :
    Calls Try.prog 20 #[.pointer (some ⟨p, 0, none⟩), .int .i64 n] w fun e w' => e = .returned (.tuple #[]) ∧ Own9 w0 p { D with fuse := n.toNat } w' := by
  obtain ⟨sb, cv, hd, hf, hb⟩ := h
  exact (fuse_any n w hd hn).mono fun e w' ⟨he, hc, hd'⟩ => ⟨he, Own9.now hf hb (.same hc hd')⟩
theorem stray_own {w0 w : World} {p : Nat} {D : Dv} (n t : Int) (h : Own9 w0 p D w) (hn : n ≤ 9223372036854775807) :
    Calls Try.prog 19 #[.pointer (some ⟨p, 0, none⟩), .int .i64 n, .int .i64 t] w fun e w' => e = .returned (.tuple #[]) ∧ Own9 w0 p { D with stray := n.toNat, tgt := t } w' := by
  obtain ⟨sb, cv, hd, hf, hb⟩ := h
  exact (stray_any n t w hd hn).mono fun e w' ⟨he, hc, hd'⟩ => ⟨he, Own9.now hf hb (.same hc hd')⟩
theorem kill_own {w0 w : World} {p : Nat} {D : Dv} (h : Own9 w0 p D w) :
    Calls Try.prog 24 #[.pointer (some ⟨p, 0, none⟩)] w fun e w' => e = .returned (.tuple #[]) ∧ Own9 w0 p { D with dead := true } w' := by
  obtain ⟨sb, cv, hd, hf, hb⟩ := h
  exact (kill_any w hd).mono fun e w' ⟨he, hc, hd'⟩ => ⟨he, Own9.now hf hb (.same hc hd')⟩
theorem dead_own {w0 w : World} {p : Nat} {D : Dv} (h : Own9 w0 p D w) :
    Calls Try.prog 46 #[.pointer (some ⟨p, 0, none⟩)] w fun e w' => e = .returned (.bool D.dead) ∧ w = w' := by
  obtain ⟨sb, cv, hd, hf, hb⟩ := h
  exact dead_any w hd
theorem off_own {w0 w : World} {p : Nat} {D : Dv} (h : Own9 w0 p D w) :
    Calls Try.prog 45 #[.pointer (some ⟨p, 0, none⟩)] w fun e w' => e = .returned (.bool D.off) ∧ w = w' := by
  obtain ⟨sb, cv, hd, hf, hb⟩ := h
  exact off_any w hd
theorem media_own {w0 w : World} {p : Nat} {D : Dv} (i : Int) (h : Own9 w0 p D w) :
    Calls Try.prog 26 #[.pointer (some ⟨p, 0, none⟩), .int .i64 i] w fun e w' => e = .returned (.string (mediaN D i)) ∧ w = w' := by
  obtain ⟨sb, cv, hd, hf, hb⟩ := h
  exact media_any i w hd
theorem count_own {w0 w : World} {p : Nat} {D : Dv} (h : Own9 w0 p D w) :
    Calls Try.prog 44 #[.pointer (some ⟨p, 0, none⟩)] w fun e w' => e = .returned (.tuple #[.int .i64 D.nr, .int .i64 D.nw, .int .i64 D.nf]) ∧ ∃ n, w' = w.drewN n := by
  obtain ⟨sb, cv, hd, hf, hb⟩ := h
  exact count_any w hd
/-- a crash whose fates lie in a row that isn't the device's -/
theorem crash_own {w0 w : World} {p : Nat} {D : Dv} (fb fl fc : Nat) (fs : List Int) (h : Own9 w0 p D w) (hl : D.cache.length ≤ 1000000000) (hfl : fl ≤ 1000000000)
    (hrow : Row .i64 w (some ⟨fb, 0, none⟩) fl fs) (hfb : ∀ f ∈ fs, f ≤ 9223372036854775807) (hap : ∀ sb cv, DevAt w p sb cv D → ¬ foot p sb cv fb) :
    Calls Try.prog 21 #[.pointer (some ⟨p, 0, none⟩), .slice (some ⟨fb, 0, none⟩) fl fc] w fun e w' => e = .returned (.tuple #[]) ∧ Own9 w0 p (D.crashD fs) w' := by
  obtain ⟨sb, cv, hd, hf, hb⟩ := h
  exact (crash_any (some ⟨fb, 0, none⟩) fl fc fs w hd hl hfl hrow (fun a e => by cases e; exact hap sb cv hd) hfb).mono fun e w' ⟨he, hn⟩ => ⟨he, Own9.now hf hb hn⟩
theorem Own9.drewN {w0 w : World} {p : Nat} {D : Dv} (h : Own9 w0 p D w) (n : Nat) : Own9 w0 p D (w.drewN n) := by
  obtain ⟨sb, cv, hd, hf, hb⟩ := h
  exact ⟨sb, cv, hd.drewN n, hf, ⟨hb.os, hb.tape, hb.output, hb.size, hb.block⟩⟩
/-- a new block is none of the device's -/
theorem Own9.fresh_block {w0 w : World} {p : Nat} {D : Dv} (h : Own9 w0 p D w) (o : Obj) : Own9 w0 p D (w.alloc o) ∧ ∃ sb cv, DevAt (w.alloc o) p sb cv D ∧ (∀ k, foot p sb cv k → w0.heap.size ≤ k) ∧ Below w0.heap.size w0 (w.alloc o) ∧ ¬ foot p sb cv w.heap.size := by
  obtain ⟨sb, cv, hd, hf, hb⟩ := h
  have h1 : DevAt (w.alloc o) p sb cv D := hd.alloc o
  have h2 : Below w0.heap.size w0 (w.alloc o) := hb.alloc hb.size o
  exact ⟨⟨sb, cv, h1, hf, h2⟩, sb, cv, h1, hf, h2, fun hk => by have := hd.lt _ hk; omega⟩
/-- 'd.Crash([]Fate{f})' -/
theorem crash_own_one {w0 w : World} {p : Nat} {D : Dv} (f : Int) (t : TypeId) (h : Own9 w0 p D w) (hl : D.cache.length ≤ 1000000000) (hf : f ≤ 9223372036854775807) :
    Calls Try.prog 21 #[.pointer (some ⟨p, 0, none⟩), .slice (some ⟨w.heap.size, 0, none⟩) 1 1] (w.alloc (.cells #[.int .i64 f] t)) fun e w' => e = .returned (.tuple #[]) ∧ Own9 w0 p (D.crashD [f]) w' := by
  obtain ⟨_, sb, cv, hd, hff, hb, hn⟩ := h.fresh_block (.cells #[.int .i64 f] t)
  refine (crash_any (some ⟨w.heap.size, 0, none⟩) 1 1 [f] _ hd hl (by omega) ⟨rfl, fun _ => ⟨_, _, rfl, fun i hi => ?_⟩⟩ (fun a e => by cases e; exact hn) (fun x hx => by rw [List.mem_singleton.1 hx]; exact hf)).mono fun e w' ⟨he, hn⟩ => ⟨he, Own9.now hff hb hn⟩
  match i, hi with
  | 0, _ => simp
end Go.Proofs.Ytlnocdmechidfaa.Dev
