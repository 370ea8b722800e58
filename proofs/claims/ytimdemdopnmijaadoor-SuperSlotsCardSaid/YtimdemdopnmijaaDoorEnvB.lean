/- Contracts of layer 4 (env): ahead, checkOf. -/
import Derived.Test.YtimdemdopnmijaaDoorEnvA
namespace Go.Proofs.YtimdemdopnmijaaDoor.Env
open Go.RowKit Go.Proofs.YtimdemdopnmijaaDoor Go.Proofs.YtimdemdopnmijaaDoor.Lend
set_option linter.unusedVariables false

theorem keep3 {w1 w2 : World} {p q r : Addr} {x y z : Value} (h : w1.cell? p = some x ∧ w1.cell? q = some y ∧ w1.cell? r = some z) (hb : Below w1.heap.size w1 w2) :
    w2.cell? p = some x ∧ w2.cell? q = some y ∧ w2.cell? r = some z := by
  obtain ⟨h1, h2, h3⟩ := h
  exact ⟨by rw [hb.cell (World.block_lt_of_cell? _ _ h1)]; exact h1, by rw [hb.cell (World.block_lt_of_cell? _ _ h2)]; exact h2, by rw [hb.cell (World.block_lt_of_cell? _ _ h3)]; exact h3⟩
theorem below_new (w : World) (o : Obj) : Below w.heap.size w (w.alloc o) := (Below.refl _ _).alloc (Nat.le_refl _) _
theorem below_on {w w1 w2 : World} (h : Below w.heap.size w w1) (k : Below w1.heap.size w1 w2) : Below w.heap.size w w2 := h.trans (k.mono h.size)
theorem below_nw {w w1 : World} (h : Below w.heap.size w w1) (o : Obj) : Below w.heap.size w (w1.alloc o) := h.alloc h.size o
theorem below_dr {w w1 : World} (h : Below w.heap.size w w1) : Below w.heap.size w w1.drew := h.drew
theorem below_dn {w w1 : World} (h : Below w.heap.size w w1) (n : Nat) : Below w.heap.size w (w1.drewN n) := below_drewN h n
theorem below_st {w w1 : World} (h : Below w.heap.size w w1) {a : Addr} (ha : w.heap.size ≤ a.block) (v : Value) : Below w.heap.size w (w1.setCell a v) := h.setCell ha v
theorem ns6 {k n a g c : Int} (h : Fit k n a g c) : ∀ x ∈ [k, 0, n, a, g, c], 0 ≤ x ∧ x < 18446744073709551616 := by
  have := h.k0; have := h.n0; have := h.a0; have := h.g0; have := h.c0; have := h.k1; have := h.n1; have := h.a1; have := h.g1; have := h.c1
  intro x hx
  simp only [List.mem_cons, List.mem_nil_iff, or_false] at hx
  omega
theorem ret_str {a b : ByteArray} (h : a = b) : Ending.returned (.string a) = .returned (.string b) := by rw [h]
set_option maxHeartbeats 1000000 in
set_option maxRecDepth 100000 in
theorem ahead_any (k n a g c : Int) (w : World) (hf : Fit k n a g c) :
    Calls Tryd.prog 38 #[.agg #[.int .u8 k, .int .i64 a, .int .u64 g], .int .i64 n, .int .u32 c] w fun e w' => e = .returned (.string (strOf (hdr k n a g c))) ∧ Below w.heap.size w w' := by
  have HN := Lib.hid (ns6 hf)
  have HW := Lib.hid hf.wr
  have HSZ : (strOf (encL envW [k, 0, n, a, g, c])).size ≤ 20 := by rw [encL_env]; show List.length _ ≤ 20; simp [encN_length]
  have hk0 := hf.k0; have hk1 : k ≤ 255 := by have := hf.k1; omega
  have hn0 := hf.n0; have hn1 : n ≤ 65535 := by have := hf.n1; omega
  have ha0 := hf.a0; have ha1 : a ≤ 4294967295 := by have := hf.a1; omega
  have hc0 := hf.c0; have hc1 : c ≤ 4294967295 := by have := hf.c1; omega
  have wk : IntKind.u64.wrap k = k := by rw [wrap_u64]; omega
  have wn : IntKind.u64.wrap n = n := by rw [wrap_u64]; omega
  have wa : IntKind.u64.wrap a = a := by rw [wrap_u64]; omega
  have wc : IntKind.u64.wrap c = c := by rw [wrap_u64]; omega
  clear hf
  go_enter Tryd.func38, Tryd.ntmps38
  go_wp2_with fail
  go_region_held3 (fun W => W.cell? ⟨w.heap.size, 0, none⟩ = some (.int .u8 k) ∧ W.cell? ⟨w.heap.size, 1, none⟩ = some (.int .i64 a) ∧ W.cell? ⟨w.heap.size, 2, none⟩ = some (.int .u64 g))
    (first
      | exact keep3 (by assumption) (by assumption)
      | exact keep3 (by assumption) (below_new _ _)
      | go_keep)
    (first
      | (go_at_call 58; refine (envW_any _).mono ?_; rintro e wm ⟨bm, rfl, hrow, hbel⟩)
      | (go_at_call 42
         refine (write_any _ _ 6 6 6 6 envW [k, 0, n, a, g, c] _ ?_ ?_ (by decide) (by decide) HN.out).mono ?_
         · repeat (first | assumption | apply Row.drw | apply Row.new | refine Row.later ?_ (by assumption))
         · repeat (first | (refine Row.sixAt _ _ _ _ _ _ _ _ _ _ ?_; first | rfl | (simp; done)) | apply Row.drw | apply Row.new | refine Row.later ?_ (by assumption))
         rintro e wo ⟨rfl, hbel2⟩
         rw [HW.out.1, HW.out.2]))
  all_goals
    rename_i hend
    clear hend wk wn wa wc
    go_wp2_with fail
    go_ret
    refine ⟨ret_str (strOf_ext ?_), ?_⟩
    · simp [hdr, markL, strOf]
    · repeat (first | exact Below.refl _ _ | apply below_nw | apply below_dr | refine below_on ?_ (by assumption))

theorem ck_cat (k n a g : Int) (body : ByteArray) : Sum.chk 0 (Sum.cat [strOf (hdr k n a g 0), body]) = ckL k n a g body.data.toList := by
  rw [ckL]; congr 1; simp [Sum.cat, strOf]
theorem ret_u32 {a b : Int} (h : a = b) : Ending.returned (.int .u32 a) = .returned (.int .u32 b) := by rw [h]
/-- the table, behind steps that leave what was there -/
theorem tab_on {w w1 : World} {b : Nat} (h : Sum.IsTab w b) (hb : Below w.heap.size w w1) : Sum.IsTab w1 b := h.below hb (Nat.le_refl _)
set_option maxHeartbeats 1000000 in
set_option maxRecDepth 100000 in
theorem checkOf_any (b : Nat) (k n a g : Int) (body : ByteArray) (w : World) (ht : Sum.IsTab w b) (hf : Fit k n a g 0) (hs : body.size ≤ 100000) :
    Calls Tryd.prog 37 #[.pointer (some ⟨b, 0, none⟩), .agg #[.int .u8 k, .int .i64 a, .int .u64 g], .int .i64 n, .string body] w fun e w' => e = .returned (.int .u32 (ckL k n a g body.data.toList)) ∧ Below w.heap.size w w' := by
  have HT := Lib.hid ht
  have HF := Lib.hid hf
  have HS := Lib.hid hs
  have HC := Lib.hid (ck_cat k n a g body)
  clear ht hf
  go_enter Tryd.func37, Tryd.ntmps37
  go_wp2_with fail
  refine (ahead_any k n a g 0 _ HF.out).mono ?_
  rintro e w1 ⟨rfl, hb1⟩
  have hb1 := below_on (below_new w _) hb1
  have HB := Lib.hid (below_nw hb1 (.cells #[.string (strOf (hdr k n a g 0)), .string body] 9))
  have HT1 := Lib.hid (tab_on HT.out HB.out)
  have HR := Lib.hid (Sum.StrRow.two w1 (strOf (hdr k n a g 0)) body 9)
  have HSS := Lib.hid (show ∀ s ∈ [strOf (hdr k n a g 0), body], s.size ≤ 1000000 by
    intro s hs
    simp only [List.mem_cons, List.mem_nil_iff, or_false] at hs
    rcases hs with rfl | rfl
    · show List.length _ ≤ _; rw [hdr_length]; decide
    · have := HS.out; omega)
  clear hb1 hs
  go_wp2_with fail
  refine (Sum.of_any b _ 2 2 _ _ HT1.out HR.out (by decide) HSS.out).mono ?_
  rintro e w2 ⟨rfl, m, rfl⟩
  rw [HC.out]
  go_wp2_with fail
  go_ret
  exact ⟨rfl, below_dn HB.out m⟩
end Go.Proofs.YtimdemdopnmijaaDoor.Env
