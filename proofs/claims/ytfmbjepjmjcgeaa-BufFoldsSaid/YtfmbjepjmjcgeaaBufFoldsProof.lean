/-
  The law BufFolds holds: what the waiting message makes of a key's value is what all that were put of it do, in order; cut by whatever keys, each message is in one of both parts. Conditions: none but the row's own.
-/
import Derived.Test.YtfmbjepjmjcgeaaRows
import Derived.Test.YtfmbjepjmjcgeaaBufM
import Derived.Test.YtfmbjepjmjcgeaaStructsZ
import Derived.WalkKit
import Derived.ProofKit
import Derived.OpenShut
import Derived.ShutString
import Derived.ChangeOld
import Derived.Below
import Derived.Carry
namespace Go.Proofs.Ytfmbjepjmjcgeaa.bufFolds
open Go.ChangeShapes Go.WideShapes Go.ChangeAt Go.RowKit
open Go.Proofs.Ytfmbjepjmjcgeaa
open Go.ChangeMaps (open_string shut_string)
set_option linter.unusedVariables false

theorem own : ownKnob Try.prog.godebug = none := by kernel_rfl
theorem laidOut : laidOutB Try.prog = true := by kernel_rfl

theorem len4 {α : Type} : ∀ l : List α, l.length = 4 → ∃ z0 z1 z2 z3, l = [z0, z1, z2, z3]
  | [z0, z1, z2, z3], _ => ⟨z0, z1, z2, z3, rfl⟩
/-- the elements of field 0 of argument 0 -/
def AR0f0 (w : World) (a : Option Addr) (len : Nat) : Prop := 0 < len → ∃ b off, a = some ⟨b, off, none⟩ ∧ ∀ i, i < len → ∃ (x0 : Int) (x1 : ByteArray) (x2 : ByteArray) (x3 : Int), w.cell? ⟨b, off + (i * 4 + 0), none⟩ = some (.int .u8 x0) ∧ (Lit.int .u8 x0).wf = true ∧ w.cell? ⟨b, off + (i * 4 + 1), none⟩ = some (.string x1) ∧ x1.size ≤ 140737488355327 ∧ w.cell? ⟨b, off + (i * 4 + 2), none⟩ = some (.string x2) ∧ x2.size ≤ 140737488355327 ∧ w.cell? ⟨b, off + (i * 4 + 3), none⟩ = some (.int .u64 x3) ∧ (Lit.int .u64 x3).wf = true
theorem open_AR0f0 {H : Type} {enc : TypeId × Value → H} {w : World} {held : Bool} {c : Value} {d : DataW H} {pl : List MemPlace} (h : ∃ m, DataW.trod enc Try.prog w 0 (fun _ => true) held m 71 [c] = some (d, pl)) (hz : ∀ n ∈ d.weights Try.prog 71, n ≤ reachBytes) :
    ∃ a len cap, c = .slice a len cap ∧ AR0f0 w a len ∧ len ≤ cap ∧ cap ≤ maxLen := by
  obtain ⟨a, len, cap, hc, hl, hm, hx⟩ := open_structs_z Try.underlying71 Try.underlying77 (by kernel_rfl) (by kernel_rfl) (by decide) h hz
  refine ⟨a, len, cap, hc, fun hpos => ?_, hl, hm⟩
  obtain ⟨b, off, ha, hf⟩ := hx hpos
  refine ⟨b, off, ha, fun i hi => ?_⟩
  obtain ⟨v0, hc0, ht0, hz0⟩ := hf i hi 0 _ rfl
  obtain ⟨x0, rfl, hw0⟩ := open_int_cell Try.underlying5 ht0
  obtain ⟨v1, hc1, ht1, hz1⟩ := hf i hi 1 _ rfl
  obtain ⟨x1, rfl, hw1'⟩ := open_str_cell Try.underlying9 ht1
  have hw1 := hz1 Try.underlying9 _ rfl
  obtain ⟨v2, hc2, ht2, hz2⟩ := hf i hi 2 _ rfl
  obtain ⟨x2, rfl, hw2'⟩ := open_str_cell Try.underlying9 ht2
  have hw2 := hz2 Try.underlying9 _ rfl
  obtain ⟨v3, hc3, ht3, hz3⟩ := hf i hi 3 _ rfl
  obtain ⟨x3, rfl, hw3⟩ := open_int_cell Try.underlying29 ht3
  exact ⟨x0, x1, x2, x3, hc0, hw0, hc1, hw1, hc2, hw2, hc3, hw3⟩

set_option linter.unusedSimpArgs false
open Go.Proofs.Ytfmbjepjmjcgeaa.Buf Go.Proofs.Ytfmbjepjmjcgeaa.Msg Go.Proofs.Ytfmbjepjmjcgeaa.Rec Go.Proofs.Ytfmbjepjmjcgeaa.Lend
theorem open_struct_at {H : Type} {enc : TypeId × Value → H} {P : Program} {w W : World} {r : Reach} {base b0 n : Nat} {sp : Nat → Bool} {held : Bool} {t : TypeId} {fs : Array Field} {v : Value} {d : DataW H} {ps : List MemPlace}
    (hs : P.underlying t = some (.struct fs)) (hC : P.cellsOf t = n) (hval : Value.okWide P W r b0 t v) (hd : DataW.Trod enc P w base sp held t v d ps) :
    ∃ (cs : List Value) (xs : List (DataW H × List MemPlace)), v = .agg cs.toArray ∧ d = .agg (xs.map (·.1)) ∧ cs.length = n ∧ ∀ (j : Nat) (f : Field), fs[j]? = some f → ∃ m y, xs[j]? = some y ∧ DataW.trod enc P w base sp held m f.type ((cs.drop f.offset).take (P.cellsOf f.type)) = some y := by
  obtain ⟨cs, rfl, hsz⟩ := okWide_struct hs hval
  obtain ⟨fuel, hf⟩ := hd
  obtain ⟨xs, k, _, hx, _, hlen, hg⟩ := DataW.trod_struct hs hf
  refine ⟨cs.toList, xs, by simp, (Prod.mk.inj hx).1, by rw [Array.length_toList, hsz, hC], fun j f hj => ?_⟩
  have h1 := hg j f hj
  have hc' : (Value.agg cs).cells.toList = cs.toList := by simp [Value.cells]
  rw [hc'] at h1
  have hjl : j < fs.size := (Array.getElem?_eq_some_iff.1 hj).1
  have h2 := List.getElem?_eq_getElem (show j < xs.length by omega)
  exact ⟨k, _, h2, h1.trans h2⟩
theorem open_str_at {H : Type} {enc : TypeId × Value → H} {P : Program} {w : World} {base : Nat} {sp : Nat → Bool} {held : Bool} {e : TypeId} {c : Value} {xs : List (DataW H × List MemPlace)} {j : Nat} (he : P.underlying e = some .string) (h : ∃ m y, xs[j]? = some y ∧ DataW.trod enc P w base sp held m e [c] = some y) : ∃ s : ByteArray, c = .string s ∧ (xs.map (·.1))[j]? = some (.lit (.string s.data.toList)) := by
  obtain ⟨m, y, hy, h⟩ := h
  obtain ⟨s, hs, hz, hw⟩ := DataW.trod_string he h
  refine ⟨s, by simpa using hs, ?_⟩
  rw [List.getElem?_map, hy, hz]; rfl
/-- a text in a struct that came in is no longer than the reading's reach -/
theorem str_sized {H : Type} {P : Program} {ts : List TypeId} {ds : List (DataW H)} (h : (DataW.weightsEach P ts ds).all (· ≤ reachBytes) = true) {j : Nat} {t : TypeId} {fs : Array Field} {parts : List (DataW H)} (ht : ts[j]? = some t) (hd : ds[j]? = some (.agg parts)) (hu : P.underlying t = some (.struct fs)) {i : Nat} {f : Field} {s : ByteArray} (hf : fs[i]? = some f) (hp : parts[i]? = some (.lit (.string s.data.toList))) : s.size ≤ 140737488355327 := by
  have hm : s.data.toList.length ∈ DataW.weights P t (.agg parts) := by
    simp only [DataW.weights, hu]
    refine DataW.weights_mem_each (j := i) (t := f.type) (d := .lit (.string s.data.toList)) ?_ hp _ ?_
    · rw [List.getElem?_map, Array.getElem?_toList, hf]; rfl
    · simp only [DataW.weights, List.mem_singleton]
  have := List.all_eq_true.1 h _ (DataW.weights_mem_each ht hd _ hm)
  have h2 := reachBytes_lt
  have h3 : s.data.toList.length = s.size := by simp
  simp only [decide_eq_true_eq] at this
  omega
/-- a field of a struct that came in weighs no more than the reading's reach -/
theorem fld_sized {H : Type} {P : Program} {ts : List TypeId} {ds : List (DataW H)} (h : (DataW.weightsEach P ts ds).all (· ≤ reachBytes) = true) {j : Nat} {t : TypeId} {fs : Array Field} {parts : List (DataW H)} (ht : ts[j]? = some t) (hd : ds[j]? = some (.agg parts)) (hu : P.underlying t = some (.struct fs)) {i : Nat} {f : Field} {d : DataW H} (hf : fs[i]? = some f) (hp : parts[i]? = some d) :
    ∀ n ∈ d.weights P f.type, n ≤ reachBytes := by
  intro n hn
  have hm : n ∈ DataW.weights P t (.agg parts) := by
    simp only [DataW.weights, hu]
    refine DataW.weights_mem_each (j := i) (t := f.type) (d := d) ?_ hp _ hn
    rw [List.getElem?_map, Array.getElem?_toList, hf]; rfl
  have := List.all_eq_true.1 h _ (DataW.weights_mem_each ht hd _ hm)
  simpa using this
theorem ups0 {w : World} {a : Option Addr} {len cap : Nat} (h : AR0f0 w a len) : ∃ l, len = l.length ∧ UR w (.slice a len cap) l ∧ ∀ u ∈ l, Qu u := by
  refine ur_of Qu fun h0 => ?_
  obtain ⟨b, off, ha, hx⟩ := h h0
  refine ⟨b, off, ha, fun i hi => ?_⟩
  obtain ⟨x0, x1, x2, x3, c0, h0, c1, h1, c2, h2, c3, h3⟩ := hx i hi
  exact ⟨_, ⟨⟨(u8_bd h0).1, (u8_bd h0).2, (u64_bd h3).1, (u64_bd h3).2⟩, by simpa using h1, by simpa using h2⟩, up_cells c0 c1 c2 c3⟩
/-- the buffer in its block, and the map beside it -/
structure Fd (W0 : World) (va : Value) (es : List Mp.Ent) (A : List Up) (w : World) : Prop where
  bel : Below W0.heap.size W0 w
  b : Has w W0.heap.size 75 [va]
  ra : RA w (W0.heap.size + 2) va (foldW A)
  gm : Gm w (W0.heap.size + 2) (W0.heap.size + 1) es A
section
variable {W0 w w' : World} {va cv : Value} {es : List Mp.Ent} {A : List Up}
theorem Fd.on (h : Fd W0 va es A w) (hb : Below w.heap.size w w') : Fd W0 va es A w' := ⟨below_on h.bel hb, h.b.below hb h.b.lt, own_bel h.ra hb, h.gm.on hb⟩
theorem Fd.gm' (h : Fd W0 va es A w) {n : Nat} (e : W0.heap.size = n + 1) : Gm w (n + 1 + 2) (n + 1 + 1) es A := by rw [← e]; exact h.gm
end
/-- what Get tells, by a message and whether there is one -/
theorem gt_form (o : Option Up) : ∃ u b, gtE o = .returned (.tuple #[.agg #[.int .u8 u.kind, .string (Lend.strOf u.key), .string (Lend.strOf u.val), .int .u64 u.delta], .bool b]) ∧ (∀ x, o = some x → u = x ∧ b = true) ∧ (o = none → b = false) := by
  cases o with
  | none => exact ⟨⟨0, [], [], 0⟩, false, rfl, (fun x h => by cases h), fun _ => rfl⟩
  | some u => exact ⟨u, true, rfl, (fun x h => by injection h with h; exact ⟨h, rfl⟩), fun h => by cases h⟩
structure Fok (A : List Up) (k : Nat) : Prop where
  tm : ∀ u ∈ A, Tm u ∧ u.key ≠ []
  key : ∀ u ∈ A, u.key.length ≤ 3
  len : A.length = k
theorem Fok.snoc {A : List Up} {k : Nat} {x : Up} (h : Fok A k) (h1 : Tm x) (h2 : x.key ≠ []) (h3 : x.key.length ≤ 3) : Fok (A ++ [x]) (k + 1) :=
  ⟨fun u hu => by rcases List.mem_append.1 hu with hu | hu; exact h.tm u hu; rw [List.mem_singleton] at hu; rw [hu]; exact ⟨h1, h2⟩, fun u hu => by rcases List.mem_append.1 hu with hu | hu; exact h.key u hu; rw [List.mem_singleton] at hu; rw [hu]; exact h3, by rw [List.length_append, h.len]; rfl⟩

/-! ### STEP 1: THE WALK -/
set_option maxHeartbeats 8000000 in
set_option maxRecDepth 100000 in
theorem walk (a0f0 : Option Addr) (a0f0l a0f0c : Nat) (a0f1 : ByteArray) (a0f2 : ByteArray) (a0f3 : ByteArray) (w : World) (w0f0 : AR0f0 w a0f0 a0f0l) (w0f0l : a0f0l ≤ a0f0c) (w0f0m : a0f0c ≤ maxLen) (w0f1 : a0f1.size ≤ 140737488355327) (w0f2 : a0f2.size ≤ 140737488355327) (w0f3 : a0f3.size ≤ 140737488355327) :
    Calls Try.prog 7 #[.agg #[.slice a0f0 a0f0l a0f0c, .string a0f1, .string a0f2, .string a0f3]] w fun e w' => e = .returned (.bool true) ∧ Below w.heap.size w w' := by
  obtain ⟨l, hl, hu, hq⟩ := ups0 (cap := a0f0c) w0f0
  have HU := Lib.hid hu
  have HN := Lib.hid hl
  have HQ := Lib.hid hq
  have HNC := Lib.hid (show a0f0l ≤ a0f0c ∧ a0f0c ≤ 9223372036854775807 from ⟨w0f0l, by unfold maxLen at w0f0m; exact w0f0m⟩)
  clear hl hu hq w0f0 w0f0l w0f0m
  obtain ⟨low, rfl⟩ : ∃ v, a0f2 = Lend.strOf v := ⟨a0f2.data.toList, Lend.strOf_ext rfl⟩
  obtain ⟨high, rfl⟩ : ∃ v, a0f3 = Lend.strOf v := ⟨a0f3.data.toList, Lend.strOf_ext rfl⟩
  obtain ⟨w0, hw0⟩ : ∃ x, x = w.alloc (.cells #[.slice a0f0 a0f0l a0f0c, .string a0f1, .string (Lend.strOf low), .string (Lend.strOf high)] 73) := ⟨_, rfl⟩
  have HB0 := Lib.hid (show Below w.heap.size w w0 by rw [hw0]; exact below_new _ _)
  have HF0 := Lib.hid (show Has w0 w.heap.size 73 [.slice a0f0 a0f0l a0f0c, .string a0f1, .string (Lend.strOf low), .string (Lend.strOf high)] by rw [hw0]; exact Has.new _ _ _)
  have HS0 := Lib.hid (show w0.heap.size = w.heap.size + 1 by rw [hw0]; simp)
  obtain ⟨w1, hw1⟩ : ∃ x, x = (w0.alloc (.cells #[.slice none 0 0] 75)).alloc (.map #[] 0) := ⟨_, rfl⟩
  have HB1 := Lib.hid (show Below w0.heap.size w0 w1 by rw [hw1]; exact below_nw (below_new _ _) _)
  have HS1 := Lib.hid (show w1.heap.size = w.heap.size + 1 + 1 + 1 by rw [hw1, ← HS0.out]; simp)
  have HM1 := Lib.hid (show ∀ base, Gm w1 base (w.heap.size + 1 + 1) [] [] from fun base => by
    have := Gm.new (base := base) (w0.alloc (.cells #[.slice none 0 0] 75))
    rw [World.size_alloc, HS0.out] at this
    rw [hw1]; exact this)
  have HX1 := Lib.hid (show Has w1 (w.heap.size + 1) 75 [.slice none 0 0] by
    rw [hw1, ← HS0.out]; exact (Has.new w0 [.slice none 0 0] _).alloc _)
  have HF1 := Lib.hid (HF0.out.below HB1.out HF0.out.lt)
  have HU1 := Lib.hid ((HU.out.below HB0.out).below HB1.out)
  have HBW1 := Lib.hid (below_on HB0.out HB1.out)
  obtain ⟨sv, hsv⟩ : ∃ v, a0f1.extract 0 (min a0f1.size 20) = Lend.strOf v := ⟨(a0f1.extract 0 (min a0f1.size 20)).data.toList, Lend.strOf_ext rfl⟩
  have HSV := Lib.hid hsv
  have hmm := @run_makeMap Try.prog
  obtain ⟨vm, hvm⟩ : ∃ m, m = min a0f1.size 20 := ⟨_, rfl⟩
  have HVM := Lib.hid hvm
  go_enter Try.func7, Try.ntmps7
  go_upto_region 3 with fail
  rw [← hw0, ← hw1]
  clear hw0 hw1 hmm hsv hvm
  refine Reg.region_vals (by kernel_rfl) [(29, .pointer (some ⟨w.heap.size, 1, none⟩)), (30, .string a0f1), (31, .pointer (some ⟨w.heap.size, 1, none⟩)), (32, .string a0f1), (33, .int .i64 (a0f1.size : Nat)), (34, .int .i64 (vm : Nat)), (35, .string (Lend.strOf sv)), (36, .pointer (some ⟨w.heap.size, 2, none⟩)), (37, .string (Lend.strOf low)), (38, .pointer (some ⟨w.heap.size, 3, none⟩)), (39, .string (Lend.strOf high)), (5, .string (Lend.strOf sv)), (6, .string (Lend.strOf low)), (7, .string (Lend.strOf high))] (fun l wy => Below w1.heap.size w1 wy) (by kernel_rfl) (by kernel_rfl) (by kernel_rfl) ((Below.refl _ _).drew) ⟨?_, ?_, ?_, ?_, ?_, ?_, ?_, ?_, ?_, ?_, ?_, ?_, ?_, ?_, trivial⟩ ?hend
  · -- 0: 29 := Op.fieldAddr 73 t1 1
    intro aq wq lq hI hl hdone hlater hold hd ho
    have h1 : aq.tmps.getD 1 undef = .pointer (some ⟨w.heap.size, 0, none⟩) := ho 1 (by kernel_rfl)
    clear hd ho hdone hlater hold
    rw [Array.getD_eq_getD_getElem?] at h1
    refine Reg.step2_val (.pointer (some ⟨w.heap.size, 1, none⟩)) ?_ rfl hI trivial
    go_simp
  · -- 1: 30 := Op.load 9 t29
    intro aq wq lq hI hl hdone hlater hold hd ho
    have h29 : aq.tmps.getD 29 undef = .pointer (some ⟨w.heap.size, 1, none⟩) := hd 29 (by kernel_rfl)
    clear hd ho hdone hlater hold
    rw [Array.getD_eq_getD_getElem?] at h29
    have e0 : wq.cell? ⟨w.heap.size, 1, none⟩ = some (.string a0f1) := keep1 (HF1.out.cell 1) hI
    refine Reg.step2_val (.string a0f1) ?_ rfl hI trivial
    go_simp
  · -- 2: 31 := Op.fieldAddr 73 t1 1
    intro aq wq lq hI hl hdone hlater hold hd ho
    have h1 : aq.tmps.getD 1 undef = .pointer (some ⟨w.heap.size, 0, none⟩) := ho 1 (by kernel_rfl)
    clear hd ho hdone hlater hold
    rw [Array.getD_eq_getD_getElem?] at h1
    refine Reg.step2_val (.pointer (some ⟨w.heap.size, 1, none⟩)) ?_ rfl hI trivial
    go_simp
  · -- 3: 32 := Op.load 9 t31
    intro aq wq lq hI hl hdone hlater hold hd ho
    have h31 : aq.tmps.getD 31 undef = .pointer (some ⟨w.heap.size, 1, none⟩) := hd 31 (by kernel_rfl)
    clear hd ho hdone hlater hold
    rw [Array.getD_eq_getD_getElem?] at h31
    have e0 : wq.cell? ⟨w.heap.size, 1, none⟩ = some (.string a0f1) := keep1 (HF1.out.cell 1) hI
    refine Reg.step2_val (.string a0f1) ?_ rfl hI trivial
    go_simp
  · -- 4: 33 := Op.call ( builtin len, args := #(t32), argTypes := #(9) )
    intro aq wq lq hI hl hdone hlater hold hd ho
    have h32 : aq.tmps.getD 32 undef = .string a0f1 := hd 32 (by kernel_rfl)
    clear hd ho hdone hlater hold
    rw [Array.getD_eq_getD_getElem?] at h32
    refine Reg.step2_val (.int .i64 (a0f1.size : Nat)) ?_ rfl hI trivial
    simp [execOp, Act.eval, h32]
    try go_simp
  · -- 5: 34 := Op.call ( builtin min, args := #(t33, const (20:i64)), argTy
    intro aq wq lq hI hl hdone hlater hold hd ho
    have h33 : aq.tmps.getD 33 undef = .int .i64 (a0f1.size : Nat) := hd 33 (by kernel_rfl)
    clear hd ho hdone hlater hold
    rw [Array.getD_eq_getD_getElem?] at h33
    refine Reg.step2_val (.int .i64 (vm : Nat)) ?_ rfl hI trivial
    simp [execOp, Act.eval, h33]
    try go_simp
    have := HVM.out
    omega
  · -- 6: 35 := Op.slice 9 t30 none (some t34) none
    intro aq wq lq hI hl hdone hlater hold hd ho
    have h30 : aq.tmps.getD 30 undef = .string a0f1 := hd 30 (by kernel_rfl)
    have h34 : aq.tmps.getD 34 undef = .int .i64 (vm : Nat) := hd 34 (by kernel_rfl)
    clear hd ho hdone hlater hold
    rw [Array.getD_eq_getD_getElem?] at h30 h34
    refine Reg.step2_val (.string (Lend.strOf sv)) ?_ rfl hI trivial
    simp [execOp, Act.eval, h30, h34]
    try go_simp
    have hv := HVM.out
    rw [if_pos (by rw [hv]; exact Nat.min_le_left _ _), hv, HSV.out]
  · -- 7: 36 := Op.fieldAddr 73 t1 2
    intro aq wq lq hI hl hdone hlater hold hd ho
    have h1 : aq.tmps.getD 1 undef = .pointer (some ⟨w.heap.size, 0, none⟩) := ho 1 (by kernel_rfl)
    clear hd ho hdone hlater hold
    rw [Array.getD_eq_getD_getElem?] at h1
    refine Reg.step2_val (.pointer (some ⟨w.heap.size, 2, none⟩)) ?_ rfl hI trivial
    go_simp
  · -- 8: 37 := Op.load 9 t36
    intro aq wq lq hI hl hdone hlater hold hd ho
    have h36 : aq.tmps.getD 36 undef = .pointer (some ⟨w.heap.size, 2, none⟩) := hd 36 (by kernel_rfl)
    clear hd ho hdone hlater hold
    rw [Array.getD_eq_getD_getElem?] at h36
    have e0 : wq.cell? ⟨w.heap.size, 2, none⟩ = some (.string (Lend.strOf low)) := keep1 (HF1.out.cell 2) hI
    refine Reg.step2_val (.string (Lend.strOf low)) ?_ rfl hI trivial
    go_simp
  · -- 9: 38 := Op.fieldAddr 73 t1 3
    intro aq wq lq hI hl hdone hlater hold hd ho
    have h1 : aq.tmps.getD 1 undef = .pointer (some ⟨w.heap.size, 0, none⟩) := ho 1 (by kernel_rfl)
    clear hd ho hdone hlater hold
    rw [Array.getD_eq_getD_getElem?] at h1
    refine Reg.step2_val (.pointer (some ⟨w.heap.size, 3, none⟩)) ?_ rfl hI trivial
    go_simp
  · -- 10: 39 := Op.load 9 t38
    intro aq wq lq hI hl hdone hlater hold hd ho
    have h38 : aq.tmps.getD 38 undef = .pointer (some ⟨w.heap.size, 3, none⟩) := hd 38 (by kernel_rfl)
    clear hd ho hdone hlater hold
    rw [Array.getD_eq_getD_getElem?] at h38
    have e0 : wq.cell? ⟨w.heap.size, 3, none⟩ = some (.string (Lend.strOf high)) := keep1 (HF1.out.cell 3) hI
    refine Reg.step2_val (.string (Lend.strOf high)) ?_ rfl hI trivial
    go_simp
  · -- 11: 5 := Op.assign t35
    intro aq wq lq hI hl hdone hlater hold hd ho
    have h35 : aq.tmps.getD 35 undef = .string (Lend.strOf sv) := hd 35 (by kernel_rfl)
    clear hd ho hdone hlater hold
    exact Reg.step2_assign (.tmp 35) rfl h35 hI trivial
  · -- 12: 6 := Op.assign t37
    intro aq wq lq hI hl hdone hlater hold hd ho
    have h37 : aq.tmps.getD 37 undef = .string (Lend.strOf low) := hd 37 (by kernel_rfl)
    clear hd ho hdone hlater hold
    exact Reg.step2_assign (.tmp 37) rfl h37 hI trivial
  · -- 13: 7 := Op.assign t39
    intro aq wq lq hI hl hdone hlater hold hd ho
    have h39 : aq.tmps.getD 39 undef = .string (Lend.strOf high) := hd 39 (by kernel_rfl)
    clear hd ho hdone hlater hold
    exact Reg.step2_assign (.tmp 39) rfl h39 hI trivial
  case hend =>
    intro w2 hI
    have HB12 := Lib.hid (show Below w1.heap.size w1 w2 from hI)
    have HSL := Lib.hid (show sv.length ≤ 20 by
      have h1 := congrArg ByteArray.size HSV.out
      rw [ssize] at h1
      rw [← h1, ByteArray.size_extract]
      omega)
    clear hI HSV HVM
    simp only [Reg.fill, List.map_cons, List.map_nil, List.foldl_cons, List.foldl_nil, List.setIfInBounds_toArray, List.set_cons_zero, List.set_cons_succ]
    have HFD := Lib.hid (show Fd w0 (.slice none 0 0) [] [] w2 from ⟨below_on HB1.out HB12.out, by rw [HS0.out]; exact HX1.out.below HB12.out HX1.out.lt, World.ownsRow_nil _ _ _ _, by rw [HS0.out]; exact (HM1.out _).on HB12.out⟩)
    have HF2 := Lib.hid (HF1.out.below HB12.out HF1.out.lt)
    have HU2 := Lib.hid (HU1.out.below HB12.out)
    have z0 : w2.cell? ⟨w.heap.size, 0, none⟩ = some (.slice a0f0 a0f0l a0f0c) := HF2.out.cell 0
    obtain ⟨M, hm⟩ : ∃ m, m = min a0f0l 30 := ⟨_, rfl⟩
    have HMM := Lib.hid hm
    clear hm HF1 HU1 HM1 HX1 HB1 HS1 HB12 HBW1
    go_upto_region 4 with fail
    go_cut [46, 47, 48] (fun s t i wx => ∃ a' cap', s = .slice a' M cap' ∧ t = .int .i64 M ∧ i = .int .i64 ((0 : Nat) : Int) ∧ (0 < M → a' = a0f0) ∧ wx = w2)
    case first =>
      have hnc := HNC.out
      go_wp2_with fail
      all_goals
        go_meet
        first
        | (have e : M = 30 := by have := HMM.out; omega
           exact ⟨_, _, by rw [e], by rw [e]; rfl, rfl, fun _ => rfl, rfl⟩)
        | (have e1 : (min (a0f0l : Int) 30).toNat = M := by have := HMM.out; omega
           have e2 : max (min (a0f0l : Int) 30) 0 = (M : Int) := by have := HMM.out; omega
           exact ⟨_, _, by rw [e1], by rw [e2], rfl, fun _ => rfl, rfl⟩)
        | (have e : M = a0f0l := by have := HMM.out; omega
           exact ⟨_, _, by rw [e], by rw [e], rfl, fun _ => rfl, rfl⟩)
    case rest =>
      obtain ⟨s, c, rfl, rfl, rfl, haa, hww⟩ := hcut
      have hww := hww.symm
      subst hww
      have hml : M ≤ l.length ∧ M ≤ 30 := by have := HMM.out; have := HN.out; omega
      obtain ⟨hml, hmk⟩ := hml
      have HAA := Lib.hid haa
      clear haa z0
      go_wp2_with fail
      go_loopw [48] (fun i wr => ∃ (k : Nat) (va : Value) (es : List Mp.Ent) (A : List Up), k ≤ M ∧ i = .int .i64 k ∧ Fd w0 va es A wr ∧ Hid (Fok A k)) (fun i _ => M - (intOf i).toNat)
      case atStart => exact ⟨0, _, _, _, Nat.zero_le _, rfl, HFD.out, Lib.hid ⟨(fun u h => by cases h), (fun u h => by cases h), rfl⟩⟩
      case round =>
        obtain ⟨k, va, es, A, hk, rfl, hfd, HOK⟩ := hrel
        rename World => wr
        have HFD := Lib.hid hfd
        have HGD := Lib.hid (foldW_gd HOK.out.tm)
        obtain ⟨ba, bc, rfl, hbc⟩ := own_shape hfd.ra
        have HCP := Lib.hid (cp_own hfd.ra)
        obtain ⟨n, hn⟩ : ∃ z, z = (foldW A).length := ⟨_, rfl⟩
        have HLN := Lib.hid hn
        rw [← hn] at HFD HCP hbc
        by_cases hlt : k < M
        · have hki : (k : Int) < (M : Int) := by omega
          have hke : k < l.length := by omega
          have hnk : n ≤ 30 := by have := HGD.out.len; have := HOK.out.len; omega
          have hur := (HU.out.below HB0.out).below HFD.out.bel
          obtain ⟨g, off, hg⟩ := ur_some HU2.out (by omega)
          obtain rfl : s = some ⟨g, off, none⟩ := by rw [HAA.out (by omega), hg]
          rw [hg] at hur
          obtain ⟨c0, c1, c2, c3⟩ := ur_cells hur k hke
          have hqu := HQ.out _ (List.getElem_mem hke)
          obtain ⟨u, hue⟩ : ∃ u, u = l[k] := ⟨_, rfl⟩
          rw [← hue] at c0 c1 c2 c3 hqu
          have HTA := Lib.hid (fun W => tame_any u W hqu.1 hqu.2.1 hqu.2.2)
          unfold TaE agU at HTA
          obtain ⟨x, hx⟩ : ∃ x, x = tmU u := ⟨_, rfl⟩
          have HTX := Lib.hid (show Tm x by rw [hx]; exact tmU_tm hqu.1)
          have HXN := Lib.hid (show x.key ≠ [] by rw [hx]; exact tmU_key u)
          have HX3 := Lib.hid (show x.key.length ≤ 3 by rw [hx]; exact tmU_key3 u)
          rw [← hx] at HTA
          clear hg hur hue hx hke hqu hn hfd
          obtain ⟨w3, hw3⟩ : ∃ z, z = wr.alloc (.cells #[.int .u8 u.kind, .string (Lend.strOf u.key), .string (Lend.strOf u.val), .int .u64 u.delta] 77) := ⟨_, rfl⟩
          have HB3 := Lib.hid (show Below wr.heap.size wr w3 by rw [hw3]; exact below_new _ _)
          go_wp2_with fail
          rw [← hw3]
          clear hw3 c0 c1 c2 c3
          refine (HTA.out w3).mono ?_
          rintro e w4 ⟨rfl, hb4⟩
          have HB4 := Lib.hid (below_on HB3.out hb4)
          clear hb4
          obtain ⟨w5, hw5⟩ : ∃ z, z = (w4.alloc (.cells #[.int .u8 x.kind, .string (Lend.strOf x.key), .string (Lend.strOf x.val), .int .u64 x.delta] 34)).alloc (.cells #[.int .u8 x.kind, .string (Lend.strOf x.key), .string (Lend.strOf x.val), .int .u64 x.delta] 35) := ⟨_, rfl⟩
          have HB5 := Lib.hid (below_on HB4.out (show Below w4.heap.size w4 w5 by rw [hw5]; exact below_nw (below_new _ _) _))
          have h1 := Has.new w4 (encU x) 34
          have HXA := Lib.hid (show Has w5 w4.heap.size 34 (encU x) by rw [hw5]; exact h1.alloc _)
          have HFD5 := Lib.hid (HFD.out.on HB5.out)
          clear h1
          have y0 : w5.cell? ⟨w4.heap.size, 0, none⟩ = some (.int .u8 x.kind) := HXA.out.cell 0
          have y1 : w5.cell? ⟨w4.heap.size, 1, none⟩ = some (.string (Lend.strOf x.key)) := HXA.out.cell 1
          have y2 : w5.cell? ⟨w4.heap.size, 2, none⟩ = some (.string (Lend.strOf x.val)) := HXA.out.cell 2
          have y3 : w5.cell? ⟨w4.heap.size, 3, none⟩ = some (.int .u64 x.delta) := HXA.out.cell 3
          have z0 : w5.cell? ⟨w.heap.size + 1, 0, none⟩ = some (.slice ba n bc) := by rw [← HS0.out]; exact HFD5.out.b.cell 0
          go_upto_region 8 with fail
          rw [← hw5]
          clear hw5
          go_wp2_with fail
          have hrw := with_any (UR.of_own HFD5.out.ra) HCP.out HGD.out.srt (by have := HLN.out; omega) (fun y hy => (HGD.out.tm y hy).1) HTX.out
          unfold agU at hrw
          refine hrw.mono ?_
          clear hrw y0 y1 y2 y3 z0
          rintro e w6 ⟨cv, rfl, hcv, hb6⟩
          have HFD6 := Lib.hid (HFD5.out.on hb6)
          have HXA6 := Lib.hid (HXA.out.below hb6 HXA.out.lt)
          have hm2 : w0.heap.size + 2 ≤ w5.heap.size := HFD5.out.gm.mm.lt
          have HCV6 := Lib.hid (own_base hcv hm2)
          rw [← foldW_snoc] at HCV6 hcv
          obtain ⟨ca, cc, rfl, _⟩ := own_shape hcv
          obtain ⟨n2, hn2⟩ : ∃ z, z = (foldW (A ++ [x])).length := ⟨_, rfl⟩
          have HN2 := Lib.hid hn2
          rw [← hn2] at HCV6 ⊢
          have HFR := Lib.hid (show ∀ q, (Value.slice ca n2 cc).ownBlock = some q → w5.heap.size ≤ q ∧ q < w6.heap.size from fun q h => by rw [hn2] at h; exact hcv.lt q h)
          clear hcv hb6 hm2 hn2
          obtain ⟨w7, hw7⟩ : ∃ z, z = w6.setCell ⟨w.heap.size + 1, 0, none⟩ (.slice ca n2 cc) := ⟨_, rfl⟩
          obtain ⟨XK, hXK⟩ : ∃ z, z = Lend.strOf x.key := ⟨_, rfl⟩
          have HXS := Lib.hid (show XK.size ≤ 1000000 by rw [hXK, ssize]; have := HX3.out; omega)
          have HXD := Lib.hid (show XK.data.toList = x.key by rw [hXK]; rfl)
          have HXE := Lib.hid (show encU x = [.int .u8 x.kind, .string XK, .string (Lend.strOf x.val), .int .u64 x.delta] by rw [hXK]; rfl)
          have z4 : w6.frozen? ⟨w.heap.size + 1, 0, none⟩ = false := by rw [← HS0.out]; exact HFD6.out.b.frozen 0
          have z5 : w6.cell? ⟨w.heap.size + 1, 0, none⟩ = some (.slice ba n bc) := by rw [← HS0.out]; exact HFD6.out.b.cell 0
          have HB7 := Lib.hid (show Below w0.heap.size w0 w7 by rw [hw7]; exact HFD6.out.bel.setCell (Nat.le_of_eq HS0.out) _)
          have HBX7 := Lib.hid (show Has w7 (w.heap.size + 1) 75 [.slice ca n2 cc] by
            have := HFD6.out.b.set 0 (.slice ca n2 cc)
            rw [HS0.out] at this
            rw [hw7]; exact this)
          have HRA7 := Lib.hid (show RA w7 (w.heap.size + 1 + 2) (.slice ca n2 cc) (foldW (A ++ [x])) by
            rw [hw7]; exact ro_far (by rw [← HS0.out]; exact ro_own HN2.out HCV6.out) (by omega) _)
          have HX7 := Lib.hid (show Has w7 w4.heap.size 34 (encU x) by
            rw [hw7]; exact HXA6.out.setOther (by have := HFD.out.b.lt; have := HB4.out.size; have := HS0.out; show w.heap.size + 1 ≠ w4.heap.size; omega) _)
          have HGM7 := Lib.hid (show Gm w7 (w.heap.size + 1 + 2) (w.heap.size + 1 + 1) es A by
            rw [hw7]; exact (HFD6.out.gm' HS0.out).far (by rw [← HS0.out]; exact HFD6.out.b) (by omega) _)
          obtain ⟨v, hlk, hap⟩ := HGM7.out.look HXS.out
          rw [HXD.out] at hap
          have HLK := Lib.hid hlk
          have HAP := Lib.hid hap
          have HVC := Lib.hid (show ∀ q, v.ownBlock = some q → (Value.slice ca n2 cc).ownBlock ≠ some q from fun q h1 h2 => by
            have := ((hlk w5 (HFD5.out.gm' HS0.out)).2.lt q h1).2
            have := (HFR.out q h2).1
            omega)
          have HVX := Lib.hid (show ∀ q, v.ownBlock = some q → q ≠ w4.heap.size from fun q h1 e => by
            have := ((hlk w4 ((HFD.out.on HB4.out).gm' HS0.out)).2.lt q h1).2
            omega)
          have HBS := Lib.hid HS0.out
          have HEL := Lib.hid (show es.length ≤ 30 by have := HFD.out.gm.len HOK.out.tm; have := HLN.out; omega)
          rw [← hXK]
          clear hlk hap hXK
          go_upto_region 9 with fail
          rw [← hw7]
          clear hw7 z4 z5
          refine Reg.region_vals3 (by kernel_rfl) [(60, .map (some (w.heap.size + 1 + 1))), (61, .pointer (some ⟨w4.heap.size, 1, none⟩)), (62, .string XK), (63, .map (some (w.heap.size + 1 + 1))), (64, .pointer (some ⟨w4.heap.size, 1, none⟩)), (65, .string XK), (66, v), (67, .agg #[.int .u8 x.kind, .string XK, .string (Lend.strOf x.val), .int .u64 x.delta])] [68, 69] (Gp w0 (w.heap.size + 1 + 2) (w.heap.size + 1 + 1) (w.heap.size + 1) w4.heap.size es A x v (.slice ca n2 cc)) ?a1 ?a2 ?a3 ?a4 ?a5 ?a6 ?a7 ?hend
          case a1 => kernel_rfl
          case a2 => kernel_rfl
          case a3 => kernel_rfl
          case a4 => kernel_rfl
          case a5 => kernel_rfl
          case a6 => exact Gp.start _ HB7.out HBX7.out HRA7.out HX7.out HGM7.out
          case a7 =>
            refine ⟨?_, ?_, ?_, ?_, ?_, ?_, ?_, ?_, ?_, ?_, ?_, trivial⟩
            · intro aq wq lq hz hI hl hdone hlater hold hd ho
              have h4 : aq.tmps.getD 4 undef = .map (some (w.heap.size + 1 + 1)) := ho 4 (by kernel_rfl)
              clear hd ho hdone hlater hold
              have hc : 60 < aq.tmps.size := (by have hz' : aq.tmps.size = 190 := hz; omega)
              exact Reg.step3_move (.tmp 4) rfl h4 (hI.keep _ (by omega) (by omega) hc) trivial
            · intro aq wq lq hz hI hl hdone hlater hold hd ho
              have h10 : aq.tmps.getD 10 undef = .pointer (some ⟨w4.heap.size, 0, none⟩) := ho 10 (by kernel_rfl)
              clear hd ho hdone hlater hold
              have hc : 61 < aq.tmps.size := (by have hz' : aq.tmps.size = 190 := hz; omega)
              rw [Array.getD_eq_getD_getElem?] at h10
              refine Reg.step3_val (.pointer (some ⟨w4.heap.size, 1, none⟩)) ?_ rfl (hI.keep _ (by omega) (by omega) hc) trivial
              clear hI hz hc
              go_simp
            · intro aq wq lq hz hI hl hdone hlater hold hd ho
              have h3 : aq.tmps.getD 61 undef = .pointer (some ⟨w4.heap.size, 1, none⟩) := hd 61 (by kernel_rfl)
              clear hd ho hdone hlater hold
              have e0 : wq.cell? ⟨w4.heap.size, 1, none⟩ = some (.string XK) := by rw [hI.hx.cell 1, HXE.out]; rfl
              have hc : 62 < aq.tmps.size := (by have hz' : aq.tmps.size = 190 := hz; omega)
              rw [Array.getD_eq_getD_getElem?] at h3
              refine Reg.step3_val (.string XK) ?_ rfl (hI.keep _ (by omega) (by omega) hc) trivial
              clear hI hz hc
              go_simp
            · intro aq wq lq hz hI hl hdone hlater hold hd ho
              have h4 : aq.tmps.getD 4 undef = .map (some (w.heap.size + 1 + 1)) := ho 4 (by kernel_rfl)
              clear hd ho hdone hlater hold
              have hc : 63 < aq.tmps.size := (by have hz' : aq.tmps.size = 190 := hz; omega)
              exact Reg.step3_move (.tmp 4) rfl h4 (hI.keep _ (by omega) (by omega) hc) trivial
            · intro aq wq lq hz hI hl hdone hlater hold hd ho
              have h10 : aq.tmps.getD 10 undef = .pointer (some ⟨w4.heap.size, 0, none⟩) := ho 10 (by kernel_rfl)
              clear hd ho hdone hlater hold
              have hc : 64 < aq.tmps.size := (by have hz' : aq.tmps.size = 190 := hz; omega)
              rw [Array.getD_eq_getD_getElem?] at h10
              refine Reg.step3_val (.pointer (some ⟨w4.heap.size, 1, none⟩)) ?_ rfl (hI.keep _ (by omega) (by omega) hc) trivial
              clear hI hz hc
              go_simp
            · intro aq wq lq hz hI hl hdone hlater hold hd ho
              have h3 : aq.tmps.getD 64 undef = .pointer (some ⟨w4.heap.size, 1, none⟩) := hd 64 (by kernel_rfl)
              clear hd ho hdone hlater hold
              have e0 : wq.cell? ⟨w4.heap.size, 1, none⟩ = some (.string XK) := by rw [hI.hx.cell 1, HXE.out]; rfl
              have hc : 65 < aq.tmps.size := (by have hz' : aq.tmps.size = 190 := hz; omega)
              rw [Array.getD_eq_getD_getElem?] at h3
              refine Reg.step3_val (.string XK) ?_ rfl (hI.keep _ (by omega) (by omega) hc) trivial
              clear hI hz hc
              go_simp
            · intro aq wq lq hz hI hl hdone hlater hold hd ho
              have h63 : aq.tmps.getD 63 undef = .map (some (w.heap.size + 1 + 1)) := hd 63 (by kernel_rfl)
              have h65 : aq.tmps.getD 65 undef = .string XK := hd 65 (by kernel_rfl)
              have h9 : lq 9 = false := hlater 9 (by kernel_rfl)
              clear hd ho hdone hlater hold
              have hc : 66 < aq.tmps.size := (by have hz' : aq.tmps.size = 190 := hz; omega)
              have hlook := (HLK.out wq (hI.g0 h9)).1
              rw [Array.getD_eq_getD_getElem?] at h63 h65
              refine Reg.step3_val v ?_ rfl (hI.keep _ (by omega) (by omega) hc) trivial
              clear hI hz hc
              simp [execOp, Act.eval, h63, h65, hlook]
            · intro aq wq lq hz hI hl hdone hlater hold hd ho
              have h10 : aq.tmps.getD 10 undef = .pointer (some ⟨w4.heap.size, 0, none⟩) := ho 10 (by kernel_rfl)
              clear hd ho hdone hlater hold
              have hc : 67 < aq.tmps.size := (by have hz' : aq.tmps.size = 190 := hz; omega)
              have e0 := hI.hx.cell 0
              have e1 := hI.hx.cell 1
              have e2 := hI.hx.cell 2
              have e3 := hI.hx.cell 3
              rw [HXE.out] at e0 e1 e2 e3
              simp only [List.getElem?_cons_zero, List.getElem?_cons_succ] at e0 e1 e2 e3
              rw [Array.getD_eq_getD_getElem?] at h10
              refine Reg.step3_val (.agg #[.int .u8 x.kind, .string XK, .string (Lend.strOf x.val), .int .u64 x.delta]) ?_ rfl (hI.keep _ (by omega) (by omega) hc) trivial
              clear hI hz hc
              go_simp
            · intro aq wq lq hz hI hl hdone hlater hold hd ho
              have h67 : aq.tmps.getD 67 undef = .agg #[.int .u8 x.kind, .string XK, .string (Lend.strOf x.val), .int .u64 x.delta] := hd 67 (by kernel_rfl)
              have h9 : lq 9 = false := hlater 9 (by kernel_rfl)
              have h10 : lq 10 = false := hlater 10 (by kernel_rfl)
              clear hd ho hdone hlater hold
              have hc : 68 < aq.tmps.size := (by have hz' : aq.tmps.size = 190 := hz; omega)
              have hA := hI.b8 h9 h10 hc
              rw [HXE.out] at hA
              rw [Array.getD_eq_getD_getElem?] at h67
              refine Reg.step3_do (.slice (some ⟨wq.heap.size, 0, none⟩) 1 1) (wq.alloc (.cells #[.int .u8 x.kind, .string XK, .string (Lend.strOf x.val), .int .u64 x.delta] 34)) ?_ trivial hA trivial
              clear hI hA hz hc
              simp [execOp]
              go_simp
            · intro aq wq lq hz hI hl hdone hlater hold hd ho
              have h66 : aq.tmps.getD 66 undef = v := hd 66 (by kernel_rfl)
              have h8 : lq 8 = true := hdone 8 (by kernel_rfl)
              have h10 : lq 10 = false := hlater 10 (by kernel_rfl)
              clear hd ho hdone hlater hold
              have hc : 69 < aq.tmps.size := (by have hz' : aq.tmps.size = 190 := hz; omega)
              obtain ⟨v', w', hrun, hA⟩ := Gp.a9 28 hI h8 hl h10 hc (fun w' h' => by have := (HLK.out w' h').2; rwa [HXD.out] at this) (by rw [HS0.out]; omega) (by omega) HVC.out HVX.out (by have := hI.bel.size; have := HBS.out; have := (hI.g0 hl).mm.lt; omega) (by have := HOK.out.len; omega)
              refine Reg.step3_do v' w' ?_ trivial hA trivial
              have e1 : Act.eval aq (.tmp 66) = v := h66
              have e2 : Act.eval aq (.tmp 68) = aq.tmps.getD 68 undef := rfl
              unfold execOp
              simp only [resolve, invoke, builtin, Sem.run_bind, Sem.run_pure, Result.andThen_ok, List.map_toArray, List.map_cons, List.map_nil, e1, e2, hrun]
            · intro aq wq lq hz hI hl hdone hlater hold hd ho
              have h60 : aq.tmps.getD 60 undef = .map (some (w.heap.size + 1 + 1)) := hd 60 (by kernel_rfl)
              have h62 : aq.tmps.getD 62 undef = .string XK := hd 62 (by kernel_rfl)
              have h9 : lq 9 = true := hdone 9 (by kernel_rfl)
              clear hd ho hdone hlater hold
              obtain ⟨w', hrun, hA⟩ := Gp.u10 hI h9 hl (by have := HEL.out; omega) HXD.out HXS.out (by rw [HS0.out]; omega) HAP.out
              refine Reg.step3_skip w' rfl ?_ hA trivial
              have e1 : Act.eval aq (.tmp 60) = .map (some (w.heap.size + 1 + 1)) := h60
              have e2 : Act.eval aq (.tmp 62) = .string XK := h62
              have e3 : Act.eval aq (.tmp 69) = aq.tmps.getD 69 undef := rfl
              unfold execOp
              simp only [Sem.run_bind, Sem.run_pure, Result.andThen_ok, e1, e2, e3, hrun]
          case hend =>
            intro w8 vs aq hv hI
            have hd := hI.d rfl
            obtain ⟨es2, hg2, hl2⟩ := hd
            have HFD8 := Lib.hid (show Fd w0 (.slice ca n2 cc) es2 (A ++ [x]) w8 from ⟨hI.bel, by rw [HS0.out]; exact hI.b, by rw [HS0.out]; exact hI.ra, by rw [HS0.out]; exact hg2⟩)
            clear hv hI hg2 hl2
            simp only [Reg.fill, List.map_cons, List.map_nil, List.foldl_cons, List.foldl_nil, List.setIfInBounds_toArray, List.set_cons_zero, List.set_cons_succ]
            generalize vs 68 = v68 at *
            generalize vs 69 = v69 at *
            go_wp2_with fail
            go_roundw
            case rel => exact ⟨k + 1, _, es2, A ++ [x], by omega, by go_num, HFD8.out, Lib.hid (HOK.out.snoc HTX.out HXN.out HX3.out)⟩
            case measure => simp [intOf]; omega
        · obtain rfl : k = M := by omega
          have hki : ¬ ((k : Int) < (k : Int)) := by omega
          have hnk : n ≤ 30 := by have := HGD.out.len; have := HOK.out.len; omega
          have hcut := cut_any low high (UR.of_own HFD.out.ra) HCP.out HGD.out.srt (by have := HLN.out; omega)
          have HPQ := Lib.hid (show (cutI low high (foldW A)).length + (cutO low high (foldW A)).length = n by rw [cut_len]; exact HLN.out.symm)
          have HIS := Lib.hid (cutI_srt HGD.out.srt low high)
          have HOS := Lib.hid (cutO_srt HGD.out.srt low high)
          have HIG := Lib.hid (fun q => cutI_get HGD.out.srt low high q)
          have HOG := Lib.hid (fun q => cutO_get HGD.out.srt low high q)
          have HEQ := Lib.hid (show es.length = n by rw [HLN.out]; exact (hfd.gm.len HOK.out.tm).symm)
          unfold CuP at hcut
          obtain ⟨P, hP⟩ : ∃ z, z = cutI low high (foldW A) := ⟨_, rfl⟩
          obtain ⟨R, hR⟩ : ∃ z, z = cutO low high (foldW A) := ⟨_, rfl⟩
          rw [← hP] at hcut HPQ HIS HIG
          rw [← hR] at hcut HPQ HOS HOG
          obtain ⟨p, hp⟩ : ∃ z, z = P.length := ⟨_, rfl⟩
          obtain ⟨r, hr⟩ : ∃ z, z = R.length := ⟨_, rfl⟩
          rw [← hp, ← hr] at HPQ
          have HP := Lib.hid hp
          have HR := Lib.hid hr
          have z0 : wr.cell? ⟨w.heap.size + 1, 0, none⟩ = some (.slice ba n bc) := by rw [← HS0.out]; exact HFD.out.b.cell 0
          clear hP hR hp hr hn hfd
          go_wp2_with fail
          refine hcut.mono ?_
          clear hcut z0
          rintro e w3 ⟨v1, v2, rfl, hr1, hr2, hb3⟩
          have HFD3 := Lib.hid (HFD.out.on hb3)
          obtain ⟨i1, c1, rfl, _⟩ := own_shape hr1
          obtain ⟨i2, c2, rfl, _⟩ := own_shape hr2
          have HI3 := Lib.hid (UR.of_own hr1)
          have HO3 := Lib.hid (UR.of_own hr2)
          rw [← HP.out] at HI3 ⊢
          rw [← HR.out] at HO3 ⊢
          obtain ⟨w4, hw4⟩ : ∃ z, z = (w3.alloc (.cells #[.slice i1 p c1] 75)).alloc (.cells #[.slice i2 r c2] 75) := ⟨_, rfl⟩
          have h1 := Has.new w3 [.slice i1 p c1] 75
          have h2 := Has.new (w3.alloc (.cells #[.slice i1 p c1] 75)) [.slice i2 r c2] 75
          simp only [World.size_alloc] at h2
          have HXI := Lib.hid (show Has w4 w3.heap.size 75 [.slice i1 p c1] by rw [hw4]; exact h1.alloc _)
          have HXO := Lib.hid (show Has w4 (w3.heap.size + 1) 75 [.slice i2 r c2] by rw [hw4]; exact h2)
          have HB34 := Lib.hid (show Below w3.heap.size w3 w4 by rw [hw4]; exact below_nw (below_new _ _) _)
          have HFD4 := Lib.hid (HFD3.out.on HB34.out)
          have HI4 := Lib.hid (HI3.out.below HB34.out)
          have HO4 := Lib.hid (HO3.out.below HB34.out)
          have HBA := Lib.hid (show Has w4 (w.heap.size + 1) 75 [.slice ba n bc] by rw [← HS0.out]; exact HFD4.out.b)
          have HBU := Lib.hid (UR.of_own HFD4.out.ra)
          have HGM4 := Lib.hid (HFD4.out.gm' HS0.out)
          clear h1 h2 hr1 hr2 hb3 HI3 HO3 HFD HFD3
          go_upto_region 12 with fail
          rw [← hw4]
          clear hw4
          refine Reg.region_vals (by kernel_rfl) [(78, .bool true), (79, .bool false), (80, .bool false), (81, .agg #[.slice ba n bc]), (82, .int .i64 (n : Nat)), (83, .map (some (w.heap.size + 1 + 1))), (84, .int .i64 (n : Nat)), (85, .bool false), (86, .bool false), (87, .bool false), (88, .agg #[.slice i1 p c1]), (89, .int .i64 (p : Nat)), (90, .agg #[.slice i2 r c2]), (91, .int .i64 (r : Nat)), (92, .int .i64 (n : Nat)), (93, .map (some (w.heap.size + 1 + 1))), (94, .int .i64 (n : Nat)), (95, .bool false), (96, .bool false)] (fun l wy => Below w4.heap.size w4 wy) (by kernel_rfl) (by kernel_rfl) (by kernel_rfl) ((Below.refl _ _).drew) ⟨?_, ?_, ?_, ?_, ?_, ?_, ?_, ?_, ?_, ?_, ?_, ?_, ?_, ?_, ?_, ?_, ?_, ?_, ?_, trivial⟩ ?hend
          · -- 0: 78 := Op.call ( value (Operand.func 27), args := #(), argTypes := 
            intro aq wq lq hI hl hdone hlater hold hd ho
            clear hd ho hdone hlater hold
            refine Reg.step2_call 27 #[] ?_ ((wakes_any wq).mono ?_)
            · clear hI
              simp [execOp]
              go_simp
            · rintro e w' ⟨rfl, hb⟩
              exact ⟨_, rfl, rfl, below_on hI hb, trivial⟩
          · -- 1: 79 := Op.unOp UnOp.not 4 t78
            intro aq wq lq hI hl hdone hlater hold hd ho
            have h78 : aq.tmps.getD 78 undef = .bool true := hd 78 (by kernel_rfl)
            clear hd ho hdone hlater hold
            rw [Array.getD_eq_getD_getElem?] at h78
            refine Reg.step2_val (.bool false) ?_ rfl hI trivial
            simp [execOp, Act.eval, h78]
            try go_simp
          · -- 2: 80 := Op.move t79
            intro aq wq lq hI hl hdone hlater hold hd ho
            have h79 : aq.tmps.getD 79 undef = .bool false := hd 79 (by kernel_rfl)
            clear hd ho hdone hlater hold
            exact Reg.step2_move (.tmp 79) rfl h79 hI trivial
          · -- 3: 81 := Op.load 75 t3
            intro aq wq lq hI hl hdone hlater hold hd ho
            have h3 : aq.tmps.getD 3 undef = .pointer (some ⟨w.heap.size + 1, 0, none⟩) := ho 3 (by kernel_rfl)
            clear hd ho hdone hlater hold
            rw [Array.getD_eq_getD_getElem?] at h3
            have e0 : wq.cell? ⟨w.heap.size + 1, 0, none⟩ = some (.slice ba n bc) := keep1 (HBA.out.cell 0) hI
            refine Reg.step2_val (.agg #[.slice ba n bc]) ?_ rfl hI trivial
            go_simp
          · -- 4: 82 := Op.call ( value (Operand.func 28), args := #(t81), argTypes 
            intro aq wq lq hI hl hdone hlater hold hd ho
            have h81 : aq.tmps.getD 81 undef = .agg #[.slice ba n bc] := hd 81 (by kernel_rfl)
            clear hd ho hdone hlater hold
            rw [Array.getD_eq_getD_getElem?] at h81
            have hla := len_any (HBU.out.below hI)
            rw [← HLN.out] at hla
            refine Reg.step2_call 28 #[.agg #[.slice ba n bc]] ?_ ((hla).mono ?_)
            · clear hI
              simp [execOp]
              go_simp
            · rintro e w' ⟨rfl, hb⟩
              exact ⟨_, rfl, rfl, below_on hI hb, trivial⟩
          · -- 5: 83 := Op.move t4
            intro aq wq lq hI hl hdone hlater hold hd ho
            have h4 : aq.tmps.getD 4 undef = .map (some (w.heap.size + 1 + 1)) := ho 4 (by kernel_rfl)
            clear hd ho hdone hlater hold
            exact Reg.step2_move (.tmp 4) rfl h4 hI trivial
          · -- 6: 84 := Op.call ( builtin len, args := #(t83), argTypes := #(76) )
            intro aq wq lq hI hl hdone hlater hold hd ho
            have h83 : aq.tmps.getD 83 undef = .map (some (w.heap.size + 1 + 1)) := hd 83 (by kernel_rfl)
            clear hd ho hdone hlater hold
            rw [Array.getD_eq_getD_getElem?] at h83
            refine Reg.step2_val (.int .i64 (n : Nat)) ?_ rfl hI trivial
            have hln := (HGM4.out.on hI).mm.len und_su 3
            simp [execOp, Act.eval, h83]
            try go_simp
            rw [HEQ.out]
          · -- 7: 85 := Op.binOp BinOp.neq 3 t82 t84 3
            intro aq wq lq hI hl hdone hlater hold hd ho
            have h82 : aq.tmps.getD 82 undef = .int .i64 (n : Nat) := hd 82 (by kernel_rfl)
            have h84 : aq.tmps.getD 84 undef = .int .i64 (n : Nat) := hd 84 (by kernel_rfl)
            clear hd ho hdone hlater hold
            rw [Array.getD_eq_getD_getElem?] at h82 h84
            refine Reg.step2_val (.bool false) ?_ rfl hI trivial
            simp [execOp, Act.eval, h82, h84]
            try go_simp
          · -- 8: 86 := Op.pick t80 (const (Value.bool true)) t85
            intro aq wq lq hI hl hdone hlater hold hd ho
            have h80 : aq.tmps.getD 80 undef = .bool false := hd 80 (by kernel_rfl)
            have h85 : aq.tmps.getD 85 undef = .bool false := hd 85 (by kernel_rfl)
            clear hd ho hdone hlater hold
            rw [Array.getD_eq_getD_getElem?] at h80 h85
            refine Reg.step2_val (.bool false) ?_ rfl hI trivial
            simp [execOp, Act.eval, h80, h85]
            try go_simp
          · -- 9: 87 := Op.move t86
            intro aq wq lq hI hl hdone hlater hold hd ho
            have h86 : aq.tmps.getD 86 undef = .bool false := hd 86 (by kernel_rfl)
            clear hd ho hdone hlater hold
            exact Reg.step2_move (.tmp 86) rfl h86 hI trivial
          · -- 10: 88 := Op.load 75 t12
            intro aq wq lq hI hl hdone hlater hold hd ho
            have h12 : aq.tmps.getD 12 undef = .pointer (some ⟨w3.heap.size, 0, none⟩) := ho 12 (by kernel_rfl)
            clear hd ho hdone hlater hold
            rw [Array.getD_eq_getD_getElem?] at h12
            have e0 : wq.cell? ⟨w3.heap.size, 0, none⟩ = some (.slice i1 p c1) := keep1 (HXI.out.cell 0) hI
            refine Reg.step2_val (.agg #[.slice i1 p c1]) ?_ rfl hI trivial
            go_simp
          · -- 11: 89 := Op.call ( value (Operand.func 28), args := #(t88), argTypes 
            intro aq wq lq hI hl hdone hlater hold hd ho
            have h88 : aq.tmps.getD 88 undef = .agg #[.slice i1 p c1] := hd 88 (by kernel_rfl)
            clear hd ho hdone hlater hold
            rw [Array.getD_eq_getD_getElem?] at h88
            have hla := len_any (HI4.out.below hI)
            rw [← HP.out] at hla
            refine Reg.step2_call 28 #[.agg #[.slice i1 p c1]] ?_ ((hla).mono ?_)
            · clear hI
              simp [execOp]
              go_simp
            · rintro e w' ⟨rfl, hb⟩
              exact ⟨_, rfl, rfl, below_on hI hb, trivial⟩
          · -- 12: 90 := Op.load 75 t13
            intro aq wq lq hI hl hdone hlater hold hd ho
            have h13 : aq.tmps.getD 13 undef = .pointer (some ⟨w3.heap.size + 1, 0, none⟩) := ho 13 (by kernel_rfl)
            clear hd ho hdone hlater hold
            rw [Array.getD_eq_getD_getElem?] at h13
            have e0 : wq.cell? ⟨w3.heap.size + 1, 0, none⟩ = some (.slice i2 r c2) := keep1 (HXO.out.cell 0) hI
            refine Reg.step2_val (.agg #[.slice i2 r c2]) ?_ rfl hI trivial
            go_simp
          · -- 13: 91 := Op.call ( value (Operand.func 28), args := #(t90), argTypes 
            intro aq wq lq hI hl hdone hlater hold hd ho
            have h90 : aq.tmps.getD 90 undef = .agg #[.slice i2 r c2] := hd 90 (by kernel_rfl)
            clear hd ho hdone hlater hold
            rw [Array.getD_eq_getD_getElem?] at h90
            have hla := len_any (HO4.out.below hI)
            rw [← HR.out] at hla
            refine Reg.step2_call 28 #[.agg #[.slice i2 r c2]] ?_ ((hla).mono ?_)
            · clear hI
              simp [execOp]
              go_simp
            · rintro e w' ⟨rfl, hb⟩
              exact ⟨_, rfl, rfl, below_on hI hb, trivial⟩
          · -- 14: 92 := Op.binOp BinOp.add 3 t89 t91 3
            intro aq wq lq hI hl hdone hlater hold hd ho
            have h89 : aq.tmps.getD 89 undef = .int .i64 (p : Nat) := hd 89 (by kernel_rfl)
            have h91 : aq.tmps.getD 91 undef = .int .i64 (r : Nat) := hd 91 (by kernel_rfl)
            clear hd ho hdone hlater hold
            rw [Array.getD_eq_getD_getElem?] at h89 h91
            refine Reg.step2_val (.int .i64 (n : Nat)) ?_ rfl hI trivial
            simp [execOp, Act.eval, h89, h91]
            try go_simp
            rw [IntWalk.i64_in _ (by have := HPQ.out; omega)]
            have := HPQ.out
            omega
          · -- 15: 93 := Op.move t4
            intro aq wq lq hI hl hdone hlater hold hd ho
            have h4 : aq.tmps.getD 4 undef = .map (some (w.heap.size + 1 + 1)) := ho 4 (by kernel_rfl)
            clear hd ho hdone hlater hold
            exact Reg.step2_move (.tmp 4) rfl h4 hI trivial
          · -- 16: 94 := Op.call ( builtin len, args := #(t93), argTypes := #(76) )
            intro aq wq lq hI hl hdone hlater hold hd ho
            have h93 : aq.tmps.getD 93 undef = .map (some (w.heap.size + 1 + 1)) := hd 93 (by kernel_rfl)
            clear hd ho hdone hlater hold
            rw [Array.getD_eq_getD_getElem?] at h93
            refine Reg.step2_val (.int .i64 (n : Nat)) ?_ rfl hI trivial
            have hln := (HGM4.out.on hI).mm.len und_su 3
            simp [execOp, Act.eval, h93]
            try go_simp
            rw [HEQ.out]
          · -- 17: 95 := Op.binOp BinOp.neq 3 t92 t94 3
            intro aq wq lq hI hl hdone hlater hold hd ho
            have h92 : aq.tmps.getD 92 undef = .int .i64 (n : Nat) := hd 92 (by kernel_rfl)
            have h94 : aq.tmps.getD 94 undef = .int .i64 (n : Nat) := hd 94 (by kernel_rfl)
            clear hd ho hdone hlater hold
            rw [Array.getD_eq_getD_getElem?] at h92 h94
            refine Reg.step2_val (.bool false) ?_ rfl hI trivial
            simp [execOp, Act.eval, h92, h94]
            try go_simp
          · -- 18: 96 := Op.pick t87 (const (Value.bool true)) t95
            intro aq wq lq hI hl hdone hlater hold hd ho
            have h87 : aq.tmps.getD 87 undef = .bool false := hd 87 (by kernel_rfl)
            have h95 : aq.tmps.getD 95 undef = .bool false := hd 95 (by kernel_rfl)
            clear hd ho hdone hlater hold
            rw [Array.getD_eq_getD_getElem?] at h87 h95
            refine Reg.step2_val (.bool false) ?_ rfl hI trivial
            simp [execOp, Act.eval, h87, h95]
            try go_simp
          case hend =>
            intro w5 hI
            have HB45 := Lib.hid (show Below w4.heap.size w4 w5 from hI)
            clear hI
            simp only [Reg.fill, List.map_cons, List.map_nil, List.foldl_cons, List.foldl_nil, List.setIfInBounds_toArray, List.set_cons_zero, List.set_cons_succ]
            have HB5 := Lib.hid (below_on (below_on HB0.out HFD4.out.bel) HB45.out)
            have HBA5 := Lib.hid (HBA.out.below HB45.out HBA.out.lt)
            have HBU5 := Lib.hid (HBU.out.below HB45.out)
            have HXI5 := Lib.hid (HXI.out.below HB45.out HXI.out.lt)
            have HXO5 := Lib.hid (HXO.out.below HB45.out HXO.out.lt)
            have HI5 := Lib.hid (HI4.out.below HB45.out)
            have HO5 := Lib.hid (HO4.out.below HB45.out)
            have HGM5 := Lib.hid (HGM4.out.on HB45.out)
            have HON := Lib.hid (fun (s : Sv) (q : List UInt8) (u : Up) (m : List Up) (hg : grp A q = u :: m) => on_grp s HOK.out.tm hg)
            have HGT := Lib.hid (fun (q : List UInt8) (u : Up) (m : List Up) (hg : grp A q = u :: m) => foldW_get HOK.out.tm hg)
            clear HB45 HBA HBU HXI HXO HI4 HO4 HGM4 HFD4 HB34 HFD
            go_wp2_with (at_range; refine Mp.wpList_rangeM und_su rfl _ rfl rfl HGM5.out.mm ?_)
            intro w6 cnt0 hrm hb6 hs6
            have HRM := Lib.hid hrm
            have HB56 := Lib.hid hb6
            obtain ⟨rr, hrr⟩ : ∃ rr, rr = w5.heap.size := ⟨_, rfl⟩
            have HRR := Lib.hid hrr
            rw [← hrr] at HRM ⊢
            clear hrm hb6 hs6 hrr
            go_wp2_with fail
            go_loopw [14] (fun _ ws => ∃ cnt : Nat, Mp.RM ws (w.heap.size + 1 + 1) rr es cnt ∧ Below w5.heap.size w5 ws) (fun _ ws => ws.rangeLeft (w.heap.size + 1 + 1) rr)
            case atStart => exact ⟨cnt0, HRM.out, HB56.out⟩
            case round =>
              obtain ⟨cnt, hrm, hb⟩ := hrel
              rename World => ws
              have HRM := Lib.hid hrm
              have HB := Lib.hid hb
              clear hrm hb
              go_wp2_with (at_next; refine Mp.wpList_nextM rfl _ rfl rfl HRM.out ?_ ?_)
              · go_wp2_with fail
                go_ret
                exact ⟨rfl, below_on HB5.out HB.out⟩
              · intro K ev s w7 cnt2 he hse hrm hlt2 hgr hsz hen
                have HRM7 := Lib.hid hrm
                have HLT := Lib.hid hlt2
                have HB7 := Lib.hid (show Below w5.heap.size w5 w7 from HB.out.grown hgr HB.out.size (fun q hq => by have := HRR.out; simp at hq; omega))
                obtain ⟨hrow, hgn⟩ := (HGM5.out.on HB7.out).rows (K, ev) he
                simp only at hrow hgn hse
                obtain ⟨u0, m, hg⟩ := List.exists_cons_of_ne_nil hgn
                have HGG := Lib.hid hg
                obtain rfl : s = Lend.strOf K := Lend.strOf_ext hse
                obtain ⟨ro, rc, hre, _⟩ := own_shape hrow
                subst hre
                have HRW := Lib.hid (UR.of_own hrow)
                rw [hg] at HRW
                rw [hg] at hen ⊢
                obtain ⟨X, hX⟩ : ∃ z, z = jlU u0 m := ⟨_, rfl⟩
                have HXG := Lib.hid (show getO (foldW A) K = some X by rw [hX]; exact HGT.out K u0 m hg)
                have HXO := Lib.hid (fun (s : Sv) => (show onU s X = allU s (u0 :: m) by rw [hX]; exact HON.out s K u0 m hg))
                have hga := get_any (w := w7) K (HBU5.out.below HB7.out) HGD.out.srt (by have := HLN.out; omega)
                rw [HXG.out] at hga
                unfold gtE agU at hga
                have z0 : w7.cell? ⟨w.heap.size + 1, 0, none⟩ = some (.slice ba n bc) := keep1 (HBA5.out.cell 0) HB7.out
                clear hrm hlt2 hgr hsz hrow hgn hse hg hX
                go_wp2_with fail
                refine hga.mono ?_
                clear hga z0 hen
                rintro e8 w8 ⟨rfl, hb8⟩
                have HB8 := Lib.hid (below_on HB7.out hb8)
                have HRW8 := Lib.hid (HRW.out.below hb8)
                have HRM8 := Lib.hid (HRM7.out.on hb8)
                clear hb8
                obtain ⟨w9, hw9⟩ : ∃ z, z = w8.alloc (.cells #[.int .u8 X.kind, .string (Lend.strOf X.key), .string (Lend.strOf X.val), .int .u64 X.delta] 34) := ⟨_, rfl⟩
                have hb89 : Below w8.heap.size w8 w9 := by rw [hw9]; exact below_new _ _
                have HXU := Lib.hid (show Has w9 w8.heap.size 34 (encU X) by rw [hw9]; exact Has.new w8 (encU X) _)
                have HB9 := Lib.hid (below_on HB8.out hb89)
                have HRW9 := Lib.hid (HRW8.out.below hb89)
                have HRM9 := Lib.hid (HRM8.out.on hb89)
                have hgi := get_any (w := w9) K (HI5.out.below HB9.out) HIS.out (by have := HPQ.out; have := HP.out; omega)
                obtain ⟨uI, bI, hI1, hI2, hI3⟩ := gt_form (getO P K)
                rw [hI1] at hgi
                rw [HIG.out K] at hI2 hI3
                have z1 : w8.cell? ⟨w3.heap.size, 0, none⟩ = some (.slice i1 p c1) := keep1 (HXI5.out.cell 0) HB8.out
                have hl1 : w3.heap.size < w8.heap.size := Nat.lt_of_lt_of_le HXI5.out.lt HB8.out.size
                clear hb89 hI1
                go_wp2_with fail
                rw [← hw9]
                clear hw9
                refine hgi.mono ?_
                clear hgi z1 hl1
                rintro e10 w10 ⟨rfl, hb10⟩
                have HB10 := Lib.hid (below_on HB9.out hb10)
                have HRW10 := Lib.hid (HRW9.out.below hb10)
                have HRM10 := Lib.hid (HRM9.out.on hb10)
                have HXU10 := Lib.hid (HXU.out.below hb10 HXU.out.lt)
                clear hb10
                obtain ⟨w11, hw11⟩ : ∃ z, z = w10.alloc (.cells #[.int .u8 uI.kind, .string (Lend.strOf uI.key), .string (Lend.strOf uI.val), .int .u64 uI.delta] 34) := ⟨_, rfl⟩
                have hb11 : Below w10.heap.size w10 w11 := by rw [hw11]; exact below_new _ _
                have HXI := Lib.hid (show Has w11 w10.heap.size 34 (encU uI) by rw [hw11]; exact Has.new w10 (encU uI) _)
                have HB11 := Lib.hid (below_on HB10.out hb11)
                have HRW11 := Lib.hid (HRW10.out.below hb11)
                have HRM11 := Lib.hid (HRM10.out.on hb11)
                have HXU11 := Lib.hid (HXU10.out.below hb11 HXU10.out.lt)
                have hgo := get_any (w := w11) K (HO5.out.below HB11.out) HOS.out (by have := HPQ.out; have := HR.out; omega)
                obtain ⟨uO, bO, hO1, hO2, hO3⟩ := gt_form (getO R K)
                rw [hO1] at hgo
                rw [HOG.out K] at hO2 hO3
                have z1 : w10.cell? ⟨w3.heap.size + 1, 0, none⟩ = some (.slice i2 r c2) := keep1 (HXO5.out.cell 0) HB10.out
                have hl1 : w3.heap.size + 1 < w10.heap.size := Nat.lt_of_lt_of_le HXO5.out.lt HB10.out.size
                clear hb11 hO1
                go_wp2_with fail
                rw [← hw11]
                clear hw11
                refine hgo.mono ?_
                clear hgo z1 hl1
                rintro e12 w12 ⟨rfl, hb12⟩
                have HB12 := Lib.hid (below_on HB11.out hb12)
                have HRW12 := Lib.hid (HRW11.out.below hb12)
                have HRM12 := Lib.hid (HRM11.out.on hb12)
                have HXU12 := Lib.hid (HXU11.out.below hb12 HXU11.out.lt)
                have HXI12 := Lib.hid (HXI.out.below hb12 HXI.out.lt)
                clear hb12
                obtain ⟨w13, hw13⟩ : ∃ z, z = w12.alloc (.cells #[.int .u8 uO.kind, .string (Lend.strOf uO.key), .string (Lend.strOf uO.val), .int .u64 uO.delta] 34) := ⟨_, rfl⟩
                have hb13 : Below w12.heap.size w12 w13 := by rw [hw13]; exact below_new _ _
                have HXO' := Lib.hid (show Has w13 w12.heap.size 34 (encU uO) by rw [hw13]; exact Has.new w12 (encU uO) _)
                have HB13 := Lib.hid (below_on HB12.out hb13)
                have HRW13 := Lib.hid (HRW12.out.below hb13)
                have HRM13 := Lib.hid (HRM12.out.on hb13)
                have HXU13 := Lib.hid (HXU12.out.below hb13 HXU12.out.lt)
                have HXI13 := Lib.hid (HXI12.out.below hb13 HXI12.out.lt)
                rw [HXG.out] at hI2 hI3 hO2 hO3
                have HC1 := Lib.hid hI2
                have HC2 := Lib.hid hI3
                have HC3 := Lib.hid hO2
                have HC4 := Lib.hid hO3
                clear hb13 hI2 hI3 hO2 hO3
                go_upto_region 20 with fail
                rw [← hw13]
                clear hw13
                go_cut [160] (fun s wx => s = .bool false ∧ wx = w13)
                case first =>
                  have a0 : w13.cell? ⟨w8.heap.size, 0, none⟩ = some (.int .u8 X.kind) := HXU13.out.cell 0
                  have a1 : w13.cell? ⟨w8.heap.size, 1, none⟩ = some (.string (Lend.strOf X.key)) := HXU13.out.cell 1
                  have a2 : w13.cell? ⟨w8.heap.size, 2, none⟩ = some (.string (Lend.strOf X.val)) := HXU13.out.cell 2
                  have a3 : w13.cell? ⟨w8.heap.size, 3, none⟩ = some (.int .u64 X.delta) := HXU13.out.cell 3
                  have b1 := bl_str K low
                  have b2 := bl_str K high
                  cases hin : inB low high K with
                  | true =>
                    obtain ⟨rfl, rfl⟩ := HC1.out X (if_pos hin)
                    obtain rfl := HC4.out (if_pos hin)
                    have i0 : w13.cell? ⟨w10.heap.size, 0, none⟩ = some (.int .u8 uI.kind) := HXI13.out.cell 0
                    have i1' : w13.cell? ⟨w10.heap.size, 1, none⟩ = some (.string (Lend.strOf uI.key)) := HXI13.out.cell 1
                    have i2' : w13.cell? ⟨w10.heap.size, 2, none⟩ = some (.string (Lend.strOf uI.val)) := HXI13.out.cell 2
                    have i3 : w13.cell? ⟨w10.heap.size, 3, none⟩ = some (.int .u64 uI.delta) := HXI13.out.cell 3
                    have o0 : w13.cell? ⟨w12.heap.size, 0, none⟩ = some (.int .u8 uO.kind) := HXO'.out.cell 0
                    have o1 : w13.cell? ⟨w12.heap.size, 1, none⟩ = some (.string (Lend.strOf uO.key)) := HXO'.out.cell 1
                    have o2 : w13.cell? ⟨w12.heap.size, 2, none⟩ = some (.string (Lend.strOf uO.val)) := HXO'.out.cell 2
                    have o3 : w13.cell? ⟨w12.heap.size, 3, none⟩ = some (.int .u64 uO.delta) := HXO'.out.cell 3
                    have h1 : high = [] ∨ high ≠ [] := Decidable.em _
                    have hin0 := hin
                    unfold inB at hin0
                    have hl : kLt K low = false := by cases h : kLt K low with
                      | false => rfl
                      | true => rw [h] at hin0; simp at hin0
                    rw [hl] at b1
                    clear HC1 HC2 HC3 HC4
                    by_cases hh : high = []
                    · have hk1 : (Lend.strOf high).toList = [] := by rw [hh, ByteArray.toList_eq]; rfl
                      have hk2 : (Lend.strOf high).toList.isEmpty = true := by rw [hk1]; rfl
                      clear hh h1 hin hin0 hl b2
                      go_wp2_with fail
                      all_goals
                        go_meet
                        exact ⟨rfl, rfl⟩
                    · have hk1 : ¬ (Lend.strOf high).toList = [] := str_ne hh
                      have hk2 : (Lend.strOf high).toList.isEmpty = false := by rw [List.isEmpty_eq_false_iff]; exact hk1
                      have hl2 : kLt K high = true := by
                        rw [hl, show (high == []) = false by simpa using hh] at hin0
                        simpa using hin0
                      rw [hl2] at b2
                      clear hh h1 hin hin0 hl hl2
                      go_wp2_with fail
                      all_goals
                        go_meet
                        exact ⟨rfl, rfl⟩
                  | false =>
                    obtain rfl := HC2.out (if_neg (by rw [hin]; simp))
                    obtain ⟨rfl, rfl⟩ := HC3.out X (if_neg (by rw [hin]; simp))
                    have i0 : w13.cell? ⟨w10.heap.size, 0, none⟩ = some (.int .u8 uI.kind) := HXI13.out.cell 0
                    have i1' : w13.cell? ⟨w10.heap.size, 1, none⟩ = some (.string (Lend.strOf uI.key)) := HXI13.out.cell 1
                    have i2' : w13.cell? ⟨w10.heap.size, 2, none⟩ = some (.string (Lend.strOf uI.val)) := HXI13.out.cell 2
                    have i3 : w13.cell? ⟨w10.heap.size, 3, none⟩ = some (.int .u64 uI.delta) := HXI13.out.cell 3
                    have o0 : w13.cell? ⟨w12.heap.size, 0, none⟩ = some (.int .u8 uO.kind) := HXO'.out.cell 0
                    have o1 : w13.cell? ⟨w12.heap.size, 1, none⟩ = some (.string (Lend.strOf uO.key)) := HXO'.out.cell 1
                    have o2 : w13.cell? ⟨w12.heap.size, 2, none⟩ = some (.string (Lend.strOf uO.val)) := HXO'.out.cell 2
                    have o3 : w13.cell? ⟨w12.heap.size, 3, none⟩ = some (.int .u64 uO.delta) := HXO'.out.cell 3
                    have h1 : high = [] ∨ high ≠ [] := Decidable.em _
                    have hin0 := hin
                    unfold inB at hin0
                    clear HC1 HC2 HC3 HC4
                    cases hl : kLt K low with
                    | true =>
                      rw [hl] at b1
                      clear h1 hin hin0 hl b2
                      go_wp2_with fail
                      all_goals
                        go_meet
                        exact ⟨rfl, rfl⟩
                    | false =>
                      rw [hl] at b1
                      have hh : ¬ high = [] := by rintro rfl; rw [hl] at hin0; simp at hin0
                      have hl2 : kLt K high = false := by
                        rw [hl, show (high == []) = false by simpa using hh] at hin0
                        simpa using hin0
                      rw [hl2] at b2
                      have hk1 : ¬ (Lend.strOf high).toList = [] := str_ne hh
                      have hk2 : (Lend.strOf high).toList.isEmpty = false := by rw [List.isEmpty_eq_false_iff]; exact hk1
                      clear hh h1 hin hin0 hl hl2
                      go_wp2_with fail
                      all_goals
                        go_meet
                        exact ⟨rfl, rfl⟩
                case rest =>
                  obtain ⟨rfl, hww⟩ := hcut
                  have hww := hww.symm
                  subst hww
                  clear HC1 HC2 HC3 HC4 HXI13 HXO'
                  rename ∀ a w, Code.wp _ _ _ a w → _ => hK
                  refine hK _ _ ?_
                  clear hK
                  have HTX := Lib.hid (show Tm X from (HGD.out.tm X ((getO_iff HGD.out.srt K X).1 HXG.out).1).1)
                  have HAL := Lib.hid (show ∀ x ∈ u0 :: m, WfU x ∧ x.val.length ≤ 1000000 from fun x hx => by
                    have h1 := (HOK.out.tm x (grp_key (A := A) (k := K) (by rw [HGG.out]; exact hx)).1).1
                    exact ⟨h1.wf, by have := h1.len; omega⟩)
                  have HLM := Lib.hid (show (u0 :: m).length ≤ 1000000 by
                    rw [← HGG.out]
                    have h1 : (grp A K).length ≤ A.length := List.length_filter_le _ _
                    have h2 := HOK.out.len
                    omega)
                  obtain ⟨w14, hw14⟩ : ∃ z, z = w13.alloc (.cells #[.bool true, .bool false] 4) := ⟨_, rfl⟩
                  have hb14 : Below w13.heap.size w13 w14 := by rw [hw14]; exact below_new _ _
                  have HTF := Lib.hid (show Has w14 w13.heap.size 4 [.bool true, .bool false] by rw [hw14]; exact Has.new w13 [.bool true, .bool false] _)
                  have HB14 := Lib.hid (below_on HB13.out hb14)
                  have HRW14 := Lib.hid (HRW13.out.below hb14)
                  have HRM14 := Lib.hid (HRM13.out.on hb14)
                  have HXU14 := Lib.hid (HXU13.out.below hb14 HXU13.out.lt)
                  clear hb14
                  go_wp2_with fail
                  rw [← hw14]
                  clear hw14
                  go_loopw [163] (fun i wr => ∃ j : Nat, j ≤ 2 ∧ i = .int .i64 j ∧ Below w14.heap.size w14 wr) (fun i _ => 2 - (intOf i).toNat)
                  case atStart => exact ⟨0, by omega, rfl, Below.refl _ _⟩
                  case round =>
                    obtain ⟨j, hj, rfl, hb⟩ := hrel
                    rename World => wr
                    have HBJ := Lib.hid hb
                    clear hb
                    by_cases hlt : j < 2
                    · have hji : (j : Int) < 2 := by omega
                      obtain ⟨b, hbc⟩ : ∃ b, wr.cell? ⟨w13.heap.size, j, none⟩ = some (.bool b) := by
                        have h := HTF.out.below HBJ.out HTF.out.lt
                        rw [h.cell]
                        have : j = 0 ∨ j = 1 := by omega
                        rcases this with rfl | rfl
                        · exact ⟨true, rfl⟩
                        · exact ⟨false, rfl⟩
                      have HBC := Lib.hid hbc
                      have hon := on_any (sv, b) X wr (by have := HSL.out; simp; omega) HTX.out.wf
                      have HAN := Lib.hid (fun (W : World) (h : Below wr.heap.size wr W) => all_any (sv, b) W ((HRW14.out.below HBJ.out).below h) HLM.out (by have := HSL.out; simp; omega) HAL.out)
                      rw [HXO.out] at hon
                      unfold agU rtS at hon
                      unfold rtS at HAN
                      obtain ⟨S, hS⟩ : ∃ z, z = allU (sv, b) (u0 :: m) := ⟨_, rfl⟩
                      rw [← hS] at hon HAN
                      obtain ⟨S1, S2⟩ := S
                      simp only [List.length_cons] at hon HAN
                      have x0 : wr.cell? ⟨w8.heap.size, 0, none⟩ = some (.int .u8 X.kind) := keep1 (HXU14.out.cell 0) HBJ.out
                      have x1 : wr.cell? ⟨w8.heap.size, 1, none⟩ = some (.string (Lend.strOf X.key)) := keep1 (HXU14.out.cell 1) HBJ.out
                      have x2 : wr.cell? ⟨w8.heap.size, 2, none⟩ = some (.string (Lend.strOf X.val)) := keep1 (HXU14.out.cell 2) HBJ.out
                      have x3 : wr.cell? ⟨w8.heap.size, 3, none⟩ = some (.int .u64 X.delta) := keep1 (HXU14.out.cell 3) HBJ.out
                      clear hS
                      go_wp2_with fail
                      refine hon.mono ?_
                      clear hon x0 x1 x2 x3 hbc
                      rintro e15 w15 ⟨rfl, hb15⟩
                      have HB15 := Lib.hid (below_on HBJ.out hb15)
                      have han := HAN.out w15 hb15
                      clear hb15
                      go_wp2_with fail
                      refine han.mono ?_
                      clear han
                      rintro e16 w16 ⟨rfl, hb16⟩
                      have HB16 := Lib.hid (below_on HB15.out hb16)
                      clear hb16
                      go_wp2_with fail
                      go_roundw
                      case rel => exact ⟨j + 1, by omega, by go_num, HB16.out⟩
                      case measure => simp [intOf]; omega
                    · obtain rfl : j = 2 := by omega
                      have HRMJ := Lib.hid (HRM14.out.on HBJ.out)
                      have HBJ2 := Lib.hid (below_on HB14.out HBJ.out)
                      go_wp2_with fail
                      go_roundw
                      case rel => exact ⟨_, HRMJ.out, HBJ2.out⟩
                      case measure => rw [HRMJ.out.left, HRM.out.left]; exact HLT.out

/-! ### THE ROW's STEP -/
set_option maxRecDepth 100000 in
theorem lifted (os : Os) (started : os.Started) (H : Type) (enc : TypeId × Value → H) :
    ReturnsInHanded {} Try.checked os 7 .any (Rows.bufFoldsSpec.pre6 enc Try.prog Try.f7 Rows.bufFoldsRow.domain false) (Rows.bufFoldsSpec.post enc Try.prog Try.f7 false true false false) := by
  refine returnsInHanded_of_change_sized (C := Try.checked) own started (by kernel_rfl) Try.func7
    (ChangeSpec.witness6 (enc := enc) (C := Try.checked) false ⟨#[], #[.agg #[.slice none 0 0, .string ByteArray.empty, .string ByteArray.empty, .string ByteArray.empty]], []⟩ 8 (by kernel_rfl) (by kernel_rfl) (by kernel_rfl) (by kernel_rfl)) ?_
  intro W base args ds gs before hval0 hW hcnd hsz _
  have hval : ∀ (j : Nat) t v, Try.f7.params[j]? = some t → args[j]? = some v → Value.okWide Try.prog W .any base t v := hval0
  have hW' := hW
  obtain ⟨p, q, hA0, hV, rfl, hfz, hnd⟩ := hW
  have hA : DataW.TrodAll enc Try.prog W 0 (fun _ => true) true Try.f7.params.toList args.toList ds p := hA0
  rw [Try.params7] at hA hval
  obtain ⟨v0, vs0, d0, ds0, p0, q0, hargs, rfl, rfl, h0, r0⟩ := trodAll_cons hA
  obtain ⟨rfl, rfl, rfl⟩ := trodAll_nil r0
  obtain rfl : args = #[v0] := by cases args; simp_all
  obtain ⟨rfl, rfl⟩ := trodVars_none hV
  have k0 := h0
  have lt0 : ∀ x ∈ p0, x.block < W.heap.size := by obtain ⟨m, hm⟩ := k0; exact DataW.trod_lt m _ _ _ hm
  obtain ⟨cs0, xs0, rfl, rfl, hl0, hc0⟩ := open_struct_at (n := 4) Try.underlying73 (by kernel_rfl) (hval 0 73 v0 rfl rfl) h0
  obtain ⟨y0_0, y0_1, y0_2, y0_3, rfl⟩ := len4 cs0 hl0
  have g0x0 : ∃ m y, xs0[0]? = some y ∧ DataW.trod enc Try.prog W 0 (fun _ => true) true m 71 (([y0_0, y0_1, y0_2, y0_3].drop 0).take (Try.prog.cellsOf 71)) = some y := hc0 0 _ rfl
  rw [show Try.prog.cellsOf 71 = 1 by kernel_rfl] at g0x0
  obtain ⟨m0x0, z0x0, hy0x0, hg0x0⟩ := g0x0
  obtain ⟨a0f0, a0f0l, a0f0c, rfl, w0f0, w0f0l, w0f0m⟩ := open_AR0f0 (c := y0_0) (d := z0x0.1) (pl := z0x0.2) ⟨m0x0, hg0x0⟩ (fld_sized hsz (j := 0) rfl rfl Try.underlying73 (i := 0) rfl (by rw [List.getElem?_map, hy0x0]; rfl))
  have g0x1 : ∃ m y, xs0[1]? = some y ∧ DataW.trod enc Try.prog W 0 (fun _ => true) true m 9 (([Value.slice a0f0 a0f0l a0f0c, y0_1, y0_2, y0_3].drop 1).take (Try.prog.cellsOf 9)) = some y := hc0 1 _ rfl
  rw [show Try.prog.cellsOf 9 = 1 by kernel_rfl] at g0x1
  obtain ⟨a0f1, rfl, z0f1⟩ := open_str_at (c := y0_1) Try.underlying9 g0x1
  have w0f1 := str_sized hsz (j := 0) rfl rfl Try.underlying73 (i := 1) rfl z0f1
  have g0x2 : ∃ m y, xs0[2]? = some y ∧ DataW.trod enc Try.prog W 0 (fun _ => true) true m 9 (([Value.slice a0f0 a0f0l a0f0c, Value.string a0f1, y0_2, y0_3].drop 2).take (Try.prog.cellsOf 9)) = some y := hc0 2 _ rfl
  rw [show Try.prog.cellsOf 9 = 1 by kernel_rfl] at g0x2
  obtain ⟨a0f2, rfl, z0f2⟩ := open_str_at (c := y0_2) Try.underlying9 g0x2
  have w0f2 := str_sized hsz (j := 0) rfl rfl Try.underlying73 (i := 2) rfl z0f2
  have g0x3 : ∃ m y, xs0[3]? = some y ∧ DataW.trod enc Try.prog W 0 (fun _ => true) true m 9 (([Value.slice a0f0 a0f0l a0f0c, Value.string a0f1, Value.string a0f2, y0_3].drop 3).take (Try.prog.cellsOf 9)) = some y := hc0 3 _ rfl
  rw [show Try.prog.cellsOf 9 = 1 by kernel_rfl] at g0x3
  obtain ⟨a0f3, rfl, z0f3⟩ := open_str_at (c := y0_3) Try.underlying9 g0x3
  have w0f3 := str_sized hsz (j := 0) rfl rfl Try.underlying73 (i := 3) rfl z0f3
  clear hA0 hval0
  refine (walk a0f0 a0f0l a0f0c a0f1 a0f2 a0f3 W w0f0 w0f0l w0f0m w0f1 w0f2 w0f3).mono fun e W' ⟨he, bel⟩ => ?_
  subst he
  exact ⟨_, rfl, _, _, _, [], _, [], hW', trodAll_mk1 (shut_bool Try.underlying4 _), (trodAll_cons_mk (Below.trod laidOut (by kernel_rfl) (of_decide_eq_true (by kernel_rfl)) k0 bel lt0) trodAll_mk0), rfl, bel.frame _, fun h => by cases h⟩

theorem over : Rows.bufFoldsRow.holds Try.pinned (OpenSpec.ofChange Rows.bufFoldsSpec) :=
  OpenClaim.holds_of_wide 7 Try.f7 rfl rfl rfl rfl rfl rfl rfl ⟨rfl, rfl, rfl, rfl, rfl⟩ rfl rfl rfl rfl rfl (by kernel_rfl) Try.func7 (by kernel_rfl)
    (of_decide_eq_true (by kernel_rfl)) (by unfold Func.isWrapper; first | (rw [if_pos (by decide +kernel)]; kernel_rfl) | (rw [if_neg (by decide +kernel)]; exact ⟨rfl, rfl⟩))
    (fun os started H enc _ => lifted os started H enc)

/-- THE STATEMENT -/
theorem proved : Rows.BufFoldsSaid := over
#print axioms proved
end Go.Proofs.Ytfmbjepjmjcgeaa.bufFolds
