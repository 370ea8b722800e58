/-
  The law LendReads holds: the numbers of all bytes, by all widths, and what is left, are the document's, or there are none. Conditions: none but the row's own.
-/
import Derived.Test.YtnofgicflijpgaaRows
import Derived.Test.YtnofgicflijpgaaRefLend
import Derived.WalkKit
import Derived.ProofKit
import Derived.OpenShut
import Derived.ShutString
import Derived.ChangeOld
import Derived.Below
namespace Go.Proofs.Ytnofgicflijpgaa.lendReads
open Go.ChangeShapes Go.WideShapes Go.ChangeAt Go.RowKit
open Go.ChangeMaps (open_string shut_string)
set_option linter.unusedVariables false

theorem own : ownKnob Try.prog.godebug = none := by kernel_rfl
theorem laidOut : laidOutB Try.prog = true := by kernel_rfl

/-- WHAT THE WALK IS TOLD OF A SLICE OF INTEGERS THAT CAME IN: it is nil; or it leads to a row of 'cap' cells, the numbers 'zs' (the first 'len' are its elements, the rest its spare room), each fitting its kind. -/
def IsRow (k : IntKind) (w : World) (a : Option Addr) (len cap : Nat) (zs : List Int) : Prop :=
  (a = none ∧ len = 0 ∧ cap = 0 ∧ zs = []) ∨
  ∃ x, a = some x ∧ len ≤ cap ∧ cap ≤ maxLen ∧ zs.length = cap ∧ (∀ i, i < zs.length → w.cell? (x.add i) = some (.int k (zs.getD i 0))) ∧ ∀ n ∈ zs, (Lit.int k n).wf = true

theorem isRow_row {k : IntKind} {w : World} {a : Option Addr} {len cap : Nat} {zs : List Int} (h : IsRow k w a len cap zs) :
    Row k w a len (zs.take len) ∧ len ≤ cap ∧ cap ≤ maxLen ∧ (∀ n ∈ zs.take len, (Lit.int k n).wf = true) := by
  rcases h with ⟨rfl, rfl, rfl, rfl⟩ | ⟨x, rfl, hl, hm, hz, hc, hwf⟩
  · exact ⟨⟨rfl, fun h => absurd h (by decide)⟩, Nat.le_refl _, by unfold maxLen; omega, by simp⟩
  · refine ⟨⟨by simp; omega, fun h => ?_⟩, hl, hm, fun n hn => hwf n (List.mem_of_mem_take hn)⟩
    obtain ⟨b, off, spot⟩ := x
    have h0 := hc 0 (by omega)
    have hs : spot = none := by simpa [Addr.add] using World.cell?_spot h0
    subst hs
    refine ⟨b, off, rfl, fun i hi => ?_⟩
    have := hc i (by omega)
    rw [Addr.add_lit] at this
    rw [this]
    simp [List.getD, hi]

theorem walk_wf {zs : List Int} (h : ∀ n ∈ zs, (Lit.int .u64 n).wf = true) : ∀ n ∈ zs, 0 ≤ n ∧ n < 18446744073709551616 := by
  intro n hn
  have := bounds_u64 (h n hn)
  omega
open Go.Proofs.Ytnofgicflijpgaa.Lend

/-! ### STEP 1: THE WALK: the Go text returns true, AND WRITES NOTHING THAT WAS THERE: 'Below w.heap.size w w'' (Derived/Below.lean: '.refl', '.alloc', '.drew', '.setCell' at a new block, '.trans'). Open each 'IsRow' by 'rcases' AHEAD of 'go_enter'; part every test ahead of the walk. -/
set_option maxHeartbeats 4000000 in
set_option maxRecDepth 100000 in
theorem walk (a0 : Option Addr) (len0 cap0 : Nat) (z0 : List Int) (a1 : ByteArray) (w : World) (w0 : IsRow .i64 w a0 len0 cap0 z0) (w1 : a1.size ≤ maxLen) :
    Calls Try.prog 4 #[.slice a0 len0 cap0, .string a1] w fun e w' => e = .returned (.bool true) ∧ Below w.heap.size w w' := by
  obtain ⟨hr, hlc, _, _⟩ := isRow_row w0
  have HR := Lib.hid hr
  clear hr w0 w1
  go_enter Try.func4, Try.ntmps4
  go_upto_region 1 with fail
  go_cut [0, 1] (fun s t wx => ∃ (n : Nat) (v : ByteArray), n ≤ 20 ∧ n ≤ len0 ∧ s = .slice a0 n cap0 ∧ t = .string v ∧ v.size ≤ 200 ∧ Below w.heap.size w wx)
  case first =>
    go_quiet (fail)
    go_wp2
    all_goals (go_meet; first | exact ⟨20, _, by omega, by omega, rfl, rfl, by first | omega | (simp; omega), below_drewN (Below.refl _ _) _⟩ | exact ⟨len0, _, by omega, by omega, rfl, rfl, by first | omega | (simp; omega), below_drewN (Below.refl _ _) _⟩)
  case rest =>
    obtain ⟨n, v, hn20, hnl, rfl, rfl, hv, hb0⟩ := hcut
    obtain ⟨ws, hws⟩ : ∃ xs, xs = (z0.take len0).take n := ⟨_, rfl⟩
    have hra : Row .i64 wc a0 n ws := by rw [hws]; exact (HR.out.take n hnl).below hb0 (Nat.le_refl _)
    have hs0 := hb0.size
    clear hws HR
    go_wp2_with fail
    refine (read_any a0 n cap0 ws v _ hra (by omega) (by omega)).mono ?_
    rintro e w2 ⟨bo, m, cap2, rfl, hown2, hb2⟩
    have hr2 := Row.own hown2
    have hra2 := hra.below hb2 (Nat.le_refl _)
    have hb2 : Below w.heap.size w w2 := hb0.trans (hb2.mono hs0)
    have hs2 := hb2.size
    clear hra hb0 hs0 hown2
    go_wp2_with fail
    refine (refread_any a0 n cap0 ws v _ hra2 (by omega) (by omega)).mono ?_
    rintro e w3 ⟨bo3, m3, cap3, rfl, hown3, hb3⟩
    have hr3 := Row.own hown3
    have hr2' := hr2.below hb3 (Nat.le_refl _)
    obtain rfl : m3 = m := by rw [← hr3.len_eq, ← hr2.len_eq]
    have hb3 : Below w.heap.size w w3 := hb2.trans (hb3.mono hs2)
    have hs3 := hb3.size
    have hm20 : m3 ≤ 20 := by
      have h1 := rdN_length_le ws v.data.toList
      have h2 := hr3.len_eq
      have h3 := hra2.len_eq
      omega
    obtain ⟨xs, hxs⟩ : ∃ xs, xs = rdN ws v.data.toList := ⟨_, rfl⟩
    rw [← hxs] at hr3 hr2'
    have HR2 := Lib.hid hr2'
    have HR3 := Lib.hid hr3
    clear hra2 hb2 hs2 hown3 hr2 hr2' hr3 hxs
    go_wp2_with fail
    go_loopw [53] (fun i wr => ∃ q : Nat, q ≤ m3 ∧ i = .int .i64 q ∧ Below w3.heap.size w3 wr) (fun i _ => m3 - (intOf i).toNat)
    case atStart => exact ⟨0, Nat.zero_le _, rfl, Below.refl _ _⟩
    case round =>
      obtain ⟨q, hq, rfl, hbr⟩ := hrel
      have hsr := hbr.size
      by_cases hlt : q < m3
      · obtain ⟨b3, o3, rfl, hc3⟩ := (HR3.out.below hbr (Nat.le_refl _)).at_ (by omega)
        obtain ⟨b2, o2, rfl, hc2⟩ := (HR2.out.below hbr (Nat.le_refl _)).at_ (by omega)
        have hc3q := hc3 q hlt
        have hc2q := hc2 q hlt
        obtain ⟨y, hy⟩ : ∃ y, y = xs.getD q 0 := ⟨_, rfl⟩
        rw [← hy] at hc3q hc2q
        have hlt' : (q : Int) < (m3 : Int) := by omega
        clear hc3 hc2 hy
        go_wp2
        go_quiet (fail)
        go_wp2
        go_roundw
        case rel => exact ⟨q + 1, by omega, by go_num, below_drewN hbr _⟩
        case measure => simp [intOf]; omega
      · have hbe : Below w.heap.size w wr := hb3.trans (hbr.mono hs3)
        have hse := hbe.size
        go_wp2_with (go_at_call 10; refine (wakes_any _).mono ?_; rintro e w9 ⟨rfl, hb9⟩)
        go_ret
        exact ⟨rfl, hbe.trans (hb9.mono hse)⟩

/-! ### THE ROW's STEP: WRITTEN OUT: LEAVE IT -/
set_option maxRecDepth 100000 in
theorem lifted (os : Os) (started : os.Started) (H : Type) (enc : TypeId × Value → H) :
    ReturnsInHanded {} Try.checked os 4 .any (Rows.lendReadsSpec.pre6 enc Try.prog Try.f4 Rows.lendReadsRow.domain false) (Rows.lendReadsSpec.post enc Try.prog Try.f4 false true false false) := by
  refine returnsInHanded_of_change (C := Try.checked) own started (by kernel_rfl) Try.func4
    (ChangeSpec.witness6 (enc := enc) (C := Try.checked) false ⟨#[], #[.slice none 0 0, .string ByteArray.empty], []⟩ 8 (by kernel_rfl) (by kernel_rfl) (by kernel_rfl) (by kernel_rfl)) ?_
  intro W base args ds gs before hval0 hW hcnd _
  have hval : ∀ (j : Nat) t v, Try.f4.params[j]? = some t → args[j]? = some v → Value.okWide Try.prog W .any base t v := hval0
  have hW' := hW
  obtain ⟨p, q, hA0, hV, rfl, hfz, hnd⟩ := hW
  have hA : DataW.TrodAll enc Try.prog W 0 (fun _ => true) true Try.f4.params.toList args.toList ds p := hA0
  rw [Try.params4] at hA hval
  obtain ⟨v0, vs0, d0, ds0, p0, q0, hargs, rfl, rfl, h0, r0⟩ := trodAll_cons hA
  obtain ⟨v1, vs1, d1, ds1, p1, q1, rfl, rfl, rfl, h1, r1⟩ := trodAll_cons r0
  obtain ⟨rfl, rfl, rfl⟩ := trodAll_nil r1
  obtain rfl : args = #[v0, v1] := by cases args; simp_all
  obtain ⟨rfl, rfl⟩ := trodVars_none hV
  obtain ⟨a0, len0, cap0, rfl⟩ := okWide_slice Try.underlying22 (hval 0 22 v0 rfl rfl)
  have k0 := h0
  have lt0 : ∀ x ∈ p0, x.block < W.heap.size := by obtain ⟨m, hm⟩ := k0; exact DataW.trod_lt m _ _ _ hm
  obtain ⟨z0, w0⟩ : ∃ zs, IsRow .i64 W a0 len0 cap0 zs := by
    obtain ⟨fuel, hf⟩ := h0
    rcases open_ints Try.underlying22 Try.underlying3 (by kernel_rfl) hf with ⟨hcs, _⟩ | ⟨x, l, c, zs, hcs, _, hl, hm, hz, _, hcell, hwz⟩
    · simp [Value.cells] at hcs
      obtain ⟨rfl, rfl, rfl⟩ := hcs
      exact ⟨[], .inl ⟨rfl, rfl, rfl, rfl⟩⟩
    · simp [Value.cells] at hcs
      obtain ⟨rfl, rfl, rfl⟩ := hcs
      exact ⟨zs, .inr ⟨_, rfl, hl, hm, by simpa using hz, hcell, hwz⟩⟩
  obtain ⟨a1, rfl, rfl, rfl, w1⟩ := open_string Try.underlying9 (hval 1 9 v1 rfl rfl) h1
  clear hA0 hval0
  refine (walk a0 len0 cap0 z0 a1 W w0 w1).mono fun e W' ⟨he, bel⟩ => ?_
  subst he
  exact ⟨_, rfl, _, _, _, [], _, [], hW', trodAll_mk1 (shut_bool Try.underlying4 _), (trodAll_cons_mk (Below.trod laidOut (by kernel_rfl) (of_decide_eq_true (by kernel_rfl)) k0 bel lt0) (trodAll_cons_mk (shut_string Try.underlying9 w1) trodAll_mk0)), rfl, bel.frame _, fun h => by cases h⟩

theorem over : Rows.lendReadsRow.holds Try.pinned (OpenSpec.ofChange Rows.lendReadsSpec) :=
  OpenClaim.holds_of_wide 4 Try.f4 rfl rfl rfl rfl rfl rfl rfl ⟨rfl, rfl, rfl, rfl, rfl⟩ rfl rfl rfl rfl rfl (by kernel_rfl) Try.func4 (by kernel_rfl)
    (of_decide_eq_true (by kernel_rfl)) (by unfold Func.isWrapper; first | (rw [if_pos (by decide +kernel)]; kernel_rfl) | (rw [if_neg (by decide +kernel)]; exact ⟨rfl, rfl⟩))
    (fun os started H enc _ => lifted os started H enc)

/-- ████ THE STATEMENT ████ -/
theorem proved : Rows.LendReadsSaid := over
#print axioms proved
end Go.Proofs.Ytnofgicflijpgaa.lendReads
