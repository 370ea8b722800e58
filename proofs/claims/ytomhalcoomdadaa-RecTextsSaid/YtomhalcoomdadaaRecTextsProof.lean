/-
  The law RecTexts holds: which updates may be, how many bytes they take, and their bytes, are the document's, or its error. Conditions: none but the row's own.
-/
import Derived.Test.YtomhalcoomdadaaRows
import Derived.Test.YtomhalcoomdadaaRecK
import Derived.Test.YtomhalcoomdadaaStructs
import Derived.WalkKit
import Derived.ProofKit
import Derived.OpenShut
import Derived.ShutString
import Derived.ChangeOld
import Derived.Below
import Derived.Carry
namespace Go.Proofs.Ytomhalcoomdadaa.recTexts
open Go.ChangeShapes Go.WideShapes Go.ChangeAt Go.RowKit
open Go.Proofs.Ytomhalcoomdadaa
open Go.ChangeMaps (open_string shut_string)
set_option linter.unusedVariables false

theorem own : ownKnob Try.prog.godebug = none := by kernel_rfl
theorem laidOut : laidOutB Try.prog = true := by kernel_rfl

/-- the elements of argument 0 -/
def AR0 (w : World) (a : Option Addr) (len : Nat) : Prop := 0 < len → ∃ b off, a = some ⟨b, off, none⟩ ∧ ∀ i, i < len → ∃ (x0 : Int) (x1 : ByteArray) (x2 : ByteArray) (x3 : Int), w.cell? ⟨b, off + (i * 4 + 0), none⟩ = some (.int .u8 x0) ∧ (Lit.int .u8 x0).wf = true ∧ w.cell? ⟨b, off + (i * 4 + 1), none⟩ = some (.string x1) ∧ x1.size ≤ maxLen ∧ w.cell? ⟨b, off + (i * 4 + 2), none⟩ = some (.string x2) ∧ x2.size ≤ maxLen ∧ w.cell? ⟨b, off + (i * 4 + 3), none⟩ = some (.int .u64 x3) ∧ (Lit.int .u64 x3).wf = true
theorem open_AR0 {H : Type} {enc : TypeId × Value → H} {w : World} {held : Bool} {c : Value} (h : ∃ m y, DataW.trod enc Try.prog w 0 (fun _ => true) held m 22 [c] = some y) :
    ∃ a len cap, c = .slice a len cap ∧ AR0 w a len ∧ len ≤ cap ∧ cap ≤ maxLen := by
  obtain ⟨a, len, cap, hc, hl, hm, hx⟩ := open_structs Try.underlying22 Try.underlying43 (by kernel_rfl) (by kernel_rfl) (by decide) h
  refine ⟨a, len, cap, hc, fun hpos => ?_, hl, hm⟩
  obtain ⟨b, off, ha, hf⟩ := hx hpos
  refine ⟨b, off, ha, fun i hi => ?_⟩
  obtain ⟨v0, hc0, ht0⟩ := hf i hi 0 _ rfl
  obtain ⟨x0, rfl, hw0⟩ := open_int_cell Try.underlying5 ht0
  obtain ⟨v1, hc1, ht1⟩ := hf i hi 1 _ rfl
  obtain ⟨x1, rfl, hw1⟩ := open_str_cell Try.underlying9 ht1
  obtain ⟨v2, hc2, ht2⟩ := hf i hi 2 _ rfl
  obtain ⟨x2, rfl, hw2⟩ := open_str_cell Try.underlying9 ht2
  obtain ⟨v3, hc3, ht3⟩ := hf i hi 3 _ rfl
  obtain ⟨x3, rfl, hw3⟩ := open_int_cell Try.underlying31 ht3
  exact ⟨x0, x1, x2, x3, hc0, hw0, hc1, hw1, hc2, hw2, hc3, hw3⟩

open Go.Proofs.Ytomhalcoomdadaa.Rec
def Qu (u : Up) : Prop := WfU u ∧ SzU u
theorem ups {w : World} {a : Option Addr} {len cap : Nat} (h : AR0 w a len) : ∃ l, len = l.length ∧ UR w (.slice a len cap) l ∧ ∀ u ∈ l, Qu u := by
  refine ur_of Qu fun h0 => ?_
  obtain ⟨b, off, ha, hx⟩ := h h0
  refine ⟨b, off, ha, fun i hi => ?_⟩
  obtain ⟨x0, x1, x2, x3, c0, h0, c1, h1, c2, h2, c3, h3⟩ := hx i hi
  unfold maxLen at h1 h2
  exact ⟨_, ⟨⟨(u8_bd h0).1, (u8_bd h0).2, (u64_bd h3).1, (u64_bd h3).2⟩, by simpa using h1, by simpa using h2⟩, up_cells c0 c1 c2 c3⟩

/-! ### STEP 1: THE WALK -/
set_option maxHeartbeats 4000000 in
set_option maxRecDepth 100000 in
theorem walk (a0 : Option Addr) (a0l a0c : Nat) (w : World) (w0 : AR0 w a0 a0l) (w0l : a0l ≤ a0c) (w0m : a0c ≤ maxLen) :
    Calls Try.prog 3 #[.slice a0 a0l a0c] w fun e w' => e = .returned (.bool true) ∧ Below w.heap.size w w' := by
  obtain ⟨l, hl, hu, hq⟩ := ups (cap := a0c) w0
  have HOF := Lib.hid (of_any hu hl w0l w0m fun u h => (hq u h).2)
  have hm12 : (ofL l).length ≤ 12 := by rw [ofL_length]; omega
  have hwf := ofL_wf fun u h => (hq u h).1
  obtain ⟨m, hm⟩ : ∃ m, m = ofL l := ⟨_, rfl⟩
  rw [← hm] at HOF hm12 hwf
  have HWF := Lib.hid hwf
  clear hl hu hq w0 w0l w0m hm hwf
  go_enter Try.func3, Try.ntmps3
  go_wp2_with fail
  refine HOF.out.mono ?_
  rintro e w1 ⟨a, b, rfl, hra, hru, hb1⟩
  have HB1 := Lib.hid hb1
  have HUA := Lib.hid (UR.of_own hra)
  have HUB := Lib.hid (UR.of_own hru)
  have hsa := own_shape hra
  have hsb := own_shape hru
  have HRU := Lib.hid hru
  have HRA := Lib.hid hra
  obtain ⟨n, hn⟩ : ∃ n, n = m.length := ⟨_, rfl⟩
  obtain ⟨ao, ac, rfl, hac⟩ := hsa
  obtain ⟨bo, bc, rfl, hbc⟩ := hsb
  have HN := Lib.hid hn
  rw [← hn] at HUA HUB HRU HRA hac hbc hm12 ⊢
  clear hra hru hb1 hn HOF
  go_wp2_with fail
  go_loopw [19] (fun i wr => ∃ k : Nat, k ≤ n ∧ i = .int .i64 k ∧ Below w1.heap.size w1 wr) (fun i _ => n - (intOf i).toNat)
  case atStart => exact ⟨0, Nat.zero_le _, rfl, Below.refl _ _⟩
  case round =>
    obtain ⟨k, hk, rfl, hb⟩ := hrel
    have HB := Lib.hid hb
    by_cases hlt : k < n
    · have hke : k < m.length := by rw [← HN.out]; exact hlt
      have hki : (k : Int) < (n : Int) := by omega
      obtain ⟨g, off, rfl, hcb⟩ := UR.at_ HUB.out (by omega)
      obtain ⟨g', off', rfl, hca⟩ := UR.at_ HUA.out (by omega)
      have hca := hca k hke
      obtain ⟨u, hu⟩ : ∃ u, u = m[k] := ⟨_, rfl⟩
      have HSUB := Lib.hid (HUB.out.sub k (bc - k) hke)
      have HWU := Lib.hid (HWF.out _ (List.getElem_mem hke))
      rw [← hu] at hca HSUB HWU
      have hbc : ∀ j x, j < 4 → (encU u)[j]? = some x → wr.cell? ⟨g', off' + k * 4 + j, none⟩ = some x := fun j x hj hx => by
        have h1 := (hca j hj).trans hx
        rw [hb.cell (World.block_lt_of_cell? _ _ h1)]; exact h1
      have HC := Lib.hid hbc
      have hcc : ¬ bc = k := by omega
      have hkb : k + 1 ≤ bc := by omega
      clear hu hca hbc hcb hb hke
      go_wp2_with fail
      refine (reftext_any (HSUB.out.below HB.out) (by simp) (fun x hx => by rw [List.mem_singleton] at hx; subst hx; exact HWU.out)).mono ?_
      rintro e w2 ⟨rfl, hb2⟩
      have HB2 := Lib.hid (below_on HB.out hb2)
      have HC2 := Lib.hid (show ∀ j x, j < 4 → (encU u)[j]? = some x → w2.cell? ⟨g', off' + k * 4 + j, none⟩ = some x from fun j x hj hx => by
        have h1 := HC.out j x hj hx
        rw [hb2.cell (World.block_lt_of_cell? _ _ h1)]; exact h1)
      have H1 := Lib.hid (one_tx u)
      rw [H1.out.2.1]
      have hsz := ssize (txT [u])
      obtain ⟨T, hT⟩ : ∃ x, x = Lend.strOf (txT [u]) := ⟨_, rfl⟩
      rw [← hT] at hsz ⊢
      have HS := Lib.hid (show szU u = (T.size : Int) by rw [hsz, H1.out.2.2])
      have c0 : w2.cell? ⟨g', off' + k * 4, none⟩ = some (.int .u8 u.kind) := HC2.out 0 _ (by omega) rfl
      have c1 : w2.cell? ⟨g', off' + k * 4 + 1, none⟩ = some (.string (Lend.strOf u.key)) := HC2.out 1 _ (by omega) rfl
      have c2 : w2.cell? ⟨g', off' + k * 4 + 2, none⟩ = some (.string (Lend.strOf u.val)) := HC2.out 2 _ (by omega) rfl
      have c3 : w2.cell? ⟨g', off' + k * 4 + 3, none⟩ = some (.int .u64 u.delta) := HC2.out 3 _ (by omega) rfl
      clear hb2 hsz hT
      go_wp2_with fail
      refine (check_any u _ HWU.out.1 HWU.out.2.1).mono ?_
      rintro e w3 ⟨rfl, hb3⟩
      have HB3 := Lib.hid (below_on HB2.out hb3)
      clear c0 c1 c2 c3
      have hc3 : ∀ j x, j < 4 → (encU u)[j]? = some x → w3.cell? ⟨g', off' + k * 4 + j, none⟩ = some x := fun j x hj hx => by
        have h1 := HC2.out j x hj hx
        rw [hb3.cell (World.block_lt_of_cell? _ _ h1)]; exact h1
      have c0 : w3.cell? ⟨g', off' + k * 4, none⟩ = some (.int .u8 u.kind) := hc3 0 _ (by omega) rfl
      have c1 : w3.cell? ⟨g', off' + k * 4 + 1, none⟩ = some (.string (Lend.strOf u.key)) := hc3 1 _ (by omega) rfl
      have c2 : w3.cell? ⟨g', off' + k * 4 + 2, none⟩ = some (.string (Lend.strOf u.val)) := hc3 2 _ (by omega) rfl
      have c3 : w3.cell? ⟨g', off' + k * 4 + 3, none⟩ = some (.int .u64 u.delta) := hc3 3 _ (by omega) rfl
      clear hc3 hb3
      go_wp2_with fail
      refine (size_up u _ HWU.out.1 HWU.out.2.1 HWU.out.2.2.1 HWU.out.2.2.2).mono ?_
      rintro e w4 ⟨rfl, hb4⟩
      have HB4 := Lib.hid (below_on HB3.out hb4)
      rw [HS.out]
      clear c0 c1 c2 c3 hb4
      go_wp2_with fail
      go_roundw
      case rel => exact ⟨k + 1, by omega, by go_num, HB4.out⟩
      case measure => simp [intOf]; omega
    · have hki : ¬ (k : Int) < (n : Int) := by omega
      have HTA := Lib.hid (fun W (h : Below w1.heap.size w1 W) => Text_any (HUA.out.below h) (by rw [← HN.out]; omega) HWF.out)
      have HTB := Lib.hid (fun W (h : Below w1.heap.size w1 W) => reftext_any (HUB.out.below h) (by rw [← HN.out]; omega) HWF.out)
      clear hb
      go_wp2_with fail
      refine (HTA.out _ HB.out).mono ?_
      rintro e w2 ⟨rfl, hb2⟩
      have HB2 := Lib.hid (below_on HB.out hb2)
      clear hb2
      go_wp2_with fail
      refine (HTB.out _ HB2.out).mono ?_
      rintro e w3 ⟨rfl, hb3⟩
      have HB3 := Lib.hid (below_on HB2.out hb3)
      clear hb3
      generalize Lend.strOf (txT m) = T at *
      generalize errL m = E at *
      go_wp2_with fail
      refine (wakes_any _).mono ?_
      rintro e w4 ⟨rfl, hb4⟩
      have HB4 := Lib.hid (below_on (below_on HB1.out HB3.out) hb4)
      clear hb4
      go_wp2_with fail
      go_ret
      exact ⟨rfl, HB4.out⟩

/-! ### THE ROW's STEP -/
set_option maxRecDepth 100000 in
theorem lifted (os : Os) (started : os.Started) (H : Type) (enc : TypeId × Value → H) :
    ReturnsInHanded {} Try.checked os 3 .any (Rows.recTextsSpec.pre6 enc Try.prog Try.f3 Rows.recTextsRow.domain false) (Rows.recTextsSpec.post enc Try.prog Try.f3 false true false false) := by
  refine returnsInHanded_of_change (C := Try.checked) own started (by kernel_rfl) Try.func3
    (ChangeSpec.witness6 (enc := enc) (C := Try.checked) false ⟨#[], #[.slice none 0 0], []⟩ 8 (by kernel_rfl) (by kernel_rfl) (by kernel_rfl) (by kernel_rfl)) ?_
  intro W base args ds gs before hval0 hW hcnd _
  have hval : ∀ (j : Nat) t v, Try.f3.params[j]? = some t → args[j]? = some v → Value.okWide Try.prog W .any base t v := hval0
  have hW' := hW
  obtain ⟨p, q, hA0, hV, rfl, hfz, hnd⟩ := hW
  have hA : DataW.TrodAll enc Try.prog W 0 (fun _ => true) true Try.f3.params.toList args.toList ds p := hA0
  rw [Try.params3] at hA hval
  obtain ⟨v0, vs0, d0, ds0, p0, q0, hargs, rfl, rfl, h0, r0⟩ := trodAll_cons hA
  obtain ⟨rfl, rfl, rfl⟩ := trodAll_nil r0
  obtain rfl : args = #[v0] := by cases args; simp_all
  obtain ⟨rfl, rfl⟩ := trodVars_none hV
  have k0 := h0
  have lt0 : ∀ x ∈ p0, x.block < W.heap.size := by obtain ⟨m, hm⟩ := k0; exact DataW.trod_lt m _ _ _ hm
  obtain ⟨a0', l0', c0', rfl⟩ := okWide_slice Try.underlying22 (hval 0 22 v0 rfl rfl)
  obtain ⟨a0, a0l, a0c, he0, w0, w0l, w0m⟩ := open_AR0 (c := .slice a0' l0' c0') (by obtain ⟨m, hm⟩ := h0; exact ⟨m, _, hm⟩)
  simp only [Value.slice.injEq] at he0
  obtain ⟨rfl, rfl, rfl⟩ := he0
  clear hA0 hval0
  refine (walk a0' l0' c0' W w0 w0l w0m).mono fun e W' ⟨he, bel⟩ => ?_
  subst he
  exact ⟨_, rfl, _, _, _, [], _, [], hW', trodAll_mk1 (shut_bool Try.underlying4 _), (trodAll_cons_mk (Below.trod laidOut (by kernel_rfl) (of_decide_eq_true (by kernel_rfl)) k0 bel lt0) trodAll_mk0), rfl, bel.frame _, fun h => by cases h⟩

theorem over : Rows.recTextsRow.holds Try.pinned (OpenSpec.ofChange Rows.recTextsSpec) :=
  OpenClaim.holds_of_wide 3 Try.f3 rfl rfl rfl rfl rfl rfl rfl ⟨rfl, rfl, rfl, rfl, rfl⟩ rfl rfl rfl rfl rfl (by kernel_rfl) Try.func3 (by kernel_rfl)
    (of_decide_eq_true (by kernel_rfl)) (by unfold Func.isWrapper; first | (rw [if_pos (by decide +kernel)]; kernel_rfl) | (rw [if_neg (by decide +kernel)]; exact ⟨rfl, rfl⟩))
    (fun os started H enc _ => lifted os started H enc)

/-- THE STATEMENT -/
theorem proved : Rows.RecTextsSaid := over
#print axioms proved
end Go.Proofs.Ytomhalcoomdadaa.recTexts
