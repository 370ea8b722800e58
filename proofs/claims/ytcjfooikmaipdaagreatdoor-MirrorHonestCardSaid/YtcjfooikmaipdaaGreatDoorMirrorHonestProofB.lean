/-
  The law MirrorHonest holds: whatever is done to both copies, a read answers what was written, or an error, or there are two unlike images of one address, generation and check. Conditions: none but the row's own.
-/
import Derived.Test.YtcjfooikmaipdaaGreatDoorRows
import Derived.Test.YtcjfooikmaipdaaGreatDoorK14
import Derived.Test.YtcjfooikmaipdaaGreatDoorCards
import Derived.Test.YtcjfooikmaipdaaGreatDoorTie
import Derived.Test.YtcjfooikmaipdaaGreatDoorK13
import Derived.WalkKit
import Derived.ProofKit
import Derived.OpenShut
import Derived.ShutString
import Derived.ChangeOld
import Derived.Below
import Derived.Carry
import Derived.Deep.DeepHandedRow
import Derived.SizedLaws
import Derived.Lib.LaidTab
namespace Go.Proofs.YtcjfooikmaipdaaGreatDoor.mirrorHonest
open Go.ChangeShapes Go.WideShapes Go.ChangeAt Go.RowKit
open Go.Proofs.YtcjfooikmaipdaaGreatDoor
open Go.ChangeMaps (open_string shut_string)
set_option linter.unusedVariables false

theorem own : ownKnob Tryz.prog.godebug = none := by kernel_rfl
theorem laidOut : laidOutB Tryz.prog = true := by kernel_rfl

theorem len7 {α : Type} : ∀ l : List α, l.length = 7 → ∃ z0 z1 z2 z3 z4 z5 z6, l = [z0, z1, z2, z3, z4, z5, z6]
  | [z0, z1, z2, z3, z4, z5, z6], _ => ⟨z0, z1, z2, z3, z4, z5, z6, rfl⟩

open Go.Proofs.YtcjfooikmaipdaaGreatDoor.Mir Go.Proofs.YtcjfooikmaipdaaGreatDoor.Rem Go.Proofs.YtcjfooikmaipdaaGreatDoor.Dev
/-- a struct that came in by value: its fields, of however many cells each -/
theorem open_struct_at {H : Type} {enc : TypeId × Value → H} {P : Program} {w W : World} {r : Reach} {base b0 n : Nat} {sp : Nat → Bool} {held : Bool} {t : TypeId} {fs : Array Field} {v : Value} {d : DataW H} {ps : List MemPlace}
    (hs : P.underlying t = some (.struct fs)) (hC : P.cellsOf t = n) (hval : Value.okWide P W r b0 t v) (hd : DataW.Trod enc P w base sp held t v d ps) :
    ∃ (cs : List Value) (xs : List (DataW H × List MemPlace)), v = .agg cs.toArray ∧ d = .agg (xs.map (·.1)) ∧ cs.length = n ∧ ∀ (j : Nat) (f : Field), fs[j]? = some f → ∃ m y, xs[j]? = some y ∧ DataW.trod enc P w base sp held m f.type ((cs.drop f.offset).take (P.cellsOf f.type)) = some y := by
  obtain ⟨cs, rfl, hsz⟩ := okWide_struct hs hval
  obtain ⟨fuel, hf⟩ := hd
  obtain ⟨xs, k, _, hx, _, hlen, hg⟩ := DataW.trod_struct hs hf
  refine ⟨cs.toList, xs, by simp, (Prod.mk.inj hx).1, by rw [Array.length_toList, hsz, hC], fun j f hj => ?_⟩
  have h1 := hg j f hj
  have hc' : (Value.agg cs).cells.toList = cs.toList := by simp [Value.cells]
  rw [hc'] at h1
  have hjl : j < fs.size := (Array.getElem?_eq_some_iff.1 hj).1
  have h2 := List.getElem?_eq_getElem (show j < xs.length by omega)
  exact ⟨k, _, h2, h1.trans h2⟩
theorem open_str_at {H : Type} {enc : TypeId × Value → H} {P : Program} {w : World} {base : Nat} {sp : Nat → Bool} {held : Bool} {e : TypeId} {c : Value} {xs : List (DataW H × List MemPlace)} {j : Nat} (he : P.underlying e = some .string) (h : ∃ m y, xs[j]? = some y ∧ DataW.trod enc P w base sp held m e [c] = some y) : ∃ s : ByteArray, c = .string s ∧ (xs.map (·.1))[j]? = some (.lit (.string s.data.toList)) := by
  obtain ⟨m, y, hy, h⟩ := h
  obtain ⟨s, hs, hz, hw⟩ := DataW.trod_string he h
  refine ⟨s, by simpa using hs, ?_⟩
  rw [List.getElem?_map, hy, hz]; rfl
theorem open_arr_at {H : Type} {enc : TypeId × Value → H} {P : Program} {w : World} {base n : Nat} {sp : Nat → Bool} {held : Bool} {t e : TypeId} {cs : List Value} {xs : List (DataW H × List MemPlace)} {j : Nat}
    (ht : P.underlying t = some (.array n e)) (hce : P.cellsOf e = 1) (hl : cs.length = n) (h : ∃ m y, xs[j]? = some y ∧ DataW.trod enc P w base sp held m t cs = some y) :
    ∀ (i : Nat) (c : Value), cs[i]? = some c → ∃ m y, DataW.trod enc P w base sp held m e [c] = some y := by
  obtain ⟨fuel, y, _, hf⟩ := h
  obtain ⟨zs, m, _, _, hz, hx, hi⟩ := DataW.trod_array ht hf
  intro i c hc
  have hin : i < n := by rw [← hl]; exact (List.getElem?_eq_some_iff.1 hc).1
  have := hi i hin
  rw [hce, Nat.mul_one] at this
  have e1 : (cs.drop i).take 1 = [c] := by
    obtain ⟨h1, h2⟩ := List.getElem?_eq_some_iff.1 hc
    rw [List.drop_eq_getElem_cons h1, h2]; rfl
  rw [e1] at this
  have hxl : i < zs.length := by omega
  exact ⟨m, zs[i], by rw [this, List.getElem?_eq_getElem hxl]⟩
/-- a text in a struct that came in is no longer than the reading's reach -/
theorem str_sized {H : Type} {P : Program} {ts : List TypeId} {ds : List (DataW H)} (h : (DataW.weightsEach P ts ds).all (· ≤ reachBytes) = true) {j : Nat} {t : TypeId} {fs : Array Field} {parts : List (DataW H)} (ht : ts[j]? = some t) (hd : ds[j]? = some (.agg parts)) (hu : P.underlying t = some (.struct fs)) {i : Nat} {f : Field} {s : ByteArray} (hf : fs[i]? = some f) (hp : parts[i]? = some (.lit (.string s.data.toList))) : s.size ≤ 140737488355327 := by
  have hm : s.data.toList.length ∈ DataW.weights P t (.agg parts) := by
    simp only [DataW.weights, hu]
    refine DataW.weights_mem_each (j := i) (t := f.type) (d := .lit (.string s.data.toList)) ?_ hp _ ?_
    · rw [List.getElem?_map, Array.getElem?_toList, hf]; rfl
    · simp only [DataW.weights, List.mem_singleton]
  have := List.all_eq_true.1 h _ (DataW.weights_mem_each ht hd _ hm)
  have h2 := reachBytes_lt
  have h3 : s.data.toList.length = s.size := by simp
  simp only [decide_eq_true_eq] at this
  omega
theorem full8_big (s : ByteArray) (w : World) (hs : s.size ≤ 140737488355327) :
    Calls Tryz.prog 29 #[.string s] w fun e w' => e = .returned (.string (fullN s)) ∧ Below w.heap.size w w' := by
  have HF := Lib.hid (show fullN s = (s ++ stars).extract 0 128 from rfl)
  have HS := Lib.hid (show (⟨(Lib.repeatL (⟨#[42]⟩ : ByteArray).data.toList 128).toArray⟩ : ByteArray) = stars from rfl)
  have h1 := stars_size
  have h2 : (s ++ stars).size = s.size + 128 := by rw [ByteArray.size_append, h1]
  have h3 : ¬ 9223372036854775807 < s.size + 128 := by omega
  have h4 : (128 : Int) ≤ (s.size : Int) + 128 := by omega
  have h5 : 128 ≤ s.size + 128 := by omega
  go_enter Tryz.func29, Tryz.ntmps29
  go_wp2_with fail
  refine (Tryz.strings_Repeat _ 128 _ (by omega) (show 1 * 128 ≤ _ by omega)).mono ?_
  rintro e w1 ⟨rfl, hb⟩
  rw [HS.out]
  have HB := Lib.hid hb
  clear hb
  go_wp2
  go_ret
  exact ⟨by rw [HF.out]; rfl, HB.out⟩
theorem not_empty {s : ByteArray} (h : ¬ s = ⟨#[]⟩) : s.toList.isEmpty = false := by
  have h1 := text_ne h
  cases h2 : s.toList with
  | nil => rw [h2] at h1; exact absurd h1 (by simp)
  | cons => rfl
section
variable {wx w w' : World} {tt u v mm tb bb q pa pb cc cc' : Nat} {K : Int} {S S' : Nat → Sd}
/-- all that stands between the rounds -/
def GI (wx : World) (tt u v mm tb bb q pa pb : Nat) (K : Int) (cc : Nat) (S : Nat → Sd) (w : World) : Prop := Sum.IsTab w tt ∧ Has w u 25 [.pointer (some ⟨pa, 0, none⟩), .pointer (some ⟨pb, 0, none⟩)] ∧ Has w v 35 [.int .i64 5, .int .u64 7, .int .u32 K] ∧ MG wx [v, tt, u] mm tb bb q (pdOf pa pb) S noG cc 0 w
theorem GI.later (h : GI wx tt u v mm tb bb q pa pb K cc S w) (hb : Below w.heap.size w w') : GI wx tt u v mm tb bb q pa pb K cc S w' := ⟨h.1.below hb (Nat.le_refl _), h.2.1.below hb h.2.1.lt, h.2.2.1.below hb h.2.2.1.lt, h.2.2.2.later hb⟩
theorem GI.go (h : GI wx tt u v mm tb bb q pa pb K cc S w) (hm : MG wx [v, tt, u] mm tb bb q (pdOf pa pb) S' noG cc' 0 w') (hs : Same [v, tt, u] w w') : GI wx tt u v mm tb bb q pa pb K cc' S' w' := ⟨Mir.tab_same h.1 (hs tt (by simp)), Has.same h.2.1 (hs u (by simp)), Has.same h.2.2.1 (hs v (by simp)), hm⟩
end

/-! ### STEP 1: THE WALK -/
set_option maxHeartbeats 8000000 in
set_option maxRecDepth 100000 in
theorem walk (a0f0 : ByteArray) (a0f1 : ByteArray) (a0f2 : ByteArray) (a0f3x0 : Int) (a0f3x1 : Int) (a0f3x2 : Int) (a0f3x3 : Int) (w : World) (w0f0 : a0f0.size ≤ 140737488355327) (w0f1 : a0f1.size ≤ 140737488355327) (w0f2 : a0f2.size ≤ 140737488355327) (w0f3x0 : (Lit.int .u16 a0f3x0).wf = true) (w0f3x1 : (Lit.int .u16 a0f3x1).wf = true) (w0f3x2 : (Lit.int .u16 a0f3x2).wf = true) (w0f3x3 : (Lit.int .u16 a0f3x3).wf = true) :
    Calls Tryz.prog 6 #[.agg #[.string a0f0, .string a0f1, .string a0f2, .int .u16 a0f3x0, .int .u16 a0f3x1, .int .u16 a0f3x2, .int .u16 a0f3x3]] w fun e w' => e = .returned (.bool true) ∧ Below w.heap.size w w' := by
  obtain ⟨hs0, hs1, hs2⟩ := And.intro w0f0 (And.intro w0f1 w0f2)
  have hg0 := bounds_u16 w0f3x0
  have hg1 := bounds_u16 w0f3x1
  have hg2 := bounds_u16 w0f3x2
  have hg3 := bounds_u16 w0f3x3
  clear w0f0 w0f1 w0f2 w0f3x0 w0f3x1 w0f3x2 w0f3x3
  obtain ⟨n0, rfl⟩ : ∃ n : Nat, a0f3x0 = n := ⟨a0f3x0.toNat, by omega⟩
  obtain ⟨n2, rfl⟩ : ∃ n : Nat, a0f3x2 = n := ⟨a0f3x2.toNat, by omega⟩
  obtain ⟨y0, hy0⟩ : ∃ y : UInt8, (y.toNat : Int) = a0f3x1 % 256 := ⟨UInt8.ofNat (a0f3x1 % 256).toNat, by rw [UInt8.toNat_ofNat']; omega⟩
  obtain ⟨y1, hy1⟩ : ∃ y : UInt8, (y.toNat : Int) = a0f3x3 % 256 := ⟨UInt8.ofNat (a0f3x3 % 256).toNat, by rw [UInt8.toNat_ofNat']; omega⟩
  have hyw0 : IntKind.u8.wrap a0f3x1 = (y0.toNat : Int) := by rw [hy0]; rfl
  have hyw1 : IntKind.u8.wrap a0f3x3 = (y1.toNat : Int) := by rw [hy1]; rfl
  have hym0 : a0f3x1 % 256 = (y0.toNat : Int) := hy0.symm
  have hym1 : a0f3x3 % 256 = (y1.toNat : Int) := hy1.symm
  have hnw0 : IntKind.i64.wrap (n0 : Int) = (n0 : Int) := IntWalk.i64_in _ (by omega)
  have hnw2 : IntKind.i64.wrap (n2 : Int) = (n2 : Int) := IntWalk.i64_in _ (by omega)
  clear hy0 hy1
  obtain ⟨m, hm⟩ : ∃ m, m = min a0f0.size 100 := ⟨_, rfl⟩
  have hmin : ∀ W ts, (Builtin.min_ ts 3 #[.int .i64 (a0f0.size : Nat), .int .i64 100]).run Tryz.prog W = .ok (.int .i64 (m : Int)) W := by
    intro W ts; rw [hm]; exact run_minC _ _ _ _ a0f0.size 100
  have hm1 : m ≤ a0f0.size := by omega
  have hm2 : m ≤ 100 := by omega
  obtain ⟨tx, htx⟩ : ∃ t, t = a0f0.extract 0 m := ⟨_, rfl⟩
  have HTX := Lib.hid htx
  have hok : Okay 5 7 tx := ⟨by omega, by omega, by omega, by omega, by rw [htx]; simp; omega⟩
  have HOK := Lib.hid hok
  obtain ⟨T, hT⟩ : ∃ T, T = imT 5 7 tx := ⟨_, rfl⟩
  obtain ⟨K, hK⟩ : ∃ K, K = ckT 5 7 tx := ⟨_, rfl⟩
  have HTT := Lib.hid hT
  have HKK := Lib.hid hK
  have HTZ := Lib.hid (show T.size = 128 by rw [hT]; exact hok.size)
  have HS1 := Lib.hid hs1
  have HS2 := Lib.hid hs2
  clear hok hT hK hm htx hs1 hs2
  go_enter Tryz.func6, Tryz.ntmps6
  go_wp2_with fail
  obtain ⟨p, hp⟩ : ∃ p, p = w.heap.size := ⟨_, rfl⟩
  have HP := Lib.hid (Has.new w [.string a0f0, .string a0f1, .string a0f2, .int .u16 (n0 : Nat), .int .u16 a0f3x1, .int .u16 (n2 : Nat), .int .u16 a0f3x3] 76)
  have HB0 := Lib.hid (Tab.b_new w (.cells #[.string a0f0, .string a0f1, .string a0f2, .int .u16 (n0 : Nat), .int .u16 a0f3x1, .int .u16 (n2 : Nat), .int .u16 a0f3x3] 76))
  obtain ⟨W1, hW⟩ : ∃ W, W = w.alloc (.cells #[.string a0f0, .string a0f1, .string a0f2, .int .u16 (n0 : Nat), .int .u16 a0f3x1, .int .u16 (n2 : Nat), .int .u16 a0f3x3] 76) := ⟨_, rfl⟩
  rw [show (w.alloc (.cells [.string a0f0, .string a0f1, .string a0f2, .int .u16 (n0 : Nat), .int .u16 a0f3x1, .int .u16 (n2 : Nat), .int .u16 a0f3x3].toArray 76)) = W1 from hW.symm, ← hp] at HP
  rw [← hW] at HB0 ⊢
  rw [← hp]
  clear hW hp
  refine Reg.region_vals3 (by kernel_rfl) [(20, .pointer (some ⟨p, 0, none⟩)), (21, .string a0f0), (22, .pointer (some ⟨p, 3, none⟩)), (23, .agg #[.int .u16 (n0 : Nat), .int .u16 a0f3x1, .int .u16 (n2 : Nat), .int .u16 a0f3x3]), (3, .string a0f0)] [4] (Uno W1 4 4 6 74 [.int .u16 0, .int .u16 0, .int .u16 0, .int .u16 0] [.int .u16 (n0 : Nat), .int .u16 a0f3x1, .int .u16 (n2 : Nat), .int .u16 a0f3x3]) ?a1 ?a2 ?a3 ?a4 ?a5 ?a6 ?a7 ?hend
  case a1 => kernel_rfl
  case a2 => kernel_rfl
  case a3 => kernel_rfl
  case a4 => kernel_rfl
  case a5 => kernel_rfl
  case a6 => exact Uno.start _
  case a7 =>
    refine ⟨?_, ?_, ?_, ?_, ?_, ?_, ?_, trivial⟩
    · -- 0: 20 := Op.fieldAddr 76 t1 0
      intro aq wq lq hz hI hl hdone hlater hold hd ho
      have h1 : aq.tmps.getD 1 undef = .pointer (some ⟨p, 0, none⟩) := ho 1 (by kernel_rfl)
      clear hd ho hdone hlater hold
      rw [Array.getD_eq_getD_getElem?] at h1
      have hc : 20 < aq.tmps.size := by have hz' : aq.tmps.size = 135 := hz; omega
      refine Reg.step3_val (.pointer (some ⟨p, 0, none⟩)) ?_ rfl (hI.keep _ (Below.refl _ _) (by decide) (by decide) (by decide) hc) trivial
      clear hz hc hI
      go_simp
    · -- 1: 21 := Op.load 9 t20
      intro aq wq lq hz hI hl hdone hlater hold hd ho
      have h20 : aq.tmps.getD 20 undef = .pointer (some ⟨p, 0, none⟩) := hd 20 (by kernel_rfl)
      have hpp := HP.out.below hI.1 HP.out.lt
      have x0 := hpp.cell 0
      simp only [List.getElem?_cons_zero, List.getElem?_cons_succ] at x0
      clear hpp
      clear hd ho hdone hlater hold
      rw [Array.getD_eq_getD_getElem?] at h20
      have hc : 21 < aq.tmps.size := by have hz' : aq.tmps.size = 135 := hz; omega
      refine Reg.step3_val (.string a0f0) ?_ rfl (hI.keep _ (Below.refl _ _) (by decide) (by decide) (by decide) hc) trivial
      clear hz hc hI
      go_simp
    · -- 2: 22 := Op.fieldAddr 76 t1 3
      intro aq wq lq hz hI hl hdone hlater hold hd ho
      have h1 : aq.tmps.getD 1 undef = .pointer (some ⟨p, 0, none⟩) := ho 1 (by kernel_rfl)
      clear hd ho hdone hlater hold
      rw [Array.getD_eq_getD_getElem?] at h1
      have hc : 22 < aq.tmps.size := by have hz' : aq.tmps.size = 135 := hz; omega
      refine Reg.step3_val (.pointer (some ⟨p, 3, none⟩)) ?_ rfl (hI.keep _ (Below.refl _ _) (by decide) (by decide) (by decide) hc) trivial
      clear hz hc hI
      go_simp
    · -- 3: 23 := Op.load 74 t22
      intro aq wq lq hz hI hl hdone hlater hold hd ho
      have h22 : aq.tmps.getD 22 undef = .pointer (some ⟨p, 3, none⟩) := hd 22 (by kernel_rfl)
      have hpp := HP.out.below hI.1 HP.out.lt
      have x3 := hpp.cell 3
      have x4 := hpp.cell 4
      have x5 := hpp.cell 5
      have x6 := hpp.cell 6
      simp only [List.getElem?_cons_zero, List.getElem?_cons_succ] at x3 x4 x5 x6
      clear hpp
      clear hd ho hdone hlater hold
      rw [Array.getD_eq_getD_getElem?] at h22
      have hc : 23 < aq.tmps.size := by have hz' : aq.tmps.size = 135 := hz; omega
      refine Reg.step3_val (.agg #[.int .u16 (n0 : Nat), .int .u16 a0f3x1, .int .u16 (n2 : Nat), .int .u16 a0f3x3]) ?_ rfl (hI.keep _ (Below.refl _ _) (by decide) (by decide) (by decide) hc) trivial
      clear hz hc hI
      go_simp
    · -- 4: 4 := Op.alloc 74
      intro aq wq lq hz hI hl hdone hlater hold hd ho
      have hst : lq 6 = false := hlater 6 (by kernel_rfl)
      clear hd ho hdone hlater hold
      have hc : 4 < aq.tmps.size := by have hz' : aq.tmps.size = 135 := hz; omega
      refine Reg.step3_do (.pointer (some ⟨wq.heap.size, 0, none⟩)) (wq.alloc (.cells #[.int .u16 0, .int .u16 0, .int .u16 0, .int .u16 0] 74)) ?_ trivial (Uno.mk hI hst (by decide) hc) trivial
      clear hz hc hI
      simp [execOp]
      go_simp
    · -- 5: 3 := Op.assign t21
      intro aq wq lq hz hI hl hdone hlater hold hd ho
      have h21 : aq.tmps.getD 21 undef = .string a0f0 := hd 21 (by kernel_rfl)
      clear hd ho hdone hlater hold
      have hc : 3 < aq.tmps.size := by have hz' : aq.tmps.size = 135 := hz; omega
      exact Reg.step3_assign (.tmp 21) rfl h21 (hI.keep _ (Below.refl _ _) (by decide) (by decide) (by decide) hc) trivial
    · -- 6: None := Op.store 74 t4 t23
      intro aq wq lq hz hI hl hdone hlater hold hd ho
      have h23 : aq.tmps.getD 23 undef = .agg #[.int .u16 (n0 : Nat), .int .u16 a0f3x1, .int .u16 (n2 : Nat), .int .u16 a0f3x3] := hd 23 (by kernel_rfl)
      have hia : lq 4 = true := hdone 4 (by kernel_rfl)
      clear hd ho hdone hlater hold
      rw [Array.getD_eq_getD_getElem?] at h23
      obtain ⟨gq, hgp, hge, hH, hBx, hU⟩ := hI.st hia hl (by decide)
      rw [Array.getD_eq_getD_getElem?] at hgp
      have e0 : wq.cell? ⟨gq, 0, none⟩ = some (.int .u16 0) := hH.cell 0
      have e1 : wq.cell? ⟨gq, 1, none⟩ = some (.int .u16 0) := hH.cell 1
      have e2 : wq.cell? ⟨gq, 2, none⟩ = some (.int .u16 0) := hH.cell 2
      have e3 : wq.cell? ⟨gq, 3, none⟩ = some (.int .u16 0) := hH.cell 3
      have fz := hH.frozen
      refine Reg.step3_skip ((((wq.setCell ⟨gq, 0, none⟩ (.int .u16 (n0 : Nat))).setCell ⟨gq, 1, none⟩ (.int .u16 a0f3x1)).setCell ⟨gq, 2, none⟩ (.int .u16 (n2 : Nat))).setCell ⟨gq, 3, none⟩ (.int .u16 a0f3x3)) rfl ?_ (hU _ (Has.set (Has.set (Has.set (Has.set hH 0 (.int .u16 (n0 : Nat))) 1 (.int .u16 a0f3x1)) 2 (.int .u16 (n2 : Nat))) 3 (.int .u16 a0f3x3)) (Below.setCell (Below.setCell (Below.setCell (Below.setCell hBx (by exact hge) _) (by exact hge) _) (by exact hge) _) (by exact hge) _)) trivial
      clear hU hH hBx hI hz
      simp [execOp]
      go_simp
  case hend =>
    intro wx v aq hv hI
    obtain ⟨gq, hgp, hge, hH, hBx⟩ := Uno.done hI (by decide) (by decide)
    rw [hv 4 (by decide)] at hgp
    clear hv hI
    simp only [Reg.fill, List.map_cons, List.map_nil, List.foldl_cons, List.foldl_nil, List.setIfInBounds_toArray, List.set_cons_zero, List.set_cons_succ]
    rw [hgp]
    clear hgp
    have HBX := Lib.hid hBx
    have HGQ := Lib.hid hH
    have HPX := Lib.hid (HP.out.below hBx HP.out.lt)
    clear hge hH hBx HP
    go_wp2_with fail
    refine (fresh_any wx).mono ?_
    rintro e w1 ⟨pa, pb, mm, tb, bb, q, S, rfl, hm, h0, h1⟩
    have HPL := Lib.hid (Pl.new h0 h1)
    have HD := Lib.hid (Has.new w1 [.pointer (some ⟨pa, 0, none⟩), .pointer (some ⟨pb, 0, none⟩)] 25)
    have HM := Lib.hid (hm.new (.cells #[.pointer (some ⟨pa, 0, none⟩), .pointer (some ⟨pb, 0, none⟩)] 25))
    clear hm h0 h1
    obtain ⟨u, hu⟩ : ∃ u, u = w1.heap.size := ⟨_, rfl⟩
    rw [← hu] at HD HM
    go_wp2_with fail
    rw [← hu]
    refine (wakes_any _).mono ?_
    rintro e w2 ⟨rfl, hb⟩
    have HM2 := Lib.hid (HM.out.later hb)
    have HD2 := Lib.hid (HD.out.below hb HD.out.lt)
    clear hb HM HD hu
    go_wp2_with fail
    refine (Sum.make_any _).mono ?_
    rintro e w3 ⟨tt, rfl, htb, htab, hb⟩
    have HM3 := Lib.hid (HM2.out.fresh hb htb (isTab_lt htab))
    have HD3 := Lib.hid (HD2.out.below hb HD2.out.lt)
    have HT3 := Lib.hid htab
    clear htb htab hb HM2 HD2
    go_wp2_with fail
    rw [show a0f0.extract 0 m = tx from HTX.out.symm]
    refine (sealed_any tt 5 7 tx _ HT3.out HOK.out).mono ?_
    rintro e w4 ⟨rfl, hb⟩
    rw [← HTT.out, ← HKK.out]
    have HM4 := Lib.hid ((HM3.out.later hb).new (.cells #[.int .i64 5, .int .u64 7, .int .u32 K] 35))
    have HD4 := Lib.hid ((HD3.out.below hb HD3.out.lt).alloc (.cells #[.int .i64 5, .int .u64 7, .int .u32 K] 35))
    have HT4 := Lib.hid ((HT3.out.below hb (Nat.le_refl _)).below (Tab.b_new w4 (.cells #[.int .i64 5, .int .u64 7, .int .u32 K] 35)) (Nat.le_refl _))
    have HV4 := Lib.hid (Has.new w4 [.int .i64 5, .int .u64 7, .int .u32 K] 35)
    obtain ⟨v, hv⟩ : ∃ v, v = w4.heap.size := ⟨_, rfl⟩
    rw [← hv] at HM4 HV4
    clear hb HM3 HD3 HT3
    go_wp2_with fail
    rw [← hv]
    clear hv
    refine (Write_m HM4.out HPL.out.nb (b := 5) (by omega) HTZ.out (by omega)).mono ?_
    rintro e w5 ⟨S1, rfl, hst, hm, hsm⟩
    rw [lsE_no]
    have HPL1 := Lib.hid (HPL.out.st hst)
    have HM5 := Lib.hid hm
    have HD5 := Lib.hid (Has.same HD4.out (hsm u (by simp)))
    have HT5 := Lib.hid (Mir.tab_same HT4.out (hsm tt (by simp)))
    have HV5 := Lib.hid (Has.same HV4.out (hsm v (by simp)))
    clear hst hm hsm HM4 HD4 HT4 HV4 HPL
    go_wp2_with fail
    refine (Flush_m HM5.out (by omega)).mono ?_
    rintro e w6 ⟨rfl, hm, hsm⟩
    rw [lsE_no]
    have HM6 := Lib.hid hm
    have HD6 := Lib.hid (Has.same HD5.out (hsm u (by simp)))
    have HT6 := Lib.hid (Mir.tab_same HT5.out (hsm tt (by simp)))
    have HV6 := Lib.hid (Has.same HV5.out (hsm v (by simp)))
    have hpx := HPX.out.below hm.below HPX.out.lt
    have p1 := hpx.cell 1
    have p2 := hpx.cell 2
    simp only [List.getElem?_cons_zero, List.getElem?_cons_succ] at p1 p2
    clear hm hsm hpx HM5 HD5 HT5 HV5 HPX
    go_wp2_with fail
    go_loopw [60] (fun i wr => ∃ (j cc : Nat) (S2 : Nat → Sd), j ≤ 2 ∧ i = .int .i64 j ∧ cc ≤ 12 + j ∧ Pl S2 ∧ GI wx tt u v mm tb bb q pa pb K cc S2 wr) (fun i _ => 2 - (intOf i).toNat)
    case atStart => exact ⟨0, _, S1, by omega, rfl, by omega, HPL1.out, HT6.out, HD6.out, HV6.out, HM6.out.sub (fun k hk => by simp at hk ⊢; rcases hk with rfl | rfl | rfl <;> simp)⟩
    case round =>
      obtain ⟨j, cc, S2, hj, rfl, hcc, hpl, hgi⟩ := hrel
      clear HM6 HD6 HT6 HV6 HPL1 p1 p2
      have HPL := Lib.hid hpl
      have HG := Lib.hid hgi
      clear hpl hgi
      rcases (show j = 0 ∨ j = 1 ∨ j = 2 by omega) with rfl | rfl | rfl
      · rw [show ((0 : Nat) : Int) = 0 from rfl]
        by_cases hX : a0f1 = ⟨#[]⟩
        · subst hX
          have i0 : ∀ W, (Instr.index 77 (.agg #[.string ⟨#[]⟩, .string a0f2]) (.int .i64 0)).run Tryz.prog W = .ok (.string ⟨#[]⟩) W := fun _ => by kernel_rfl
          obtain ⟨S9, hS9⟩ : ∃ S9, S9 = setV S2 0 (4 + 5) (turnB ((S2 0).V (4 + 5)) (n0 % 128) y0) := ⟨_, rfl⟩
          have HP9 := Lib.hid (show Pl S9 by rw [hS9]; exact HPL.out.setV _ _ _)
          have HS9 := Lib.hid hS9
          clear hS9
          go_wp2_with fail
          refine Reg.region_vals (by kernel_rfl) [(72, .int .i64 0), (73, .pointer (some ⟨u, 0, none⟩)), (74, .pointer (some ⟨pa, 0, none⟩)), (75, .int .i64 0), (76, .int .i64 0), (77, .pointer (some ⟨gq, 0, none⟩)), (78, .int .u16 (n0 : Nat)), (79, .int .i64 (n0 : Nat)), (80, .int .i64 0), (81, .int .i64 0), (82, .int .i64 1), (83, .pointer (some ⟨gq, 1, none⟩)), (84, .int .u16 a0f3x1), (85, .int .u8 (y0.toNat : Nat)), (86, .tuple #[])] (fun l wy => GI wx tt u v mm tb bb q pa pb K (cc) (bif l 14 then S9 else S2) wy) (by kernel_rfl) (by kernel_rfl) (by kernel_rfl) (HG.out.later (Below.refl _ _).drew) ⟨?_, ?_, ?_, ?_, ?_, ?_, ?_, ?_, ?_, ?_, ?_, ?_, ?_, ?_, ?_, trivial⟩ ?hend
          · -- 0: 72 := Op.move t11
            intro aq wq lq hI hl hdone hlater hold hd ho
            have h11 : aq.tmps.getD 11 undef = .int .i64 0 := ho 11 (by kernel_rfl)
            clear hd ho hdone hlater hold
            exact Reg.step2_move (.tmp 11) rfl h11 hI trivial
          · -- 1: 73 := Op.indexAddr 25 t5 t72
            intro aq wq lq hI hl hdone hlater hold hd ho
            have h5 : aq.tmps.getD 5 undef = .pointer (some ⟨u, 0, none⟩) := ho 5 (by kernel_rfl)
            have h72 : aq.tmps.getD 72 undef = .int .i64 0 := hd 72 (by kernel_rfl)
            clear hd ho hdone hlater hold
            rw [Array.getD_eq_getD_getElem?] at h5 h72
            refine Reg.step2_val (.pointer (some ⟨u, 0, none⟩)) ?_ rfl hI trivial
            go_simp
          · -- 2: 74 := Op.load 24 t73
            intro aq wq lq hI hl hdone hlater hold hd ho
            have h73 : aq.tmps.getD 73 undef = .pointer (some ⟨u, 0, none⟩) := hd 73 (by kernel_rfl)
            clear hd ho hdone hlater hold
            rw [Array.getD_eq_getD_getElem?] at h73
            have d0 := hI.2.1.cell 0
            simp only [List.getElem?_cons_zero, List.getElem?_cons_succ] at d0
            refine Reg.step2_val (.pointer (some ⟨pa, 0, none⟩)) ?_ rfl hI trivial
            go_simp
          · -- 3: 75 := Op.move t11
            intro aq wq lq hI hl hdone hlater hold hd ho
            have h11 : aq.tmps.getD 11 undef = .int .i64 0 := ho 11 (by kernel_rfl)
            clear hd ho hdone hlater hold
            exact Reg.step2_move (.tmp 11) rfl h11 hI trivial
          · -- 4: 76 := Op.binOp BinOp.mul 3 (const (2:i64)) t75 3
            intro aq wq lq hI hl hdone hlater hold hd ho
            have h75 : aq.tmps.getD 75 undef = .int .i64 0 := hd 75 (by kernel_rfl)
            clear hd ho hdone hlater hold
            rw [Array.getD_eq_getD_getElem?] at h75
            refine Reg.step2_val (.int .i64 0) ?_ rfl hI trivial
            simp [execOp, Act.eval, h75]
            try go_simp
            first | done | rfl
          · -- 5: 77 := Op.indexAddr 74 t4 t76
            intro aq wq lq hI hl hdone hlater hold hd ho
            have h4 : aq.tmps.getD 4 undef = .pointer (some ⟨gq, 0, none⟩) := ho 4 (by kernel_rfl)
            have h76 : aq.tmps.getD 76 undef = .int .i64 0 := hd 76 (by kernel_rfl)
            clear hd ho hdone hlater hold
            rw [Array.getD_eq_getD_getElem?] at h4 h76
            refine Reg.step2_val (.pointer (some ⟨gq, 0, none⟩)) ?_ rfl hI trivial
            go_simp
          · -- 6: 78 := Op.load 67 t77
            intro aq wq lq hI hl hdone hlater hold hd ho
            have h77 : aq.tmps.getD 77 undef = .pointer (some ⟨gq, 0, none⟩) := hd 77 (by kernel_rfl)
            clear hd ho hdone hlater hold
            rw [Array.getD_eq_getD_getElem?] at h77
            have hgq := HGQ.out.below hI.2.2.2.below HGQ.out.lt
            have g0 := hgq.cell 0
            simp only [List.getElem?_cons_zero, List.getElem?_cons_succ] at g0
            clear hgq
            refine Reg.step2_val (.int .u16 (n0 : Nat)) ?_ rfl hI trivial
            go_simp
          · -- 7: 79 := Op.convert 67 3 t78
            intro aq wq lq hI hl hdone hlater hold hd ho
            have h78 : aq.tmps.getD 78 undef = .int .u16 (n0 : Nat) := hd 78 (by kernel_rfl)
            clear hd ho hdone hlater hold
            rw [Array.getD_eq_getD_getElem?] at h78
            refine Reg.step2_val (.int .i64 (n0 : Nat)) ?_ rfl hI trivial
            simp [execOp]
            go_simp
          · -- 8: 80 := Op.move t11
            intro aq wq lq hI hl hdone hlater hold hd ho
            have h11 : aq.tmps.getD 11 undef = .int .i64 0 := ho 11 (by kernel_rfl)
            clear hd ho hdone hlater hold
            exact Reg.step2_move (.tmp 11) rfl h11 hI trivial
          · -- 9: 81 := Op.binOp BinOp.mul 3 (const (2:i64)) t80 3
            intro aq wq lq hI hl hdone hlater hold hd ho
            have h80 : aq.tmps.getD 80 undef = .int .i64 0 := hd 80 (by kernel_rfl)
            clear hd ho hdone hlater hold
            rw [Array.getD_eq_getD_getElem?] at h80
            refine Reg.step2_val (.int .i64 0) ?_ rfl hI trivial
            simp [execOp, Act.eval, h80]
            try go_simp
            first | done | rfl
          · -- 10: 82 := Op.binOp BinOp.add 3 t81 (const (1:i64)) 3
            intro aq wq lq hI hl hdone hlater hold hd ho
            have h81 : aq.tmps.getD 81 undef = .int .i64 0 := hd 81 (by kernel_rfl)
            clear hd ho hdone hlater hold
            rw [Array.getD_eq_getD_getElem?] at h81
            refine Reg.step2_val (.int .i64 1) ?_ rfl hI trivial
            simp [execOp, Act.eval, h81]
            try go_simp
            first | done | rfl
          · -- 11: 83 := Op.indexAddr 74 t4 t82
            intro aq wq lq hI hl hdone hlater hold hd ho
            have h4 : aq.tmps.getD 4 undef = .pointer (some ⟨gq, 0, none⟩) := ho 4 (by kernel_rfl)
            have h82 : aq.tmps.getD 82 undef = .int .i64 1 := hd 82 (by kernel_rfl)
            clear hd ho hdone hlater hold
            rw [Array.getD_eq_getD_getElem?] at h4 h82
            refine Reg.step2_val (.pointer (some ⟨gq, 1, none⟩)) ?_ rfl hI trivial
            go_simp
          · -- 12: 84 := Op.load 67 t83
            intro aq wq lq hI hl hdone hlater hold hd ho
            have h83 : aq.tmps.getD 83 undef = .pointer (some ⟨gq, 1, none⟩) := hd 83 (by kernel_rfl)
            clear hd ho hdone hlater hold
            rw [Array.getD_eq_getD_getElem?] at h83
            have hgq := HGQ.out.below hI.2.2.2.below HGQ.out.lt
            have g0 := hgq.cell 1
            simp only [List.getElem?_cons_zero, List.getElem?_cons_succ] at g0
            clear hgq
            refine Reg.step2_val (.int .u16 a0f3x1) ?_ rfl hI trivial
            go_simp
          · -- 13: 85 := Op.convert 67 5 t84
            intro aq wq lq hI hl hdone hlater hold hd ho
            have h84 : aq.tmps.getD 84 undef = .int .u16 a0f3x1 := hd 84 (by kernel_rfl)
            clear hd ho hdone hlater hold
            rw [Array.getD_eq_getD_getElem?] at h84
            refine Reg.step2_val (.int .u8 (y0.toNat : Nat)) ?_ rfl hI trivial
            simp [execOp]
            go_simp
          · -- 14: 86 := Op.call ( value (Operand.func 15), args := #(t74, const (9:i
            intro aq wq lq hI hl hdone hlater hold hd ho
            have h74 : aq.tmps.getD 74 undef = .pointer (some ⟨pa, 0, none⟩) := hd 74 (by kernel_rfl)
            have h79 : aq.tmps.getD 79 undef = .int .i64 (n0 : Nat) := hd 79 (by kernel_rfl)
            have h85 : aq.tmps.getD 85 undef = .int .u8 (y0.toNat : Nat) := hd 85 (by kernel_rfl)
            clear hd ho hdone hlater hold
            rw [Array.getD_eq_getD_getElem?] at h74 h79 h85
            have hJ := hI
            rw [show lq 14 = false from hl] at hJ
            have hJ : GI wx tt u v mm tb bb q pa pb K (cc) S2 wq := hJ
            clear hI
            refine Reg.step2_call 15 #[.pointer (some ⟨pa, 0, none⟩), .int .i64 9, .int .i64 (n0 : Nat), .int .u8 (y0.toNat : Nat)] ?_ ((garble_m hJ.2.2.2 (s := 0) (by omega) rfl (i := 4 + 5) (by omega) (by omega) (by omega) n0 y0 pa rfl 9 rfl n0 rfl).mono ?_)
            · clear hJ
              simp [execOp]
              go_simp
            · rintro e w' ⟨rfl, hm, hsm⟩
              rw [← HS9.out] at hm
              exact ⟨_, rfl, rfl, hJ.go hm hsm, trivial⟩
          case hend =>
            intro wz hI
            simp only [Reg.fill, List.foldl_cons, List.foldl_nil, List.setIfInBounds_toArray, List.set_cons_zero, List.set_cons_succ]
            have HG9 := Lib.hid (show GI wx tt u v mm tb bb q pa pb K (cc) S9 wz from hI)
            clear hI
            go_wp2_with fail
            go_roundw
            case rel => exact ⟨0 + 1, cc, _, by omega, by go_num, by omega, HP9.out, HG9.out⟩
            case measure => simp [intOf]
        · have hXe : a0f1.toList.isEmpty = false := not_empty hX
          have i0 : ∀ W, (Instr.index 77 (.agg #[.string a0f1, .string a0f2]) (.int .i64 0)).run Tryz.prog W = .ok (.string a0f1) W := fun _ => by kernel_rfl
          obtain ⟨S3, hS3⟩ : ∃ S3, S3 = setV S2 0 (4 + 5) (fullN a0f1) := ⟨_, rfl⟩
          have KPL := Lib.hid (show Pl S3 by rw [hS3]; exact HPL.out.setV _ _ _)
          have HS3 := Lib.hid hS3
          clear hS3
          go_wp2_with fail
          refine Reg.region_vals (by kernel_rfl) [(66, .int .i64 0), (67, .pointer (some ⟨u, 0, none⟩)), (68, .pointer (some ⟨pa, 0, none⟩)), (69, .string a0f1), (70, .string (fullN a0f1)), (71, .int .i64 0)] (fun l wy => GI wx tt u v mm tb bb q pa pb K (bif l 5 then cc + 1 else cc) (bif l 5 then S3 else S2) wy) (by kernel_rfl) (by kernel_rfl) (by kernel_rfl) (HG.out.later (Below.refl _ _).drew) ⟨?_, ?_, ?_, ?_, ?_, ?_, trivial⟩ ?hend
          · -- 0: 66 := Op.move t11
            intro aq wq lq hI hl hdone hlater hold hd ho
            have h11 : aq.tmps.getD 11 undef = .int .i64 0 := ho 11 (by kernel_rfl)
            clear hd ho hdone hlater hold
            exact Reg.step2_move (.tmp 11) rfl h11 hI trivial
          · -- 1: 67 := Op.indexAddr 25 t5 t66
            intro aq wq lq hI hl hdone hlater hold hd ho
            have h5 : aq.tmps.getD 5 undef = .pointer (some ⟨u, 0, none⟩) := ho 5 (by kernel_rfl)
            have h66 : aq.tmps.getD 66 undef = .int .i64 0 := hd 66 (by kernel_rfl)
            clear hd ho hdone hlater hold
            rw [Array.getD_eq_getD_getElem?] at h5 h66
            refine Reg.step2_val (.pointer (some ⟨u, 0, none⟩)) ?_ rfl hI trivial
            go_simp
          · -- 2: 68 := Op.load 24 t67
            intro aq wq lq hI hl hdone hlater hold hd ho
            have h67 : aq.tmps.getD 67 undef = .pointer (some ⟨u, 0, none⟩) := hd 67 (by kernel_rfl)
            clear hd ho hdone hlater hold
            rw [Array.getD_eq_getD_getElem?] at h67
            have d0 := hI.2.1.cell 0
            simp only [List.getElem?_cons_zero, List.getElem?_cons_succ] at d0
            refine Reg.step2_val (.pointer (some ⟨pa, 0, none⟩)) ?_ rfl hI trivial
            go_simp
          · -- 3: 69 := Op.move t12
            intro aq wq lq hI hl hdone hlater hold hd ho
            have h12 : aq.tmps.getD 12 undef = .string a0f1 := ho 12 (by kernel_rfl)
            clear hd ho hdone hlater hold
            exact Reg.step2_move (.tmp 12) rfl h12 hI trivial
          · -- 4: 70 := Op.call ( value (Operand.func 29), args := #(t69), argTypes 
            intro aq wq lq hI hl hdone hlater hold hd ho
            have h69 : aq.tmps.getD 69 undef = .string a0f1 := hd 69 (by kernel_rfl)
            clear hd ho hdone hlater hold
            rw [Array.getD_eq_getD_getElem?] at h69
            refine Reg.step2_call 29 #[.string a0f1] ?_ ((full8_big a0f1 wq HS1.out).mono ?_)
            · clear hI
              simp [execOp]
              go_simp
            · rintro e w' ⟨rfl, hb⟩
              exact ⟨_, rfl, rfl, hI.later hb, trivial⟩
          · -- 5: 71 := Op.call ( value (Operand.func 17), args := #(t68, const (9:i
            intro aq wq lq hI hl hdone hlater hold hd ho
            have h68 : aq.tmps.getD 68 undef = .pointer (some ⟨pa, 0, none⟩) := hd 68 (by kernel_rfl)
            have h70 : aq.tmps.getD 70 undef = .string (fullN a0f1) := hd 70 (by kernel_rfl)
            clear hd ho hdone hlater hold
            rw [Array.getD_eq_getD_getElem?] at h68 h70
            have hJ := hI
            rw [show lq 5 = false from hl] at hJ
            have hJ : GI wx tt u v mm tb bb q pa pb K cc S2 wq := hJ
            clear hI
            refine Reg.step2_call 17 #[.pointer (some ⟨pa, 0, none⟩), .int .i64 9, .string (fullN a0f1)] ?_ ((dwr_m hJ.2.2.2 (s := 0) (by omega) (i := 4 + 5) (by omega) (by omega) (HPL.out.nb 0 (by omega) (4 + 5) (by omega) (by omega)) (fullN_size a0f1) (by omega) 9 rfl pa rfl).mono ?_)
            · clear hJ
              simp [execOp]
              go_simp
            · rintro e w' ⟨rfl, hm, hsm⟩
              rw [← HS3.out] at hm
              exact ⟨_, rfl, rfl, hJ.go hm hsm, trivial⟩
          case hend =>
            intro wz0 hI
            simp only [Reg.fill, List.foldl_cons, List.foldl_nil, List.setIfInBounds_toArray, List.set_cons_zero, List.set_cons_succ]
            have KG := Lib.hid (show GI wx tt u v mm tb bb q pa pb K (cc + 1) S3 wz0 from hI)
            clear hI
            obtain ⟨S9, hS9⟩ : ∃ S9, S9 = setV S3 0 (4 + 5) (turnB ((S3 0).V (4 + 5)) (n0 % 128) y0) := ⟨_, rfl⟩
            have HP9 := Lib.hid (show Pl S9 by rw [hS9]; exact KPL.out.setV _ _ _)
            have HS9 := Lib.hid hS9
            clear hS9
            go_wp2_with fail
            refine Reg.region_vals (by kernel_rfl) [(72, .int .i64 0), (73, .pointer (some ⟨u, 0, none⟩)), (74, .pointer (some ⟨pa, 0, none⟩)), (75, .int .i64 0), (76, .int .i64 0), (77, .pointer (some ⟨gq, 0, none⟩)), (78, .int .u16 (n0 : Nat)), (79, .int .i64 (n0 : Nat)), (80, .int .i64 0), (81, .int .i64 0), (82, .int .i64 1), (83, .pointer (some ⟨gq, 1, none⟩)), (84, .int .u16 a0f3x1), (85, .int .u8 (y0.toNat : Nat)), (86, .tuple #[])] (fun l wy => GI wx tt u v mm tb bb q pa pb K (cc + 1) (bif l 14 then S9 else S3) wy) (by kernel_rfl) (by kernel_rfl) (by kernel_rfl) (KG.out.later (Below.refl _ _).drew) ⟨?_, ?_, ?_, ?_, ?_, ?_, ?_, ?_, ?_, ?_, ?_, ?_, ?_, ?_, ?_, trivial⟩ ?hend
            · -- 0: 72 := Op.move t11
              intro aq wq lq hI hl hdone hlater hold hd ho
              have h11 : aq.tmps.getD 11 undef = .int .i64 0 := ho 11 (by kernel_rfl)
              clear hd ho hdone hlater hold
              exact Reg.step2_move (.tmp 11) rfl h11 hI trivial
            · -- 1: 73 := Op.indexAddr 25 t5 t72
              intro aq wq lq hI hl hdone hlater hold hd ho
              have h5 : aq.tmps.getD 5 undef = .pointer (some ⟨u, 0, none⟩) := ho 5 (by kernel_rfl)
              have h72 : aq.tmps.getD 72 undef = .int .i64 0 := hd 72 (by kernel_rfl)
              clear hd ho hdone hlater hold
              rw [Array.getD_eq_getD_getElem?] at h5 h72
              refine Reg.step2_val (.pointer (some ⟨u, 0, none⟩)) ?_ rfl hI trivial
              go_simp
            · -- 2: 74 := Op.load 24 t73
              intro aq wq lq hI hl hdone hlater hold hd ho
              have h73 : aq.tmps.getD 73 undef = .pointer (some ⟨u, 0, none⟩) := hd 73 (by kernel_rfl)
              clear hd ho hdone hlater hold
              rw [Array.getD_eq_getD_getElem?] at h73
              have d0 := hI.2.1.cell 0
              simp only [List.getElem?_cons_zero, List.getElem?_cons_succ] at d0
              refine Reg.step2_val (.pointer (some ⟨pa, 0, none⟩)) ?_ rfl hI trivial
              go_simp
            · -- 3: 75 := Op.move t11
              intro aq wq lq hI hl hdone hlater hold hd ho
              have h11 : aq.tmps.getD 11 undef = .int .i64 0 := ho 11 (by kernel_rfl)
              clear hd ho hdone hlater hold
              exact Reg.step2_move (.tmp 11) rfl h11 hI trivial
            · -- 4: 76 := Op.binOp BinOp.mul 3 (const (2:i64)) t75 3
              intro aq wq lq hI hl hdone hlater hold hd ho
              have h75 : aq.tmps.getD 75 undef = .int .i64 0 := hd 75 (by kernel_rfl)
              clear hd ho hdone hlater hold
              rw [Array.getD_eq_getD_getElem?] at h75
              refine Reg.step2_val (.int .i64 0) ?_ rfl hI trivial
              simp [execOp, Act.eval, h75]
              try go_simp
              first | done | rfl
            · -- 5: 77 := Op.indexAddr 74 t4 t76
              intro aq wq lq hI hl hdone hlater hold hd ho
              have h4 : aq.tmps.getD 4 undef = .pointer (some ⟨gq, 0, none⟩) := ho 4 (by kernel_rfl)
              have h76 : aq.tmps.getD 76 undef = .int .i64 0 := hd 76 (by kernel_rfl)
              clear hd ho hdone hlater hold
              rw [Array.getD_eq_getD_getElem?] at h4 h76
              refine Reg.step2_val (.pointer (some ⟨gq, 0, none⟩)) ?_ rfl hI trivial
              go_simp
            · -- 6: 78 := Op.load 67 t77
              intro aq wq lq hI hl hdone hlater hold hd ho
              have h77 : aq.tmps.getD 77 undef = .pointer (some ⟨gq, 0, none⟩) := hd 77 (by kernel_rfl)
              clear hd ho hdone hlater hold
              rw [Array.getD_eq_getD_getElem?] at h77
              have hgq := HGQ.out.below hI.2.2.2.below HGQ.out.lt
              have g0 := hgq.cell 0
              simp only [List.getElem?_cons_zero, List.getElem?_cons_succ] at g0
              clear hgq
              refine Reg.step2_val (.int .u16 (n0 : Nat)) ?_ rfl hI trivial
              go_simp
            · -- 7: 79 := Op.convert 67 3 t78
              intro aq wq lq hI hl hdone hlater hold hd ho
              have h78 : aq.tmps.getD 78 undef = .int .u16 (n0 : Nat) := hd 78 (by kernel_rfl)
              clear hd ho hdone hlater hold
              rw [Array.getD_eq_getD_getElem?] at h78
              refine Reg.step2_val (.int .i64 (n0 : Nat)) ?_ rfl hI trivial
              simp [execOp]
              go_simp
            · -- 8: 80 := Op.move t11
              intro aq wq lq hI hl hdone hlater hold hd ho
              have h11 : aq.tmps.getD 11 undef = .int .i64 0 := ho 11 (by kernel_rfl)
              clear hd ho hdone hlater hold
              exact Reg.step2_move (.tmp 11) rfl h11 hI trivial
            · -- 9: 81 := Op.binOp BinOp.mul 3 (const (2:i64)) t80 3
              intro aq wq lq hI hl hdone hlater hold hd ho
              have h80 : aq.tmps.getD 80 undef = .int .i64 0 := hd 80 (by kernel_rfl)
              clear hd ho hdone hlater hold
              rw [Array.getD_eq_getD_getElem?] at h80
              refine Reg.step2_val (.int .i64 0) ?_ rfl hI trivial
              simp [execOp, Act.eval, h80]
              try go_simp
              first | done | rfl
            · -- 10: 82 := Op.binOp BinOp.add 3 t81 (const (1:i64)) 3
              intro aq wq lq hI hl hdone hlater hold hd ho
              have h81 : aq.tmps.getD 81 undef = .int .i64 0 := hd 81 (by kernel_rfl)
              clear hd ho hdone hlater hold
              rw [Array.getD_eq_getD_getElem?] at h81
              refine Reg.step2_val (.int .i64 1) ?_ rfl hI trivial
              simp [execOp, Act.eval, h81]
              try go_simp
              first | done | rfl
            · -- 11: 83 := Op.indexAddr 74 t4 t82
              intro aq wq lq hI hl hdone hlater hold hd ho
              have h4 : aq.tmps.getD 4 undef = .pointer (some ⟨gq, 0, none⟩) := ho 4 (by kernel_rfl)
              have h82 : aq.tmps.getD 82 undef = .int .i64 1 := hd 82 (by kernel_rfl)
              clear hd ho hdone hlater hold
              rw [Array.getD_eq_getD_getElem?] at h4 h82
              refine Reg.step2_val (.pointer (some ⟨gq, 1, none⟩)) ?_ rfl hI trivial
              go_simp
            · -- 12: 84 := Op.load 67 t83
              intro aq wq lq hI hl hdone hlater hold hd ho
              have h83 : aq.tmps.getD 83 undef = .pointer (some ⟨gq, 1, none⟩) := hd 83 (by kernel_rfl)
              clear hd ho hdone hlater hold
              rw [Array.getD_eq_getD_getElem?] at h83
              have hgq := HGQ.out.below hI.2.2.2.below HGQ.out.lt
              have g0 := hgq.cell 1
              simp only [List.getElem?_cons_zero, List.getElem?_cons_succ] at g0
              clear hgq
              refine Reg.step2_val (.int .u16 a0f3x1) ?_ rfl hI trivial
              go_simp
            · -- 13: 85 := Op.convert 67 5 t84
              intro aq wq lq hI hl hdone hlater hold hd ho
              have h84 : aq.tmps.getD 84 undef = .int .u16 a0f3x1 := hd 84 (by kernel_rfl)
              clear hd ho hdone hlater hold
              rw [Array.getD_eq_getD_getElem?] at h84
              refine Reg.step2_val (.int .u8 (y0.toNat : Nat)) ?_ rfl hI trivial
              simp [execOp]
              go_simp
            · -- 14: 86 := Op.call ( value (Operand.func 15), args := #(t74, const (9:i
              intro aq wq lq hI hl hdone hlater hold hd ho
              have h74 : aq.tmps.getD 74 undef = .pointer (some ⟨pa, 0, none⟩) := hd 74 (by kernel_rfl)
              have h79 : aq.tmps.getD 79 undef = .int .i64 (n0 : Nat) := hd 79 (by kernel_rfl)
              have h85 : aq.tmps.getD 85 undef = .int .u8 (y0.toNat : Nat) := hd 85 (by kernel_rfl)
              clear hd ho hdone hlater hold
              rw [Array.getD_eq_getD_getElem?] at h74 h79 h85
              have hJ := hI
              rw [show lq 14 = false from hl] at hJ
              have hJ : GI wx tt u v mm tb bb q pa pb K (cc + 1) S3 wq := hJ
              clear hI
              refine Reg.step2_call 15 #[.pointer (some ⟨pa, 0, none⟩), .int .i64 9, .int .i64 (n0 : Nat), .int .u8 (y0.toNat : Nat)] ?_ ((garble_m hJ.2.2.2 (s := 0) (by omega) rfl (i := 4 + 5) (by omega) (by omega) (by omega) n0 y0 pa rfl 9 rfl n0 rfl).mono ?_)
              · clear hJ
                simp [execOp]
                go_simp
              · rintro e w' ⟨rfl, hm, hsm⟩
                rw [← HS9.out] at hm
                exact ⟨_, rfl, rfl, hJ.go hm hsm, trivial⟩
            case hend =>
              intro wz hI
              simp only [Reg.fill, List.foldl_cons, List.foldl_nil, List.setIfInBounds_toArray, List.set_cons_zero, List.set_cons_succ]
              have HG9 := Lib.hid (show GI wx tt u v mm tb bb q pa pb K (cc + 1) S9 wz from hI)
              clear hI
              go_wp2_with fail
              go_roundw
              case rel => exact ⟨0 + 1, cc + 1, _, by omega, by go_num, by omega, HP9.out, HG9.out⟩
              case measure => simp [intOf]
      · rw [show ((1 : Nat) : Int) = 1 from rfl]
        by_cases hX : a0f2 = ⟨#[]⟩
        · subst hX
          have i0 : ∀ W, (Instr.index 77 (.agg #[.string a0f1, .string ⟨#[]⟩]) (.int .i64 1)).run Tryz.prog W = .ok (.string ⟨#[]⟩) W := fun _ => by kernel_rfl
          obtain ⟨S9, hS9⟩ : ∃ S9, S9 = setV S2 1 (4 + 5) (turnB ((S2 1).V (4 + 5)) (n2 % 128) y1) := ⟨_, rfl⟩
          have HP9 := Lib.hid (show Pl S9 by rw [hS9]; exact HPL.out.setV _ _ _)
          have HS9 := Lib.hid hS9
          clear hS9
          go_wp2_with fail
          refine Reg.region_vals (by kernel_rfl) [(72, .int .i64 1), (73, .pointer (some ⟨u, 1, none⟩)), (74, .pointer (some ⟨pb, 0, none⟩)), (75, .int .i64 1), (76, .int .i64 2), (77, .pointer (some ⟨gq, 2, none⟩)), (78, .int .u16 (n2 : Nat)), (79, .int .i64 (n2 : Nat)), (80, .int .i64 1), (81, .int .i64 2), (82, .int .i64 3), (83, .pointer (some ⟨gq, 3, none⟩)), (84, .int .u16 a0f3x3), (85, .int .u8 (y1.toNat : Nat)), (86, .tuple #[])] (fun l wy => GI wx tt u v mm tb bb q pa pb K (cc) (bif l 14 then S9 else S2) wy) (by kernel_rfl) (by kernel_rfl) (by kernel_rfl) (HG.out.later (Below.refl _ _).drew) ⟨?_, ?_, ?_, ?_, ?_, ?_, ?_, ?_, ?_, ?_, ?_, ?_, ?_, ?_, ?_, trivial⟩ ?hend
          · -- 0: 72 := Op.move t11
            intro aq wq lq hI hl hdone hlater hold hd ho
            have h11 : aq.tmps.getD 11 undef = .int .i64 1 := ho 11 (by kernel_rfl)
            clear hd ho hdone hlater hold
            exact Reg.step2_move (.tmp 11) rfl h11 hI trivial
          · -- 1: 73 := Op.indexAddr 25 t5 t72
            intro aq wq lq hI hl hdone hlater hold hd ho
            have h5 : aq.tmps.getD 5 undef = .pointer (some ⟨u, 0, none⟩) := ho 5 (by kernel_rfl)
            have h72 : aq.tmps.getD 72 undef = .int .i64 1 := hd 72 (by kernel_rfl)
            clear hd ho hdone hlater hold
            rw [Array.getD_eq_getD_getElem?] at h5 h72
            refine Reg.step2_val (.pointer (some ⟨u, 1, none⟩)) ?_ rfl hI trivial
            go_simp
          · -- 2: 74 := Op.load 24 t73
            intro aq wq lq hI hl hdone hlater hold hd ho
            have h73 : aq.tmps.getD 73 undef = .pointer (some ⟨u, 1, none⟩) := hd 73 (by kernel_rfl)
            clear hd ho hdone hlater hold
            rw [Array.getD_eq_getD_getElem?] at h73
            have d0 := hI.2.1.cell 1
            simp only [List.getElem?_cons_zero, List.getElem?_cons_succ] at d0
            refine Reg.step2_val (.pointer (some ⟨pb, 0, none⟩)) ?_ rfl hI trivial
            go_simp
          · -- 3: 75 := Op.move t11
            intro aq wq lq hI hl hdone hlater hold hd ho
            have h11 : aq.tmps.getD 11 undef = .int .i64 1 := ho 11 (by kernel_rfl)
            clear hd ho hdone hlater hold
            exact Reg.step2_move (.tmp 11) rfl h11 hI trivial
          · -- 4: 76 := Op.binOp BinOp.mul 3 (const (2:i64)) t75 3
            intro aq wq lq hI hl hdone hlater hold hd ho
            have h75 : aq.tmps.getD 75 undef = .int .i64 1 := hd 75 (by kernel_rfl)
            clear hd ho hdone hlater hold
            rw [Array.getD_eq_getD_getElem?] at h75
            refine Reg.step2_val (.int .i64 2) ?_ rfl hI trivial
            simp [execOp, Act.eval, h75]
            try go_simp
            first | done | rfl
          · -- 5: 77 := Op.indexAddr 74 t4 t76
            intro aq wq lq hI hl hdone hlater hold hd ho
            have h4 : aq.tmps.getD 4 undef = .pointer (some ⟨gq, 0, none⟩) := ho 4 (by kernel_rfl)
            have h76 : aq.tmps.getD 76 undef = .int .i64 2 := hd 76 (by kernel_rfl)
            clear hd ho hdone hlater hold
            rw [Array.getD_eq_getD_getElem?] at h4 h76
            refine Reg.step2_val (.pointer (some ⟨gq, 2, none⟩)) ?_ rfl hI trivial
            go_simp
          · -- 6: 78 := Op.load 67 t77
            intro aq wq lq hI hl hdone hlater hold hd ho
            have h77 : aq.tmps.getD 77 undef = .pointer (some ⟨gq, 2, none⟩) := hd 77 (by kernel_rfl)
            clear hd ho hdone hlater hold
            rw [Array.getD_eq_getD_getElem?] at h77
            have hgq := HGQ.out.below hI.2.2.2.below HGQ.out.lt
            have g0 := hgq.cell 2
            simp only [List.getElem?_cons_zero, List.getElem?_cons_succ] at g0
            clear hgq
            refine Reg.step2_val (.int .u16 (n2 : Nat)) ?_ rfl hI trivial
            go_simp
          · -- 7: 79 := Op.convert 67 3 t78
            intro aq wq lq hI hl hdone hlater hold hd ho
            have h78 : aq.tmps.getD 78 undef = .int .u16 (n2 : Nat) := hd 78 (by kernel_rfl)
            clear hd ho hdone hlater hold
            rw [Array.getD_eq_getD_getElem?] at h78
            refine Reg.step2_val (.int .i64 (n2 : Nat)) ?_ rfl hI trivial
            simp [execOp]
            go_simp
          · -- 8: 80 := Op.move t11
            intro aq wq lq hI hl hdone hlater hold hd ho
            have h11 : aq.tmps.getD 11 undef = .int .i64 1 := ho 11 (by kernel_rfl)
            clear hd ho hdone hlater hold
            exact Reg.step2_move (.tmp 11) rfl h11 hI trivial
          · -- 9: 81 := Op.binOp BinOp.mul 3 (const (2:i64)) t80 3
            intro aq wq lq hI hl hdone hlater hold hd ho
            have h80 : aq.tmps.getD 80 undef = .int .i64 1 := hd 80 (by kernel_rfl)
            clear hd ho hdone hlater hold
            rw [Array.getD_eq_getD_getElem?] at h80
            refine Reg.step2_val (.int .i64 2) ?_ rfl hI trivial
            simp [execOp, Act.eval, h80]
            try go_simp
            first | done | rfl
          · -- 10: 82 := Op.binOp BinOp.add 3 t81 (const (1:i64)) 3
            intro aq wq lq hI hl hdone hlater hold hd ho
            have h81 : aq.tmps.getD 81 undef = .int .i64 2 := hd 81 (by kernel_rfl)
            clear hd ho hdone hlater hold
            rw [Array.getD_eq_getD_getElem?] at h81
            refine Reg.step2_val (.int .i64 3) ?_ rfl hI trivial
            simp [execOp, Act.eval, h81]
            try go_simp
            first | done | rfl
          · -- 11: 83 := Op.indexAddr 74 t4 t82
            intro aq wq lq hI hl hdone hlater hold hd ho
            have h4 : aq.tmps.getD 4 undef = .pointer (some ⟨gq, 0, none⟩) := ho 4 (by kernel_rfl)
            have h82 : aq.tmps.getD 82 undef = .int .i64 3 := hd 82 (by kernel_rfl)
            clear hd ho hdone hlater hold
            rw [Array.getD_eq_getD_getElem?] at h4 h82
            refine Reg.step2_val (.pointer (some ⟨gq, 3, none⟩)) ?_ rfl hI trivial
            go_simp
          · -- 12: 84 := Op.load 67 t83
            intro aq wq lq hI hl hdone hlater hold hd ho
            have h83 : aq.tmps.getD 83 undef = .pointer (some ⟨gq, 3, none⟩) := hd 83 (by kernel_rfl)
            clear hd ho hdone hlater hold
            rw [Array.getD_eq_getD_getElem?] at h83
            have hgq := HGQ.out.below hI.2.2.2.below HGQ.out.lt
            have g0 := hgq.cell 3
            simp only [List.getElem?_cons_zero, List.getElem?_cons_succ] at g0
            clear hgq
            refine Reg.step2_val (.int .u16 a0f3x3) ?_ rfl hI trivial
            go_simp
          · -- 13: 85 := Op.convert 67 5 t84
            intro aq wq lq hI hl hdone hlater hold hd ho
            have h84 : aq.tmps.getD 84 undef = .int .u16 a0f3x3 := hd 84 (by kernel_rfl)
            clear hd ho hdone hlater hold
            rw [Array.getD_eq_getD_getElem?] at h84
            refine Reg.step2_val (.int .u8 (y1.toNat : Nat)) ?_ rfl hI trivial
            simp [execOp]
            go_simp
          · -- 14: 86 := Op.call ( value (Operand.func 15), args := #(t74, const (9:i
            intro aq wq lq hI hl hdone hlater hold hd ho
            have h74 : aq.tmps.getD 74 undef = .pointer (some ⟨pb, 0, none⟩) := hd 74 (by kernel_rfl)
            have h79 : aq.tmps.getD 79 undef = .int .i64 (n2 : Nat) := hd 79 (by kernel_rfl)
            have h85 : aq.tmps.getD 85 undef = .int .u8 (y1.toNat : Nat) := hd 85 (by kernel_rfl)
            clear hd ho hdone hlater hold
            rw [Array.getD_eq_getD_getElem?] at h74 h79 h85
            have hJ := hI
            rw [show lq 14 = false from hl] at hJ
            have hJ : GI wx tt u v mm tb bb q pa pb K (cc) S2 wq := hJ
            clear hI
            refine Reg.step2_call 15 #[.pointer (some ⟨pb, 0, none⟩), .int .i64 9, .int .i64 (n2 : Nat), .int .u8 (y1.toNat : Nat)] ?_ ((garble_m hJ.2.2.2 (s := 1) (by omega) rfl (i := 4 + 5) (by omega) (by omega) (by omega) n2 y1 pb rfl 9 rfl n2 rfl).mono ?_)
            · clear hJ
              simp [execOp]
              go_simp
            · rintro e w' ⟨rfl, hm, hsm⟩
              rw [← HS9.out] at hm
              exact ⟨_, rfl, rfl, hJ.go hm hsm, trivial⟩
          case hend =>
            intro wz hI
            simp only [Reg.fill, List.foldl_cons, List.foldl_nil, List.setIfInBounds_toArray, List.set_cons_zero, List.set_cons_succ]
            have HG9 := Lib.hid (show GI wx tt u v mm tb bb q pa pb K (cc) S9 wz from hI)
            clear hI
            go_wp2_with fail
            go_roundw
            case rel => exact ⟨1 + 1, cc, _, by omega, by go_num, by omega, HP9.out, HG9.out⟩
            case measure => simp [intOf]
        · have hXe : a0f2.toList.isEmpty = false := not_empty hX
          have i0 : ∀ W, (Instr.index 77 (.agg #[.string a0f1, .string a0f2]) (.int .i64 1)).run Tryz.prog W = .ok (.string a0f2) W := fun _ => by kernel_rfl
          obtain ⟨S3, hS3⟩ : ∃ S3, S3 = setV S2 1 (4 + 5) (fullN a0f2) := ⟨_, rfl⟩
          have KPL := Lib.hid (show Pl S3 by rw [hS3]; exact HPL.out.setV _ _ _)
          have HS3 := Lib.hid hS3
          clear hS3
          go_wp2_with fail
          refine Reg.region_vals (by kernel_rfl) [(66, .int .i64 1), (67, .pointer (some ⟨u, 1, none⟩)), (68, .pointer (some ⟨pb, 0, none⟩)), (69, .string a0f2), (70, .string (fullN a0f2)), (71, .int .i64 0)] (fun l wy => GI wx tt u v mm tb bb q pa pb K (bif l 5 then cc + 1 else cc) (bif l 5 then S3 else S2) wy) (by kernel_rfl) (by kernel_rfl) (by kernel_rfl) (HG.out.later (Below.refl _ _).drew) ⟨?_, ?_, ?_, ?_, ?_, ?_, trivial⟩ ?hend
          · -- 0: 66 := Op.move t11
            intro aq wq lq hI hl hdone hlater hold hd ho
            have h11 : aq.tmps.getD 11 undef = .int .i64 1 := ho 11 (by kernel_rfl)
            clear hd ho hdone hlater hold
            exact Reg.step2_move (.tmp 11) rfl h11 hI trivial
          · -- 1: 67 := Op.indexAddr 25 t5 t66
            intro aq wq lq hI hl hdone hlater hold hd ho
            have h5 : aq.tmps.getD 5 undef = .pointer (some ⟨u, 0, none⟩) := ho 5 (by kernel_rfl)
            have h66 : aq.tmps.getD 66 undef = .int .i64 1 := hd 66 (by kernel_rfl)
            clear hd ho hdone hlater hold
            rw [Array.getD_eq_getD_getElem?] at h5 h66
            refine Reg.step2_val (.pointer (some ⟨u, 1, none⟩)) ?_ rfl hI trivial
            go_simp
          · -- 2: 68 := Op.load 24 t67
            intro aq wq lq hI hl hdone hlater hold hd ho
            have h67 : aq.tmps.getD 67 undef = .pointer (some ⟨u, 1, none⟩) := hd 67 (by kernel_rfl)
            clear hd ho hdone hlater hold
            rw [Array.getD_eq_getD_getElem?] at h67
            have d0 := hI.2.1.cell 1
            simp only [List.getElem?_cons_zero, List.getElem?_cons_succ] at d0
            refine Reg.step2_val (.pointer (some ⟨pb, 0, none⟩)) ?_ rfl hI trivial
            go_simp
          · -- 3: 69 := Op.move t12
            intro aq wq lq hI hl hdone hlater hold hd ho
            have h12 : aq.tmps.getD 12 undef = .string a0f2 := ho 12 (by kernel_rfl)
            clear hd ho hdone hlater hold
            exact Reg.step2_move (.tmp 12) rfl h12 hI trivial
          · -- 4: 70 := Op.call ( value (Operand.func 29), args := #(t69), argTypes 
            intro aq wq lq hI hl hdone hlater hold hd ho
            have h69 : aq.tmps.getD 69 undef = .string a0f2 := hd 69 (by kernel_rfl)
            clear hd ho hdone hlater hold
            rw [Array.getD_eq_getD_getElem?] at h69
            refine Reg.step2_call 29 #[.string a0f2] ?_ ((full8_big a0f2 wq HS2.out).mono ?_)
            · clear hI
              simp [execOp]
              go_simp
            · rintro e w' ⟨rfl, hb⟩
              exact ⟨_, rfl, rfl, hI.later hb, trivial⟩
          · -- 5: 71 := Op.call ( value (Operand.func 17), args := #(t68, const (9:i
            intro aq wq lq hI hl hdone hlater hold hd ho
            have h68 : aq.tmps.getD 68 undef = .pointer (some ⟨pb, 0, none⟩) := hd 68 (by kernel_rfl)
            have h70 : aq.tmps.getD 70 undef = .string (fullN a0f2) := hd 70 (by kernel_rfl)
            clear hd ho hdone hlater hold
            rw [Array.getD_eq_getD_getElem?] at h68 h70
            have hJ := hI
            rw [show lq 5 = false from hl] at hJ
            have hJ : GI wx tt u v mm tb bb q pa pb K cc S2 wq := hJ
            clear hI
            refine Reg.step2_call 17 #[.pointer (some ⟨pb, 0, none⟩), .int .i64 9, .string (fullN a0f2)] ?_ ((dwr_m hJ.2.2.2 (s := 1) (by omega) (i := 4 + 5) (by omega) (by omega) (HPL.out.nb 1 (by omega) (4 + 5) (by omega) (by omega)) (fullN_size a0f2) (by omega) 9 rfl pb rfl).mono ?_)
            · clear hJ
              simp [execOp]
              go_simp
            · rintro e w' ⟨rfl, hm, hsm⟩
              rw [← HS3.out] at hm
              exact ⟨_, rfl, rfl, hJ.go hm hsm, trivial⟩
          case hend =>
            intro wz0 hI
            simp only [Reg.fill, List.foldl_cons, List.foldl_nil, List.setIfInBounds_toArray, List.set_cons_zero, List.set_cons_succ]
            have KG := Lib.hid (show GI wx tt u v mm tb bb q pa pb K (cc + 1) S3 wz0 from hI)
            clear hI
            obtain ⟨S9, hS9⟩ : ∃ S9, S9 = setV S3 1 (4 + 5) (turnB ((S3 1).V (4 + 5)) (n2 % 128) y1) := ⟨_, rfl⟩
            have HP9 := Lib.hid (show Pl S9 by rw [hS9]; exact KPL.out.setV _ _ _)
            have HS9 := Lib.hid hS9
            clear hS9
            go_wp2_with fail
            refine Reg.region_vals (by kernel_rfl) [(72, .int .i64 1), (73, .pointer (some ⟨u, 1, none⟩)), (74, .pointer (some ⟨pb, 0, none⟩)), (75, .int .i64 1), (76, .int .i64 2), (77, .pointer (some ⟨gq, 2, none⟩)), (78, .int .u16 (n2 : Nat)), (79, .int .i64 (n2 : Nat)), (80, .int .i64 1), (81, .int .i64 2), (82, .int .i64 3), (83, .pointer (some ⟨gq, 3, none⟩)), (84, .int .u16 a0f3x3), (85, .int .u8 (y1.toNat : Nat)), (86, .tuple #[])] (fun l wy => GI wx tt u v mm tb bb q pa pb K (cc + 1) (bif l 14 then S9 else S3) wy) (by kernel_rfl) (by kernel_rfl) (by kernel_rfl) (KG.out.later (Below.refl _ _).drew) ⟨?_, ?_, ?_, ?_, ?_, ?_, ?_, ?_, ?_, ?_, ?_, ?_, ?_, ?_, ?_, trivial⟩ ?hend
            · -- 0: 72 := Op.move t11
              intro aq wq lq hI hl hdone hlater hold hd ho
              have h11 : aq.tmps.getD 11 undef = .int .i64 1 := ho 11 (by kernel_rfl)
              clear hd ho hdone hlater hold
              exact Reg.step2_move (.tmp 11) rfl h11 hI trivial
            · -- 1: 73 := Op.indexAddr 25 t5 t72
              intro aq wq lq hI hl hdone hlater hold hd ho
              have h5 : aq.tmps.getD 5 undef = .pointer (some ⟨u, 0, none⟩) := ho 5 (by kernel_rfl)
              have h72 : aq.tmps.getD 72 undef = .int .i64 1 := hd 72 (by kernel_rfl)
              clear hd ho hdone hlater hold
              rw [Array.getD_eq_getD_getElem?] at h5 h72
              refine Reg.step2_val (.pointer (some ⟨u, 1, none⟩)) ?_ rfl hI trivial
              go_simp
            · -- 2: 74 := Op.load 24 t73
              intro aq wq lq hI hl hdone hlater hold hd ho
              have h73 : aq.tmps.getD 73 undef = .pointer (some ⟨u, 1, none⟩) := hd 73 (by kernel_rfl)
              clear hd ho hdone hlater hold
              rw [Array.getD_eq_getD_getElem?] at h73
              have d0 := hI.2.1.cell 1
              simp only [List.getElem?_cons_zero, List.getElem?_cons_succ] at d0
              refine Reg.step2_val (.pointer (some ⟨pb, 0, none⟩)) ?_ rfl hI trivial
              go_simp
            · -- 3: 75 := Op.move t11
              intro aq wq lq hI hl hdone hlater hold hd ho
              have h11 : aq.tmps.getD 11 undef = .int .i64 1 := ho 11 (by kernel_rfl)
              clear hd ho hdone hlater hold
              exact Reg.step2_move (.tmp 11) rfl h11 hI trivial
            · -- 4: 76 := Op.binOp BinOp.mul 3 (const (2:i64)) t75 3
              intro aq wq lq hI hl hdone hlater hold hd ho
              have h75 : aq.tmps.getD 75 undef = .int .i64 1 := hd 75 (by kernel_rfl)
              clear hd ho hdone hlater hold
              rw [Array.getD_eq_getD_getElem?] at h75
              refine Reg.step2_val (.int .i64 2) ?_ rfl hI trivial
              simp [execOp, Act.eval, h75]
              try go_simp
              first | done | rfl
            · -- 5: 77 := Op.indexAddr 74 t4 t76
              intro aq wq lq hI hl hdone hlater hold hd ho
              have h4 : aq.tmps.getD 4 undef = .pointer (some ⟨gq, 0, none⟩) := ho 4 (by kernel_rfl)
              have h76 : aq.tmps.getD 76 undef = .int .i64 2 := hd 76 (by kernel_rfl)
              clear hd ho hdone hlater hold
              rw [Array.getD_eq_getD_getElem?] at h4 h76
              refine Reg.step2_val (.pointer (some ⟨gq, 2, none⟩)) ?_ rfl hI trivial
              go_simp
            · -- 6: 78 := Op.load 67 t77
              intro aq wq lq hI hl hdone hlater hold hd ho
              have h77 : aq.tmps.getD 77 undef = .pointer (some ⟨gq, 2, none⟩) := hd 77 (by kernel_rfl)
              clear hd ho hdone hlater hold
              rw [Array.getD_eq_getD_getElem?] at h77
              have hgq := HGQ.out.below hI.2.2.2.below HGQ.out.lt
              have g0 := hgq.cell 2
              simp only [List.getElem?_cons_zero, List.getElem?_cons_succ] at g0
              clear hgq
              refine Reg.step2_val (.int .u16 (n2 : Nat)) ?_ rfl hI trivial
              go_simp
            · -- 7: 79 := Op.convert 67 3 t78
              intro aq wq lq hI hl hdone hlater hold hd ho
              have h78 : aq.tmps.getD 78 undef = .int .u16 (n2 : Nat) := hd 78 (by kernel_rfl)
              clear hd ho hdone hlater hold
              rw [Array.getD_eq_getD_getElem?] at h78
              refine Reg.step2_val (.int .i64 (n2 : Nat)) ?_ rfl hI trivial
              simp [execOp]
              go_simp
            · -- 8: 80 := Op.move t11
              intro aq wq lq hI hl hdone hlater hold hd ho
              have h11 : aq.tmps.getD 11 undef = .int .i64 1 := ho 11 (by kernel_rfl)
              clear hd ho hdone hlater hold
              exact Reg.step2_move (.tmp 11) rfl h11 hI trivial
            · -- 9: 81 := Op.binOp BinOp.mul 3 (const (2:i64)) t80 3
              intro aq wq lq hI hl hdone hlater hold hd ho
              have h80 : aq.tmps.getD 80 undef = .int .i64 1 := hd 80 (by kernel_rfl)
              clear hd ho hdone hlater hold
              rw [Array.getD_eq_getD_getElem?] at h80
              refine Reg.step2_val (.int .i64 2) ?_ rfl hI trivial
              simp [execOp, Act.eval, h80]
              try go_simp
              first | done | rfl
            · -- 10: 82 := Op.binOp BinOp.add 3 t81 (const (1:i64)) 3
              intro aq wq lq hI hl hdone hlater hold hd ho
              have h81 : aq.tmps.getD 81 undef = .int .i64 2 := hd 81 (by kernel_rfl)
              clear hd ho hdone hlater hold
              rw [Array.getD_eq_getD_getElem?] at h81
              refine Reg.step2_val (.int .i64 3) ?_ rfl hI trivial
              simp [execOp, Act.eval, h81]
              try go_simp
              first | done | rfl
            · -- 11: 83 := Op.indexAddr 74 t4 t82
              intro aq wq lq hI hl hdone hlater hold hd ho
              have h4 : aq.tmps.getD 4 undef = .pointer (some ⟨gq, 0, none⟩) := ho 4 (by kernel_rfl)
              have h82 : aq.tmps.getD 82 undef = .int .i64 3 := hd 82 (by kernel_rfl)
              clear hd ho hdone hlater hold
              rw [Array.getD_eq_getD_getElem?] at h4 h82
              refine Reg.step2_val (.pointer (some ⟨gq, 3, none⟩)) ?_ rfl hI trivial
              go_simp
            · -- 12: 84 := Op.load 67 t83
              intro aq wq lq hI hl hdone hlater hold hd ho
              have h83 : aq.tmps.getD 83 undef = .pointer (some ⟨gq, 3, none⟩) := hd 83 (by kernel_rfl)
              clear hd ho hdone hlater hold
              rw [Array.getD_eq_getD_getElem?] at h83
              have hgq := HGQ.out.below hI.2.2.2.below HGQ.out.lt
              have g0 := hgq.cell 3
              simp only [List.getElem?_cons_zero, List.getElem?_cons_succ] at g0
              clear hgq
              refine Reg.step2_val (.int .u16 a0f3x3) ?_ rfl hI trivial
              go_simp
            · -- 13: 85 := Op.convert 67 5 t84
              intro aq wq lq hI hl hdone hlater hold hd ho
              have h84 : aq.tmps.getD 84 undef = .int .u16 a0f3x3 := hd 84 (by kernel_rfl)
              clear hd ho hdone hlater hold
              rw [Array.getD_eq_getD_getElem?] at h84
              refine Reg.step2_val (.int .u8 (y1.toNat : Nat)) ?_ rfl hI trivial
              simp [execOp]
              go_simp
            · -- 14: 86 := Op.call ( value (Operand.func 15), args := #(t74, const (9:i
              intro aq wq lq hI hl hdone hlater hold hd ho
              have h74 : aq.tmps.getD 74 undef = .pointer (some ⟨pb, 0, none⟩) := hd 74 (by kernel_rfl)
              have h79 : aq.tmps.getD 79 undef = .int .i64 (n2 : Nat) := hd 79 (by kernel_rfl)
              have h85 : aq.tmps.getD 85 undef = .int .u8 (y1.toNat : Nat) := hd 85 (by kernel_rfl)
              clear hd ho hdone hlater hold
              rw [Array.getD_eq_getD_getElem?] at h74 h79 h85
              have hJ := hI
              rw [show lq 14 = false from hl] at hJ
              have hJ : GI wx tt u v mm tb bb q pa pb K (cc + 1) S3 wq := hJ
              clear hI
              refine Reg.step2_call 15 #[.pointer (some ⟨pb, 0, none⟩), .int .i64 9, .int .i64 (n2 : Nat), .int .u8 (y1.toNat : Nat)] ?_ ((garble_m hJ.2.2.2 (s := 1) (by omega) rfl (i := 4 + 5) (by omega) (by omega) (by omega) n2 y1 pb rfl 9 rfl n2 rfl).mono ?_)
              · clear hJ
                simp [execOp]
                go_simp
              · rintro e w' ⟨rfl, hm, hsm⟩
                rw [← HS9.out] at hm
                exact ⟨_, rfl, rfl, hJ.go hm hsm, trivial⟩
            case hend =>
              intro wz hI
              simp only [Reg.fill, List.foldl_cons, List.foldl_nil, List.setIfInBounds_toArray, List.set_cons_zero, List.set_cons_succ]
              have HG9 := Lib.hid (show GI wx tt u v mm tb bb q pa pb K (cc + 1) S9 wz from hI)
              clear hI
              go_wp2_with fail
              go_roundw
              case rel => exact ⟨1 + 1, cc + 1, _, by omega, by go_num, by omega, HP9.out, HG9.out⟩
              case measure => simp [intOf]
      · rw [show ((2 : Nat) : Int) = 2 from rfl]
        obtain ⟨hT, hD, hV, hM⟩ := HG.out
        have HT := Lib.hid hT
        have HD := Lib.hid hD
        have HV := Lib.hid hV
        have HM := Lib.hid hM
        clear hT hD hV hM HG
        have hx0 := HV.out.cell 0
        have hx1 := HV.out.cell 1
        have hx2 := HV.out.cell 2
        simp only [List.getElem?_cons_zero, List.getElem?_cons_succ] at hx0 hx1 hx2
        cases hF : fnd S2 noG 5 7 K with
        | none =>
          go_wp2_with fail
          refine (Read_none HM.out (b := 5) (by omega) (by omega) 7 K hF).mono ?_
          rintro e w7 ⟨rfl, hm, hsm⟩
          rw [lsR_no]
          have HB := Lib.hid (HB0.out.trans ((HBX.out.trans (hm.below.mono HBX.out.size)).mono HB0.out.size))
          clear hm hsm hx0 hx1 hx2
          go_wp2
          go_ret
          exact ⟨rfl, HB.out⟩
        | some s =>
          obtain ⟨hs2, hsG, hwh⟩ := fnd_mem hF
          obtain ⟨t, ht⟩ : ∃ t, t = (S2 s).V (4 + 5) := ⟨_, rfl⟩
          have hcT : cont S2 noG s 5 = some t := by rw [ht]; exact cont_V HPL.out hs2 (by omega) rfl
          rw [hcT] at hwh
          have HWH := Lib.hid hwh
          have HS2' := Lib.hid hs2
          have HCT := Lib.hid hcT
          have HF := Lib.hid hF
          clear hs2 hsG hwh hcT hF ht
          go_wp2_with fail
          refine (Read_some HM.out (b := 5) (by omega) (by omega) (by omega) 7 K HF.out HCT.out).mono ?_
          rintro e w7 ⟨S3, rfl, hst, hm, hsm⟩
          have HPL3 := Lib.hid (HPL.out.st hst)
          have HC3 := Lib.hid (show cont S3 noG s 5 = some t from (hst.kept HS2'.out (fun h => by have := h.1; have := h.2.1; omega)).trans HCT.out)
          have HM7 := Lib.hid hm
          have HT7 := Lib.hid (Mir.tab_same HT.out (hsm tt (by simp)))
          have HV7 := Lib.hid (Has.same HV.out (hsm v (by simp)))
          obtain ⟨pt, hpt⟩ : ∃ pt, pt = Env.oP t.data.toList := ⟨_, rfl⟩
          rw [← hpt]
          have HPT := Lib.hid hpt
          clear hst hm hsm hx0 hx1 hx2 HM HT HD HV HPL hpt
          by_cases heq : pt = tx
          · subst heq
            have HB := Lib.hid (HB0.out.trans ((HBX.out.trans (HM7.out.below.mono HBX.out.size)).mono HB0.out.size))
            have htx := HTX.out
            go_wp2
            go_ret
            exact ⟨rfl, HB.out⟩
          · have htx := HTX.out
            have HEQ := Lib.hid heq
            have hne : (pt.toList == (a0f0.extract 0 m).toList) = false := text_ne (by rw [← htx]; exact heq)
            go_wp2_with fail
            refine (Images_m HM7.out (b := 5) (by omega) (by omega) (x0 := (S3 0).V (4 + 5)) (x1 := (S3 1).V (4 + 5)) (cont_V HPL3.out (by omega) (by omega) rfl) (cont_V HPL3.out (by omega) (by omega) rfl)).mono ?_
            rintro e w8 ⟨z, zc, rfl, hz0, hz1, hzl, hm, hsm⟩
            have HM8 := Lib.hid hm
            have HT8 := Lib.hid (Mir.tab_same HT7.out (hsm tt (by simp)))
            have HV8 := Lib.hid (Has.same HV7.out (hsm v (by simp)))
            have HZC := Lib.hid (show ∀ j, j < 2 → w8.cell? ⟨z, j, none⟩ = some (.string ((S3 j).V (4 + 5))) from fun j hj => by
              rcases (show j = 0 ∨ j = 1 by omega) with rfl | rfl
              · exact hz0
              · exact hz1)
            have HZL := Lib.hid hzl
            have HB8 := Lib.hid (HB0.out.trans ((HBX.out.trans (hm.below.mono HBX.out.size)).mono HB0.out.size))
            have HS3 := Lib.hid (show (S3 s).V (4 + 5) = t from Option.some.inj ((cont_V HPL3.out HS2'.out (by omega) rfl).symm.trans HC3.out))
            clear hz0 hz1 hzl hm hsm HM7 HT7 HV7 heq hne htx
            go_wp2_with fail
            go_loopw [117] (fun i wr => ∃ j : Nat, j ≤ 2 ∧ i = .int .i64 j ∧ j ≤ s ∧ Below w8.heap.size w8 wr) (fun i _ => 2 - (intOf i).toNat)
            case atStart => exact ⟨0, by omega, rfl, by omega, Below.refl _ _⟩
            case round =>
              obtain ⟨j, hj, rfl, hjs, hb⟩ := hrel
              have HBR := Lib.hid hb
              have HJS := Lib.hid hjs
              clear hb hjs
              by_cases hlt : j < 2
              · have hcz : wr.cell? ⟨z, j, none⟩ = some (.string ((S3 j).V (4 + 5))) := by
                  rw [← HZC.out j hlt]
                  unfold World.cell?
                  rw [HBR.out.block z HZL.out]
                obtain ⟨y, hy⟩ : ∃ y, y = (S3 j).V (4 + 5) := ⟨_, rfl⟩
                rw [← hy] at hcz
                have HY := Lib.hid hy
                have hv := HV8.out.below HBR.out HV8.out.lt
                have v0 := hv.cell 0
                have v1 := hv.cell 1
                have v2 := hv.cell 2
                simp only [List.getElem?_cons_zero, List.getElem?_cons_succ] at v0 v1 v2
                have hlti : (j : Int) < 2 := by omega
                clear hy hv
                by_cases hyT : y = T
                · have HNS := Lib.hid (show j + 1 ≤ s from by
                    rcases Nat.lt_or_ge j s with h | h
                    · exact h
                    · exfalso
                      have hjs : j = s := by have := HJS.out; omega
                      have h1 : t = T := by rw [← hyT, HY.out, hjs, HS3.out]
                      obtain ⟨o1, o2, o3, o4, o5, o6⟩ := HOK.out.o
                      exact HEQ.out (by rw [HPT.out, h1, HTT.out]; exact o6))
                  subst hyT
                  go_wp2_with fail
                  go_roundw
                  case rel => exact ⟨j + 1, by omega, by go_num, HNS.out, HBR.out⟩
                  case measure => simp [intOf]; omega
                · have hyb : (y.toList == T.toList) = false := text_ne hyT
                  have HTM := Lib.hid (show y.size ≤ 1000000 by rw [HY.out, cont_size HM8.out.cg hlt (b := 5) (by omega) (cont_V HPL3.out hlt (by omega) rfl)]; omega)
                  go_wp2_with fail
                  refine (Env.meets_any tt 5 7 K y wr (HT8.out.below HBR.out (Nat.le_refl _)) HTM.out).mono ?_
                  rintro e w9 ⟨rfl, hb⟩
                  have HB9 := Lib.hid (HBR.out.trans (hb.mono HBR.out.size))
                  clear hb v0 v1 v2 hcz
                  cases hmt : Env.meetB y.data.toList 5 7 K with
                  | true =>
                    have HBE := Lib.hid (HB8.out.trans (HB9.out.mono HB8.out.size))
                    go_wp2
                    go_ret
                    exact ⟨rfl, HBE.out⟩
                  | false =>
                    have HNS := Lib.hid (show j + 1 ≤ s from by
                      rcases Nat.lt_or_ge j s with h | h
                      · exact h
                      · exfalso
                        have hjs : j = s := by have := HJS.out; omega
                        have h1 : t = y := by rw [HY.out, hjs, HS3.out]
                        have h2 := HWH.out
                        rw [h1] at h2
                        have h3 : Env.meetB y.data.toList 5 7 K = true := h2
                        rw [hmt] at h3; cases h3)
                    go_wp2_with fail
                    go_roundw
                    case rel => exact ⟨j + 1, by omega, by go_num, HNS.out, HB9.out⟩
                    case measure => simp [intOf]; omega
              · exfalso
                have := HJS.out
                have := HS2'.out
                omega

set_option maxRecDepth 100000 in
theorem contract (H : Type) (enc : TypeId × Value → H) (W : World) (base : Nat) (args : Array Value) (ds gs : List (DataW H)) (before : List MemPlace)
    (hval0 : ∀ (j : Nat) t v, Tryz.f6.params[j]? = some t → args[j]? = some v → Value.okWide Tryz.prog W .any base t v)
    (hW : DataW.Whole enc Tryz.prog Tryz.f6.params.toList Rows.mirrorHonestSpec.vars false W args.toList ds gs before)
    (hsz : (DataW.weightsEach Tryz.prog (Tryz.f6.params.toList ++ (OpenSpec.ofChange Rows.mirrorHonestSpec).bare.plain.varTypes Tryz.prog) (ds ++ gs)).all (· ≤ reachBytes) = true) :
    Calls Tryz.prog 6 args W fun e W' => ∃ v, e = .returned v ∧ Rows.mirrorHonestSpec.post enc Tryz.prog Tryz.f6 false true false false W args v W' := by
  have hval : ∀ (j : Nat) t v, Tryz.f6.params[j]? = some t → args[j]? = some v → Value.okWide Tryz.prog W .any base t v := hval0
  have hW' := hW
  obtain ⟨p, q, hA0, hV, rfl, hfz, hnd⟩ := hW
  have hA : DataW.TrodAll enc Tryz.prog W 0 (fun _ => true) true Tryz.f6.params.toList args.toList ds p := hA0
  rw [Tryz.params6] at hA hval
  obtain ⟨v0, vs0, d0, ds0, p0, q0, hargs, rfl, rfl, h0, r0⟩ := trodAll_cons hA
  obtain ⟨rfl, rfl, rfl⟩ := trodAll_nil r0
  obtain rfl : args = #[v0] := by cases args; simp_all
  obtain ⟨rfl, rfl⟩ := trodVars_none hV
  have k0 := h0
  have lt0 : ∀ x ∈ p0, x.block < W.heap.size := by obtain ⟨m, hm⟩ := k0; exact DataW.trod_lt m _ _ _ hm
  obtain ⟨cs0, xs0, rfl, rfl, hl0, hc0⟩ := open_struct_at (n := 7) Tryz.underlying76 (by kernel_rfl) (hval 0 76 v0 rfl rfl) h0
  obtain ⟨y0_0, y0_1, y0_2, y0_3, y0_4, y0_5, y0_6, rfl⟩ := len7 cs0 hl0
  have g0x0 : ∃ m y, xs0[0]? = some y ∧ DataW.trod enc Tryz.prog W 0 (fun _ => true) true m 9 (([y0_0, y0_1, y0_2, y0_3, y0_4, y0_5, y0_6].drop 0).take (Tryz.prog.cellsOf 9)) = some y := hc0 0 _ rfl
  rw [show Tryz.prog.cellsOf 9 = 1 by kernel_rfl] at g0x0
  obtain ⟨a0f0, rfl, z0f0⟩ := open_str_at (c := y0_0) Tryz.underlying9 g0x0
  have w0f0 := str_sized hsz (j := 0) rfl rfl Tryz.underlying76 (i := 0) rfl z0f0
  have g0x1 : ∃ m y, xs0[1]? = some y ∧ DataW.trod enc Tryz.prog W 0 (fun _ => true) true m 9 (([Value.string a0f0, y0_1, y0_2, y0_3, y0_4, y0_5, y0_6].drop 1).take (Tryz.prog.cellsOf 9)) = some y := hc0 1 _ rfl
  rw [show Tryz.prog.cellsOf 9 = 1 by kernel_rfl] at g0x1
  obtain ⟨a0f1, rfl, z0f1⟩ := open_str_at (c := y0_1) Tryz.underlying9 g0x1
  have w0f1 := str_sized hsz (j := 0) rfl rfl Tryz.underlying76 (i := 1) rfl z0f1
  have g0x2 : ∃ m y, xs0[2]? = some y ∧ DataW.trod enc Tryz.prog W 0 (fun _ => true) true m 9 (([Value.string a0f0, Value.string a0f1, y0_2, y0_3, y0_4, y0_5, y0_6].drop 2).take (Tryz.prog.cellsOf 9)) = some y := hc0 2 _ rfl
  rw [show Tryz.prog.cellsOf 9 = 1 by kernel_rfl] at g0x2
  obtain ⟨a0f2, rfl, z0f2⟩ := open_str_at (c := y0_2) Tryz.underlying9 g0x2
  have w0f2 := str_sized hsz (j := 0) rfl rfl Tryz.underlying76 (i := 2) rfl z0f2
  have g0x3 : ∃ m y, xs0[3]? = some y ∧ DataW.trod enc Tryz.prog W 0 (fun _ => true) true m 74 (([Value.string a0f0, Value.string a0f1, Value.string a0f2, y0_3, y0_4, y0_5, y0_6].drop 3).take (Tryz.prog.cellsOf 74)) = some y := hc0 3 _ rfl
  rw [show Tryz.prog.cellsOf 74 = 4 by kernel_rfl] at g0x3
  have e0x3 := open_arr_at (cs := [y0_3, y0_4, y0_5, y0_6]) Tryz.underlying74 (by kernel_rfl) rfl g0x3
  obtain ⟨a0f3x0, rfl, w0f3x0⟩ := open_int_cell Tryz.underlying67 (e0x3 0 _ rfl)
  obtain ⟨a0f3x1, rfl, w0f3x1⟩ := open_int_cell Tryz.underlying67 (e0x3 1 _ rfl)
  obtain ⟨a0f3x2, rfl, w0f3x2⟩ := open_int_cell Tryz.underlying67 (e0x3 2 _ rfl)
  obtain ⟨a0f3x3, rfl, w0f3x3⟩ := open_int_cell Tryz.underlying67 (e0x3 3 _ rfl)
  clear hA0 hval0
  refine (walk a0f0 a0f1 a0f2 a0f3x0 a0f3x1 a0f3x2 a0f3x3 W w0f0 w0f1 w0f2 w0f3x0 w0f3x1 w0f3x2 w0f3x3).mono fun e W' ⟨he, bel⟩ => ?_
  subst he
  exact ⟨_, rfl, _, _, _, [], _, [], hW', trodAll_mk1 (shut_bool Tryz.underlying4 _), (trodAll_cons_mk (Below.trod laidOut (by kernel_rfl) (of_decide_eq_true (by kernel_rfl)) k0 bel lt0) trodAll_mk0), rfl, bel.frame _, fun h => by cases h⟩

noncomputable def laidWorld (os : Os) : World :=
  { World.holding Tryz.prog os ⟨#[], #[], []⟩ with heap := (((((World.holding Tryz.prog os ⟨#[], #[], []⟩).heap).modify 2 fun | .cells _ t frozen => .cells (#[.int .u8 128, .int .u8 191, .int .u8 160, .int .u8 191, .int .u8 128, .int .u8 159, .int .u8 144, .int .u8 191, .int .u8 128, .int .u8 143, .int .u8 0, .int .u8 0, .int .u8 0, .int .u8 0, .int .u8 0, .int .u8 0, .int .u8 0, .int .u8 0, .int .u8 0, .int .u8 0, .int .u8 0, .int .u8 0, .int .u8 0, .int .u8 0, .int .u8 0, .int .u8 0, .int .u8 0, .int .u8 0, .int .u8 0, .int .u8 0, .int .u8 0, .int .u8 0]) t frozen | o => o)).modify 1 fun | .cells _ t frozen => .cells ((Go.Pinned.utf8FirstZ.map fun z : Nat => Value.int .u8 (z : Int)).toArray) t frozen | o => o) }
theorem laid_met (os : Os) : laidMet Tryz.prog Rows.mirrorHonestRow.laid ((laidWorld os).forCall (fun _ _ => 0) ⟨#[], #[.agg #[.string ByteArray.empty, .string ByteArray.empty, .string ByteArray.empty, .int .u16 0, .int .u16 0, .int .u16 0, .int .u16 0]], []⟩).memory :=
  laidMet_of_run' 8 (by kernel_rfl) (by kernel_rfl)
theorem reads (os : Os) {H : Type} (enc : TypeId × Value → H) : ∃ places, DataW.whole enc Tryz.prog ((laidWorld os).forCall (fun _ _ => 0) ⟨#[], #[.agg #[.string ByteArray.empty, .string ByteArray.empty, .string ByteArray.empty, .int .u16 0, .int .u16 0, .int .u16 0, .int .u16 0]], []⟩).memory Tryz.f6.params.toList Rows.mirrorHonestSpec.vars false (#[.agg #[.string ByteArray.empty, .string ByteArray.empty, .string ByteArray.empty, .int .u16 0, .int .u16 0, .int .u16 0, .int .u16 0]] : Array Value).toList 8 = some ([.agg [.lit (.string []), .lit (.string []), .lit (.string []), .agg [.lit (.int .u16 0), .lit (.int .u16 0), .lit (.int .u16 0), .lit (.int .u16 0)]]], [], places) :=
  ⟨[], by kernel_rfl⟩

set_option maxRecDepth 100000 in
theorem lifted (os : Os) (started : os.Started) (H : Type) (enc : TypeId × Value → H) (F : Stop.Interp) :
    ReturnsInHanded {} Tryz.checked os 6 .any ((OpenSpec.ofChange Rows.mirrorHonestSpec).preRow enc Tryz.prog Tryz.f6 Rows.mirrorHonestRow.domain false Rows.mirrorHonestRow.laid) (((OpenSpec.ofChange Rows.mirrorHonestSpec).at F).post enc Tryz.prog Tryz.f6 false true false false) := by
  obtain ⟨places, hx⟩ := reads os enc
  refine returnsInHanded_of_row (C := Tryz.checked) (s := OpenSpec.ofChange Rows.mirrorHonestSpec) own started (by kernel_rfl) Tryz.func6
    (witness_row_at (enc := enc) (C := Tryz.checked) false (laidWorld os) #[.agg #[.string ByteArray.empty, .string ByteArray.empty, .string ByteArray.empty, .int .u16 0, .int .u16 0, .int .u16 0, .int .u16 0]] rfl (by kernel_rfl) (by kernel_rfl) (by kernel_rfl)
      (OpenSpec.preRow_of_cond 8 hx (by kernel_rfl) (fun k hk => by cases hk) (by kernel_rfl) (laid_met os))) ?_
  intro W base args ds gs before hval hW _ _ hz hL _ _
  exact contract H enc W base args ds gs before hval hW hz

theorem said : Rows.MirrorHonestSaid :=
  OpenClaim.holds_of_cond 6 Tryz.f6 rfl rfl rfl rfl rfl rfl rfl ⟨rfl, rfl, rfl, rfl, rfl⟩ rfl rfl rfl rfl rfl (by kernel_rfl) Tryz.func6 (by kernel_rfl)
    (of_decide_eq_true (by kernel_rfl)) (by unfold Func.isWrapper; first | (rw [if_pos (by decide +kernel)]; kernel_rfl) | (rw [if_neg (by decide +kernel)]; exact ⟨rfl, rfl⟩))
    (fun os started H enc _ F => by rw [OpenClaim.pre_eq_preRow]; exact lifted os started H enc F)

theorem plain (f : FuncId) (fn : Func) (hf : Tryz.pinned.checked.prog.funcNamed "treenail/treenaillaw08.MirrorHonest" = some f) (hfn : Tryz.pinned.checked.prog.funcs[f]? = some fn) :
    false = Tryz.pinned.checked.prog.looks [] ∧ ∀ (j : Nat) t, fn.params[j]? = some t → Tryz.pinned.checked.prog.wantsStandIn t = false := by
  obtain rfl : f = 6 := Option.some.inj ((show Tryz.prog.funcNamed "treenail/treenaillaw08.MirrorHonest" = some 6 by kernel_rfl).symm.trans hf) |>.symm
  obtain rfl : fn = Tryz.f6 := (Option.some.inj (Tryz.func6.symm.trans hfn)).symm
  refine ⟨by kernel_rfl, fun j t ht => ?_⟩
  rw [Tryz.params6] at ht
  rcases j with _ | j
  · obtain rfl : t = 76 := by simpa using ht.symm
    exact (show Tryz.prog.wantsStandIn 76 = false by kernel_rfl)
  · simp at ht

/-- THE STATEMENT -/
theorem proved : Rows.MirrorHonestCardSaid :=
  Claim7.holds_tied_plain_at .later [] _ _ _ _ said (fun _ h => by cases h) (by kernel_rfl) (fun _ h => by cases h) mirrorHonest_row_tie rfl ⟨rfl, rfl⟩ (by kernel_rfl) rfl plain (by kernel_rfl)
#print axioms proved
end Go.Proofs.YtcjfooikmaipdaaGreatDoor.mirrorHonest
