/-
  The law SumParts holds: in whatever parts a text comes, its check is the same, and of three texts of one length, added byte by byte, it is those of the three, added likewise. Conditions: none but the row's own.
-/
import Derived.Test.YthpijnaakdchiaaRows
import Derived.Test.YthpijnaakdchiaaSumW
import Derived.Test.YthpijnaakdchiaaBytes
import Derived.Test.YthpijnaakdchiaaRegion
import Derived.IntWalk
import Derived.RegionTactic
import Derived.Deep.RegionHeld3
import Derived.Test.YthpijnaakdchiaaArr
import Derived.WalkKit
import Derived.ProofKit
import Derived.OpenShut
import Derived.ShutString
import Derived.ChangeOld
import Derived.Below
import Derived.Carry
namespace Go.Proofs.Ythpijnaakdchiaa.sumParts
open Go.ChangeShapes Go.WideShapes Go.ChangeAt Go.RowKit
open Go.ChangeMaps (open_string shut_string)
set_option linter.unusedVariables false

theorem own : ownKnob Try.prog.godebug = none := by kernel_rfl
theorem laidOut : laidOutB Try.prog = true := by kernel_rfl

theorem len2 {α : Type} : ∀ l : List α, l.length = 2 → ∃ z0 z1, l = [z0, z1]
  | [z0, z1], _ => ⟨z0, z1, rfl⟩
theorem len3 {α : Type} : ∀ l : List α, l.length = 3 → ∃ z0 z1 z2, l = [z0, z1, z2]
  | [z0, z1, z2], _ => ⟨z0, z1, z2, rfl⟩

set_option linter.unusedSimpArgs false
open Go.Proofs.Ythpijnaakdchiaa.Sum
theorem run_min4 (P : Program) (w : World) (ts : Array TypeId) (t : TypeId) (x y z : Nat) : ∃ n : Nat, n ≤ x ∧ n ≤ y ∧ n ≤ z ∧ n ≤ 300 ∧
    (Builtin.min_ ts t #[.int .i64 x, .int .i64 y, .int .i64 z, .int .i64 300]).run P w = .ok (.int .i64 n) w := by
  refine ⟨min (min (min x y) z) 300, by omega, by omega, by omega, by omega, ?_⟩
  have e : ∀ a b : Nat, (if (b : Int) < a then (b : Int) else a) = ((min a b : Nat) : Int) := by intro a b; split <;> omega
  have e3 : ∀ a : Nat, (if (300 : Int) < a then (300 : Int) else a) = ((min a 300 : Nat) : Int) := by intro a; split <;> omega
  simp only [Builtin.min_, Builtin.min2, List.foldlM, Sem.run_bind, Sem.run_pure, Result.andThen]
  rw [e, e, e3]
theorem xor3_u8 (x y z : UInt8) : bits .xor .u8 (bits .xor .u8 (x.toNat : Int) (y.toNat : Int)) (z.toNat : Int) = ((x ^^^ y ^^^ z).toNat : Int) := by
  rw [u8_xor_nat _ _ (u8_lt x) (u8_lt y), u8_xor_nat _ _ (Nat.xor_lt_two_pow (n := 8) (u8_lt x) (u8_lt y)) (u8_lt z), UInt8.toNat_xor, UInt8.toNat_xor]
open Go.Proofs.Ythpijnaakdchiaa.Reg
theorem rowSp_lasts (n : Nat) (ss : List ByteArray) (v : Value) (w w' : World) (h : ∃ x, v = .slice (some ⟨x, 0, none⟩) n n ∧ StrRow w (some ⟨x, 0, none⟩) n ss) (hb : Below w.heap.size w w') : ∃ x, v = .slice (some ⟨x, 0, none⟩) n n ∧ StrRow w' (some ⟨x, 0, none⟩) n ss := by
  obtain ⟨x, hx, hr⟩ := h
  exact ⟨x, hx, hr.later hb⟩
def rowSp (n : Nat) (ss : List ByteArray) : Sp := .that (fun v w => ∃ x, v = .slice (some ⟨x, 0, none⟩) n n ∧ StrRow w (some ⟨x, 0, none⟩) n ss) (rowSp_lasts n ss)
theorem extract_list (u : ByteArray) (i k : Nat) : (u.extract i k).data.toList = (u.data.toList.take k).drop i := by
  simp [List.extract_eq_take_drop, List.drop_take]
theorem cat_cut (u : ByteArray) (i k : Nat) (h1 : i ≤ k) (h2 : k ≤ u.size) : cat [u.extract 0 i, u.extract i k, ⟨#[]⟩, u.extract k u.size] = u.data.toList := by
  have hl : u.data.toList.length = u.size := by simp
  simp only [cat, List.flatMap_cons, List.flatMap_nil, List.append_nil, extract_list]
  rw [List.drop_zero, ← hl, List.take_length]
  show _ ++ (_ ++ ([] ++ _)) = _
  rw [List.nil_append, ← List.append_assoc]
  have e : List.take i u.data.toList ++ List.drop i (List.take k u.data.toList) = List.take k u.data.toList := by
    have := List.take_append_drop i (List.take k u.data.toList)
    rwa [List.take_take, Nat.min_eq_left h1] at this
  rw [e, List.take_append_drop]
structure Holds (w0 : World) (b g : Nat) (xs : List UInt8) (w : World) : Prop where
  tab : IsTab w b
  row : BRow w g xs
  lt : g < w.heap.size
  below : Below w0.heap.size w0 w
theorem Holds.later {w0 w w' : World} {b g : Nat} {xs : List UInt8} (h : Holds w0 b g xs w) (hb : Below w.heap.size w w') : Holds w0 b g xs w' :=
  ⟨h.tab.later hb, h.row.below hb h.lt, Nat.lt_of_lt_of_le h.lt hb.size, h.below.trans (hb.mono h.below.size)⟩
theorem Holds.new {w0 w : World} {b g : Nat} {xs : List UInt8} (h : Holds w0 b g xs w) (o : Obj) : Holds w0 b g xs (w.alloc o) := h.later ((Below.refl _ _).alloc (Nat.le_refl _) _)

/-! ### STEP 1: THE WALK -/
set_option maxHeartbeats 4000000 in
set_option maxRecDepth 100000 in
theorem walk (a0x0 a0x1 a0x2 : ByteArray) (a1x0 a1x1 : Int) (w0x0 : a0x0.size ≤ maxLen) (w0x1 : a0x1.size ≤ maxLen) (w0x2 : a0x2.size ≤ maxLen) (w1x0 : (Lit.int .u16 a1x0).wf = true) (w1x1 : (Lit.int .u16 a1x1).wf = true) (w : World) :
    Calls Try.prog 5 #[.agg #[.string a0x0, .string a0x1, .string a0x2], .agg #[.int .u16 a1x0, .int .u16 a1x1]] w fun e w' => e = .returned (.bool true) ∧ Below w.heap.size w w' := by
  clear w0x0 w0x1 w0x2
  have hb0 := bounds_u16 w1x0
  have hb1 := bounds_u16 w1x1
  obtain ⟨at0, rfl⟩ := Int.eq_ofNat_of_zero_le hb0.1
  obtain ⟨at1, rfl⟩ := Int.eq_ofNat_of_zero_le hb1.1
  have hat0 : at0 < 65536 := by have := hb0.2; omega
  have hat1 : at1 < 65536 := by have := hb1.2; omega
  clear w1x0 w1x1 hb0 hb1
  go_enter Try.func5, Try.ntmps5
  go_upto_region 1 with fail
  go_cut [5] (fun s wx => ∃ n : Nat, s = .int .i64 n ∧ n ≤ a0x0.size ∧ n ≤ a0x1.size ∧ n ≤ a0x2.size ∧ n ≤ 300 ∧ wx = (w.alloc (.cells #[.string a0x0, .string a0x1, .string a0x2] 34)).alloc (.cells #[.int .u16 at0, .int .u16 at1] 36))
  case first =>
    obtain ⟨n, hn0, hn1, hn2, hn3, hmin⟩ := run_min4 Try.prog ((w.alloc (.cells #[.string a0x0, .string a0x1, .string a0x2] 34)).alloc (.cells #[.int .u16 at0, .int .u16 at1] 36)) #[3, 3, 3, 3] 3 a0x0.size a0x1.size a0x2.size
    go_wp2
    go_meet
    exact ⟨n, rfl, hn0, hn1, hn2, hn3, rfl⟩
  case rest =>
    obtain ⟨n, rfl, hn0, hn1, hn2, hn3, rfl⟩ := hcut
    go_upto_region 2 with fail
    go_cut [6, 7, 8] (fun s t r wx => ∃ u v c : ByteArray, s = .string u ∧ t = .string v ∧ r = .string c ∧ n = u.size ∧ v.size = n ∧ c.size = n ∧ Below w.heap.size w wx ∧
      wx.cell? ⟨w.heap.size + 1, 0, none⟩ = some (.int .u16 at0) ∧ wx.cell? ⟨w.heap.size + 1, 1, none⟩ = some (.int .u16 at1))
    case first =>
      have hb := ((Below.refl w.heap.size w).alloc (Nat.le_refl _) (.cells #[.string a0x0, .string a0x1, .string a0x2] 34)).alloc (by simp) (.cells #[.int .u16 at0, .int .u16 at1] 36)
      have HB := Lib.hid hb
      clear hb
      go_quiet (fail)
      go_wp2_with fail
      go_meet
      refine ⟨_, _, _, rfl, rfl, rfl, ?_, ?_, ?_, below_drewN HB.out _, by simp, by simp⟩
      all_goals (simp; omega)
    case rest =>
      obtain ⟨u, v, c, rfl, rfl, rfl, rfl, hv, hc, hb, hc0, hc1⟩ := hcut
      have HV := Lib.hid hv
      have HC := Lib.hid hc
      have hs := hb.size
      clear hv hc hn0 hn1 hn2
      go_upto_region 4 with fail
      obtain ⟨i, hi⟩ : ∃ i : Nat, (at0 : Int) % ((u.size : Int) + 1) = i := Int.eq_ofNat_of_zero_le (Int.emod_nonneg _ (by omega))
      have hi1 : i ≤ u.size := by
        have := Int.emod_lt_of_pos (at0 : Int) (show (0 : Int) < (u.size : Int) + 1 by omega)
        omega
      rw [hi]
      clear hi
      obtain ⟨d, hd⟩ : ∃ d : Nat, (at1 : Int) % ((u.size : Int) - i + 1) = d := Int.eq_ofNat_of_zero_le (Int.emod_nonneg _ (by omega))
      have hd1 : i + d ≤ u.size := by
        have := Int.emod_lt_of_pos (at1 : Int) (show (0 : Int) < (u.size : Int) - i + 1 by omega)
        omega
      go_upto_region 5 with fail
      rw [hd]
      clear hd
      obtain ⟨k, hk⟩ : ∃ k : Nat, (i : Int) + d = k := ⟨i + d, by omega⟩
      have hk1 : i ≤ k := by omega
      have hk2 : k ≤ u.size := by omega
      rw [hk]
      clear hk hd1 hc0 hc1
      obtain ⟨i0, hi0, hz0, hz1, hz2⟩ := info_parts info_u8
      go_wp2_with (refine wpList_make_full _ rfl _ _ 32 rfl w.heap.size 5 i0 (.int .u8 0) 1 Try.underlying32 hi0 hz0 hz1 _ _ _ _ u.size rfl rfl rfl rfl ?b2 ?b3 ?b4 ?_)
      case b2 => rw [hz2]; omega
      case b3 => unfold maxLen; omega
      case b4 => omega
      intro w1 hown hgrow
      have hb1 : Below w.heap.size w w1 := hb.grown hgrow hs (fun q hq => by cases hq)
      have hrow : BRow w1 wc.heap.size (List.replicate u.size 0) := BRow.own (by
        have e : (madeCells (Value.int .u8 0).cells u.size).toList = (List.replicate u.size (0 : UInt8)).map u8V := by
          rw [show (Value.int .u8 0).cells = #[.int .u8 0] from rfl, toList_madeCells_one, List.map_replicate]; rfl
        rw [← e]; exact hown)
      obtain ⟨g, hg⟩ : ∃ g, g = wc.heap.size := ⟨_, rfl⟩
      have hgs : g < w1.heap.size := by rw [hg]; exact (hown.lt _ rfl).2
      have hg0 : w.heap.size ≤ g := by rw [hg]; exact hs
      rw [← hg] at hrow ⊢
      have HROW := Lib.hid hrow
      have HB1 := Lib.hid hb1
      clear hg hown hgrow hb hs hrow hb1 hi0 hz0 hz1 hz2
      go_wp2_with fail
      go_loopw [56] (fun m wr => ∃ (j : Nat) (xs : List UInt8), j ≤ u.size ∧ m = .int .i64 j ∧ xs.length = u.size ∧ BRow wr g xs ∧ (∀ r, r < j → xs.getD r 0 = u.data.toList.getD r 0 ^^^ v.data.toList.getD r 0 ^^^ c.data.toList.getD r 0) ∧ Below w.heap.size w wr ∧ g < wr.heap.size) (fun m _ => u.size - (intOf m).toNat)
      case atStart => exact ⟨0, List.replicate u.size 0, by omega, rfl, by simp, HROW.out, fun r hr => absurd hr (by omega), HB1.out, hgs⟩
      case round =>
        obtain ⟨j, xs, hj, rfl, hxl, hrow, hval, hb, hgs⟩ := hrel
        have HXL := Lib.hid hxl
        have HR := Lib.hid hrow
        have HVAL := Lib.hid hval
        have HB := Lib.hid hb
        clear hxl hrow hval hb HROW HB1
        by_cases hlt : j < u.size
        · have hjv : j < v.size := by rw [HV.out]; exact hlt
          have hjc : j < c.size := by rw [HC.out]; exact hlt
          have hcell := HR.out.at_ j (by rw [HXL.out]; exact hlt)
          have hfroz := HR.out.froz j (by rw [HXL.out]; exact hlt)
          obtain ⟨x, hx⟩ : ∃ x, x = xs.getD j 0 := ⟨_, rfl⟩
          rw [← hx] at hcell
          clear hx
          go_wp2_with fail
          go_region
          go_wp2_with fail
          go_roundw
          case rel =>
            have hset := HR.out.set j (by rw [HXL.out]; exact hlt) (u[j] ^^^ v[j] ^^^ c[j])
            refine ⟨j + 1, xs.set j (u[j] ^^^ v[j] ^^^ c[j]), by omega, by go_num, by rw [List.length_set, HXL.out], ?_, fun r hr => ?_, ?_, ?_⟩
            · rw [xor3_u8]; exact hset.drewN 1
            · rw [List.getD_eq_getElem?_getD]
              by_cases e : j = r
              · subst e
                rw [List.getElem?_set_self (by rw [HXL.out]; exact hlt)]
                simp [hlt, hjv, hjc]; rfl
              · rw [List.getElem?_set_ne e, ← List.getD_eq_getElem?_getD]
                exact HVAL.out r (by omega)
            · exact (HB.out.setCell (by exact hg0) _).drew
            · simpa using hgs
          case measure => simp [intOf]; omega
        · obtain rfl : j = u.size := by omega
          have hxs : xs = add3 u.data.toList v.data.toList c.data.toList := by
            have hl := add3_length u.data.toList v.data.toList c.data.toList (by simp [HV.out]) (by simp [HC.out])
            apply List.ext_getElem?
            intro r
            by_cases hr : r < u.size
            · have h1 := HVAL.out r hr
              rw [← add3_getD u.data.toList v.data.toList c.data.toList (by simp [HV.out]) (by simp [HC.out]) r (by simpa using hr)] at h1
              have hr1 : r < xs.length := by rw [HXL.out]; exact hr
              have hr2 : r < (add3 u.data.toList v.data.toList c.data.toList).length := by rw [hl]; simpa using hr
              rw [List.getD_eq_getElem?_getD, List.getD_eq_getElem?_getD, List.getElem?_eq_getElem hr1, List.getElem?_eq_getElem hr2] at h1
              rw [List.getElem?_eq_getElem hr1, List.getElem?_eq_getElem hr2]
              exact congrArg some h1
            · rw [List.getElem?_eq_none (by rw [HXL.out]; omega), List.getElem?_eq_none (by rw [hl]; simp; omega)]
          have HXS := Lib.hid hxs
          have hs := HB.out.size
          clear hxs HVAL
          go_wp2_with fail
          refine (make_any _).mono ?_
          rintro e w3 ⟨b, rfl, hbb, ht, hb3⟩
          have HR3 := Lib.hid (HR.out.below hb3 hgs)
          have HB3 := Lib.hid (HB.out.trans (hb3.mono hs))
          have HT3 := Lib.hid ht
          have hgs3 : g < w3.heap.size := Nat.lt_of_lt_of_le hgs hb3.size
          clear hbb ht hb3 HR HB hs hgs
          go_wp2_with fail
          obtain ⟨p1, hp1⟩ : ∃ p, p = u.extract 0 i := ⟨_, rfl⟩
          obtain ⟨p2, hp2⟩ : ∃ p, p = u.extract i k := ⟨_, rfl⟩
          obtain ⟨p3, hp3⟩ : ∃ p, p = u.extract k u.size := ⟨_, rfl⟩
          obtain ⟨s, hs⟩ : ∃ s, s = strOf xs := ⟨_, rfl⟩
          obtain ⟨x, hx⟩ : ∃ x, x = chk 0 u.data.toList := ⟨_, rfl⟩
          obtain ⟨y, hy⟩ : ∃ y, y = chk 0 v.data.toList := ⟨_, rfl⟩
          obtain ⟨z, hz⟩ : ∃ z, z = chk 0 c.data.toList := ⟨_, rfl⟩
          obtain ⟨t, ht⟩ : ∃ t, t = chk 0 xs := ⟨_, rfl⟩
          have hI0 : Holds w b g xs w3.drew := (Holds.mk HT3.out HR3.out hgs3 HB3.out).later (Below.refl _ _).drew
          have HS := Lib.hid hs
          have HLX := Lib.hid (show u.size = xs.length from HXL.out.symm)
          have Fu := Lib.hid (show chk 0 (cat [u]) = x by rw [hx, cat_one])
          have Fv := Lib.hid (show chk 0 (cat [v]) = y by rw [hy, cat_one])
          have Fc := Lib.hid (show chk 0 (cat [c]) = z by rw [hz, cat_one])
          have Fs := Lib.hid (show chk 0 (cat [s]) = t by rw [ht, hs, cat_one]; rfl)
          have F4 := Lib.hid (show chk 0 (cat [p1, p2, ⟨#[]⟩, p3]) = x by rw [hx, hp1, hp2, hp3, cat_cut u i k hk1 hk2])
          have HT := Lib.hid (show bits .xor .u32 (bits .xor .u32 (x : Int) (y : Int)) (z : Int) = (t : Int) by
            have hxr : Reg x := by rw [hx]; exact chk_lt _ _
            have hyr : Reg y := by rw [hy]; exact chk_lt _ _
            have hzr : Reg z := by rw [hz]; exact chk_lt _ _
            rw [u32_xor_nat x y hxr hyr, u32_xor_nat _ z (xor_lt x y hxr hyr) hzr, ht, HXS.out, chk_add3 _ _ _ (by simp [HV.out]) (by simp [HC.out]), hx, hy, hz])
          have Lu := Lib.hid (show ∀ q ∈ [u], q.size ≤ 1000000 by simp; omega)
          have Lv := Lib.hid (show ∀ q ∈ [v], q.size ≤ 1000000 by simp; have := HV.out; omega)
          have Lc := Lib.hid (show ∀ q ∈ [c], q.size ≤ 1000000 by simp; have := HC.out; omega)
          have Ls := Lib.hid (show ∀ q ∈ [s], q.size ≤ 1000000 by simp; rw [hs, strOf_size]; have := HXL.out; omega)
          have L4 := Lib.hid (show ∀ q ∈ [p1, p2, ⟨#[]⟩, p3], q.size ≤ 1000000 by rw [hp1, hp2, hp3]; simp; refine ⟨?_, ?_, ?_, ?_⟩ <;> first | omega | decide)
          clear hx hy hz ht hs
          refine region_specs (by kernel_rfl) (VS [(75, .val (Value.bool true)), (76, .val (Value.bool true)), (77, .val (Value.pointer (some ⟨b, 0, none⟩))), (78, .val (Value.string u)), (79, .val (Value.int .i64 i)), (80, .val (Value.string p1)), (81, .val (Value.string u)), (82, .val (Value.int .i64 i)), (83, .val (Value.int .i64 k)), (84, .val (Value.string p2)), (85, .val (Value.string u)), (86, .val (Value.int .i64 k)), (87, .val (Value.string p3)), (88, rowSp 4 [p1, p2, ⟨#[]⟩, p3]), (89, .val (Value.int .u32 x)), (90, .val (Value.pointer (some ⟨b, 0, none⟩))), (91, .val (Value.string u)), (92, rowSp 1 [u]), (93, .val (Value.int .u32 x)), (94, .val (Value.bool true)), (95, .val (Value.bool true)), (96, .val (Value.bool true)), (97, .val (Value.pointer (some ⟨b, 0, none⟩))), (98, .val (Value.slice (some ⟨g, 0, none⟩) u.size u.size)), (99, .val (Value.string s)), (100, rowSp 1 [s]), (101, .val (Value.int .u32 t)), (102, .val (Value.pointer (some ⟨b, 0, none⟩))), (103, .val (Value.string u)), (104, rowSp 1 [u]), (105, .val (Value.int .u32 x)), (106, .val (Value.pointer (some ⟨b, 0, none⟩))), (107, .val (Value.string v)), (108, rowSp 1 [v]), (109, .val (Value.int .u32 y)), (110, .val (Value.int .u32 (bits .xor .u32 (x : Int) (y : Int)))), (111, .val (Value.pointer (some ⟨b, 0, none⟩))), (112, .val (Value.string c)), (113, rowSp 1 [c]), (114, .val (Value.int .u32 z)), (115, .val (Value.int .u32 t)), (116, .val (Value.bool true)), (117, .val (Value.bool true)), (4, .val (Value.bool true))]) (Holds w b g xs) (by kernel_rfl) VS.lasts (guardsOk_spec (by kernel_rfl)) hI0 ?steps ?hend
          case steps =>
            refine ⟨?_, ?_, ?_, ?_, ?_, ?_, ?_, ?_, ?_, ?_, ?_, ?_, ?_, ?_, ?_, ?_, ?_, ?_, ?_, ?_, ?_, ?_, ?_, ?_, ?_, ?_, ?_, ?_, ?_, ?_, ?_, ?_, ?_, ?_, ?_, ?_, ?_, ?_, ?_, ?_, ?_, ?_, ?_, ?_, trivial⟩
            · -- 75
              intro a w hI hd ho
              refine step_call 9 #[] ?_ ((wakes_any _).mono ?_)
              · simp [execOp]
                try go_simp
              · rintro e w' ⟨rfl, hb⟩
                exact ⟨_, rfl, rfl, hI.later hb, hb⟩
            · -- 76
              intro a w hI hd ho
              have h75 : a.tmps.getD 75 undef = Value.bool true := hd 75 (by kernel_rfl)
              exact step_move (.tmp 75) rfl h75 hI
            · -- 77
              intro a w hI hd ho
              have h13 : a.tmps.getD 13 undef = Value.pointer (some ⟨b, 0, none⟩) := ho 13 (by kernel_rfl)
              exact step_move (.tmp 13) rfl h13 hI
            · -- 78
              intro a w hI hd ho
              have h6 : a.tmps.getD 6 undef = Value.string u := ho 6 (by kernel_rfl)
              exact step_move (.tmp 6) rfl h6 hI
            · -- 79
              intro a w hI hd ho
              have h9 : a.tmps.getD 9 undef = Value.int .i64 i := ho 9 (by kernel_rfl)
              exact step_move (.tmp 9) rfl h9 hI
            · -- 80
              intro a w hI hd ho
              have h78 : a.tmps.getD 78 undef = Value.string u := hd 78 (by kernel_rfl)
              have h79 : a.tmps.getD 79 undef = Value.int .i64 i := hd 79 (by kernel_rfl)
              rw [Array.getD_eq_getD_getElem?] at h78 h79
              refine step_val (.string p1) ?_ rfl hI
              simp [execOp, Act.eval, h78, h79, hp1]
              try go_simp
            · -- 81
              intro a w hI hd ho
              have h6 : a.tmps.getD 6 undef = Value.string u := ho 6 (by kernel_rfl)
              exact step_move (.tmp 6) rfl h6 hI
            · -- 82
              intro a w hI hd ho
              have h9 : a.tmps.getD 9 undef = Value.int .i64 i := ho 9 (by kernel_rfl)
              exact step_move (.tmp 9) rfl h9 hI
            · -- 83
              intro a w hI hd ho
              have h10 : a.tmps.getD 10 undef = Value.int .i64 k := ho 10 (by kernel_rfl)
              exact step_move (.tmp 10) rfl h10 hI
            · -- 84
              intro a w hI hd ho
              have h81 : a.tmps.getD 81 undef = Value.string u := hd 81 (by kernel_rfl)
              have h82 : a.tmps.getD 82 undef = Value.int .i64 i := hd 82 (by kernel_rfl)
              have h83 : a.tmps.getD 83 undef = Value.int .i64 k := hd 83 (by kernel_rfl)
              rw [Array.getD_eq_getD_getElem?] at h81 h82 h83
              refine step_val (.string p2) ?_ rfl hI
              simp [execOp, Act.eval, h81, h82, h83, hp2]
              try go_simp
            · -- 85
              intro a w hI hd ho
              have h6 : a.tmps.getD 6 undef = Value.string u := ho 6 (by kernel_rfl)
              exact step_move (.tmp 6) rfl h6 hI
            · -- 86
              intro a w hI hd ho
              have h10 : a.tmps.getD 10 undef = Value.int .i64 k := ho 10 (by kernel_rfl)
              exact step_move (.tmp 10) rfl h10 hI
            · -- 87
              intro a w hI hd ho
              have h85 : a.tmps.getD 85 undef = Value.string u := hd 85 (by kernel_rfl)
              have h86 : a.tmps.getD 86 undef = Value.int .i64 k := hd 86 (by kernel_rfl)
              rw [Array.getD_eq_getD_getElem?] at h85 h86
              refine step_val (.string p3) ?_ rfl hI
              simp [execOp, Act.eval, h85, h86, hp3]
              try go_simp
            · -- 88
              intro a w hI hd ho
              have h80 : a.tmps.getD 80 undef = Value.string p1 := hd 80 (by kernel_rfl)
              have h84 : a.tmps.getD 84 undef = Value.string p2 := hd 84 (by kernel_rfl)
              have h87 : a.tmps.getD 87 undef = Value.string p3 := hd 87 (by kernel_rfl)
              rw [Array.getD_eq_getD_getElem?] at h80 h84 h87
              refine step_new (.slice (some ⟨w.heap.size, 0, none⟩) 4 4) (.cells #[.string p1, .string p2, .string ⟨#[]⟩, .string p3] 9) ?_ ⟨_, rfl, StrRow.four w p1 p2 ⟨#[]⟩ p3 _⟩ (hI.new _)
              simp [execOp, Act.eval, h80, h84, h87]
              try go_simp
            · -- 89
              intro a w hI hd ho
              have h77 : a.tmps.getD 77 undef = Value.pointer (some ⟨b, 0, none⟩) := hd 77 (by kernel_rfl)
              obtain ⟨x88, h88, r88⟩ : ∃ x, a.tmps.getD 88 undef = .slice (some ⟨x, 0, none⟩) 4 4 ∧ StrRow w (some ⟨x, 0, none⟩) 4 [p1, p2, ⟨#[]⟩, p3] := hd 88 (by kernel_rfl)
              rw [Array.getD_eq_getD_getElem?] at h77 h88
              refine step_call 10 #[.pointer (some ⟨b, 0, none⟩), .slice (some ⟨x88, 0, none⟩) 4 4] ?_ ((of_any b _ 4 4 _ w hI.tab r88 (by decide) L4.out).mono ?_)
              · simp [execOp]
                try go_simp
              · rintro e w' ⟨rfl, m, rfl⟩
                exact ⟨_, rfl, by rw [F4.out]; rfl, hI.later (below_drewN (Below.refl _ _) m), below_drewN (Below.refl _ _) m⟩
            · -- 90
              intro a w hI hd ho
              have h13 : a.tmps.getD 13 undef = Value.pointer (some ⟨b, 0, none⟩) := ho 13 (by kernel_rfl)
              exact step_move (.tmp 13) rfl h13 hI
            · -- 91
              intro a w hI hd ho
              have h6 : a.tmps.getD 6 undef = Value.string u := ho 6 (by kernel_rfl)
              exact step_move (.tmp 6) rfl h6 hI
            · -- 92
              intro a w hI hd ho
              have h91 : a.tmps.getD 91 undef = Value.string u := hd 91 (by kernel_rfl)
              rw [Array.getD_eq_getD_getElem?] at h91
              refine step_new (.slice (some ⟨w.heap.size, 0, none⟩) 1 1) (.cells #[.string u] 9) ?_ ⟨_, rfl, StrRow.one w u _⟩ (hI.new _)
              simp [execOp, Act.eval, h91]
              try go_simp
            · -- 93
              intro a w hI hd ho
              have h90 : a.tmps.getD 90 undef = Value.pointer (some ⟨b, 0, none⟩) := hd 90 (by kernel_rfl)
              obtain ⟨x92, h92, r92⟩ : ∃ x, a.tmps.getD 92 undef = .slice (some ⟨x, 0, none⟩) 1 1 ∧ StrRow w (some ⟨x, 0, none⟩) 1 [u] := hd 92 (by kernel_rfl)
              rw [Array.getD_eq_getD_getElem?] at h90 h92
              refine step_call 10 #[.pointer (some ⟨b, 0, none⟩), .slice (some ⟨x92, 0, none⟩) 1 1] ?_ ((of_any b _ 1 1 _ w hI.tab r92 (by decide) Lu.out).mono ?_)
              · simp [execOp]
                try go_simp
              · rintro e w' ⟨rfl, m, rfl⟩
                exact ⟨_, rfl, by rw [Fu.out]; rfl, hI.later (below_drewN (Below.refl _ _) m), below_drewN (Below.refl _ _) m⟩
            · -- 94
              intro a w hI hd ho
              have h89 : a.tmps.getD 89 undef = Value.int .u32 x := hd 89 (by kernel_rfl)
              have h93 : a.tmps.getD 93 undef = Value.int .u32 x := hd 93 (by kernel_rfl)
              rw [Array.getD_eq_getD_getElem?] at h89 h93
              refine step_val (Value.bool true) ?_ rfl hI
              simp [execOp, Act.eval, h89, h93]
              try go_simp
            · -- 95
              intro a w hI hd ho
              have h76 : a.tmps.getD 76 undef = Value.bool true := hd 76 (by kernel_rfl)
              have h94 : a.tmps.getD 94 undef = Value.bool true := hd 94 (by kernel_rfl)
              rw [Array.getD_eq_getD_getElem?] at h76 h94
              refine step_val (Value.bool true) ?_ rfl hI
              simp [execOp, Act.eval, h76, h94]
              try go_simp
            · -- 96
              intro a w hI hd ho
              have h95 : a.tmps.getD 95 undef = Value.bool true := hd 95 (by kernel_rfl)
              exact step_move (.tmp 95) rfl h95 hI
            · -- 97
              intro a w hI hd ho
              have h13 : a.tmps.getD 13 undef = Value.pointer (some ⟨b, 0, none⟩) := ho 13 (by kernel_rfl)
              exact step_move (.tmp 13) rfl h13 hI
            · -- 98
              intro a w hI hd ho
              have h11 : a.tmps.getD 11 undef = Value.slice (some ⟨g, 0, none⟩) u.size u.size := ho 11 (by kernel_rfl)
              exact step_move (.tmp 11) rfl h11 hI
            · -- 99
              intro a w hI hd ho
              have h98 : a.tmps.getD 98 undef = Value.slice (some ⟨g, 0, none⟩) u.size u.size := hd 98 (by kernel_rfl)
              rw [Array.getD_eq_getD_getElem?] at h98
              refine step_val (.string s) ?_ rfl hI
              have hcv := run_string_brow w g u.size u.size xs hI.row HLX.out
              simp [execOp, Act.eval, h98, hcv, HS.out]
              try go_simp
            · -- 100
              intro a w hI hd ho
              have h99 : a.tmps.getD 99 undef = Value.string s := hd 99 (by kernel_rfl)
              rw [Array.getD_eq_getD_getElem?] at h99
              refine step_new (.slice (some ⟨w.heap.size, 0, none⟩) 1 1) (.cells #[.string s] 9) ?_ ⟨_, rfl, StrRow.one w s _⟩ (hI.new _)
              simp [execOp, Act.eval, h99]
              try go_simp
            · -- 101
              intro a w hI hd ho
              have h97 : a.tmps.getD 97 undef = Value.pointer (some ⟨b, 0, none⟩) := hd 97 (by kernel_rfl)
              obtain ⟨x100, h100, r100⟩ : ∃ x, a.tmps.getD 100 undef = .slice (some ⟨x, 0, none⟩) 1 1 ∧ StrRow w (some ⟨x, 0, none⟩) 1 [s] := hd 100 (by kernel_rfl)
              rw [Array.getD_eq_getD_getElem?] at h97 h100
              refine step_call 10 #[.pointer (some ⟨b, 0, none⟩), .slice (some ⟨x100, 0, none⟩) 1 1] ?_ ((of_any b _ 1 1 _ w hI.tab r100 (by decide) Ls.out).mono ?_)
              · simp [execOp]
                try go_simp
              · rintro e w' ⟨rfl, m, rfl⟩
                exact ⟨_, rfl, by rw [Fs.out]; rfl, hI.later (below_drewN (Below.refl _ _) m), below_drewN (Below.refl _ _) m⟩
            · -- 102
              intro a w hI hd ho
              have h13 : a.tmps.getD 13 undef = Value.pointer (some ⟨b, 0, none⟩) := ho 13 (by kernel_rfl)
              exact step_move (.tmp 13) rfl h13 hI
            · -- 103
              intro a w hI hd ho
              have h6 : a.tmps.getD 6 undef = Value.string u := ho 6 (by kernel_rfl)
              exact step_move (.tmp 6) rfl h6 hI
            · -- 104
              intro a w hI hd ho
              have h103 : a.tmps.getD 103 undef = Value.string u := hd 103 (by kernel_rfl)
              rw [Array.getD_eq_getD_getElem?] at h103
              refine step_new (.slice (some ⟨w.heap.size, 0, none⟩) 1 1) (.cells #[.string u] 9) ?_ ⟨_, rfl, StrRow.one w u _⟩ (hI.new _)
              simp [execOp, Act.eval, h103]
              try go_simp
            · -- 105
              intro a w hI hd ho
              have h102 : a.tmps.getD 102 undef = Value.pointer (some ⟨b, 0, none⟩) := hd 102 (by kernel_rfl)
              obtain ⟨x104, h104, r104⟩ : ∃ x, a.tmps.getD 104 undef = .slice (some ⟨x, 0, none⟩) 1 1 ∧ StrRow w (some ⟨x, 0, none⟩) 1 [u] := hd 104 (by kernel_rfl)
              rw [Array.getD_eq_getD_getElem?] at h102 h104
              refine step_call 10 #[.pointer (some ⟨b, 0, none⟩), .slice (some ⟨x104, 0, none⟩) 1 1] ?_ ((of_any b _ 1 1 _ w hI.tab r104 (by decide) Lu.out).mono ?_)
              · simp [execOp]
                try go_simp
              · rintro e w' ⟨rfl, m, rfl⟩
                exact ⟨_, rfl, by rw [Fu.out]; rfl, hI.later (below_drewN (Below.refl _ _) m), below_drewN (Below.refl _ _) m⟩
            · -- 106
              intro a w hI hd ho
              have h13 : a.tmps.getD 13 undef = Value.pointer (some ⟨b, 0, none⟩) := ho 13 (by kernel_rfl)
              exact step_move (.tmp 13) rfl h13 hI
            · -- 107
              intro a w hI hd ho
              have h7 : a.tmps.getD 7 undef = Value.string v := ho 7 (by kernel_rfl)
              exact step_move (.tmp 7) rfl h7 hI
            · -- 108
              intro a w hI hd ho
              have h107 : a.tmps.getD 107 undef = Value.string v := hd 107 (by kernel_rfl)
              rw [Array.getD_eq_getD_getElem?] at h107
              refine step_new (.slice (some ⟨w.heap.size, 0, none⟩) 1 1) (.cells #[.string v] 9) ?_ ⟨_, rfl, StrRow.one w v _⟩ (hI.new _)
              simp [execOp, Act.eval, h107]
              try go_simp
            · -- 109
              intro a w hI hd ho
              have h106 : a.tmps.getD 106 undef = Value.pointer (some ⟨b, 0, none⟩) := hd 106 (by kernel_rfl)
              obtain ⟨x108, h108, r108⟩ : ∃ x, a.tmps.getD 108 undef = .slice (some ⟨x, 0, none⟩) 1 1 ∧ StrRow w (some ⟨x, 0, none⟩) 1 [v] := hd 108 (by kernel_rfl)
              rw [Array.getD_eq_getD_getElem?] at h106 h108
              refine step_call 10 #[.pointer (some ⟨b, 0, none⟩), .slice (some ⟨x108, 0, none⟩) 1 1] ?_ ((of_any b _ 1 1 _ w hI.tab r108 (by decide) Lv.out).mono ?_)
              · simp [execOp]
                try go_simp
              · rintro e w' ⟨rfl, m, rfl⟩
                exact ⟨_, rfl, by rw [Fv.out]; rfl, hI.later (below_drewN (Below.refl _ _) m), below_drewN (Below.refl _ _) m⟩
            · -- 110
              intro a w hI hd ho
              have h105 : a.tmps.getD 105 undef = Value.int .u32 x := hd 105 (by kernel_rfl)
              have h109 : a.tmps.getD 109 undef = Value.int .u32 y := hd 109 (by kernel_rfl)
              rw [Array.getD_eq_getD_getElem?] at h105 h109
              refine step_val (Value.int .u32 (bits .xor .u32 (x : Int) (y : Int))) ?_ rfl hI
              simp [execOp, Act.eval, h105, h109]
              try go_simp
            · -- 111
              intro a w hI hd ho
              have h13 : a.tmps.getD 13 undef = Value.pointer (some ⟨b, 0, none⟩) := ho 13 (by kernel_rfl)
              exact step_move (.tmp 13) rfl h13 hI
            · -- 112
              intro a w hI hd ho
              have h8 : a.tmps.getD 8 undef = Value.string c := ho 8 (by kernel_rfl)
              exact step_move (.tmp 8) rfl h8 hI
            · -- 113
              intro a w hI hd ho
              have h112 : a.tmps.getD 112 undef = Value.string c := hd 112 (by kernel_rfl)
              rw [Array.getD_eq_getD_getElem?] at h112
              refine step_new (.slice (some ⟨w.heap.size, 0, none⟩) 1 1) (.cells #[.string c] 9) ?_ ⟨_, rfl, StrRow.one w c _⟩ (hI.new _)
              simp [execOp, Act.eval, h112]
              try go_simp
            · -- 114
              intro a w hI hd ho
              have h111 : a.tmps.getD 111 undef = Value.pointer (some ⟨b, 0, none⟩) := hd 111 (by kernel_rfl)
              obtain ⟨x113, h113, r113⟩ : ∃ x, a.tmps.getD 113 undef = .slice (some ⟨x, 0, none⟩) 1 1 ∧ StrRow w (some ⟨x, 0, none⟩) 1 [c] := hd 113 (by kernel_rfl)
              rw [Array.getD_eq_getD_getElem?] at h111 h113
              refine step_call 10 #[.pointer (some ⟨b, 0, none⟩), .slice (some ⟨x113, 0, none⟩) 1 1] ?_ ((of_any b _ 1 1 _ w hI.tab r113 (by decide) Lc.out).mono ?_)
              · simp [execOp]
                try go_simp
              · rintro e w' ⟨rfl, m, rfl⟩
                exact ⟨_, rfl, by rw [Fc.out]; rfl, hI.later (below_drewN (Below.refl _ _) m), below_drewN (Below.refl _ _) m⟩
            · -- 115
              intro a w hI hd ho
              have h110 : a.tmps.getD 110 undef = Value.int .u32 (bits .xor .u32 (x : Int) (y : Int)) := hd 110 (by kernel_rfl)
              have h114 : a.tmps.getD 114 undef = Value.int .u32 z := hd 114 (by kernel_rfl)
              rw [Array.getD_eq_getD_getElem?] at h110 h114
              refine step_val (Value.int .u32 t) ?_ rfl hI
              simp [execOp, Act.eval, h110, h114]
              try go_simp
              exact HT.out
            · -- 116
              intro a w hI hd ho
              have h101 : a.tmps.getD 101 undef = Value.int .u32 t := hd 101 (by kernel_rfl)
              have h115 : a.tmps.getD 115 undef = Value.int .u32 t := hd 115 (by kernel_rfl)
              rw [Array.getD_eq_getD_getElem?] at h101 h115
              refine step_val (Value.bool true) ?_ rfl hI
              simp [execOp, Act.eval, h101, h115]
              try go_simp
            · -- 117
              intro a w hI hd ho
              have h96 : a.tmps.getD 96 undef = Value.bool true := hd 96 (by kernel_rfl)
              have h116 : a.tmps.getD 116 undef = Value.bool true := hd 116 (by kernel_rfl)
              rw [Array.getD_eq_getD_getElem?] at h96 h116
              refine step_val (Value.bool true) ?_ rfl hI
              simp [execOp, Act.eval, h96, h116]
              try go_simp
            · -- 4
              intro a w hI hd ho
              have h117 : a.tmps.getD 117 undef = Value.bool true := hd 117 (by kernel_rfl)
              exact step_assign (.tmp 117) rfl h117 hI
          case hend =>
            intro a w4 hsz hdf hI hd ho
            have h4 : a.tmps.getD 4 undef = .bool true := hd 4 (by kernel_rfl)
            clear hsz hd ho
            rw [Array.getD_eq_getD_getElem?] at h4
            go_wp2_with fail
            exact bodyPost_ret (v := .bool true) (by simp [results, go_sem, h4]) hdf ⟨rfl, hI.below⟩

/-! ### THE ROW's STEP -/
set_option maxRecDepth 100000 in
theorem lifted (os : Os) (started : os.Started) (H : Type) (enc : TypeId × Value → H) :
    ReturnsInHanded {} Try.checked os 5 .any (Rows.sumPartsSpec.pre6 enc Try.prog Try.f5 Rows.sumPartsRow.domain false) (Rows.sumPartsSpec.post enc Try.prog Try.f5 false true false false) := by
  refine returnsInHanded_of_change (C := Try.checked) own started (by kernel_rfl) Try.func5
    (ChangeSpec.witness6 (enc := enc) (C := Try.checked) false ⟨#[], #[.agg #[.string ByteArray.empty, .string ByteArray.empty, .string ByteArray.empty], .agg #[.int .u16 0, .int .u16 0]], []⟩ 8 (by kernel_rfl) (by kernel_rfl) (by kernel_rfl) (by kernel_rfl)) ?_
  intro W base args ds gs before hval0 hW hcnd _
  have hval : ∀ (j : Nat) t v, Try.f5.params[j]? = some t → args[j]? = some v → Value.okWide Try.prog W .any base t v := hval0
  have hW' := hW
  obtain ⟨p, q, hA0, hV, rfl, hfz, hnd⟩ := hW
  have hA : DataW.TrodAll enc Try.prog W 0 (fun _ => true) true Try.f5.params.toList args.toList ds p := hA0
  rw [Try.params5] at hA hval
  obtain ⟨v0, vs0, d0, ds0, p0, q0, hargs, rfl, rfl, h0, r0⟩ := trodAll_cons hA
  obtain ⟨v1, vs1, d1, ds1, p1, q1, rfl, rfl, rfl, h1, r1⟩ := trodAll_cons r0
  obtain ⟨rfl, rfl, rfl⟩ := trodAll_nil r1
  obtain rfl : args = #[v0, v1] := by cases args; simp_all
  obtain ⟨rfl, rfl⟩ := trodVars_none hV
  have k0 := h0
  have lt0 : ∀ x ∈ p0, x.block < W.heap.size := by obtain ⟨m, hm⟩ := k0; exact DataW.trod_lt m _ _ _ hm
  obtain ⟨cs0, rfl, hl0, hc0⟩ := open_arr Try.underlying34 (by kernel_rfl) (by kernel_rfl) (hval 0 34 v0 rfl rfl) h0
  obtain ⟨y0_0, y0_1, y0_2, rfl⟩ := len3 cs0 hl0
  obtain ⟨a0x0, rfl, w0x0⟩ := open_str_cell Try.underlying9 (hc0 0 _ rfl)
  obtain ⟨a0x1, rfl, w0x1⟩ := open_str_cell Try.underlying9 (hc0 1 _ rfl)
  obtain ⟨a0x2, rfl, w0x2⟩ := open_str_cell Try.underlying9 (hc0 2 _ rfl)
  have k1 := h1
  have lt1 : ∀ x ∈ p1, x.block < W.heap.size := by obtain ⟨m, hm⟩ := k1; exact DataW.trod_lt m _ _ _ hm
  obtain ⟨cs1, rfl, hl1, hc1⟩ := open_arr Try.underlying36 (by kernel_rfl) (by kernel_rfl) (hval 1 36 v1 rfl rfl) h1
  obtain ⟨y1_0, y1_1, rfl⟩ := len2 cs1 hl1
  obtain ⟨a1x0, rfl, w1x0⟩ := open_int_cell Try.underlying35 (hc1 0 _ rfl)
  obtain ⟨a1x1, rfl, w1x1⟩ := open_int_cell Try.underlying35 (hc1 1 _ rfl)
  clear hA0 hval0
  refine (walk a0x0 a0x1 a0x2 a1x0 a1x1 w0x0 w0x1 w0x2 w1x0 w1x1 W).mono fun e W' ⟨he, bel⟩ => ?_
  subst he
  exact ⟨_, rfl, _, _, _, [], _, [], hW', trodAll_mk1 (shut_bool Try.underlying4 _), (trodAll_cons_mk (Below.trod laidOut (by kernel_rfl) (of_decide_eq_true (by kernel_rfl)) k0 bel lt0) (trodAll_cons_mk (Below.trod laidOut (by kernel_rfl) (of_decide_eq_true (by kernel_rfl)) k1 bel lt1) trodAll_mk0)), rfl, bel.frame _, fun h => by cases h⟩

theorem over : Rows.sumPartsRow.holds Try.pinned (OpenSpec.ofChange Rows.sumPartsSpec) :=
  OpenClaim.holds_of_wide 5 Try.f5 rfl rfl rfl rfl rfl rfl rfl ⟨rfl, rfl, rfl, rfl, rfl⟩ rfl rfl rfl rfl rfl (by kernel_rfl) Try.func5 (by kernel_rfl)
    (of_decide_eq_true (by kernel_rfl)) (by unfold Func.isWrapper; first | (rw [if_pos (by decide +kernel)]; kernel_rfl) | (rw [if_neg (by decide +kernel)]; exact ⟨rfl, rfl⟩))
    (fun os started H enc _ => lifted os started H enc)

/-- THE STATEMENT -/
theorem proved : Rows.SumPartsSaid := over
#print axioms proved
end Go.Proofs.Ythpijnaakdchiaa.sumParts
