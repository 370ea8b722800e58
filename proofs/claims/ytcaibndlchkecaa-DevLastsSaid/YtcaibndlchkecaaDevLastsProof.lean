/-
  The law DevLasts holds: what was written is read; what was flushed lasts over a crash, whatever became of the writes since. Conditions: none but the row's own.
-/
import Derived.Test.YtcaibndlchkecaaRows
import Derived.Test.YtcaibndlchkecaaDevL
import Derived.Test.YtcaibndlchkecaaBytes
import Derived.WalkKit
import Derived.ProofKit
import Derived.OpenShut
import Derived.ShutString
import Derived.ChangeOld
import Derived.Below
namespace Go.Proofs.Ytcaibndlchkecaa.devLasts
open Go.ChangeShapes Go.WideShapes Go.ChangeAt Go.RowKit
open Go.ChangeMaps (open_string shut_string)
set_option linter.unusedVariables false

theorem own : ownKnob Try.prog.godebug = none := by kernel_rfl
theorem laidOut : laidOutB Try.prog = true := by kernel_rfl

/-- WHAT THE WALK IS TOLD OF A SLICE OF INTEGERS THAT CAME IN: it is nil; or it leads to a row of 'cap' cells, the numbers 'zs' (the first 'len' are its elements, the rest its spare room), each fitting its kind. -/
def IsRow (k : IntKind) (w : World) (a : Option Addr) (len cap : Nat) (zs : List Int) : Prop :=
  (a = none ∧ len = 0 ∧ cap = 0 ∧ zs = []) ∨
  ∃ x, a = some x ∧ len ≤ cap ∧ cap ≤ maxLen ∧ zs.length = cap ∧ (∀ i, i < zs.length → w.cell? (x.add i) = some (.int k (zs.getD i 0))) ∧ ∀ n ∈ zs, (Lit.int k n).wf = true

theorem isRow_row {k : IntKind} {w : World} {a : Option Addr} {len cap : Nat} {zs : List Int} (h : IsRow k w a len cap zs) :
    Row k w a len (zs.take len) ∧ len ≤ cap ∧ cap ≤ maxLen ∧ (∀ n ∈ zs.take len, (Lit.int k n).wf = true) := by
  rcases h with ⟨rfl, rfl, rfl, rfl⟩ | ⟨x, rfl, hl, hm, hz, hc, hwf⟩
  · exact ⟨⟨rfl, fun h => absurd h (by decide)⟩, Nat.le_refl _, by unfold maxLen; omega, by simp⟩
  · refine ⟨⟨by simp; omega, fun h => ?_⟩, hl, hm, fun n hn => hwf n (List.mem_of_mem_take hn)⟩
    obtain ⟨b, off, spot⟩ := x
    have h0 := hc 0 (by omega)
    have hs : spot = none := by simpa [Addr.add] using World.cell?_spot h0
    subst hs
    refine ⟨b, off, rfl, fun i hi => ?_⟩
    have := hc i (by omega)
    rw [Addr.add_lit] at this
    rw [this]
    simp [List.getD, hi]

theorem walk_wf {zs : List Int} (h : ∀ n ∈ zs, (Lit.int .u64 n).wf = true) : ∀ n ∈ zs, 0 ≤ n ∧ n < 18446744073709551616 := by
  intro n hn
  have := bounds_u64 (h n hn)
  omega
open Go.Proofs.Ytcaibndlchkecaa.Dev
open Go.Maps (int_keyed keyOf_int_mk)
theorem u8_byte {a : Int} (h : (Lit.int .u8 a).wf = true) : ∃ (x : Nat) (b : UInt8), a = x ∧ x < 256 ∧ b.toNat = x := by
  have := bounds_u8 h
  exact ⟨a.toNat, UInt8.ofNat a.toNat, by omega, by omega, by rw [UInt8.toNat_ofNat']; omega⟩
theorem run_min40 (P : Program) (w : World) (t : TypeId) (ts : Array TypeId) (a c : Nat) : (Builtin.min_ ts t #[.int .i64 (a : Nat), .int .i64 (c : Nat)]).run P w = .ok (.int .i64 ((min a c : Nat) : Int)) w := by
  have e : ∀ a b : Nat, (if (b : Int) < a then (b : Int) else a) = ((min a b : Nat) : Int) := by intro a b; split <;> omega
  simp only [Builtin.min_, Builtin.min2, List.foldlM, Sem.run_bind, Sem.run_pure, Result.andThen]
  rw [e]
theorem BRow.two (w : World) (a b : UInt8) (e : TypeId) : BRow (w.alloc (.cells #[.int .u8 a.toNat, .int .u8 b.toNat] e)) w.heap.size [a, b] := by
  refine ⟨fun j hj => ?_, fun j hj => ?_⟩
  · match j, hj with
    | 0, _ => simp
    | 1, _ => simp
  · simp
theorem info_fate : (Try.prog.info? 71).map (fun i => (i.zero, i.size, i.bytes)) = some (some (.int .i64 0), 1, 8) := by kernel_rfl
theorem info_arr : (Try.prog.info? 68).map (·.size) = some 9 := by kernel_rfl
def set9 (w : World) (b : Nat) (f : Nat → ByteArray) : World :=
  ((((((((w.setCell ⟨b, 0, none⟩ (.string (f 0))).setCell ⟨b, 1, none⟩ (.string (f 1))).setCell ⟨b, 2, none⟩ (.string (f 2))).setCell ⟨b, 3, none⟩ (.string (f 3))).setCell ⟨b, 4, none⟩ (.string (f 4))).setCell ⟨b, 5, none⟩ (.string (f 5))).setCell ⟨b, 6, none⟩ (.string (f 6))).setCell ⟨b, 7, none⟩ (.string (f 7))).setCell ⟨b, 8, none⟩ (.string (f 8))
theorem set9_has {w : World} {b : Nat} {t : TypeId} {g : Nat → ByteArray} (h : Has w b t (listG g)) (f : Nat → ByteArray) : Has (set9 w b f) b t (listG f) :=
  ((((((((h.set 0 (.string (f 0))).set 1 (.string (f 1))).set 2 (.string (f 2))).set 3 (.string (f 3))).set 4 (.string (f 4))).set 5 (.string (f 5))).set 6 (.string (f 6))).set 7 (.string (f 7))).set 8 (.string (f 8))
theorem set9_chg (w : World) (b : Nat) (f : Nat → ByteArray) : Chg (fun j => j = b) w (set9 w b f) :=
  (((((((((Chg.refl (fun j => j = b) w).setCell (p := ⟨b, 0, none⟩) (fun _ => (rfl : b = b)) (.string (f 0))).setCell (p := ⟨b, 1, none⟩) (fun _ => (rfl : b = b)) (.string (f 1))).setCell (p := ⟨b, 2, none⟩) (fun _ => (rfl : b = b)) (.string (f 2))).setCell (p := ⟨b, 3, none⟩) (fun _ => (rfl : b = b)) (.string (f 3))).setCell (p := ⟨b, 4, none⟩) (fun _ => (rfl : b = b)) (.string (f 4))).setCell (p := ⟨b, 5, none⟩) (fun _ => (rfl : b = b)) (.string (f 5))).setCell (p := ⟨b, 6, none⟩) (fun _ => (rfl : b = b)) (.string (f 6))).setCell (p := ⟨b, 7, none⟩) (fun _ => (rfl : b = b)) (.string (f 7))).setCell (p := ⟨b, 8, none⟩) (fun _ => (rfl : b = b)) (.string (f 8))
theorem chg_setRow (w : World) (g : Nat) (cs : Array Value) : Chg (fun j => j = g) w (w.setRow g cs) :=
  ⟨rfl, rfl, rfl, by simp [World.setRow], fun i hi hn => by
    simp only [World.setRow, Array.getElem?_modify]
    rw [if_neg (fun e => hn e.symm)]⟩
theorem has_setRow {w : World} {g : Nat} {t : TypeId} {old : List Value} (h : Has w g t old) (cs : List Value) : Has (w.setRow g cs.toArray) g t cs := setRow_heap w g _ _ t _ h
def zeros9 (k : Nat) : List Value := List.replicate k (.string (noughts 128)) ++ List.replicate (9 - k) (.string ⟨#[]⟩)
theorem zeros9_set (k : Nat) (hk : k < 9) : (zeros9 k).set k (.string (noughts 128)) = zeros9 (k + 1) := by
  match k, hk with
  | 0, _ | 1, _ | 2, _ | 3, _ | 4, _ | 5, _ | 6, _ | 7, _ | 8, _ => rfl
theorem zeros9_end : zeros9 9 = listG (mediaG (Dv.fresh 9 128)) := rfl
theorem zeros9_now : zeros9 9 = listG (Dv.fresh 9 128).reads := rfl
theorem zeros9_get : ∀ i, i < 9 → (zeros9 9)[i]? = some (.string (noughts 128))
  | 0, _ => rfl | 1, _ => rfl | 2, _ => rfl | 3, _ => rfl | 4, _ => rfl | 5, _ => rfl | 6, _ => rfl | 7, _ => rfl | 8, _ => rfl
theorem zeros9_at : ∀ k, k < 9 → (zeros9 k)[k]? = some (.string ⟨#[]⟩)
  | 0, _ => rfl | 1, _ => rfl | 2, _ => rfl | 3, _ => rfl | 4, _ => rfl | 5, _ => rfl | 6, _ => rfl | 7, _ => rfl | 8, _ => rfl
theorem st_start {w0 w : World} {p mb b7 : Nat} {z : ByteArray} (h : OwnX w0 p [mb, b7] (Dv.fresh 9 128) w) (h7 : Has w b7 68 (zeros9 9)) (hm : w.ownsMap Try.prog 3 (plainElem (H := Unit) Try.prog 4) mb 0 (.map [])) (hne : mb ≠ b7) (hz : z = noughts 128) :
    St w0 p b7 w.heap.size mb 0 (Dv.fresh 9 128) (w.alloc (.cells #[.string z, .string z, .string z, .string z, .string z, .string z, .string z, .string z, .string z] 68)) := by
  subst hz
  have l7 := h7.lt
  have lm := hm.lt
  exact ⟨(h.new _).sub (by simp), by rw [← zeros9_end]; exact h7.alloc _, by rw [← zeros9_now]; exact Has.new _ _ _, ⟨0, _, Nat.le_refl _, hm.alloc _, Maps.isMap_empty, fun x hx => by cases hx⟩, by omega, hne, by omega, fresh_plain 9 128, rfl, rfl, Nat.le_refl _⟩

/-! ### STEP 1: THE WALK: the Go text returns true, AND WRITES NOTHING THAT WAS THERE: 'Below w.heap.size w w'' (Derived/Below.lean: '.refl', '.alloc', '.drew', '.setCell' at a new block, '.trans'). Open each 'IsRow' by 'rcases' AHEAD of 'go_enter'; part every test ahead of the walk. -/
set_option maxHeartbeats 8000000 in
set_option maxRecDepth 100000 in
theorem walk (a0 : Option Addr) (len0 cap0 : Nat) (z0 : List Int) (a1 : Option Addr) (len1 cap1 : Nat) (z1 : List Int) (w : World) (w0 : IsRow .u8 w a0 len0 cap0 z0) (w1 : IsRow .u8 w a1 len1 cap1 z1) :
    Calls Try.prog 5 #[.slice a0 len0 cap0, .slice a1 len1 cap1] w fun e w' => e = .returned (.bool true) ∧ Below w.heap.size w w' := by
  obtain ⟨hr0, hlc0, hcm0, hwf0⟩ := isRow_row w0
  obtain ⟨hr1, hlc1, hcm1, hwf1⟩ := isRow_row w1
  have R0 := Lib.hid hr0
  have R1 := Lib.hid hr1
  have WF0 := Lib.hid hwf0
  have WF1 := Lib.hid hwf1
  have HZ := Lib.hid (show (⟨(Lib.repeatL (⟨#[0]⟩ : ByteArray).data.toList 128).toArray⟩ : ByteArray) = noughts 128 from rfl)
  obtain ⟨z, hz⟩ : ∃ z, z = noughts 128 := ⟨_, rfl⟩
  rw [← hz] at HZ
  have HZZ := Lib.hid hz
  have hmm := @run_makeMap Try.prog
  clear hr0 hr1 hwf0 hwf1 w0 w1 hz
  unfold maxLen at hcm0 hcm1
  go_enter Try.func5, Try.ntmps5
  go_wp2_with fail
  refine (new_own w _ (Below.refl _ _)).mono ?_
  rintro e w1 ⟨p, rfl, h1⟩
  have H1 := Lib.hid h1
  clear h1
  go_wp2_with fail
  refine (wakes_any _).mono ?_
  rintro e w2 ⟨rfl, hb2⟩
  have H2 := Lib.hid (H1.out.later hb2)
  clear hb2 H1
  go_wp2_with fail
  have hox := (((OwnX.of_own H2.out).new (.cells #[.string ⟨#[]⟩, .string ⟨#[]⟩, .string ⟨#[]⟩, .string ⟨#[]⟩, .string ⟨#[]⟩, .string ⟨#[]⟩, .string ⟨#[]⟩, .string ⟨#[]⟩, .string ⟨#[]⟩] 68)).new (.map #[] 0))
  rw [World.size_alloc] at hox
  have OX := Lib.hid hox
  clear hox H2
  go_loopw [39] (fun i wr => ∃ k : Nat, k ≤ 9 ∧ i = .int .i64 k ∧ Has wr w2.heap.size 68 (zeros9 k) ∧ OwnX w p [w2.heap.size + 1, w2.heap.size] (Dv.fresh 9 128) wr ∧ wr.ownsMap Try.prog 3 (plainElem (H := Unit) Try.prog 4) (w2.heap.size + 1) 0 (.map [])) (fun i _ => 9 - (intOf i).toNat)
  case atStart =>
    refine ⟨0, by decide, rfl, (Has.new w2 (zeros9 0) _).alloc _, OX.out, ?_⟩
    have := World.ownsMap_made (H := Unit) (w2.alloc (.cells #[.string ⟨#[]⟩, .string ⟨#[]⟩, .string ⟨#[]⟩, .string ⟨#[]⟩, .string ⟨#[]⟩, .string ⟨#[]⟩, .string ⟨#[]⟩, .string ⟨#[]⟩, .string ⟨#[]⟩] 68)) Try.prog 3 (plainElem (H := Unit) Try.prog 4)
    rw [World.size_alloc] at this
    exact this
  case round =>
    obtain ⟨k, hk, rfl, h7, hox, hmp⟩ := hrel
    clear OX
    by_cases hlt : k < 9
    · have hki : (k : Int) < 9 := by omega
      have H7 := Lib.hid h7
      have HO := Lib.hid hox
      have HM := Lib.hid hmp
      clear h7 hox hmp
      go_wp2_with fail
      refine (Try.strings_Repeat _ 128 _ (by omega) (show 1 * 128 ≤ _ by omega)).mono ?_
      rintro e w4 ⟨rfl, hb4⟩
      rw [HZ.out]
      have h7' := H7.out.below hb4 H7.out.lt
      have hfz := h7'.frozen k
      have hcz := h7'.cell k
      rw [zeros9_at k hlt] at hcz
      have H7' := Lib.hid h7'
      have HO' := Lib.hid (HO.out.later hb4)
      have HM' := Lib.hid (owns_map_same HM.out (hb4.block _ HM.out.lt))
      clear h7' hb4 H7 HO HM
      go_wp2_with fail
      go_roundw
      case rel =>
        refine ⟨k + 1, by omega, by go_num, ?_, HO'.out.chg ((Chg.refl _ _).setCell (fun _ => by simp) _), owns_map_same HM'.out (Below.heap_setCell _ _ _ _ (by simp))⟩
        rw [← zeros9_set k hlt, ← HZZ.out]; exact H7'.out.set k _
      case measure => simp [intOf]; omega
    · obtain rfl : k = 9 := by omega
      rw [show ((9 : Nat) : Int) = 9 from rfl]
      have c0 := h7.cell 0
      have c1 := h7.cell 1
      have c2 := h7.cell 2
      have c3 := h7.cell 3
      have c4 := h7.cell 4
      have c5 := h7.cell 5
      have c6 := h7.cell 6
      have c7 := h7.cell 7
      have c8 := h7.cell 8
      rw [zeros9_get _ (by decide), ← HZZ.out] at c0 c1 c2 c3 c4 c5 c6 c7 c8
      have HST := Lib.hid (st_start hox h7 hmp (by omega) HZZ.out)
      clear h7 hox hmp hk hlt
      obtain ⟨m, hm⟩ : ∃ m, m = min len0 40 := ⟨_, rfl⟩
      have hmin : ∀ W ts, (Builtin.min_ ts 3 #[.int .i64 (len0 : Nat), .int .i64 40]).run Try.prog W = .ok (.int .i64 (m : Int)) W := by
        intro W ts; rw [hm]; exact run_min40 _ _ _ _ len0 40
      have hml : m ≤ len0 := by omega
      have hml' : m ≤ cap0 := by omega
      have hm40 : m ≤ 40 := by omega
      clear hm
      go_wp2_with fail
      obtain ⟨b10, hb10⟩ : ∃ b, b = wr.heap.size := ⟨_, rfl⟩
      obtain ⟨b7, hb7⟩ : ∃ b, b = w2.heap.size := ⟨_, rfl⟩
      obtain ⟨mb0, hmb0⟩ : ∃ b, b = w2.heap.size + 1 := ⟨_, rfl⟩
      rw [← hb10, ← hmb0, ← hb7] at HST ⊢
      clear hb10 hb7 hmb0 c0 c1 c2 c3 c4 c5 c6 c7 c8 hmin
      go_loopw [8, 53] (fun mv i wr => ∃ (k mb : Nat) (D : Dv), k ≤ m ∧ i = .int .i64 k ∧ mv = .map (some mb) ∧ St w p b7 b10 mb k D wr) (fun _ i _ => m - (intOf i).toNat)
      case atStart => exact ⟨0, _, _, Nat.zero_le _, rfl, rfl, HST.out⟩
      case round =>
        obtain ⟨k, mb, D, hk, rfl, rfl, hst⟩ := hrel
        clear HST
        have HS := Lib.hid hst
        clear hst
        by_cases hlt : k < m
        · have hkm : (k : Int) < (m : Int) := by omega
          obtain ⟨fb, fo, rfl, hcells⟩ := R0.out.2 (by omega)
          obtain ⟨x, bx, hx, hx2, hbx⟩ := u8_byte (WF0.out ((List.take len0 z0).getD k 0) (by
            rw [List.getD_eq_getElem?_getD, List.getElem?_eq_getElem (by rw [R0.out.1]; omega)]; exact List.getElem_mem _))
          have hcw := hcells k (by omega)
          rw [hx] at hcw
          have hc : wr.cell? ⟨fb, fo + k, none⟩ = some (.int .u8 (x : Nat)) := (HS.out.own.below.cell (p := ⟨fb, fo + k, none⟩) (World.block_lt_of_cell? w _ hcw)).trans hcw
          have mx : ((x : Nat) : Int).tmod 9 = ((x % 9 : Nat) : Int) := by rw [Int.tmod_eq_emod_of_nonneg (by omega)]; rfl
          have vx : IntKind.i64.wrap ((x : Nat) : Int) = ((x : Nat) : Int) := by rw [IntKind.wrap_i64]; omega
          have HX := Lib.hid (And.intro hx2 hbx)
          clear hcells hcw hx hx2 hbx
          obtain ⟨q, hq⟩ : ∃ q, q = x % 9 := ⟨_, rfl⟩
          have hq9 : q < 9 := by omega
          have hqi : (q : Int) < 9 := by omega
          obtain ⟨bk, hbk⟩ : ∃ bk : UInt8, bk.toNat = k := ⟨UInt8.ofNat k, by rw [UInt8.toNat_ofNat']; omega⟩
          have hcv := run_string_brow (wr.alloc (.cells #[.int .u8 bx.toNat, .int .u8 bk.toNat] 5)) wr.heap.size 2 2 [bx, bk] (BRow.two wr bx bk _) rfl
          rw [HX.out.2, hbk] at hcv
          rw [← hq] at mx
          have EQ := Lib.hid (show ((x : Int) % 9) = (q : Int) by omega)
          clear hq hbk
          go_wp2_with fail
          · clear hcv mx vx hc
            refine (flush_x HS.out.own (HS.out.few9 (by omega))).mono ?_
            rintro e w3 ⟨rfl, ho3, hs3⟩
            rw [HS.out.plain.flushE]
            have n3 := HS.out.now.same (hs3 b10 (by simp))
            have o3 := HS.out.old.same (hs3 b7 (by simp))
            have d0 := n3.cell 0
            have d1 := n3.cell 1
            have d2 := n3.cell 2
            have d3 := n3.cell 3
            have d4 := n3.cell 4
            have d5 := n3.cell 5
            have d6 := n3.cell 6
            have d7 := n3.cell 7
            have d8 := n3.cell 8
            rw [listG_get _ _ (by decide)] at d0 d1 d2 d3 d4 d5 d6 d7 d8
            have g0 : (w3.alloc (.map #[] 0)).cell? ⟨b7, 0, none⟩ = some (.string (mediaG D 0)) := (o3.alloc (.map #[] 0)).cell 0
            have f0 : (w3.alloc (.map #[] 0)).frozen? ⟨b7, 0, none⟩ = false := (o3.alloc (.map #[] 0)).frozen 0
            have g1 : (w3.alloc (.map #[] 0)).cell? ⟨b7, 1, none⟩ = some (.string (mediaG D 1)) := (o3.alloc (.map #[] 0)).cell 1
            have f1 : (w3.alloc (.map #[] 0)).frozen? ⟨b7, 1, none⟩ = false := (o3.alloc (.map #[] 0)).frozen 1
            have g2 : (w3.alloc (.map #[] 0)).cell? ⟨b7, 2, none⟩ = some (.string (mediaG D 2)) := (o3.alloc (.map #[] 0)).cell 2
            have f2 : (w3.alloc (.map #[] 0)).frozen? ⟨b7, 2, none⟩ = false := (o3.alloc (.map #[] 0)).frozen 2
            have g3 : (w3.alloc (.map #[] 0)).cell? ⟨b7, 3, none⟩ = some (.string (mediaG D 3)) := (o3.alloc (.map #[] 0)).cell 3
            have f3 : (w3.alloc (.map #[] 0)).frozen? ⟨b7, 3, none⟩ = false := (o3.alloc (.map #[] 0)).frozen 3
            have g4 : (w3.alloc (.map #[] 0)).cell? ⟨b7, 4, none⟩ = some (.string (mediaG D 4)) := (o3.alloc (.map #[] 0)).cell 4
            have f4 : (w3.alloc (.map #[] 0)).frozen? ⟨b7, 4, none⟩ = false := (o3.alloc (.map #[] 0)).frozen 4
            have g5 : (w3.alloc (.map #[] 0)).cell? ⟨b7, 5, none⟩ = some (.string (mediaG D 5)) := (o3.alloc (.map #[] 0)).cell 5
            have f5 : (w3.alloc (.map #[] 0)).frozen? ⟨b7, 5, none⟩ = false := (o3.alloc (.map #[] 0)).frozen 5
            have g6 : (w3.alloc (.map #[] 0)).cell? ⟨b7, 6, none⟩ = some (.string (mediaG D 6)) := (o3.alloc (.map #[] 0)).cell 6
            have f6 : (w3.alloc (.map #[] 0)).frozen? ⟨b7, 6, none⟩ = false := (o3.alloc (.map #[] 0)).frozen 6
            have g7 : (w3.alloc (.map #[] 0)).cell? ⟨b7, 7, none⟩ = some (.string (mediaG D 7)) := (o3.alloc (.map #[] 0)).cell 7
            have f7 : (w3.alloc (.map #[] 0)).frozen? ⟨b7, 7, none⟩ = false := (o3.alloc (.map #[] 0)).frozen 7
            have g8 : (w3.alloc (.map #[] 0)).cell? ⟨b7, 8, none⟩ = some (.string (mediaG D 8)) := (o3.alloc (.map #[] 0)).cell 8
            have f8 : (w3.alloc (.map #[] 0)).frozen? ⟨b7, 8, none⟩ = false := (o3.alloc (.map #[] 0)).frozen 8
            have HO3 := Lib.hid ho3
            have HS3 := Lib.hid hs3
            have HN3 := Lib.hid n3
            have HOLD3 := Lib.hid o3
            clear ho3 hs3 n3 o3
            go_wp2_with fail
            have ho4 := HOLD3.out.alloc (.map #[] 0)
            have HR := Lib.hid (HS.out.flush HO3.out HS3.out (set9_chg _ b7 D.reads) (set9_has ho4 D.reads))
            clear ho4 HO3 HS3 HN3 HOLD3
            go_wp2_with fail
            go_roundw
            case rel => exact ⟨k + 1, w3.heap.size, D.flushD, by omega, by go_num, rfl, HR.out⟩
            case measure => simp [intOf]; omega
          · refine (full_any (strOf [bx, bk]) _ (by rw [strOf_size]; simp)).mono ?_
            rintro e w3 ⟨rfl, hb3⟩
            obtain ⟨s, hs⟩ : ∃ s, s = fullN (strOf [bx, bk]) := ⟨_, rfl⟩
            rw [← hs]
            have SZ := Lib.hid (show s.size = 128 by rw [hs]; exact fullN_size _)
            have st3 := HS.out.later (((Below.refl wr.heap.size wr).alloc (Nat.le_refl _) _).trans (hb3.mono (by simp)))
            have c3 := st3.cell10 q hq9
            have f3 := st3.now.frozen q
            have hqw : (Lit.int .i64 (q : Nat)).wf = true := by
              simp only [Lit.wf, Bool.and_eq_true, decide_eq_true_eq, show IntKind.i64.min = -9223372036854775808 from rfl, show IntKind.i64.max = 9223372036854775807 from rfl]
              omega
            have HQ := Lib.hid hqw
            have S3 := Lib.hid st3
            obtain ⟨n, M, hn, hm, hk2⟩ := st3.map
            have HK2 := Lib.hid hk2
            have HN := Lib.hid (show n < maxLen by unfold maxLen; omega)
            have hm3 : (w3.setCell ⟨b10, q, none⟩ (.string s)).ownsMap Try.prog 3 (plainElem (H := Unit) Try.prog 4) mb n M := owns_map_same hm (Below.heap_setCell _ _ _ _ (fun e => st3.ne3 e))
            have HM3 := Lib.hid hm3
            clear hcv mx vx hc hb3 hs hqw st3 hk2 hm hm3
            go_wp2_with (at_mapUpdate; go_loud (refine wpList_mapUpdate_own _ rfl _ _ _ 69 rfl 3 4 (int_keyed Try.underlying3) Try.underlying69 (plainElem (H := Unit) Try.prog 4) mb n M rfl HM3.out HN.out _ _ (.int .i64 (q : Nat)) rfl rfl (keyOf_int_mk Try.underlying3 HQ.out) (.lit (.bool true)) [] (plainElem_bool Try.underlying4 true) ?_))
            intro w4 hown4 hgrow4
            have ch : Chg (fun j => j ∈ [mb, b10, b7]) w3 w4 := ((Chg.refl _ w3).setCell (p := ⟨b10, q, none⟩) (fun _ => by simp) (.string s)).grown hgrow4 (fun j _ e => by cases e; simp)
            have l7 := S3.out.old.lt
            have l10 := S3.out.now.lt
            have h74 : Has w4 b7 68 (listG (mediaG D)) := (S3.out.old.setOther (a := ⟨b10, q, none⟩) (fun e => S3.out.ne1 e.symm) (.string s)).same (hgrow4.block b7 (by simpa using l7) (fun e => S3.out.ne2 (Option.some.inj e).symm))
            have h104 : Has w4 b10 68 ((listG D.reads).set q (.string s)) := (S3.out.now.set q (.string s)).same (hgrow4.block b10 (by simpa using l10) (fun e => S3.out.ne3 (Option.some.inj e).symm))
            have c4 := h104.cell q
            rw [List.getElem?_set_self (by show q < 9; exact hq9)] at c4
            have H74 := Lib.hid h74
            have H104 := Lib.hid h104
            have HO4 := Lib.hid (S3.out.own.chg (w' := w4) ch)
            have HM4 := Lib.hid (show ∃ n M, n ≤ k ∧ Dev.Mark M D ∧ w4.ownsMap Try.prog 3 (plainElem (H := Unit) Try.prog 4) mb (n + 1) (M.put (.int .i64 (q : Nat)) (.lit (.bool true))) from ⟨n, M, hn, HK2.out, hown4⟩)
            clear ch h74 h104 hown4 hgrow4 l7 l10 c3 f3 hn
            go_wp2_with fail
            refine (write_x (q : Nat) s HO4.out (HS.out.few9 (by omega)) (by rw [SZ.out]; decide)).mono ?_
            rintro e w5 ⟨rfl, ho5, hs5⟩
            rw [HS.out.plain.writeE q s (by rw [HS.out.n9]; exact hq9) (SZ.out.trans HS.out.size.symm)]
            have HR := Lib.hid (HS.out.write (w1 := wr) q hq9 s SZ.out ho5 hs5 H74.out H104.out HM4.out)
            clear ho5 hs5 c4 H74 H104 HO4 HM4
            go_wp2_with fail
            go_roundw
            case rel => exact ⟨k + 1, mb, D.writeD (q : Nat) s, by omega, by go_num, rfl, HR.out⟩
            case measure => simp [intOf]; omega
        · obtain rfl : k = m := by omega
          go_wp2_with fail
          go_loopw [87] (fun i wr => ∃ (j : Nat) (D : Dv), j ≤ 9 ∧ i = .int .i64 j ∧ St w p b7 b10 mb k D wr) (fun i _ => 9 - (intOf i).toNat)
          case atStart => exact ⟨0, D, Nat.zero_le _, rfl, HS.out⟩
          case round =>
            clear HS
            obtain ⟨j, E, hj, rfl, hst⟩ := hrel
            have HS := Lib.hid hst
            clear hst
            by_cases hlt3 : j < 9
            · have hji : (j : Int) < 9 := by omega
              go_wp2_with fail
              refine (read_x (j : Nat) HS.out.own (HS.out.few9 (by omega))).mono ?_
              rintro e w3 ⟨rfl, ho3, hs3⟩
              rw [HS.out.plain.readT j (by rw [HS.out.n9]; exact hlt3), HS.out.plain.readE j (by rw [HS.out.n9]; exact hlt3)]
              have S3 := Lib.hid (HS.out.read j hlt3 ho3 hs3)
              have eR := HS.out.plain.readD j (by rw [HS.out.n9]; exact hlt3)
              have c10 : w3.cell? ⟨b10, j, none⟩ = some (.string (E.reads j)) := by rw [S3.out.cell10 j hlt3, eR]; rfl
              have c7 : w3.cell? ⟨b7, j, none⟩ = some (.string (mediaG E j)) := by rw [S3.out.cell7 j hlt3, eR]; rfl
              have hmed : mediaN (E.readD (j : Nat)) (j : Nat) = mediaG E j := by rw [mediaN_eq _ _ (by rw [S3.out.n9]; exact hlt3), eR]; rfl
              have HMED := Lib.hid hmed
              obtain ⟨tr, htr⟩ : ∃ t, t = E.reads j := ⟨_, rfl⟩
              obtain ⟨tm, htm⟩ : ∃ t, t = mediaG E j := ⟨_, rfl⟩
              rw [← htr] at c10 ⊢
              rw [← htm] at c7 HMED
              clear eR hmed htr htm ho3 hs3 HS
              go_upto_region 29 with fail
              go_quiet ((go_at_call 29; exact Calls.quiet_of_same ((media_x (j : Nat) (S3.out.own.drewN _)).mono fun e w' ⟨he, hw⟩ => ⟨by rw [he, HMED.out], hw.symm⟩)))
              go_wp2_with fail
              go_roundw
              case rel =>
                exact ⟨j + 1, E.readD (j : Nat), by omega, by go_num, S3.out.drewN nq⟩
              case measure => simp [intOf]; omega
            · obtain rfl : j = 9 := by omega
              rw [show ((9 : Nat) : Int) = 9 from rfl]
              obtain ⟨m1, hm1⟩ : ∃ m, m = min len1 40 := ⟨_, rfl⟩
              have hmin : ∀ W ts, (Builtin.min_ ts 3 #[.int .i64 (len1 : Nat), .int .i64 40]).run Try.prog W = .ok (.int .i64 (m1 : Int)) W := by
                intro W ts; rw [hm1]; exact run_min40 _ _ _ _ len1 40
              have hml1 : m1 ≤ len1 := by omega
              have hml1' : m1 ≤ cap1 := by omega
              have hm140 : m1 ≤ 40 := by omega
              clear hm1
              obtain ⟨wc, hwc⟩ : ∃ wc, wc = wr := ⟨_, rfl⟩
              subst hwc
              go_wp2_with fail
              clear hmin
              go_loopw [17, 121] (fun v i wr => ∃ (t : Nat) (fs : List Int), t ≤ m1 ∧ i = .int .i64 t ∧ wr.ownsRow wc.heap.size 71 1 v t (fs.map (Value.int .i64)) ∧ (∀ f ∈ fs, f ≤ 9223372036854775807) ∧ Below wc.heap.size wc wr) (fun _ i _ => m1 - (intOf i).toNat)
              case atStart => exact ⟨0, [], Nat.zero_le _, rfl, World.ownsRow_nil _ _ _ _, (fun f hf => by cases hf), Below.refl _ _⟩
              case round =>
                obtain ⟨t, fs, ht, rfl, hown, hfb, hbel⟩ := hrel
                by_cases hlt4 : t < m1
                · have hti : (t : Int) < (m1 : Int) := by omega
                  obtain ⟨fb, fo, rfl, hcells⟩ := R1.out.2 (by omega)
                  obtain ⟨y, b1, hy, hy2, _⟩ := u8_byte (WF1.out ((List.take len1 z1).getD t 0) (by
                    rw [List.getD_eq_getElem?_getD, List.getElem?_eq_getElem (by rw [R1.out.1]; omega)]; exact List.getElem_mem _))
                  have hcw := hcells t (by omega)
                  rw [hy] at hcw
                  have hlw := World.block_lt_of_cell? w _ hcw
                  have hc : wr.cell? ⟨fb, fo + t, none⟩ = some (.int .u8 (y : Nat)) := by
                    rw [hbel.cell (p := ⟨fb, fo + t, none⟩) (Nat.lt_of_lt_of_le hlw HS.out.own.below.size)]
                    exact (HS.out.own.below.cell (p := ⟨fb, fo + t, none⟩) hlw).trans hcw
                  obtain ⟨f, hf⟩ : ∃ f, f = y % 3 := ⟨_, rfl⟩
                  have my : ((y : Nat) : Int).tmod 3 = (f : Int) := by rw [Int.tmod_eq_emod_of_nonneg (by omega), hf]; rfl
                  have hf3 : f < 3 := by omega
                  have vf : IntKind.u8.wrap (f : Int) = (f : Int) := by rw [IntKind.wrap_u8']; omega
                  have vf2 : IntKind.i64.wrap (f : Int) = (f : Int) := by rw [IntKind.wrap_i64]; omega
                  obtain ⟨i0, hi, hz0, hz1, hz2⟩ := info_parts info_fate
                  have hsz := hbel.size
                  clear hcells hcw hy hy2 hf hlw
                  go_wp2_with (at_builtin; refine wpList_append_own _ rfl _ _ 55 rfl wc.heap.size 71 i0 (.int .i64 0) 1 8 Try.underlying55 hi hz0 hz1 hz2 rfl (by decide) _ _ _ rfl (hown.alloc _) ⟨wr.heap.size, 0, none⟩ 1 1 [.int .i64 (f : Nat)] rfl rfl ?c1 ?c2 ?c3 ?c4 ?c5 ?_)
                  case c1 =>
                    intro j u hj
                    match j, hj with
                    | 0, hj => simp at hj; subst hj; simp [Addr.add]
                  case c2 => intro u hu; simp at hu; subst hu; rfl
                  case c3 => unfold maxLen; omega
                  case c4 => omega
                  case c5 => simp; omega
                  intro v' wn hown' hgrow _
                  have HB' := Lib.hid (show Below wc.heap.size wc wn from (hbel.alloc (by omega) _).grown hgrow (by simp; omega) (fun q hq => (hown.lt q hq).1))
                  have HO' := Lib.hid hown'
                  clear hown' hgrow hown hbel my vf vf2 hc
                  go_wp2_with fail
                  go_roundw
                  case rel => exact ⟨t + 1, fs ++ [(f : Int)], by omega, by go_num, by rw [List.map_append]; exact HO'.out, (fun g hg => by
                    rcases List.mem_append.1 hg with hg | hg
                    · exact hfb g hg
                    · rw [List.mem_singleton.1 hg]; omega), HB'.out⟩
                  case measure => simp [intOf]; omega
                · obtain rfl : t = m1 := by omega
                  have HOW := Lib.hid hown
                  have HBE := Lib.hid hbel
                  have HFB := Lib.hid hfb
                  clear hown hbel hfb
                  go_wp2_with fail
                  refine (crash_x _ t fs HS.out.own HBE.out HOW.out (by omega) (HS.out.few9 (by omega)) HFB.out).mono ?_
                  rintro e w3 ⟨rfl, ho3, hs3⟩
                  have HA := Lib.hid (HS.out.crash fs ho3 hs3)
                  clear ho3 hs3 HOW HBE HFB HS
                  go_wp2_with fail
                  go_loopw [135] (fun i wr => ∃ (j : Nat) (G : Dv), j ≤ 9 ∧ i = .int .i64 j ∧ Af w p b7 mb (mediaG E) G wr) (fun i _ => 9 - (intOf i).toNat)
                  case atStart => exact ⟨0, E.crashD fs, Nat.zero_le _, rfl, HA.out⟩
                  case round =>
                    clear HA
                    obtain ⟨j, G, hj, rfl, haf⟩ := hrel
                    have HA := Lib.hid haf
                    clear haf
                    by_cases hlt5 : j < 9
                    · have hji : (j : Int) < 9 := by omega
                      go_wp2_with fail
                      refine (read_x (j : Nat) HA.out.own (by rw [HA.out.bare]; exact Nat.zero_le _)).mono ?_
                      rintro e w4 ⟨rfl, ho4, hs4⟩
                      rw [HA.out.plain.readT j (by rw [HA.out.n9]; exact hlt5), HA.out.plain.readE j (by rw [HA.out.n9]; exact hlt5)]
                      have S4 := Lib.hid (HA.out.read j hlt5 ho4 hs4)
                      have eR := HA.out.plain.readD j (by rw [HA.out.n9]; exact hlt5)
                      obtain ⟨c, hlook, hc⟩ := S4.out.look j hlt5
                      have hc' : c = false → G.reads j = mediaG E j := fun e => by rw [← hc e, eR]; rfl
                      have c7 := S4.out.cell7 j hlt5
                      obtain ⟨tr, htr⟩ : ∃ t, t = G.reads j := ⟨_, rfl⟩
                      obtain ⟨tm, htm⟩ : ∃ t, t = mediaG E j := ⟨_, rfl⟩
                      rw [← htm] at c7 hc'
                      rw [← htr] at hc' ⊢
                      clear eR hc htr htm ho4 hs4 HA
                      cases c
                      · obtain rfl := hc' rfl
                        clear hc'
                        go_wp2_with fail
                        go_roundw
                        case rel => exact ⟨j + 1, G.readD (j : Nat), by omega, by go_num, S4.out⟩
                        case measure => simp [intOf]; omega
                      · clear hc'
                        go_wp2_with fail
                        go_roundw
                        case rel => exact ⟨j + 1, G.readD (j : Nat), by omega, by go_num, S4.out⟩
                        case measure => simp [intOf]; omega
                    · obtain rfl : j = 9 := by omega
                      have HB := Lib.hid HA.out.own.below
                      clear HA
                      go_wp2_with fail
                      go_ret
                      exact ⟨rfl, HB.out⟩

/-! ### THE ROW's STEP: WRITTEN OUT: LEAVE IT -/
set_option maxRecDepth 100000 in
theorem lifted (os : Os) (started : os.Started) (H : Type) (enc : TypeId × Value → H) :
    ReturnsInHanded {} Try.checked os 5 .any (Rows.devLastsSpec.pre6 enc Try.prog Try.f5 Rows.devLastsRow.domain false) (Rows.devLastsSpec.post enc Try.prog Try.f5 false true false false) := by
  refine returnsInHanded_of_change (C := Try.checked) own started (by kernel_rfl) Try.func5
    (ChangeSpec.witness6 (enc := enc) (C := Try.checked) false ⟨#[], #[.slice none 0 0, .slice none 0 0], []⟩ 8 (by kernel_rfl) (by kernel_rfl) (by kernel_rfl) (by kernel_rfl)) ?_
  intro W base args ds gs before hval0 hW hcnd _
  have hval : ∀ (j : Nat) t v, Try.f5.params[j]? = some t → args[j]? = some v → Value.okWide Try.prog W .any base t v := hval0
  have hW' := hW
  obtain ⟨p, q, hA0, hV, rfl, hfz, hnd⟩ := hW
  have hA : DataW.TrodAll enc Try.prog W 0 (fun _ => true) true Try.f5.params.toList args.toList ds p := hA0
  rw [Try.params5] at hA hval
  obtain ⟨v0, vs0, d0, ds0, p0, q0, hargs, rfl, rfl, h0, r0⟩ := trodAll_cons hA
  obtain ⟨v1, vs1, d1, ds1, p1, q1, rfl, rfl, rfl, h1, r1⟩ := trodAll_cons r0
  obtain ⟨rfl, rfl, rfl⟩ := trodAll_nil r1
  obtain rfl : args = #[v0, v1] := by cases args; simp_all
  obtain ⟨rfl, rfl⟩ := trodVars_none hV
  obtain ⟨a0, len0, cap0, rfl⟩ := okWide_slice Try.underlying67 (hval 0 67 v0 rfl rfl)
  have k0 := h0
  have lt0 : ∀ x ∈ p0, x.block < W.heap.size := by obtain ⟨m, hm⟩ := k0; exact DataW.trod_lt m _ _ _ hm
  obtain ⟨z0, w0⟩ : ∃ zs, IsRow .u8 W a0 len0 cap0 zs := by
    obtain ⟨fuel, hf⟩ := h0
    rcases open_ints Try.underlying67 Try.underlying5 (by kernel_rfl) hf with ⟨hcs, _⟩ | ⟨x, l, c, zs, hcs, _, hl, hm, hz, _, hcell, hwz⟩
    · simp [Value.cells] at hcs
      obtain ⟨rfl, rfl, rfl⟩ := hcs
      exact ⟨[], .inl ⟨rfl, rfl, rfl, rfl⟩⟩
    · simp [Value.cells] at hcs
      obtain ⟨rfl, rfl, rfl⟩ := hcs
      exact ⟨zs, .inr ⟨_, rfl, hl, hm, by simpa using hz, hcell, hwz⟩⟩
  obtain ⟨a1, len1, cap1, rfl⟩ := okWide_slice Try.underlying67 (hval 1 67 v1 rfl rfl)
  have k1 := h1
  have lt1 : ∀ x ∈ p1, x.block < W.heap.size := by obtain ⟨m, hm⟩ := k1; exact DataW.trod_lt m _ _ _ hm
  obtain ⟨z1, w1⟩ : ∃ zs, IsRow .u8 W a1 len1 cap1 zs := by
    obtain ⟨fuel, hf⟩ := h1
    rcases open_ints Try.underlying67 Try.underlying5 (by kernel_rfl) hf with ⟨hcs, _⟩ | ⟨x, l, c, zs, hcs, _, hl, hm, hz, _, hcell, hwz⟩
    · simp [Value.cells] at hcs
      obtain ⟨rfl, rfl, rfl⟩ := hcs
      exact ⟨[], .inl ⟨rfl, rfl, rfl, rfl⟩⟩
    · simp [Value.cells] at hcs
      obtain ⟨rfl, rfl, rfl⟩ := hcs
      exact ⟨zs, .inr ⟨_, rfl, hl, hm, by simpa using hz, hcell, hwz⟩⟩
  clear hA0 hval0
  refine (walk a0 len0 cap0 z0 a1 len1 cap1 z1 W w0 w1).mono fun e W' ⟨he, bel⟩ => ?_
  subst he
  exact ⟨_, rfl, _, _, _, [], _, [], hW', trodAll_mk1 (shut_bool Try.underlying4 _), (trodAll_cons_mk (Below.trod laidOut (by kernel_rfl) (of_decide_eq_true (by kernel_rfl)) k0 bel lt0) (trodAll_cons_mk (Below.trod laidOut (by kernel_rfl) (of_decide_eq_true (by kernel_rfl)) k1 bel lt1) trodAll_mk0)), rfl, bel.frame _, fun h => by cases h⟩

theorem over : Rows.devLastsRow.holds Try.pinned (OpenSpec.ofChange Rows.devLastsSpec) :=
  OpenClaim.holds_of_wide 5 Try.f5 rfl rfl rfl rfl rfl rfl rfl ⟨rfl, rfl, rfl, rfl, rfl⟩ rfl rfl rfl rfl rfl (by kernel_rfl) Try.func5 (by kernel_rfl)
    (of_decide_eq_true (by kernel_rfl)) (by unfold Func.isWrapper; first | (rw [if_pos (by decide +kernel)]; kernel_rfl) | (rw [if_neg (by decide +kernel)]; exact ⟨rfl, rfl⟩))
    (fun os started H enc _ => lifted os started H enc)

/-- ████ THE STATEMENT ████ -/
theorem proved : Rows.DevLastsSaid := over
#print axioms proved
end Go.Proofs.Ytcaibndlchkecaa.devLasts
