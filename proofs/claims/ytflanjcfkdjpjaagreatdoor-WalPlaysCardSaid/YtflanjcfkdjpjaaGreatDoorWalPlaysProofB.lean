/-
  The law WalPlays holds: whatever is appended, synced and cut, the answers, the numbers and the room are the document's; opened anew it tells just the records since the last Cut. Conditions: none but the row's own.
-/
import Derived.Test.YtflanjcfkdjpjaaGreatDoorRows
import Derived.Test.YtflanjcfkdjpjaaGreatDoorL17
import Derived.Test.YtflanjcfkdjpjaaGreatDoorL16
import Derived.Test.YtflanjcfkdjpjaaGreatDoorCards
import Derived.Test.YtflanjcfkdjpjaaGreatDoorTie
import Derived.WalkKit
import Derived.ProofKit
import Derived.OpenShut
import Derived.ShutString
import Derived.ChangeOld
import Derived.Below
import Derived.Carry
import Derived.Deep.DeepHandedRow

import Derived.Lib.LaidTab
namespace Go.Proofs.YtflanjcfkdjpjaaGreatDoor.walPlays
open Go.ChangeShapes Go.WideShapes Go.ChangeAt Go.RowKit
open Go.Proofs.YtflanjcfkdjpjaaGreatDoor
open Go.ChangeMaps (open_string shut_string)
set_option linter.unusedVariables false

theorem own : ownKnob Tryz.prog.godebug = none := by kernel_rfl
theorem laidOut : laidOutB Tryz.prog = true := by kernel_rfl

/-- the elements of a slice that came in -/
def AR2N1 (w : World) (a : Option Addr) (len : Nat) : Prop := 0 < len → ∃ b off, a = some ⟨b, off, none⟩ ∧ ∀ i, i < len → ∃ (x0 : Int) (x1 : ByteArray) (x2 : ByteArray) (x3 : Int), w.cell? ⟨b, off + (i * 4 + 0), none⟩ = some (.int .u8 x0) ∧ (Lit.int .u8 x0).wf = true ∧ w.cell? ⟨b, off + (i * 4 + 1), none⟩ = some (.string x1) ∧ x1.size ≤ maxLen ∧ w.cell? ⟨b, off + (i * 4 + 2), none⟩ = some (.string x2) ∧ x2.size ≤ maxLen ∧ w.cell? ⟨b, off + (i * 4 + 3), none⟩ = some (.int .u64 x3) ∧ (Lit.int .u64 x3).wf = true
theorem open_AR2N1 {H : Type} {enc : TypeId × Value → H} {w : World} {held : Bool} {c : Value} (h : ∃ m y, DataW.trod enc Tryz.prog w 0 (fun _ => true) held m 42 [c] = some y) :
    ∃ a len cap, c = .slice a len cap ∧ AR2N1 w a len ∧ len ≤ cap ∧ cap ≤ maxLen := by
  obtain ⟨a, len, cap, hc, hl, hm, hx⟩ := open_structs Tryz.underlying42 Tryz.underlying100 (by kernel_rfl) (by kernel_rfl) (by decide) h
  refine ⟨a, len, cap, hc, fun hpos => ?_, hl, hm⟩
  obtain ⟨b, off, ha, hf⟩ := hx hpos
  refine ⟨b, off, ha, fun i hi => ?_⟩
  obtain ⟨v0, hc0, ht0⟩ := hf i hi 0 _ rfl
  obtain ⟨x0, rfl, hw0⟩ := open_int_cell Tryz.underlying5 ht0
  obtain ⟨v1, hc1, ht1⟩ := hf i hi 1 _ rfl
  obtain ⟨x1, rfl, hw1⟩ := open_str_cell Tryz.underlying9 ht1
  obtain ⟨v2, hc2, ht2⟩ := hf i hi 2 _ rfl
  obtain ⟨x2, rfl, hw2⟩ := open_str_cell Tryz.underlying9 ht2
  obtain ⟨v3, hc3, ht3⟩ := hf i hi 3 _ rfl
  obtain ⟨x3, rfl, hw3⟩ := open_int_cell Tryz.underlying22 ht3
  exact ⟨x0, x1, x2, x3, hc0, hw0, hc1, hw1, hc2, hw2, hc3, hw3⟩
/-- the elements of a slice that came in -/
def AR2 (w : World) (a : Option Addr) (len : Nat) : Prop := 0 < len → ∃ b off, a = some ⟨b, off, none⟩ ∧ ∀ i, i < len → ∃ (x0 : Int) (x1 : Option Addr) (x1l x1c : Nat) (x2y0 : Int) (x2y1 : Int) (x3 : Option Addr) (x3l x3c : Nat) (x3z : List Int), w.cell? ⟨b, off + (i * 5 + 0), none⟩ = some (.int .i64 x0) ∧ (Lit.int .i64 x0).wf = true ∧ w.cell? ⟨b, off + (i * 5 + 1), none⟩ = some (.slice x1 x1l x1c) ∧ (AR2N1 w x1 x1l ∧ x1l ≤ x1c ∧ x1c ≤ maxLen) ∧ w.cell? ⟨b, off + (i * 5 + (2 + 0)), none⟩ = some (.int .u8 x2y0) ∧ (Lit.int .u8 x2y0).wf = true ∧ w.cell? ⟨b, off + (i * 5 + (2 + 1)), none⟩ = some (.int .u8 x2y1) ∧ (Lit.int .u8 x2y1).wf = true ∧ w.cell? ⟨b, off + (i * 5 + 4), none⟩ = some (.slice x3 x3l x3c) ∧ (Row .u8 w x3 x3l x3z ∧ x3l ≤ x3c ∧ x3c ≤ maxLen ∧ ∀ n ∈ x3z, (Lit.int .u8 n).wf = true)
theorem open_AR2 {H : Type} {enc : TypeId × Value → H} {w : World} {held : Bool} {c : Value} (h : ∃ m y, DataW.trod enc Tryz.prog w 0 (fun _ => true) held m 24 [c] = some y) :
    ∃ a len cap, c = .slice a len cap ∧ AR2 w a len ∧ len ≤ cap ∧ cap ≤ maxLen := by
  obtain ⟨a, len, cap, hc, hl, hm, hx, hxA⟩ := open_structs_n 5 _ Tryz.underlying24 Tryz.underlying46 (by kernel_rfl) rfl (by kernel_rfl) rfl (by decide) h
  refine ⟨a, len, cap, hc, fun hpos => ?_, hl, hm⟩
  obtain ⟨b, off, ha, hf⟩ := hx hpos
  obtain ⟨bA, offA, haA, hfA⟩ := hxA hpos
  obtain ⟨rfl, rfl⟩ : b = bA ∧ off = offA := by rw [ha] at haA; injection haA with h; injection h with h1 h2; exact ⟨h1, h2⟩
  refine ⟨b, off, ha, fun i hi => ?_⟩
  obtain ⟨v0, hc0, ht0⟩ := hf i hi 0 _ rfl (by kernel_rfl) (by decide)
  obtain ⟨x0, rfl, hw0⟩ := open_int_cell Tryz.underlying3 ht0
  obtain ⟨v1, hc1, ht1⟩ := hf i hi 1 _ rfl (by kernel_rfl) (by decide)
  obtain ⟨x1, x1l, x1c, rfl, hw1⟩ := open_AR2N1 ht1
  obtain ⟨v2y0, hc2y0, ht2y0⟩ := hfA i hi 2 _ 2 5 rfl Tryz.underlying43 (by kernel_rfl) (by kernel_rfl) (by decide) 0 (by decide)
  obtain ⟨x2y0, rfl, hw2y0⟩ := open_int_cell Tryz.underlying5 ht2y0
  obtain ⟨v2y1, hc2y1, ht2y1⟩ := hfA i hi 2 _ 2 5 rfl Tryz.underlying43 (by kernel_rfl) (by kernel_rfl) (by decide) 1 (by decide)
  obtain ⟨x2y1, rfl, hw2y1⟩ := open_int_cell Tryz.underlying5 ht2y1
  obtain ⟨v3, hc3, ht3⟩ := hf i hi 3 _ rfl (by kernel_rfl) (by decide)
  obtain ⟨x3, x3l, x3c, x3z, rfl, hw3⟩ := open_ints_cell Tryz.underlying44 Tryz.underlying5 (by kernel_rfl) ht3
  exact ⟨x0, x1, x1l, x1c, x2y0, x2y1, x3, x3l, x3c, x3z, hc0, hw0, hc1, hw1, hc2y0, hw2y0, hc2y1, hw2y1, hc3, hw3⟩

open Go.Proofs.YtflanjcfkdjpjaaGreatDoor.Wal Go.Proofs.YtflanjcfkdjpjaaGreatDoor.Mir Go.Proofs.YtflanjcfkdjpjaaGreatDoor.Rem Go.Proofs.YtflanjcfkdjpjaaGreatDoor.Dev Go.Proofs.YtflanjcfkdjpjaaGreatDoor.Rec
/-- the updates that came in with an act -/
theorem ars_ur {w : World} {a : Option Addr} {len : Nat} (cap : Nat) (h : AR2N1 w a len) : ∃ l, len = l.length ∧ UR w (.slice a len cap) l ∧ ∀ u ∈ l, (SzU u ∧ WfU u) := by
  refine ur_of (fun u => SzU u ∧ WfU u) fun h0 => ?_
  obtain ⟨b, off, rfl, hx⟩ := h h0
  refine ⟨b, off, rfl, fun i hi => ?_⟩
  obtain ⟨x0, x1, x2, x3, c0, w0, c1, w1, c2, w2, c3, w3⟩ := hx i hi
  have h0 := u8_bd w0
  have h3 := u64_bd w3
  refine ⟨⟨x0, x1.data.toList, x2.data.toList, x3⟩, ⟨⟨?_, ?_⟩, h0.1, h0.2, h3.1, h3.2⟩, up_cells c0 c1 c2 c3⟩
  · show x1.data.toList.length ≤ _
    have : x1.data.toList.length = x1.size := by simp
    unfold maxLen at w1; omega
  · show x2.data.toList.length ≤ _
    have : x2.data.toList.length = x2.size := by simp
    unfold maxLen at w2; omega
/-- what stands between the acts -/
structure PlI (w : World) (u tt mi pa pb : Nat) (k : Nat) (v0 v1 v10 v13 v14 v15 v16 : Value) (wr : World) : Prop where
  all : ∃ Y lb tl mm tb bb q S cc n c r, v0 = .int .u64 (n + ((r.length : Nat) : Int)) ∧ v1 = .int .u32 (chL n c r) ∧ v10 = .pointer (some ⟨lb, 0, none⟩) ∧ v13 = .int .u64 n ∧ v14 = .int .u32 c ∧ KN Y wr v15 r.flatten ∧ v16 = .int .i64 ((r.length : Nat) : Int) ∧
    LW w Y lb tl mm tb bb q (pdOf pa pb) S cc 0 n c r wr ∧ u ∈ Y ∧ tt ∈ Y ∧ (mi = mm ∨ mi ∈ Y) ∧ cc ≤ 100 + 1000 * k ∧ 0 ≤ n ∧ n ≤ 4611686018427387904 + 100 * k ∧ 0 ≤ c ∧ c < 4294967296
  dev : Has wr u 26 [.pointer (some ⟨pa, 0, none⟩), .pointer (some ⟨pb, 0, none⟩)]
  tab : Sum.IsTab wr tt
  rp : wr.cell? ⟨mi, 2, none⟩ = some (.int .i64 0)
theorem rp_keep {w w1 w2 : World} {Y : List Nat} {lb tl mm tb bb q cc mi : Nat} {pd : Nat → Nat} {S : Nat → Sd} {n c : Int} {r : List (List Up)} (h : LW w Y lb tl mm tb bb q pd S cc 0 n c r w2) (hmi : mi = mm ∨ mi ∈ Y) (hs : Rem.Same Y w1 w2) (hrp : w1.cell? ⟨mi, 2, none⟩ = some (.int .i64 0)) : w2.cell? ⟨mi, 2, none⟩ = some (.int .i64 0) := by
  rcases hmi with rfl | hmi
  · exact h.lg.mg.c2
  · exact (Mir.cell_same (hs mi hmi)).trans hrp
theorem PlI.later {w wr w' : World} {u tt mi pa pb k : Nat} {v0 v1 v10 v13 v14 v15 v16 : Value} (h : PlI w u tt mi pa pb k v0 v1 v10 v13 v14 v15 v16 wr) (hb : Below wr.heap.size wr w') : PlI w u tt mi pa pb k v0 v1 v10 v13 v14 v15 v16 w' := by
  obtain ⟨⟨Y, lb, tl, mm, tb, bb, q, S, cc, n, c, r, e0, e1, e10, e13, e14, hkn, e16, hlw, huY, htY, hmi, hrest⟩, hdv, htab, hrp⟩ := h
  have hs : Rem.Same Y wr w' := fun i hi => hb.block i (hlw.lg.y i hi).2
  exact ⟨⟨Y, lb, tl, mm, tb, bb, q, S, cc, n, c, r, e0, e1, e10, e13, e14, hkn.keep hs, e16, hlw.later hb, huY, htY, hmi, hrest⟩, hdv.below hb hdv.lt, htab.below hb (Nat.le_refl _), rp_keep (hlw.later hb) hmi hs hrp⟩
theorem errL_all : ∀ {l : List Up}, errL l = 0 → ∀ u ∈ l, chkU u = 0
  | [], _, u, hu => by cases hu
  | a :: l, h, u, hu => by
    have h : (if chkU a = 0 then errL l else chkU a) = 0 := h
    by_cases e : chkU a = 0
    · rw [if_pos e] at h
      rcases List.mem_cons.1 hu with rfl | hu
      · exact e
      · exact errL_all h u hu
    · rw [if_neg e] at h; exact absurd h e
theorem apE_err {m : List Up} {k : Nat} {C : Int} (h : errP m ≠ 0) : apE m k C = errP m := by
  unfold errP at h ⊢
  unfold apE
  split
  · rfl
  · rename_i h0
    rw [if_neg h0] at h
    rw [if_neg h]
theorem errP_0 {m : List Up} (h : errP m = 0) : m ≠ [] ∧ errL m = 0 ∧ lenP m = ((Rec.txL m).length : Int) := by
  unfold errP at h
  split at h
  · cases h
  · rename_i h0
    refine ⟨h0, h, ?_⟩
    unfold lenP txT
    rw [if_neg h0, if_pos h]
theorem apE_20 {m : List Up} {k : Nat} {C : Int} (h : errP m = 0) (h2 : 154 < lenP m) : apE m k C = 20 := by
  obtain ⟨e1, e2, e3⟩ := errP_0 h
  unfold apE
  rw [if_neg e1, if_pos e2, if_pos (by rw [← e3]; omega)]
theorem apE_11 {m : List Up} {k : Nat} {C : Int} (h : errP m = 0) (h2 : ¬ 154 < lenP m) (h3 : (k : Int) = C) : apE m k C = 11 := by
  obtain ⟨e1, e2, e3⟩ := errP_0 h
  unfold apE
  rw [if_neg e1, if_pos e2, if_neg (by rw [← e3]; omega), if_pos h3]
theorem ok_of {l : List Up} (h : errP (ofL l) = 0) (h2 : ¬ 154 < lenP (ofL l)) (hw : ∀ u ∈ l, WfU u) : OkR 192 (ofL l) := by
  obtain ⟨e1, e2, e3⟩ := errP_0 h
  exact ⟨errL_all e2, ofL_wf hw, by rw [ofL_length]; omega, by omega⟩

/-! ### STEP 1: THE WALK -/
set_option maxHeartbeats 16000000 in
set_option maxRecDepth 100000 in
theorem walk (a0 : Int) (a1 : Int) (a2 : Option Addr) (a2l a2c : Nat) (w : World) (w0 : (Lit.int .u64 a0).wf = true) (w1 : (Lit.int .u32 a1).wf = true) (w2 : AR2 w a2 a2l) (w2l : a2l ≤ a2c) (w2m : a2c ≤ maxLen) :
    Calls Tryz.prog 3 #[.int .u64 a0, .int .u32 a1, .slice a2 a2l a2c] w fun e w' => e = .returned (.bool true) ∧ Below w.heap.size w w' := by
  obtain ⟨hs0, hs1⟩ := u64_bd w0
  obtain ⟨hc0, hc1⟩ := u32_bd w1
  have W2 := Lib.hid w2
  unfold maxLen at w2m
  obtain ⟨N, hN⟩ : ∃ N : Int, N = a0 % 4611686018427387904 := ⟨_, rfl⟩
  have hN0 : 0 ≤ N := by omega
  have hN1 : N < 4611686018427387904 := by omega
  have hmod : a0 % 4611686018427387904 = N := hN.symm
  have hmod' : Int.tmod a0 4611686018427387904 = N := by rw [Int.tmod_eq_emod_of_nonneg hs0, hN]
  have hwN : IntKind.u64.wrap N = N := by rw [IntKind.wrap_u64]; omega
  clear w0 w1 w2 hN hs1
  go_enter Tryz.func3, Tryz.ntmps3
  go_wp2_with fail
  refine (fresh_any w).mono ?_
  rintro e w1 ⟨pa, pb, mi, tb, bb, q, S, rfl, hm, h0, h1⟩
  have HCT := Lib.hid (Ct.new h0 h1 N a1)
  have HM := Lib.hid (hm.new (.cells #[.pointer (some ⟨pa, 0, none⟩), .pointer (some ⟨pb, 0, none⟩)] 26))
  have HD := Lib.hid (Has.new w1 [.pointer (some ⟨pa, 0, none⟩), .pointer (some ⟨pb, 0, none⟩)] 26)
  clear hm h0 h1 hmod hmod' hwN
  obtain ⟨u, hu⟩ : ∃ u, u = w1.heap.size := ⟨_, rfl⟩
  rw [← hu] at HM HD
  go_wp2_with fail
  rw [← hu]
  clear hu
  refine (ring_any _).mono ?_
  rintro e w2 ⟨rfl, hb⟩
  have HM2 := Lib.hid (HM.out.later hb)
  have HD2 := Lib.hid (HD.out.below hb HD.out.lt)
  clear hb HM HD
  go_wp2_with fail
  refine (Open_w HM2.out HCT.out (by decide) hN0 (by omega) hc0 hc1 (by decide) (by decide)).mono ?_
  rintro e w3 ⟨lb, tl, Z, S3, v, rfl, hlw, hrs, hsm⟩
  obtain ⟨va, vc, rfl⟩ : ∃ a c, v = .slice a 0 c := by obtain ⟨a, c, h, _⟩ := hrs; exact ⟨a, c, h⟩
  have HL3 := Lib.hid hlw
  have HD3 := Lib.hid (HD2.out.same (hsm u (by simp)))
  clear hlw hrs hsm HM2 HD2 HCT
  go_wp2_with fail
  refine (wakes_any _).mono ?_
  rintro e w4 ⟨rfl, hb⟩
  have HL4 := Lib.hid (HL3.out.later hb)
  have HD4 := Lib.hid (HD3.out.below hb HD3.out.lt)
  clear hb HL3 HD3
  go_wp2_with fail
  refine (Sum.make_any _).mono ?_
  rintro e w5 ⟨tt, rfl, htb, htab, hb⟩
  have HL5 := Lib.hid (show LW w (tt :: (Z ++ [u])) lb tl mi tb bb q (pdOf pa pb) S3 (4 + 40) 0 N a1 [] w5 from ⟨HL4.out.lg.fresh hb htb (isTab_lt htab), HL4.out.ct⟩)
  have HD5 := Lib.hid (HD4.out.below hb HD4.out.lt)
  have HT5 := Lib.hid htab
  clear hb htb htab HL4 HD4
  obtain ⟨m0, hm0⟩ : ∃ m0, m0 = min a2l 30 := ⟨_, rfl⟩
  have hmin : ∀ W ts, (Builtin.min_ ts 3 #[.int .i64 (a2l : Nat), .int .i64 30]).run Tryz.prog W = .ok (.int .i64 (m0 : Int)) W := by
    intro W ts; rw [hm0]; exact run_minC _ _ _ _ a2l 30
  have hml : m0 ≤ a2l := by omega
  have hml' : m0 ≤ a2c := by omega
  have hm30 : m0 ≤ 30 := by omega
  clear hm0
  go_wp2_with fail
  go_loopw [0, 1, 10, 13, 14, 15, 16, 74] (fun v0 v1 v10 v13 v14 v15 v16 i wr => ∃ k : Nat, k ≤ m0 ∧ i = .int .i64 k ∧ PlI w u tt mi pa pb k v0 v1 v10 v13 v14 v15 v16 wr) (fun _ _ _ _ _ _ _ i _ => m0 - (intOf i).toNat)
  case atStart =>
    exact ⟨0, Nat.zero_le _, rfl, ⟨tt :: (Z ++ [u]), lb, tl, mi, tb, bb, q, S3, 4 + 40, N, a1, [], by simp, rfl, rfl, rfl, rfl, KN.start _ _, rfl, HL5.out, by simp, by simp, .inl rfl, by omega, hN0, by omega, hc0, hc1⟩, HD5.out, HT5.out, HL5.out.lg.mg.c2⟩
  case round =>
    obtain ⟨k, hk, rfl, ⟨Y, lb, tl, mm, tb, bb, q, S, cc, n, c, r, rfl, rfl, rfl, rfl, rfl, hkn, rfl, hlw, huY, htY, hmi, hcc, hn0, hn1, hcb0, hcb1⟩, hdv, htab, hrp⟩ := hrel
    clear HL5 HD5 HT5
    by_cases hlt : k < m0
    · have hki : (k : Int) < (m0 : Int) := by omega
      obtain ⟨ab, ao, rfl, hact⟩ := W2.out (by omega)
      obtain ⟨x0, x1, x1l, x1c, y0, y1, x3, x3l, x3c, x3z, d0, e0, d1, e1, d2, _, d3, _, d4, _⟩ := hact k (by omega)
      have hx0 := bounds_i64 e0
      have hbw := hlw.lg.below
      have c0 : wr.cell? ⟨ab, ao + k * 5, none⟩ = some (.int .i64 x0) := (hbw.cell (World.block_lt_of_cell? _ _ d0)).trans d0
      have c1 : wr.cell? ⟨ab, ao + k * 5 + 1, none⟩ = some (.slice x1 x1l x1c) := (hbw.cell (World.block_lt_of_cell? _ _ d1)).trans d1
      have c2 : wr.cell? ⟨ab, ao + k * 5 + 2, none⟩ = some (.int .u8 y0) := (hbw.cell (World.block_lt_of_cell? _ _ d2)).trans d2
      have c3 : wr.cell? ⟨ab, ao + k * 5 + 3, none⟩ = some (.int .u8 y1) := (hbw.cell (World.block_lt_of_cell? _ _ d3)).trans d3
      have c4 : wr.cell? ⟨ab, ao + k * 5 + 4, none⟩ = some (.slice x3 x3l x3c) := (hbw.cell (World.block_lt_of_cell? _ _ d4)).trans d4
      obtain ⟨l, hll, hul, hql⟩ := ars_ur x1c e1.1
      have HUL := Lib.hid (hul.below hbw)
      have HQL := Lib.hid hql
      have HE1 := Lib.hid e1.2
      have HLL := Lib.hid hll
      obtain ⟨M, hM⟩ : ∃ M : Int, M = if 0 < x0 then x0 else 0 := ⟨_, rfl⟩
      obtain ⟨d, hd⟩ : ∃ d : Nat, (d : Int) = M % 7 := ⟨(M % 7).toNat, by omega⟩
      have hM0 : 0 ≤ M := by rw [hM]; split <;> omega
      have hM1 : (if 0 < x0 then x0 else 0) = M := hM.symm
      have hM2 : max 0 x0 = M := by rw [hM]; split <;> omega
      have hd1 : M % 7 = (d : Int) := hd.symm
      have hd2 : Int.tmod M 7 = (d : Int) := by rw [Int.tmod_eq_emod_of_nonneg hM0, hd]
      have hd7 : d < 7 := by omega
      have HLW := Lib.hid hlw
      have HKN := Lib.hid hkn
      have HUY := Lib.hid huY
      have HTY := Lib.hid htY
      have HMI := Lib.hid hmi
      have HDV := Lib.hid hdv
      have HTB := Lib.hid htab
      have HRP := Lib.hid hrp
      have HNN := Lib.hid (And.intro hn0 hn1)
      have HCB := Lib.hid (And.intro hcb0 hcb1)
      have HX0 := Lib.hid hx0
      clear hlw hkn huY htY hmi hdv htab hrp hact d0 e0 d1 e1 d2 d3 d4 hbw hll hul hql hM hd hn0 hn1 hcb0 hcb1 hx0
      have HLA := Lib.hid (HLW.out.later (Rec.below_new wr (.cells #[.int .i64 x0, .slice x1 x1l x1c, .int .u8 y0, .int .u8 y1, .slice x3 x3l x3c] 46)))
      have HSA := Lib.hid (show Rem.Same Y wr (wr.alloc (.cells #[.int .i64 x0, .slice x1 x1l x1c, .int .u8 y0, .int .u8 y1, .slice x3 x3l x3c] 46)) from fun i hi => Below.heap_alloc _ _ _ (HLW.out.lg.y i hi).2)
      have HAA := Lib.hid (Has.new wr [.int .i64 x0, .slice x1 x1l x1c, .int .u8 y0, .int .u8 y1, .slice x3 x3l x3c] 46)
      have HUA := Lib.hid (HUL.out.below (Rec.below_new wr (.cells #[.int .i64 x0, .slice x1 x1l x1c, .int .u8 y0, .int .u8 y1, .slice x3 x3l x3c] 46)))
      have HKA := Lib.hid (HKN.out.keep HSA.out)
      have HDA := Lib.hid (HDV.out.same (HSA.out u HUY.out))
      have HTA := Lib.hid (Mir.tab_same HTB.out (HSA.out tt HTY.out))
      have HRA := Lib.hid (rp_keep HLA.out HMI.out HSA.out HRP.out)
      have a0' := HAA.out.cell 0
      simp only [List.getElem?_cons_zero] at a0'
      obtain ⟨wa, hwa⟩ : ∃ x, x = wr.alloc (.cells #[.int .i64 x0, .slice x1 x1l x1c, .int .u8 y0, .int .u8 y1, .slice x3 x3l x3c] 46) := ⟨_, rfl⟩
      obtain ⟨ua, hua⟩ : ∃ x, x = wr.heap.size := ⟨_, rfl⟩
      rw [show [Value.int .i64 x0, .slice x1 x1l x1c, .int .u8 y0, .int .u8 y1, .slice x3 x3l x3c].toArray = #[.int .i64 x0, .slice x1 x1l x1c, .int .u8 y0, .int .u8 y1, .slice x3 x3l x3c] from rfl] at HAA
      rw [← hwa] at HLA HSA HUA HKA HDA HTA HRA HAA
      rw [← hua] at HAA
      go_upto_block 2 with fail
      rw [← hwa, ← hua]
      clear a0' hwa hua c0 c1 c2 c3 c4 hM1 hM2 HLW HSA HUL HKN HDV HTB HRP
      obtain ⟨rl, hrl⟩ : ∃ x, x = r.length := ⟨_, rfl⟩
      have HRL := Lib.hid hrl
      rw [← hrl]
      clear hrl
      go_cut [0, 1, 10, 13, 14, 15, 16] from 221 (fun v0 v1 v10 v13 v14 v15 v16 wx => PlI w u tt mi pa pb (k + 1) v0 v1 v10 v13 v14 v15 v16 wx)
      case first =>
        rcases (show d = 4 ∨ d = 5 ∨ d = 6 ∨ (d ≠ 4 ∧ d ≠ 5 ∧ d ≠ 6) by omega) with rfl | rfl | rfl | ⟨hd4, hd5, hd6⟩
        · rw [show ((4 : Nat) : Int) = 4 from rfl]
          go_wp2_with fail
          refine (Sync_w HLA.out (by omega)).mono ?_
          rintro e w6 ⟨rfl, hlw, _, hs⟩
          have HP := Lib.hid (show PlI w u tt mi pa pb (k + 1) (.int .u64 (n + ((r.length : Nat) : Int))) (.int .u32 (chL n c r)) (.pointer (some ⟨lb, 0, none⟩)) (.int .u64 n) (.int .u32 c) u15 (.int .i64 ((r.length : Nat) : Int)) w6 from
            ⟨⟨Y, lb, tl, mm, tb, bb, q, S, cc, n, c, r, rfl, rfl, rfl, rfl, rfl, HKA.out.keep hs, rfl, hlw, HUY.out, HTY.out, HMI.out, by omega, HNN.out.1, by have := HNN.out.2; omega, HCB.out.1, HCB.out.2⟩, HDA.out.same (hs u HUY.out), Mir.tab_same HTA.out (hs tt HTY.out), rp_keep hlw HMI.out hs HRA.out⟩)
          clear hlw hs
          rw [← HRL.out] at HP
          go_wp2
          go_meet
          exact HP.out
        · rw [show ((5 : Nat) : Int) = 5 from rfl]
          have d0 := HDA.out.cell 0
          have d1 := HDA.out.cell 1
          simp only [List.getElem?_cons_zero, List.getElem?_cons_succ] at d0 d1
          go_wp2_with fail
          refine (again2_any HLA.out.lg.mg.cp HLA.out.ct.pl (by omega)).mono ?_
          rintro e w6 ⟨mm2, tb2, bb2, q2, rfl, hm6, hp6, hs⟩
          obtain ⟨Y1, hY1⟩ : ∃ Y1, Y1 = q :: mm :: tb :: bb :: lb :: tl :: Y := ⟨_, rfl⟩
          have hsub : ∀ i ∈ Y, i ∈ Y1 := fun i hi => by rw [hY1]; simp [hi]
          have HMI6 := Lib.hid (show mi ∈ Y1 from by rcases HMI.out with h | h; (rw [h, hY1]; simp); exact hsub _ h)
          have HUY6 := Lib.hid (hsub u HUY.out)
          have HTY6 := Lib.hid (hsub tt HTY.out)
          have hsY : Rem.Same Y wa w6 := fun i hi => hs i (by simp [hi])
          have HK6 := Lib.hid ((HKA.out.keep hsY).mono hsub)
          have HD6 := Lib.hid (HDA.out.same (hs u (by simp [HUY.out])))
          have HT6 := Lib.hid (Mir.tab_same HTA.out (hs tt (by simp [HTY.out])))
          have HR6 := Lib.hid (show w6.cell? ⟨mi, 2, none⟩ = some (.int .i64 0) from (Mir.cell_same (a := ⟨mi, 2, none⟩) (hs mi (by rcases HMI.out with h | h; (rw [h]; simp); simp [h]))).trans HRA.out)
          rw [← hY1] at hm6
          have HM6 := Lib.hid hm6
          have HCT := Lib.hid HLA.out.ct
          have hlen := HLA.out.len
          clear hm6 hp6 hs hY1 hsub hsY d0 d1 HKA HDA HTA HRA
          go_wp2_with fail
          refine (ring_any _).mono ?_
          rintro e w7 ⟨rfl, hb⟩
          have HM7 := Lib.hid (HM6.out.later hb)
          have hs7 : Rem.Same Y1 w6 w7 := fun i hi => hb.block i (HM6.out.y i hi).2
          have HK7 := Lib.hid (HK6.out.keep hs7)
          have HD7 := Lib.hid (HD6.out.below hb HD6.out.lt)
          have HT7 := Lib.hid (HT6.out.below hb (Nat.le_refl _))
          have HR7 := Lib.hid ((Mir.cell_same (a := ⟨mi, 2, none⟩) (hs7 mi HMI6.out)).trans HR6.out)
          clear hb hs7 HM6 HK6 HD6 HT6 HR6
          go_wp2_with fail
          refine (Open_w HM7.out HCT.out hlen HNN.out.1 (by have := HNN.out.2; omega) HCB.out.1 HCB.out.2 (by omega) (by omega)).mono ?_
          rintro e w8 ⟨lb2, tl2, Z2, S8, v8, rfl, hlw, hrs, hs⟩
          obtain ⟨va8, vc8, rfl⟩ : ∃ a c, v8 = .slice a r.length c := by obtain ⟨a, c, h, _⟩ := hrs; exact ⟨a, c, h⟩
          have HL8 := Lib.hid hlw
          have HRS8 := Lib.hid hrs
          have HK8 := Lib.hid (HK7.out.keep hs)
          have HD8 := Lib.hid (HD7.out.same (hs u HUY6.out))
          have HT8 := Lib.hid (Mir.tab_same HT7.out (hs tt HTY6.out))
          have HR8 := Lib.hid ((Mir.cell_same (a := ⟨mi, 2, none⟩) (hs mi HMI6.out)).trans HR7.out)
          have HFL := Lib.hid (flatten_le (m := 1000) (fun l hl => (hlw.ct.both.ok l hl).len))
          have HNE := Lib.hid hlw.ct.ne
          clear hlw hrs hs HM7 HK7 HD7 HT7 HR7 HCT
          rw [← HRL.out]
          have hlen' : rl ≤ 5 := by have := HRL.out; omega
          have HFL2 := Lib.hid (show r.flatten.length ≤ 1000000 from by have := HFL.out; omega)
          go_wp2_with fail
          refine (flat_any (by rw [HRL.out]; exact HRS8.out) (by omega) HNE.out HFL2.out).mono ?_
          rintro e w9 ⟨v9, rfl, hra9, hb9⟩
          have HB9 := Lib.hid hb9
          have HU9 := Lib.hid (UR.of_own hra9)
          clear hra9 hb9
          go_wp2_with fail
          refine (head_any HU9.out (HK8.out.ur.ur.below HB9.out) HFL2.out).mono ?_
          rintro e w10 ⟨rfl, hb⟩
          have HB10 := Lib.hid (Rec.below_on HB9.out hb)
          clear hb
          go_wp2_with fail
          refine (flat_any (by rw [HRL.out]; exact HRS8.out.below HB10.out) (by omega) HNE.out HFL2.out).mono ?_
          rintro e w11 ⟨v11, rfl, hra11, hb⟩
          have HB11 := Lib.hid (Rec.below_on HB10.out hb)
          have HU11 := Lib.hid (UR.of_own hra11)
          clear hra11 hb
          go_wp2_with fail
          refine (head_any (HK8.out.ur.ur.below HB11.out) HU11.out HFL2.out).mono ?_
          rintro e w12 ⟨rfl, hb⟩
          have HB12 := Lib.hid (Rec.below_on HB11.out hb)
          clear hb
          have HP := Lib.hid (show PlI w u tt mi pa pb (k + 1) (.int .u64 (n + ((r.length : Nat) : Int))) (.int .u32 (chL n c r)) (.pointer (some ⟨lb2, 0, none⟩)) (.int .u64 n) (.int .u32 c) u15 (.int .i64 ((r.length : Nat) : Int)) w8 from
            ⟨⟨Z2 ++ Y1, lb2, tl2, mm2, tb2, bb2, q2, S8, cc + 40, n, c, r, rfl, rfl, rfl, rfl, rfl, HK8.out.mono (fun i hi => by simp [hi]), rfl, HL8.out, by simp [HUY6.out], by simp [HTY6.out], .inr (by simp [HMI6.out]), by omega, HNN.out.1, by have := HNN.out.2; omega, HCB.out.1, HCB.out.2⟩, HD8.out, HT8.out, HR8.out⟩)
          have HP12 := Lib.hid (HP.out.later HB12.out)
          rw [← HRL.out] at HP12
          go_wp2
          go_meet
          exact HP12.out
        · rw [show ((6 : Nat) : Int) = 6 from rfl]
          go_wp2_with fail
          refine (Cut_w HLA.out (by have := HNN.out.2; have := HLA.out.len; omega)).mono ?_
          rintro e w6 ⟨rfl, hlw, hs⟩
          rw [← HRL.out]
          have hlen := HLA.out.len
          rw [← HRL.out] at hlen hlw
          have hww : IntKind.u64.wrap (n + (rl : Int) + 5) = n + (rl : Int) + 5 := by rw [IntKind.wrap_u64]; have := HNN.out; omega
          obtain ⟨hd0, hd1'⟩ := chL_bd HCB.out.1 HCB.out.2 r n
          have HP := Lib.hid (show PlI w u tt mi pa pb (k + 1) (.int .u64 (n + (rl : Int) + 5)) (.int .u32 (chL n c r)) (.pointer (some ⟨lb, 0, none⟩)) (.int .u64 (n + (rl : Int) + 5)) (.int .u32 (chL n c r)) (.slice none 0 0) (.int .i64 0) w6 from
            ⟨⟨Y, lb, tl, mm, tb, bb, q, S, cc, n + (rl : Int) + 5, chL n c r, [], by simp, rfl, rfl, rfl, rfl, KN.start _ _, rfl, hlw, HUY.out, HTY.out, HMI.out, by omega, by have := HNN.out; omega, by have := HNN.out; omega, hd0, hd1'⟩, HDA.out.same (hs u HUY.out), Mir.tab_same HTA.out (hs tt HTY.out), rp_keep hlw HMI.out hs HRA.out⟩)
          clear hlw hs hlen hd0 hd1'
          go_wp2
          go_meet
          exact HP.out
        · have h4 : ((d : Int) == 4) = false := beq_false_of_ne (by omega)
          have h5 : ((d : Int) == 5) = false := beq_false_of_ne (by omega)
          have h6 : ((d : Int) == 6) = false := beq_false_of_ne (by omega)
          have a1' := HAA.out.cell 1
          simp only [List.getElem?_cons_zero, List.getElem?_cons_succ] at a1'
          have HQS := Lib.hid (fun u hu => (HQL.out u hu).1)
          have HQW := Lib.hid (fun u hu => (HQL.out u hu).2)
          obtain ⟨ka, kc, rfl, hkle, hknil⟩ := HKA.out.form
          obtain ⟨fl, hfl⟩ : ∃ x, x = r.flatten.length := ⟨_, rfl⟩
          have HFL := Lib.hid hfl
          rw [← hfl] at HKA hkle ⊢
          have HKNIL := Lib.hid hknil
          clear hfl hd4 hd5 hd6 hknil
          go_wp2_with fail
          refine (updates_any HUA.out HLL.out HE1.out.1 HE1.out.2 HQS.out HQW.out).mono ?_
          rintro e w6 ⟨av, rfl, hra, hb⟩
          obtain ⟨mL, hmL⟩ : ∃ x, x = ofL l := ⟨_, rfl⟩
          have HML := Lib.hid (show mL.length ≤ 5 from by rw [hmL, ofL_length]; omega)
          have HMW := Lib.hid (show ∀ u ∈ mL, WfU u from by rw [hmL]; exact ofL_wf HQW.out)
          have HOK := Lib.hid (show errP mL = 0 → ¬ 154 < lenP mL → OkR 192 mL from by rw [hmL]; exact fun h1 h2 => ok_of h1 h2 HQW.out)
          rw [← hmL] at hra ⊢
          clear hmL
          obtain ⟨va6, vc6, rfl⟩ := (UR.of_own hra).slice
          have HU6 := Lib.hid (UR.of_own hra)
          have hs6 : Rem.Same Y wa w6 := fun i hi => hb.block i (HLA.out.lg.y i hi).2
          have HP := Lib.hid (show PlI w u tt mi pa pb (k + 1) (.int .u64 (n + ((r.length : Nat) : Int))) (.int .u32 (chL n c r)) (.pointer (some ⟨lb, 0, none⟩)) (.int .u64 n) (.int .u32 c) (.slice ka fl kc) (.int .i64 ((r.length : Nat) : Int)) wa from
            ⟨⟨Y, lb, tl, mm, tb, bb, q, S, cc, n, c, r, rfl, rfl, rfl, rfl, rfl, HKA.out, rfl, HLA.out, HUY.out, HTY.out, HMI.out, by omega, HNN.out.1, by have := HNN.out.2; omega, HCB.out.1, HCB.out.2⟩, HDA.out, HTA.out, HRA.out⟩)
          have HP6 := Lib.hid (HP.out.later hb)
          have HL6 := Lib.hid (HLA.out.later hb)
          by_cases hE : errP mL = 0
          · have HE := Lib.hid hE
            rw [hE]
            obtain ⟨LP, hLP⟩ : ∃ x, x = lenP mL := ⟨_, rfl⟩
            have HLP := Lib.hid hLP
            rw [← hLP]
            clear hLP
            by_cases hL : 154 < LP
            · have HAP := Lib.hid (show apE mL r.length 5 = 20 from apE_20 HE.out (by rw [← HLP.out]; exact hL))
              clear hra hs6
              go_wp2_with fail
              refine (Append_no HL6.out.lg HU6.out (Nat.le_trans HML.out (by decide)) HMW.out (by rw [HAP.out]; decide)).mono ?_
              rintro e w7 ⟨rfl, hb7⟩
              rw [HAP.out]
              have HP7 := Lib.hid (HP6.out.later hb7)
              rw [← HRL.out] at HP7
              clear hb7
              go_wp2
              go_meet
              exact HP7.out
            · by_cases hr5 : rl = 5
              · have HAP := Lib.hid (show apE mL r.length 5 = 11 from apE_11 HE.out (by rw [← HLP.out]; exact hL) (by rw [← HRL.out, hr5]; rfl))
                have hr5' : (rl : Int) = 5 := by omega
                clear hra hs6 hr5
                go_wp2_with fail
                refine (Append_no HL6.out.lg HU6.out (Nat.le_trans HML.out (by decide)) HMW.out (by rw [HAP.out]; decide)).mono ?_
                rintro e w7 ⟨rfl, hb7⟩
                rw [HAP.out]
                have HP7 := Lib.hid (HP6.out.later hb7)
                rw [← HRL.out, hr5'] at HP7
                clear hb7
                go_wp2
                go_meet
                exact HP7.out
              · have hr5' : ((rl : Int) == 5) = false := beq_false_of_ne (by omega)
                have hrl5 : rl < 5 := by have := HLA.out.len; have := HRL.out; omega
                obtain ⟨hne, hel, _⟩ := errP_0 hE
                have HNE := Lib.hid hne
                have HOM := Lib.hid (HOK.out hE (by rw [← HLP.out]; exact hL))
                obtain ⟨Zv, hzv, _, hlz⟩ := HLA.out.lg.freshV (v := .slice va6 mL.length vc6) hb (fun i hi => hra.lt i hi)
                have HLZ := Lib.hid (show LW w (Zv ++ Y) lb tl mm tb bb q (pdOf pa pb) S cc 0 n c r w6 from ⟨hlz, HLA.out.ct⟩)
                have HUI := Lib.hid (show URin (Zv ++ Y) w6 (.slice va6 mL.length vc6) mL from ⟨HU6.out, fun j hj => by simp [hzv j hj]⟩)
                have HK6 := Lib.hid ((HKA.out.keep hs6).mono (Y := Zv ++ Y) (fun i hi => by simp [hi]))
                have HD6 := Lib.hid (HDA.out.same (hs6 u HUY.out))
                have HT6 := Lib.hid (Mir.tab_same HTA.out (hs6 tt HTY.out))
                have HR6 := Lib.hid (rp_keep HL6.out HMI.out hs6 HRA.out)
                clear hra hs6 hb hne hlz hzv hr5 HP HP6
                go_wp2_with fail
                refine (App_w HLZ.out HUI.out HNE.out HOM.out (by rw [← HRL.out]; exact hrl5) (by omega)).mono ?_
                rintro e w7 ⟨rfl, S7, hlw, hs⟩
                have HL7 := Lib.hid hlw
                have HU7 := Lib.hid (HUI.out.keep hs)
                have HK7 := Lib.hid (HK6.out.keep hs)
                have HD7 := Lib.hid (HD6.out.same (hs u (by simp [HUY.out])))
                have HT7 := Lib.hid (Mir.tab_same HT6.out (hs tt (by simp [HTY.out])))
                have HR7 := Lib.hid (rp_keep hlw (by rcases HMI.out with h | h; exact .inl h; exact .inr (by simp [h])) hs HR6.out)
                clear hlw hs HLZ HUI HK6 HD6 HT6 HR6
                have hkb := chL_bd HCB.out.1 HCB.out.2 r n
                have HF3 := Lib.hid (show Wf3 (n + ((r.length : Nat) : Int)) (chL n c r) mL.length from ⟨by have := HNN.out.1; omega, by have := HNN.out.2; have := HRL.out; omega, hkb.1, hkb.2, Nat.le_trans HML.out (by decide)⟩)
                have HEL := Lib.hid hel
                clear hkb hel
                go_wp2_with fail
                rw [HRL.out]
                refine (Link_any (n + ((r.length : Nat) : Int)) (chL n c r) tt HU7.out.ur HF3.out HMW.out HT7.out).mono ?_
                rintro e w8 ⟨rfl, hb8⟩
                have HL8 := Lib.hid (HL7.out.later hb8)
                have hs8 : Rem.Same (Zv ++ Y) w7 w8 := fun i hi => hb8.block i (HL7.out.lg.y i hi).2
                have HU8 := Lib.hid (HU7.out.keep hs8)
                have HK8 := Lib.hid (HK7.out.keep hs8)
                have HD8 := Lib.hid (HD7.out.below hb8 HD7.out.lt)
                have HT8 := Lib.hid (HT7.out.below hb8 (Nat.le_refl _))
                have HR8 := Lib.hid ((hb8.cell (World.block_lt_of_cell? _ _ HR7.out)).trans HR7.out)
                have hfb : fl ≤ 5000 := by
                  have h1 := flatten_le (m := 1000) (fun l hl => (HLA.out.ct.both.ok l hl).len)
                  have h2 := HFL.out
                  have h3 := HLA.out.len
                  omega
                obtain ⟨v9, w9, hrun, hra9, hb9⟩ := app_known (n := fl) (ac := kc) HK8.out.ur.ur HKNIL.out HU8.out.ur HNE.out (by have := HML.out; omega)
                have HRUN := Lib.hid hrun
                obtain ⟨Z9, hz9, _, hl9⟩ := HL8.out.lg.freshV (v := v9) hb9 (fun i hi => hra9.lt i hi)
                have hs9 : Rem.Same (Zv ++ Y) w8 w9 := fun i hi => hb9.block i (HL8.out.lg.y i hi).2
                have e1 : (r ++ [mL]).flatten = r.flatten ++ mL := by simp
                have e2 : (r ++ [mL]).length = r.length + 1 := by simp
                have hnr : n + ((r.length : Nat) : Int) + 1 = n + (((r ++ [mL]).length : Nat) : Int) := by rw [e2]; omega
                have hhr : ((r.length : Nat) : Int) + 1 = (((r ++ [mL]).length : Nat) : Int) := by rw [e2]; omega
                have HP9 := Lib.hid (show PlI w u tt mi pa pb (k + 1) (.int .u64 (n + ((r.length : Nat) : Int) + 1)) (.int .u32 (lkN (n + ((r.length : Nat) : Int)) (chL n c r) mL : Nat)) (.pointer (some ⟨lb, 0, none⟩)) (.int .u64 n) (.int .u32 c) v9 (.int .i64 (((r.length : Nat) : Int) + 1)) w9 from
                  ⟨⟨Z9 ++ (Zv ++ Y), lb, tl, mm, tb, bb, q, S7, cc + 8, n, c, r ++ [mL], by rw [hnr], by rw [chL_snoc], rfl, rfl, rfl, by rw [e1]; exact KN.of_ra hra9 (by simp [HNE.out]) (fun j hj => by simp [hz9 j hj]), by rw [hhr], ⟨hl9, HL8.out.ct⟩, by simp [HUY.out], by simp [HTY.out], (by rcases HMI.out with h | h; exact .inl h; exact .inr (by simp [h])), by omega, HNN.out.1, by have := HNN.out.2; omega, HCB.out.1, HCB.out.2⟩,
                    HD8.out.below hb9 HD8.out.lt, HT8.out.below hb9 (Nat.le_refl _), (hb9.cell (World.block_lt_of_cell? _ _ HR8.out)).trans HR8.out⟩)
                have hwn : IntKind.u64.wrap (n + ((r.length : Nat) : Int) + 1) = n + ((r.length : Nat) : Int) + 1 := by rw [IntKind.wrap_u64]; have := HNN.out; have := HRL.out; omega
                have hwh : IntKind.i64.wrap (((r.length : Nat) : Int) + 1) = ((r.length : Nat) : Int) + 1 := IntWalk.i64_in _ (by have := HRL.out; omega)
                clear hb8 hs8 hrun hra9 hb9 hz9 hl9 hs9 e1 e2 hnr hhr HL7 HU7 HK7 HD7 HT7 HR7
                go_wp2_with (at_builtin; refine wpList_append_run rfl _ _ 39 39 rfl _ _ _ rfl rfl HRUN.out ?_)
                go_wp2
                go_meet
                exact HP9.out
          · have HAP := Lib.hid (show apE mL r.length 5 = errP mL from apE_err hE)
            have HNZ := Lib.hid hE
            obtain ⟨E, hEE⟩ : ∃ x, x = errP mL := ⟨_, rfl⟩
            rw [← hEE] at HAP HNZ ⊢
            have hne : (E == 0) = false := by simpa using HNZ.out
            clear hE hEE hra hs6
            go_wp2_with fail
            refine (Append_no HL6.out.lg HU6.out (Nat.le_trans HML.out (by decide)) HMW.out (by rw [HAP.out]; exact HNZ.out)).mono ?_
            rintro e w7 ⟨rfl, hb7⟩
            rw [HAP.out]
            have HP7 := Lib.hid (HP6.out.later hb7)
            rw [← HRL.out] at HP7
            clear hb7
            go_wp2
            go_meet
            exact HP7.out
      case rest =>
        clear HLA HAA HUA HKA HDA HTA HRA HUY HTY HMI HNN HCB HRL HQL HE1 HLL HX0
        obtain ⟨⟨Y, lb, tl, mm, tb, bb, q, S, cc, n, c, r, rfl, rfl, rfl, rfl, rfl, hkn, rfl, hlw, huY, htY, hmi, hcc, hn0, hn1, hcb0, hcb1⟩, hdv, htab, hrp⟩ := hcut
        have HP := Lib.hid (show PlI w u tt mi pa pb (k + 1) (.int .u64 (n + ((r.length : Nat) : Int))) (.int .u32 (chL n c r)) (.pointer (some ⟨lb, 0, none⟩)) (.int .u64 n) (.int .u32 c) u15 (.int .i64 ((r.length : Nat) : Int)) wc from ⟨⟨Y, lb, tl, mm, tb, bb, q, S, cc, n, c, r, rfl, rfl, rfl, rfl, rfl, hkn, rfl, hlw, huY, htY, hmi, hcc, hn0, hn1, hcb0, hcb1⟩, hdv, htab, hrp⟩)
        have HLW := Lib.hid hlw
        have hlen := hlw.len
        have h5w : IntKind.i64.wrap (5 - ((r.length : Nat) : Int)) = 5 - ((r.length : Nat) : Int) := IntWalk.i64_in _ (by omega)
        clear hkn hlw huY htY hmi hdv htab hrp
        go_wp2_with fail
        refine (Next_l HLW.out.lg).mono ?_
        rintro e w7 ⟨rfl, j7, rfl⟩
        go_wp2_with fail
        refine (Left_l (HLW.out.lg.drewN j7)).mono ?_
        rintro e w8 ⟨rfl, j8, rfl⟩
        have HP8 := Lib.hid (HP.out.later (below_drewN (Below.refl _ _) (j7 + j8)))
        clear HP HLW
        go_wp2_with fail
        go_roundw
        case rel => exact ⟨k + 1, by omega, by go_num, HP8.out⟩
        case measure => simp [intOf]; omega
    · obtain rfl : k = m0 := by omega
      have hki : ¬ (k : Int) < (k : Int) := by omega
      have HRP := Lib.hid hrp
      have HB := Lib.hid hlw.lg.below
      clear hkn hlw huY htY hmi hdv htab hrp
      go_wp2_with fail
      refine (Repairs_h (R := 0) HRP.out).mono ?_
      rintro e w7 ⟨rfl, rfl⟩
      go_wp2
      go_ret
      exact ⟨rfl, HB.out⟩

set_option maxRecDepth 100000 in
theorem contract (H : Type) (enc : TypeId × Value → H) (W : World) (base : Nat) (args : Array Value) (ds gs : List (DataW H)) (before : List MemPlace)
    (hval0 : ∀ (j : Nat) t v, Tryz.f3.params[j]? = some t → args[j]? = some v → Value.okWide Tryz.prog W .any base t v)
    (hW : DataW.Whole enc Tryz.prog Tryz.f3.params.toList Rows.walPlaysSpec.vars false W args.toList ds gs before) :
    Calls Tryz.prog 3 args W fun e W' => ∃ v, e = .returned v ∧ Rows.walPlaysSpec.post enc Tryz.prog Tryz.f3 false true false false W args v W' := by
  have hval : ∀ (j : Nat) t v, Tryz.f3.params[j]? = some t → args[j]? = some v → Value.okWide Tryz.prog W .any base t v := hval0
  have hW' := hW
  obtain ⟨p, q, hA0, hV, rfl, hfz, hnd⟩ := hW
  have hA : DataW.TrodAll enc Tryz.prog W 0 (fun _ => true) true Tryz.f3.params.toList args.toList ds p := hA0
  rw [Tryz.params3] at hA hval
  obtain ⟨v0, vs0, d0, ds0, p0, q0, hargs, rfl, rfl, h0, r0⟩ := trodAll_cons hA
  obtain ⟨v1, vs1, d1, ds1, p1, q1, rfl, rfl, rfl, h1, r1⟩ := trodAll_cons r0
  obtain ⟨v2, vs2, d2, ds2, p2, q2, rfl, rfl, rfl, h2, r2⟩ := trodAll_cons r1
  obtain ⟨rfl, rfl, rfl⟩ := trodAll_nil r2
  obtain rfl : args = #[v0, v1, v2] := by cases args; simp_all
  obtain ⟨rfl, rfl⟩ := trodVars_none hV
  obtain ⟨a0, rfl, rfl, rfl, w0⟩ := open_int Tryz.underlying22 (hval 0 22 v0 rfl rfl) h0
  obtain ⟨a1, rfl, rfl, rfl, w1⟩ := open_int Tryz.underlying23 (hval 1 23 v1 rfl rfl) h1
  have k2 := h2
  have lt2 : ∀ x ∈ p2, x.block < W.heap.size := by obtain ⟨m, hm⟩ := k2; exact DataW.trod_lt m _ _ _ hm
  obtain ⟨a2', l2', c2', rfl⟩ := okWide_slice Tryz.underlying24 (hval 2 24 v2 rfl rfl)
  obtain ⟨a2, a2l, a2c, he2, w2, w2l, w2m⟩ := open_AR2 (c := .slice a2' l2' c2') (by obtain ⟨m, hm⟩ := h2; exact ⟨m, _, hm⟩)
  simp only [Value.slice.injEq] at he2
  obtain ⟨rfl, rfl, rfl⟩ := he2
  clear hA0 hval0
  refine (walk a0 a1 a2' l2' c2' W w0 w1 w2 w2l w2m).mono fun e W' ⟨he, bel⟩ => ?_
  subst he
  exact ⟨_, rfl, _, _, _, [], _, [], hW', trodAll_mk1 (shut_bool Tryz.underlying4 _), (trodAll_cons_mk (shut_int Tryz.underlying22 w0) (trodAll_cons_mk (shut_int Tryz.underlying23 w1) (trodAll_cons_mk (Below.trod laidOut (by kernel_rfl) (of_decide_eq_true (by kernel_rfl)) k2 bel lt2) trodAll_mk0))), rfl, bel.frame _, fun h => by cases h⟩

noncomputable def laidWorld (os : Os) : World :=
  { World.holding Tryz.prog os ⟨#[], #[], []⟩ with heap := (((((World.holding Tryz.prog os ⟨#[], #[], []⟩).heap).modify 2 fun | .cells _ t frozen => .cells (#[.int .u8 128, .int .u8 191, .int .u8 160, .int .u8 191, .int .u8 128, .int .u8 159, .int .u8 144, .int .u8 191, .int .u8 128, .int .u8 143, .int .u8 0, .int .u8 0, .int .u8 0, .int .u8 0, .int .u8 0, .int .u8 0, .int .u8 0, .int .u8 0, .int .u8 0, .int .u8 0, .int .u8 0, .int .u8 0, .int .u8 0, .int .u8 0, .int .u8 0, .int .u8 0, .int .u8 0, .int .u8 0, .int .u8 0, .int .u8 0, .int .u8 0, .int .u8 0]) t frozen | o => o)).modify 1 fun | .cells _ t frozen => .cells ((Go.Pinned.utf8FirstZ.map fun z : Nat => Value.int .u8 (z : Int)).toArray) t frozen | o => o) }
theorem laid_met (os : Os) : laidMet Tryz.prog Rows.walPlaysRow.laid ((laidWorld os).forCall (fun _ _ => 0) ⟨#[], #[.int .u64 0, .int .u32 0, .slice none 0 0], []⟩).memory :=
  laidMet_of_run' 8 (by kernel_rfl) (by kernel_rfl)
theorem reads (os : Os) {H : Type} (enc : TypeId × Value → H) : ∃ places, DataW.whole enc Tryz.prog ((laidWorld os).forCall (fun _ _ => 0) ⟨#[], #[.int .u64 0, .int .u32 0, .slice none 0 0], []⟩).memory Tryz.f3.params.toList Rows.walPlaysSpec.vars false (#[.int .u64 0, .int .u32 0, .slice none 0 0] : Array Value).toList 8 = some ([.lit (.int .u64 0), .lit (.int .u32 0), .nil], [], places) :=
  ⟨[], by kernel_rfl⟩

set_option maxRecDepth 100000 in
theorem lifted (os : Os) (started : os.Started) (H : Type) (enc : TypeId × Value → H) (F : Stop.Interp) :
    ReturnsInHanded {} Tryz.checked os 3 .any ((OpenSpec.ofChange Rows.walPlaysSpec).preRow enc Tryz.prog Tryz.f3 Rows.walPlaysRow.domain false Rows.walPlaysRow.laid) (((OpenSpec.ofChange Rows.walPlaysSpec).at F).post enc Tryz.prog Tryz.f3 false true false false) := by
  obtain ⟨places, hx⟩ := reads os enc
  refine returnsInHanded_of_row (C := Tryz.checked) (s := OpenSpec.ofChange Rows.walPlaysSpec) own started (by kernel_rfl) Tryz.func3
    (witness_row_at (enc := enc) (C := Tryz.checked) false (laidWorld os) #[.int .u64 0, .int .u32 0, .slice none 0 0] rfl (by kernel_rfl) (by kernel_rfl) (by kernel_rfl)
      (OpenSpec.preRow_of_cond 8 hx (by kernel_rfl) (fun k hk => by cases hk) (by kernel_rfl) (laid_met os))) ?_
  intro W base args ds gs before hval hW _ _ _ hL _ _
  exact contract H enc W base args ds gs before hval hW 

theorem said : Rows.WalPlaysSaid :=
  OpenClaim.holds_of_cond 3 Tryz.f3 rfl rfl rfl rfl rfl rfl rfl ⟨rfl, rfl, rfl, rfl, rfl⟩ rfl rfl rfl rfl rfl (by kernel_rfl) Tryz.func3 (by kernel_rfl)
    (of_decide_eq_true (by kernel_rfl)) (by unfold Func.isWrapper; first | (rw [if_pos (by decide +kernel)]; kernel_rfl) | (rw [if_neg (by decide +kernel)]; exact ⟨rfl, rfl⟩))
    (fun os started H enc _ F => by rw [OpenClaim.pre_eq_preRow]; exact lifted os started H enc F)

theorem plain (f : FuncId) (fn : Func) (hf : Tryz.pinned.checked.prog.funcNamed "treenail/treenaillaw13.WalPlays" = some f) (hfn : Tryz.pinned.checked.prog.funcs[f]? = some fn) :
    false = Tryz.pinned.checked.prog.looks [] ∧ ∀ (j : Nat) t, fn.params[j]? = some t → Tryz.pinned.checked.prog.wantsStandIn t = false := by
  obtain rfl : f = 3 := Option.some.inj ((show Tryz.prog.funcNamed "treenail/treenaillaw13.WalPlays" = some 3 by kernel_rfl).symm.trans hf) |>.symm
  obtain rfl : fn = Tryz.f3 := (Option.some.inj (Tryz.func3.symm.trans hfn)).symm
  refine ⟨by kernel_rfl, fun j t ht => ?_⟩
  rw [Tryz.params3] at ht
  rcases j with _ | _ | _ | j
  · obtain rfl : t = 22 := by simpa using ht.symm
    exact (show Tryz.prog.wantsStandIn 22 = false by kernel_rfl)
  · obtain rfl : t = 23 := by simpa using ht.symm
    exact (show Tryz.prog.wantsStandIn 23 = false by kernel_rfl)
  · obtain rfl : t = 24 := by simpa using ht.symm
    exact (show Tryz.prog.wantsStandIn 24 = false by kernel_rfl)
  · simp at ht

/-- THE STATEMENT -/
theorem proved : Rows.WalPlaysCardSaid :=
  Claim7.holds_tied_plain_at .later [] _ _ _ _ said (fun _ h => by cases h) (by kernel_rfl) (fun _ h => by cases h) walPlays_row_tie rfl ⟨rfl, rfl⟩ (by kernel_rfl) rfl plain (by kernel_rfl)
#print axioms proved
end Go.Proofs.YtflanjcfkdjpjaaGreatDoor.walPlays
