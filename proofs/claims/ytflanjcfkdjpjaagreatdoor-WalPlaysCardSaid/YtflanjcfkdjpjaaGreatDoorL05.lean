/- Layers' contracts, bundled: RemSlots, DevB, DevE, RefTab, TabV, TabN. -/
import Derived.Test.YtflanjcfkdjpjaaGreatDoorL02
import Derived.Test.YtflanjcfkdjpjaaGreatDoorL04
import Derived.RangeFuncBox
import Derived.RangeFuncNested
import Derived.RangeFuncBound
import Derived.RangeFuncCalls
import Derived.RangeFuncLeaves
import Derived.Shelf.Abstract
import Derived.Shelf.RegionOpen
import Derived.WalkKit
import Derived.OwnWalkIn
import Derived.TacticsInMore
import Derived.LoopNIn
import Derived.LoopIn
import Derived.Outline
import Derived.Test.YtflanjcfkdjpjaaGreatDoorRows
import Derived.Test.YtflanjcfkdjpjaaGreatDoorL01
import Derived.Deep.DeepCutAuto
import Derived.Deep.RegionWith
import Derived.Maps.AppendAt
import Derived.Test.YtflanjcfkdjpjaaGreatDoorL03
import Derived.Laws.AppendOwnNone
import Derived.IntWalk
import Derived.Deep.WholeRow
/- Layer 7 (remap): the tables' images in their slots, as plain data. -/
namespace Go.Proofs.YtflanjcfkdjpjaaGreatDoor.Rem
open Go Go.RowKit Go.Proofs.YtflanjcfkdjpjaaGreatDoor Dev Tab Env Lend
set_option linter.unusedVariables false

/-- one side, as it is seen: what each sector of its device reads, which are bad, and which blocks were moved -/
structure Sd where
  V : Nat → ByteArray
  B : Nat → Bool
  m : List Int
/-- a table's image -/
def imgT (s : Nat) (m : List Int) : ByteArray := strOf (imgL 2 s m.length 168 (txL m))
/-- the table of an image -/
def opT (s : Nat) (l : List UInt8) : Option (List Int) :=
  if opE l = 0 ∧ oK l = 2 ∧ oA l = s ∧ paE (oP l).data.toList 16 4 = 0 ∧ oG l = ((paL (oP l).data.toList).length : Int) then some (paL (oP l).data.toList) else none
theorem opT_img {s : Nat} (hs : s < 2) {m : List Int} (hg : Tab.Good 16 4 m) : opT s (imgT s m).data.toList = some m := by
  have hl : (txL m).length ≤ 168 := by have := hg.bd; rw [txL_length]; omega
  have hb : hdB 2 (s : Int) = true := by
    rcases (show s = 0 ∨ s = 1 by omega) with rfl | rfl <;> decide
  obtain ⟨h1, h2, h3, h4, h5, h6⟩ := img_o (k := 2) (a := (s : Int)) (g := (m.length : Int)) (m := 168) (pl := txL m) hb (by omega) (by have := hg.bd; omega) hl (by omega) (by omega)
  obtain ⟨p1, p2, p3⟩ := pa_tx hg
  have hd : (imgT s m).data.toList = imgL 2 s m.length 168 (txL m) := rfl
  have ho : (oP (imgT s m).data.toList).data.toList = txL m := by rw [hd, h6]; rfl
  unfold opT
  rw [ho, p1, if_pos]
  rw [hd]
  exact ⟨h1, h2, h3, p3, by rw [h4]⟩
theorem opT_noughts (s : Nat) : opT s (noughts 192).data.toList = none := by
  unfold opT
  rw [if_neg]
  intro h
  have hB : opB (noughts 192).data.toList = true := by
    have := h.1
    unfold opE at this
    by_cases hb : opB (noughts 192).data.toList = true
    · exact hb
    · rw [if_neg hb] at this; cases this
  have := (opB_parts hB).2.2.1
  revert this
  decide
/-- what side s's slot i on its own device (k = 0), or on the other one, reads -/
def rdS (S : Nat → Sd) (s k i : Nat) : ByteArray := (S (if k = 0 then s else 1 - s)).V (2 * k + i)
/-- of a side's slots two have its table, and no other one of as great a generation -/
def Below_ (S : Nat → Sd) (s : Nat) (m : List Int) : Prop := ∀ k, k < 2 → ∀ i, i < 2 → ∀ m', opT s (rdS S s k i).data.toList = some m' → m' = m ∨ m'.length < m.length
def SideOk (S : Nat → Sd) (s : Nat) : Prop := (∀ k, k < 2 → opT s (rdS S s k ((S s).m.length % 2)).data.toList = some (S s).m) ∧ Below_ S s (S s).m
/-- side s's table is m now, and is kept -/
def kept (S : Nat → Sd) (s : Nat) (m : List Int) : Nat → Sd := fun t =>
  if t = s then ⟨upd (S t).V (m.length % 2) (imgT s m), (S t).B, m⟩ else if t = 1 - s then ⟨upd (S t).V (2 + m.length % 2) (imgT s m), (S t).B, (S t).m⟩ else S t
section
variable {S : Nat → Sd} {s t : Nat} {m : List Int}
theorem kept_own (S : Nat → Sd) (s : Nat) (m : List Int) : kept S s m s = ⟨upd (S s).V (m.length % 2) (imgT s m), (S s).B, m⟩ := if_pos rfl
theorem kept_oth (S : Nat → Sd) {s : Nat} (hs : s < 2) (m : List Int) : kept S s m (1 - s) = ⟨upd (S (1 - s)).V (2 + m.length % 2) (imgT s m), (S (1 - s)).B, (S (1 - s)).m⟩ := by
  unfold kept; rw [if_neg (by omega), if_pos rfl]
theorem kept_far (hs : s < 2) (ht : t < 2) : (∀ i, 4 ≤ i → (kept S s m t).V i = (S t).V i) ∧ (kept S s m t).B = (S t).B ∧ (kept S s m t).m = (if t = s then m else (S t).m) := by
  by_cases e : t = s
  · subst e
    rw [kept_own, if_pos rfl]
    exact ⟨fun i hi => upd_ne _ _ (by omega), rfl, rfl⟩
  · obtain rfl : t = 1 - s := by omega
    rw [kept_oth S hs, if_neg e]
    exact ⟨fun i hi => upd_ne _ _ (by omega), rfl, rfl⟩
/-- what the slots of the side that was kept read -/
theorem kept_rd (hs : s < 2) {k i : Nat} (hk : k < 2) (hi : i < 2) : rdS (kept S s m) s k i = if i = m.length % 2 then imgT s m else rdS S s k i := by
  unfold rdS
  rcases (show k = 0 ∨ k = 1 by omega) with rfl | rfl
  · rw [if_pos rfl, kept_own]
    by_cases e : i = m.length % 2
    · subst e; rw [if_pos rfl]; show upd _ _ _ _ = _; rw [show 2 * 0 + m.length % 2 = m.length % 2 by omega, upd_same]
    · rw [if_neg e]; show upd _ _ _ _ = _; rw [upd_ne _ _ (by omega)]
  · rw [if_neg (by omega), kept_oth S hs]
    by_cases e : i = m.length % 2
    · subst e; rw [if_pos rfl]; show upd _ _ _ _ = _; rw [show 2 * 1 + m.length % 2 = 2 + m.length % 2 by omega, upd_same]
    · rw [if_neg e]; show upd _ _ _ _ = _; rw [upd_ne _ _ (by omega)]
/-- .. and those of the other one -/
theorem kept_rdo (hs : s < 2) {k i : Nat} (hk : k < 2) (hi : i < 2) : rdS (kept S s m) (1 - s) k i = rdS S (1 - s) k i := by
  unfold rdS
  rcases (show k = 0 ∨ k = 1 by omega) with rfl | rfl
  · rw [if_pos rfl, kept_oth S hs]
    show upd _ _ _ _ = _; rw [upd_ne _ _ (by omega)]
  · rw [if_neg (by omega), show 1 - (1 - s) = s by omega, kept_own]
    show upd _ _ _ _ = _; rw [upd_ne _ _ (by omega)]
theorem SideOk.keep (hs : s < 2) (hg : Tab.Good 16 4 m) (hb : Below_ S s m) : SideOk (kept S s m) s := by
  have hm : (kept S s m s).m = m := by rw [kept_own]
  unfold SideOk
  rw [hm]
  refine ⟨fun k hk => ?_, fun k hk i hi m' h => ?_⟩
  · rw [kept_rd hs hk (Nat.mod_lt _ (by omega)), if_pos rfl]; exact opT_img hs hg
  · rw [kept_rd hs hk hi] at h
    by_cases e : i = m.length % 2
    · rw [if_pos e, opT_img hs hg] at h
      exact .inl (Option.some.inj h).symm
    · rw [if_neg e] at h; exact hb k hk i hi m' h
theorem SideOk.other (hs : s < 2) (h : SideOk S (1 - s)) : SideOk (kept S s m) (1 - s) := by
  have hm : (kept S s m (1 - s)).m = (S (1 - s)).m := by rw [kept_oth S hs]
  unfold SideOk Below_
  rw [hm]
  refine ⟨fun k hk => ?_, fun k hk i hi m' h' => ?_⟩
  · rw [kept_rdo hs hk (Nat.mod_lt _ (by omega))]; exact h.1 k hk
  · rw [kept_rdo hs hk hi] at h'; exact h.2 k hk i hi m' h'
theorem Below_.other (hs : s < 2) {m2 : List Int} (h : Below_ S (1 - s) m2) : Below_ (kept S s m) (1 - s) m2 := fun k hk i hi m' h' => h k hk i hi m' (by rwa [kept_rdo hs hk hi] at h')
/-- a greater table -/
theorem SideOk.more (h : SideOk S s) {b : Int} : Below_ S s ((S s).m ++ [b]) := fun k hk i hi m' h' => by
  rcases h.2 k hk i hi m' h' with rfl | h2
  · exact .inr (by simp)
  · exact .inr (by simp; omega)
/-- nothing but noughts -/
theorem Below_.fresh (h : ∀ t, t < 2 → ∀ i, i < 4 → (S t).V i = noughts 192) (hs : s < 2) : Below_ S s m := fun k hk i hi m' h' => by
  have e : rdS S s k i = noughts 192 := by
    unfold rdS
    split
    · exact h s hs _ (by omega)
    · exact h (1 - s) (by omega) _ (by omega)
  rw [e, opT_noughts] at h'; cases h'
/-- of what the slots read the greatest is the side's table: whatever order they are looked at -/
def best (a b : Option (List Int)) : Option (List Int) := match a, b with
  | none, b => b
  | some x, none => some x
  | some x, some y => if x.length < y.length then some y else some x
theorem best_ok {m : List Int} {a b : Option (List Int)} (ha : ∀ x, a = some x → x = m ∨ x.length < m.length) (hb : ∀ x, b = some x → x = m ∨ x.length < m.length) :
    (∀ x, best a b = some x → x = m ∨ x.length < m.length) ∧ (a = some m ∨ b = some m → best a b = some m) := by
  cases a with
  | none => exact ⟨hb, fun h => by
    rcases h with h | h
    · cases h
    · exact h⟩
  | some x =>
    cases b with
    | none => exact ⟨ha, fun h => by
      rcases h with h | h
      · exact h
      · cases h⟩
    | some y =>
      have h1 := ha x rfl
      have h2 := hb y rfl
      show (∀ z, (if x.length < y.length then some y else some x) = some z → _) ∧ (_ → (if x.length < y.length then some y else some x) = _)
      by_cases h : x.length < y.length
      · rw [if_pos h]
        refine ⟨fun z hz => by cases hz; exact h2, fun hm => ?_⟩
        rcases hm with hm | hm
        · cases hm
          rcases h2 with rfl | h2 <;> omega
        · exact hm
      · rw [if_neg h]
        refine ⟨fun z hz => by cases hz; exact h1, fun hm => ?_⟩
        rcases hm with hm | hm
        · exact hm
        · cases hm
          rcases h1 with rfl | h1
          · rfl
          · exact absurd h1 h
end
end Go.Proofs.YtflanjcfkdjpjaaGreatDoor.Rem


/- Contracts of layer 3 (dev): the iterator over the cache, from its end, and 'reading'. -/
namespace Go.Proofs.YtflanjcfkdjpjaaGreatDoor.Dev
open Go.RowKit Go.Shelf Go.Proofs.YtflanjcfkdjpjaaGreatDoor
set_option linter.unusedVariables false
attribute [local go_sem] Oper.semAt_some

def down (n k : Nat) : List Nat := (List.range (n - k)).map fun j => n - 1 - j
theorem down_all (n : Nat) : down n n = [] := by simp [down]
theorem down_succ {n k : Nat} (h : k < n) : down n k = down n (k + 1) ++ [k] := by
  unfold down
  rw [show n - k = n - (k + 1) + 1 by omega, List.range_succ, List.map_append]
  congr 1
  simp; omega
theorem down_len {n k : Nat} : (down n k).length = n - k := by simp [down]
def wS (ws : List (Nat × ByteArray)) (j : Nat) : Nat := (ws[j]?.map (·.1)).getD 0
def wT (ws : List (Nat × ByteArray)) (j : Nat) : ByteArray := (ws[j]?.map (·.2)).getD ⟨#[]⟩
def encW (ws : List (Nat × ByteArray)) (j : Nat) : Array Value := #[.int .i64 (j : Nat), .agg #[.int .i64 (wS ws j : Nat), .string (wT ws j)]]

set_option maxRecDepth 100000 in
set_option maxHeartbeats 2000000 in
theorem back1_in (F : Fence) (n : Nat) (h7 : F.fn 151) (hro : F.round = none) (hn : 1 ≤ n) (l Bs n₀ b len cap : Nat) (ws : List (Nat × ByteArray)) (hreach : len ≤ 9223372036854775807) (hb : b < n₀) (hBn : Bs < n₀) (J Jx : List Nat → World → Prop)
    (hY : ∀ pre x W, J pre W → pre.length < len → YieldAt F (n - 1) Tryz.prog l (encW ws x) W fun e W' =>
      (e = .returned (.bool true) ∧ J (pre ++ [x]) W' ∧ Below n₀ W W') ∨ (e = .returned (.bool false) ∧ Jx (pre ++ [x]) W'))
    (W : World) (hBs : W.cell? ⟨Bs, 0, none⟩ = some (.slice (some ⟨b, 0, none⟩) len cap))
    (hc0 : ∀ j, j < len → W.cell? ⟨b, j * 2, none⟩ = some (.int .i64 (wS ws j : Nat))) (hc1 : ∀ j, j < len → W.cell? ⟨b, j * 2 + 1, none⟩ = some (.string (wT ws j))) (h0 : J [] W) :
    CallsIn F n Tryz.prog 151 #[.func (.yield l) #[] #[], .pointer (some ⟨Bs, 0, none⟩)] W fun e W' => (∃ v, e = .returned v) ∧
      ((∃ ys, ys = down len 0 ∧ J ys W') ∨ (∃ pre, (∃ k, k ≤ len ∧ pre = down len k) ∧ Jx pre W')) := by
  refine callsIn_of_wp Tryz.func151 rfl h7 ?_ hro
  simp only [Tryz.ntmps151, List.size_toArray, List.length_cons, List.length_nil, Nat.reduceAdd, Nat.reduceSub, Array.replicate_succ, Array.replicate_zero, List.push_toArray, List.append_toArray, List.nil_append, List.cons_append]
  gi_wp2
  gi_loopw [3] (fun i wr => ∃ k : Nat, k ≤ len ∧ i = .int .i64 ((k : Int) - 1) ∧ J (down len k) wr ∧ Below n₀ W wr)
    (fun i _ => (intOf i + 1).toNat)
  case atStart => exact ⟨len, Nat.le_refl _, rfl, by rw [down_all]; exact h0, Below.refl _ _⟩
  case round =>
    obtain ⟨k, hk, rfl, hJs, hnx⟩ := hrel
    have hbs := (hnx.cell (p := ⟨Bs, 0, none⟩) hBn).trans hBs
    cases k with
    | zero =>
      rw [show (((0 : Nat) : Int) - 1) = -1 from rfl]
      gi_wp2
      go_end0
      exact ⟨⟨_, rfl⟩, .inl ⟨_, rfl, hJs⟩⟩
    | succ m =>
      rw [show (((m + 1 : Nat) : Int) - 1) = (m : Int) by omega]
      obtain ⟨fn, tmps, assign, body, hy, hR⟩ := hY _ m wr hJs (by rw [down_len]; omega)
      unfold encW at hy
      have hx0 := (hnx.cell (p := ⟨b, m * 2, none⟩) hb).trans (hc0 m (by omega))
      have hx1 := (hnx.cell (p := ⟨b, m * 2 + 1, none⟩) hb).trans (hc1 m (by omega))
      clear hBs hc0 hc1
      gi_wp2
      refine hR.mono ?_
      rintro e W3 (⟨rfl, hJ3, hk3⟩ | ⟨rfl, hJx3⟩)
      · gi_wp2
        go_roundw
        case rel => exact ⟨m, by omega, rfl, by rw [down_succ (by omega)]; exact hJ3, hnx.trans hk3⟩
        case measure => simp [intOf]
      · gi_wp2
        refine bodyPost_ret (results_none rfl _ _ _) rfl ?_
        exact ⟨⟨_, rfl⟩, .inr ⟨_, ⟨m, by omega, (down_succ (by omega)).symm⟩, hJx3⟩⟩

set_option maxRecDepth 100000 in
set_option maxHeartbeats 1000000 in
theorem back1_nil_in (F : Fence) (n : Nat) (h7 : F.fn 151) (hro : F.round = none) (l Bs : Nat) (J : List Nat → World → Prop) (W : World) (hBs : W.cell? ⟨Bs, 0, none⟩ = some (.slice none 0 0)) (h0 : J [] W) :
    CallsIn F n Tryz.prog 151 #[.func (.yield l) #[] #[], .pointer (some ⟨Bs, 0, none⟩)] W fun e W' => (∃ v, e = .returned v) ∧ J [] W' := by
  refine callsIn_of_wp Tryz.func151 rfl h7 ?_ hro
  simp only [Tryz.ntmps151, List.size_toArray, List.length_cons, List.length_nil, Nat.reduceAdd, Nat.reduceSub, Array.replicate_succ, Array.replicate_zero, List.push_toArray, List.append_toArray, List.nil_append, List.cons_append]
  gi_wp2
  gi_loopw [3] (fun i wr => i = .int .i64 (-1) ∧ J [] wr) (fun _ _ => 0)
  case atStart => exact ⟨rfl, h0⟩
  case round =>
    obtain ⟨rfl, hJs⟩ := hrel
    gi_wp2
    go_end0
    exact ⟨⟨_, rfl⟩, hJs⟩

theorem back_in (F : Fence) (n : Nat) (h5 : F.fn 142) (hro : F.round = none) (a : Option Addr) (len cap : Nat) (w : World) :
    CallsIn F n Tryz.prog 142 #[.slice a len cap] w fun e w' => e = .returned (.func (.func 151) #[] #[.pointer (some ⟨w.heap.size, 0, none⟩)]) ∧ w' = w.alloc (.cells #[.slice a len cap] 122) := by
  refine callsIn_of_wp Tryz.func142 rfl h5 ?_ hro
  simp only [Tryz.ntmps142, List.size_toArray, List.length_cons, List.length_nil, Nat.reduceAdd, Nat.reduceSub, Array.replicate_succ, Array.replicate_zero, List.push_toArray, List.append_toArray, List.nil_append, List.cons_append]
  gi_wp2
  go_ret
  exact ⟨rfl, rfl⟩

/-- the cache's cells, as the iterator reads them -/
def WsAt (n₀ : Nat) (W : World) (cv : Value) (ws : List (Nat × ByteArray)) : Prop :=
  (cv = .slice none 0 0 ∧ ws = []) ∨ ∃ b cap, cv = .slice (some ⟨b, 0, none⟩) ws.length cap ∧ b < n₀ ∧ (∀ j, j < ws.length → W.cell? ⟨b, j * 2, none⟩ = some (.int .i64 (wS ws j : Nat))) ∧ ∀ j, j < ws.length → W.cell? ⟨b, j * 2 + 1, none⟩ = some (.string (wT ws j))
theorem WsAt.below {n₀ : Nat} {A B : World} (h : Below n₀ A B) {cv : Value} {ws : List (Nat × ByteArray)} : WsAt n₀ A cv ws → WsAt n₀ B cv ws
  | .inl e => .inl e
  | .inr ⟨b, cap, e, hb, hc, hd⟩ => .inr ⟨b, cap, e, hb, fun j hj => (h.cell (p := ⟨b, j * 2, none⟩) hb).trans (hc j hj), fun j hj => (h.cell (p := ⟨b, j * 2 + 1, none⟩) hb).trans (hd j hj)⟩
theorem WsAt.of {n₀ : Nat} {w : World} {cv : Value} {ws : List (Nat × ByteArray)} (h : w.ownsRow 0 131 2 cv ws.length (flatW ws)) (hn : w.heap.size ≤ n₀) : WsAt n₀ w cv ws := by
  rcases h.2 with ⟨hv, h0⟩ | ⟨g, cap, cur, hv, _, hg, _⟩
  · exact .inl ⟨hv, List.eq_nil_of_length_eq_zero h0⟩
  · subst hv
    refine .inr ⟨g, cap, rfl, by have := (Array.getElem?_eq_some_iff.1 hg).1; omega, fun j hj => ?_, fun j hj => ?_⟩
    · rw [h.cellAt (j * 2) (by omega), flatW, flat2_get0 (fun x : Nat × ByteArray => Value.int .i64 (x.1 : Nat)) (fun x => Value.string x.2), wS, List.getElem?_eq_getElem hj]; rfl
    · rw [h.cellAt (j * 2 + 1) (by omega), flatW, flat2_get1 (fun x : Nat × ByteArray => Value.int .i64 (x.1 : Nat)) (fun x => Value.string x.2), wT, List.getElem?_eq_getElem hj]; rfl

theorem back_stops (F : Fence) (n : Nat) (h7 : F.fn 151) (hro : F.round = none) (hn : 1 ≤ n) (Bs n₀ : Nat) (cv : Value) (ws : List (Nat × ByteArray)) (hreach : ws.length ≤ 9223372036854775807) (w : World) (hBs : Bs < n₀) (hn₀ : n₀ ≤ w.heap.size)
    (hc : w.cell? ⟨Bs, 0, none⟩ = some cv) (hI : WsAt n₀ w cv ws) :
    SeqStopsK F n Tryz.prog 151 #[.pointer (some ⟨Bs, 0, none⟩)] (encW ws) (Below n₀) (fun ys => ys = down ws.length 0)
      (fun pre => ∃ k, k ≤ ws.length ∧ pre = down ws.length k) ws.length w := fun l J Jx W hW _ _ hY h0 => by
  have hc' := (hW.cell (p := ⟨Bs, 0, none⟩) (show Bs < _ by omega)).trans hc
  rcases hI.below (hW.mono hn₀) with ⟨rfl, rfl⟩ | ⟨b, cap, rfl, hb, hcs, hds⟩
  · exact (back1_nil_in F n h7 hro l Bs J W hc' h0).mono fun e W' ⟨he, hj⟩ => ⟨he, .inl ⟨_, rfl, hj⟩⟩
  · exact back1_in F n h7 hro hn l Bs n₀ b ws.length cap ws hreach hb hBs J Jx hY W hc' hcs hds h0

/-- none of these is to sector i -/
def noneOf (ws : List (Nat × ByteArray)) (i : Nat) (pre : List Nat) : Prop := ∀ j ∈ pre, wS ws j ≠ i
theorem find_none (ws : List (Nat × ByteArray)) (i : Nat) (h : noneOf ws i (down ws.length 0)) : ws.reverse.find? (fun x => x.1 == i) = none := by
  rw [List.find?_eq_none]
  intro x hx
  obtain ⟨j, hj, rfl⟩ := List.mem_iff_getElem.1 (List.mem_reverse.1 hx)
  have := h j (by
    unfold down
    refine List.mem_map.2 ⟨ws.length - 1 - j, by simp; omega, by omega⟩)
  unfold wS at this
  rw [List.getElem?_eq_getElem hj] at this
  simpa using this
theorem find_some (ws : List (Nat × ByteArray)) (i k : Nat) (hk : k < ws.length) (h : noneOf ws i (down ws.length (k + 1))) (he : wS ws k = i) : ws.reverse.find? (fun x => x.1 == i) = some (ws[k]'hk) := by
  have hr : ws.reverse = (ws.drop (k + 1)).reverse ++ (ws[k]'hk) :: (ws.take k).reverse := by
    have : ws = ws.take k ++ (ws[k]'hk) :: ws.drop (k + 1) := by rw [List.getElem_cons_drop, List.take_append_drop]
    conv => lhs; rw [this]
    simp
  rw [hr, List.find?_append, List.find?_eq_none.2, Option.none_or, List.find?_cons_of_pos]
  · unfold wS at he; rw [List.getElem?_eq_getElem hk] at he; simpa using he
  · intro x hx
    obtain ⟨j, hj, rfl⟩ := List.mem_iff_getElem.1 (List.mem_reverse.1 hx)
    simp only [List.length_drop] at hj
    have := h (k + 1 + j) (by
      unfold down
      refine List.mem_map.2 ⟨ws.length - 1 - (k + 1 + j), by simp; omega, by omega⟩)
    unfold wS at this
    rw [List.getElem?_eq_getElem (by omega)] at this
    simpa using this

set_option maxRecDepth 100000 in
set_option maxHeartbeats 4000000 in
theorem reading_any {p sb : Nat} {cv : Value} {D : Dv} (i : Nat) (w : World) (h : DevAt w p sb cv D) (hi : i < D.n) (hl : D.cache.length ≤ 9223372036854775807) :
    Calls Tryz.prog 128 #[.pointer (some ⟨p, 0, none⟩), .int .i64 (i : Nat)] w fun e w' => e = .returned (.string (D.reads i)) ∧ Below w.heap.size w w' := by
  refine (callsIn_wide (n := 6)).1 ?_
  obtain ⟨F, hF⟩ : ∃ F, F = Fence.wide := ⟨_, rfl⟩
  obtain ⟨n, hn6⟩ : ∃ n, n = 6 := ⟨_, rfl⟩
  rw [← hF, ← hn6]
  have h1 : F.fn 128 := by rw [hF]; trivial
  have h2 : F.fn 142 := by rw [hF]; trivial
  have h3 : F.fn 151 := by rw [hF]; trivial
  have hro : F.round = none := by rw [hF]; rfl
  have HF := Lib.hid hF
  have hn : 3 ≤ n := by omega
  clear hF hn6
  have hn1 : 1 ≤ n := by omega
  have hcv := h.c3
  have hp := h.main.lt
  have hp1 : p < w.heap.size + 1 := by omega
  obtain ⟨sa, sl, sc, rfl⟩ : ∃ a l c, cv = .slice a l c := by
    rcases h.cache.2 with ⟨rfl, _⟩ | ⟨g, cap, cur, rfl, _⟩ <;> exact ⟨_, _, _, rfl⟩
  refine callsIn_of_wp_marks Tryz.func128 rfl h1 ?_ hro
  simp only [Tryz.ntmps128, List.size_toArray, List.length_cons, List.length_nil, Nat.reduceAdd, Nat.reduceSub, Array.replicate_succ, Array.replicate_zero, List.push_toArray, List.append_toArray, List.nil_append, List.cons_append]
  gi_wp2_with (gi_at_call 142; refine (back_in F (n - 1) h2 hro _ _ _ _).mono ?_; rintro e w' ⟨rfl, rfl⟩)
  have bI := ((Boxed.new w 3 (.int .i64 (i : Nat))).alloc (.cells #[.string ⟨#[]⟩] 9)).alloc (.cells #[.slice sa sl sc] 122)
  have bS := (Boxed.new (w.alloc (.cells #[.int .i64 (i : Nat)] 3)) 9 (.string ⟨#[]⟩)).alloc (.cells #[.slice sa sl sc] 122)
  have bC := Boxed.new ((w.alloc (.cells #[.int .i64 (i : Nat)] 3)).alloc (.cells #[.string ⟨#[]⟩] 9)) 122 (.slice sa sl sc)
  simp only [World.size_alloc] at bS bC
  have hB0 : Below w.heap.size w (((w.alloc (.cells #[.int .i64 (i : Nat)] 3)).alloc (.cells #[.string ⟨#[]⟩] 9)).alloc (.cells #[.slice sa sl sc] 122)) := (((Below.refl _ w).alloc (Nat.le_refl _) _).alloc (by simp) _).alloc (by simp; omega) _
  have hsz : (((w.alloc (.cells #[.int .i64 (i : Nat)] 3)).alloc (.cells #[.string ⟨#[]⟩] 9)).alloc (.cells #[.slice sa sl sc] 122)).heap.size = w.heap.size + 3 := by simp
  obtain ⟨W0, hW0⟩ : ∃ W0, ((w.alloc (.cells #[.int .i64 (i : Nat)] 3)).alloc (.cells #[.string ⟨#[]⟩] 9)).alloc (.cells #[.slice sa sl sc] 122) = W0 := ⟨_, rfl⟩
  rw [hW0] at bI bS bC hB0 hsz ⊢
  clear hW0
  have hws : WsAt (w.heap.size + 3) W0 (.slice sa sl sc) D.cache := by
    have := WsAt.of (n₀ := w.heap.size) h.cache (Nat.le_refl _)
    have := this.below hB0
    rcases this with e | ⟨b, cap, e, hb, hc, hd⟩
    · exact .inl e
    · exact .inr ⟨b, cap, e, by omega, hc, hd⟩
  have h0 : DevAt W0 p sb (.slice sa sl sc) D := h.below hB0 (Nat.le_refl _)
  refine wpIn_rangeFunc_ownH hro hn1 (gf := 151) (lb := #[.pointer (some ⟨w.heap.size + 1 + 1, 0, none⟩)]) rfl h3 (enters_of Tryz.func151 (by kernel_rfl) rfl)
    (back_stops F (n - 1) h3 hro (by omega) (w.heap.size + 1 + 1) (w.heap.size + 3) (.slice sa sl sc) D.cache hl W0 (by omega) (by omega) bC.cell hws) belowK_t (belowK_b (by omega)) (Below.refl _ _) (fun _ => rfl)
    (fun pre W => noneOf D.cache i pre ∧ Below (w.heap.size + 3) W0 W)
    (fun c pre W => c = .ret ∧ ∃ q k, pre = q ++ [k] ∧ noneOf D.cache i q ∧ wS D.cache k = i ∧ Boxed W (w.heap.size + 1) 9 (.string (wT D.cache k)) ∧ Below w.heap.size w W)
    ((ownFrom_pure _ _).and (ownFrom_below (by omega) (by omega))) ?ix ⟨fun _ h => (by cases h), Below.refl _ _⟩
    (fun x a' W => ∃ Bx, w.heap.size + 3 ≤ Bx ∧ W.heap[Bx]? = some (.cells #[.int .i64 (wS D.cache x : Nat), .string (wT D.cache x)] 131 (0, 0)) ∧
      a' = { tmps := #[.pointer (some ⟨p, 0, none⟩), .int .i64 (i : Nat), undef, .pointer (some ⟨w.heap.size, 0, none⟩), .pointer (some ⟨w.heap.size + 1, 0, none⟩), undef, .pointer (some ⟨Bx, 0, none⟩), .pointer (some ⟨p, 0, none⟩), .pointer (some ⟨p, 0, none⟩), .pointer (some ⟨p, 3, none⟩), .slice sa sl sc, .func (.func 151) #[] #[.pointer (some ⟨w.heap.size + 1 + 1, 0, none⟩)], .int .i64 (x : Nat), .agg #[.int .i64 (wS D.cache x : Nat), .string (wT D.cache x)], undef, undef, undef, undef, undef, undef, undef, undef, undef, undef, undef, undef, undef, undef], defers := [] }) ?ax ?assign ?body ?done ?stop
  case ix =>
    rintro c s A B row ⟨e, q, k, e1, e2, e3, e4, e5⟩ hg hr
    exact ⟨e, q, k, e1, e2, e3, e4.kept hg (fun e' => by have := (hr _ e'.symm).1; omega), e5.grown hg e5.size (fun k e' => by have := (hr _ e').1; omega)⟩
  case ax =>
    rintro x a' s A B row ⟨Bx, e1, e2, e3⟩ hg hr
    refine ⟨Bx, e1, ?_, e3⟩
    rw [hg.block Bx (Array.getElem?_eq_some_iff.1 e2).1 (fun e' => by
      obtain ⟨_, o, ho, hc⟩ := hr _ e'.symm
      rw [e2] at ho; cases ho; cases hc)]
    exact e2
  case assign =>
    rintro l pre x W K ⟨hno, hb⟩ hK
    have hs := hb.size
    unfold encW
    gi_wp2
    exact hK _ _ ((KeepsOthers.alloc _ _).from _) ((Below.refl _ W).alloc (by omega) _) ⟨hno, hb.alloc (by omega) _⟩ ⟨W.heap.size, by omega, World.alloc_heap_new _ _, rfl⟩
  case body =>
    rintro l pre x a' W hl' hr ⟨hno, hb⟩ ⟨Bx, hBx, bX, rfl⟩ hlt
    clear hr
    have hs := hb.size
    have hx : Has W Bx 131 [.int .i64 (wS D.cache x : Nat), .string (wT D.cache x)] := bX
    have hx0 := hx.cell 0
    have hx1 := hx.cell 1
    simp only [List.getElem?_cons_succ, List.getElem?_cons_zero] at hx0 hx1
    have hbi : W.cell? ⟨w.heap.size, 0, none⟩ = some (.int .i64 (i : Nat)) := (hb.cell (p := ⟨w.heap.size, 0, none⟩) (show w.heap.size < _ by omega)).trans bI.cell
    have hbs : Boxed W (w.heap.size + 1) 9 (.string ⟨#[]⟩) := (hb.block (w.heap.size + 1) (by omega)).trans bS
    have hbs0 := hbs.cell
    have hbs1 := hbs.frozen
    have HS := Lib.hid hbs
    clear bX hx hbs hws h0 bI bS bC hcv h
    gi_wp2
    · rename_i ht
      exact ⟨(KeepsOthers.setCell _ _ _).from _, rfl, pre, x, rfl, hno, by simp at ht; omega, HS.out.set _, (hB0.trans (hb.mono (by omega))).setCell (by simp) _⟩
    · rename_i ht
      exact ⟨(KeepsOthers.refl _).from _, Below.refl _ _, fun j hj => by
        rcases List.mem_append.1 hj with hj | hj
        · exact hno j hj
        · rw [List.mem_singleton.1 hj]; simp at ht; omega, hb⟩
  case done =>
    rintro Dd ys W hD rfl ⟨hno, hb⟩ hK
    have hd : DevAt W p sb (.slice sa sl sc) D := h0.below hb (by omega)
    have hc2 := hd.c2
    have hm := hd.media i hi
    have hbi : W.cell? ⟨w.heap.size, 0, none⟩ = some (.int .i64 (i : Nat)) := (hb.cell (p := ⟨w.heap.size, 0, none⟩) (show w.heap.size < _ by omega)).trans bI.cell
    have hbs : Boxed W (w.heap.size + 1) 9 (.string ⟨#[]⟩) := (hb.block (w.heap.size + 1) (by omega)).trans bS
    have hbs0 := hbs.cell
    have hbs1 := hbs.frozen
    have HS := Lib.hid hbs
    have HR := Lib.hid (show D.reads i = (D.secs[i]'hi).1 by unfold Dv.reads; rw [find_none D.cache i hno, List.getElem?_eq_getElem hi]; rfl)
    have hB := hB0.trans (hb.mono (by omega))
    have HK := Lib.hid hK
    have hn4 := h.ok.n4096
    clear hK hbs hd h0 bI bS bC hcv h hws
    gi_wp2
    have hF := HF.out
    subst hF
    refine wpIn_wide.2 ?_
    go_still_tail 8, (by kernel_rfl)
    change wpList _ _ _ _ _ W.drew
    go_wp2
    gi_wp2
    have hK2 : (W.setCell ⟨w.heap.size + 1, 0, none⟩ (.string (D.secs[i]'hi).1)).drew.heap[Dd]? = some (.deferred (some [])) := (Below.heap_setCell _ _ _ _ (show Dd ≠ w.heap.size + 1 by omega)).trans HK.out
    have hB2 : Below w.heap.size w (W.setCell ⟨w.heap.size + 1, 0, none⟩ (.string (D.secs[i]'hi).1)).drew := (hB.setCell (by simp) _).drew
    have hs2 := HS.out.set (.string (D.secs[i]'hi).1)
    have hc5 := cell_kept (show (W.setCell ⟨w.heap.size + 1, 0, none⟩ (.string (D.secs[i]'hi).1)).drew.cell? ⟨w.heap.size + 1, 0, none⟩ = _ from hs2.cell) (grownBy_putObj' _ Dd (.deferred none)) (fun r e => by cases e; exact ⟨_, hK2, rfl⟩)
    clear hm hc2 hbi hbs0 hbs1
    refine ⟨by simp, .inl ⟨_, _, rfl, run_takeDeferred hK2, ?_⟩⟩
    refine ⟨.string (D.secs[i]'hi).1, ?_, by rw [HR.out], hB2.trans (belowK_b (w := w) (Nat.le_refl _) _ Dd _ _ (by omega) hK2 rfl rfl)⟩
    simp [results, Tryz.f128, go_sem, hc5]
  case stop =>
    rintro Dd c pre W hD ⟨k, hk, rfl⟩ ⟨rfl, q, k2, e1, e2, e3, e4, e5⟩ hK
    have hk : k < D.cache.length := by
      have := congrArg List.length e1
      rw [down_len] at this
      simp at this; omega
    rw [down_succ hk] at e1
    obtain ⟨rfl, e1⟩ := List.append_inj' e1 rfl
    obtain rfl : k = k2 := by simpa using e1
    have HR := Lib.hid (show D.reads i = wT D.cache k by unfold Dv.reads; rw [find_some D.cache i k hk e2 e3]; unfold wT; rw [List.getElem?_eq_getElem hk]; rfl)
    have hc5 := cell_kept e4.cell (grownBy_putObj' _ Dd (.deferred none)) (fun r e => by cases e; exact ⟨_, hK, rfl⟩)
    clear e1 h0 hws bI bS bC h hcv
    gi_wp2
    refine ⟨by simp, .inl ⟨_, _, rfl, run_takeDeferred hK, ?_⟩⟩
    refine ⟨.string (wT D.cache k), ?_, by rw [HR.out], e5.trans (belowK_b (w := w) (Nat.le_refl _) W Dd _ _ (by omega) hK rfl rfl)⟩
    simp [results, Tryz.f128, go_sem, hc5]
end Go.Proofs.YtflanjcfkdjpjaaGreatDoor.Dev


/- Contracts of layer 3 (dev): Read, Write. -/
namespace Go.Proofs.YtflanjcfkdjpjaaGreatDoor.Dev
open Go.RowKit Go.Proofs.YtflanjcfkdjpjaaGreatDoor
set_option linter.unusedVariables false

set_option maxRecDepth 100000 in
set_option maxHeartbeats 1000000 in
theorem read_any {p sb : Nat} {cv : Value} {D : Dv} (i : Int) (w : World) (h : DevAt w p sb cv D) (hl : D.cache.length ≤ 9223372036854775807) :
    Calls Tryz.prog 100 #[.pointer (some ⟨p, 0, none⟩), .int .i64 i] w fun e w' => e = .returned (.tuple #[.string (D.readT i), .int .i64 (D.readE i)]) ∧ Chg (foot p sb cv) w w' ∧ DevAt w' p sb cv (D.readD i) := by
  obtain ⟨r, hr⟩ : ∃ r, r = refuse D := ⟨_, rfl⟩
  have HR := Lib.hid hr
  by_cases h0 : r = 0
  · cases hh : hasB D i with
    | false =>
      have e1 : D.readE i = 3 := by unfold Dv.readE; rw [← hr, h0, hh]; rfl
      have e2 : D.readT i = ⟨#[]⟩ := by unfold Dv.readT; rw [e1]; rfl
      have e3 : D.readD i = D := by unfold Dv.readD; rw [e1]; rfl
      rw [e1, e2, e3]
      have HH := Lib.hid hh
      have HZ := Lib.hid h0
      have HD := Lib.hid h
      clear e1 e2 e3 hh h0 hr h
      go_enter Tryz.func100, Tryz.ntmps100
      go_wp2_with fail
      refine (refusal_any _ HD.out).mono ?_
      rintro e w' ⟨rfl, rfl⟩
      rw [← HR.out, HZ.out]
      go_wp2_with fail
      refine (has_any i _ HD.out).mono ?_
      rintro e w' ⟨rfl, rfl⟩
      rw [HH.out]
      go_wp2
      go_ret2
      exact ⟨rfl, Chg.refl _ _, HD.out⟩
    | true =>
      have hrr : 0 ≤ i ∧ i < D.n := by unfold hasB at hh; simpa using hh
      obtain ⟨k, rfl⟩ := Int.eq_ofNat_of_zero_le hrr.1
      have hk : k < D.n := by omega
      have hki : (k : Int) < (D.n : Int) := hrr.2
      have hn4 := h.ok.n4096
      have h2 := h.c2
      have hb := h.bad k hk
      have hbe : badB D k = (D.secs[k]'hk).2 := by unfold badB; rw [Int.toNat_natCast, List.getElem?_eq_getElem hk]; rfl
      cases hbb : (D.secs[k]'hk).2 with
      | true =>
        have e1 : D.readE k = 7 := by unfold Dv.readE; rw [← hr, h0, hh, hbe, hbb]; rfl
        have e2 : D.readT k = ⟨#[]⟩ := by unfold Dv.readT; rw [e1]; rfl
        have e3 : D.readD k = D := by unfold Dv.readD; rw [e1]; rfl
        rw [e1, e2, e3]
        rw [hbb] at hb
        have HH := Lib.hid hh
        have HZ := Lib.hid h0
        have HD := Lib.hid h
        clear e1 e2 e3 hh h0 hr h hbb hbe hrr
        go_enter Tryz.func100, Tryz.ntmps100
        go_wp2_with fail
        refine (refusal_any _ HD.out).mono ?_
        rintro e w' ⟨rfl, rfl⟩
        rw [← HR.out, HZ.out]
        go_wp2_with fail
        refine (has_any k _ HD.out).mono ?_
        rintro e w' ⟨rfl, rfl⟩
        rw [HH.out]
        go_wp2
        go_ret2
        exact ⟨rfl, Chg.refl _ _, HD.out⟩
      | false =>
        have e1 : D.readE k = 0 := by unfold Dv.readE; rw [← hr, h0, hh, hbe, hbb]; rfl
        have e2 : D.readT k = D.reads k := by unfold Dv.readT; rw [e1, Int.toNat_natCast]; rfl
        have e3 : D.readD k = { D with nr := bump D.nr } := by unfold Dv.readD; rw [e1]; rfl
        rw [e1, e2, e3]
        rw [hbb] at hb
        have hc10 := h.c10
        have hf10 := h.fz 10
        have HD2 := Lib.hid (h.set 10 (.int .i64 (bump D.nr)) { D with nr := bump D.nr } rfl rfl rfl ⟨h.ok.n8, h.ok.n4096, h.ok.s128, h.ok.s1024, h.ok.media, h.ok.text, h.ok.sector, h.ok.fuse, h.ok.lose, h.ok.stray⟩)
        have HH := Lib.hid hh
        have HZ := Lib.hid h0
        have HD := Lib.hid h
        clear e1 e2 e3 hh h0 hr h hbb hbe hrr
        go_enter Tryz.func100, Tryz.ntmps100
        go_wp2_with fail
        refine (refusal_any _ HD.out).mono ?_
        rintro e w' ⟨rfl, rfl⟩
        rw [← HR.out, HZ.out]
        go_wp2_with fail
        refine (has_any k _ HD.out).mono ?_
        rintro e w' ⟨rfl, rfl⟩
        rw [HH.out]
        go_wp2
        refine Reg.still_tail 9 (by kernel_rfl) (by kernel_rfl) ?_
        simp only [List.take_succ_cons, List.take_zero, List.drop_succ_cons, List.drop_zero]
        repeat still_step
        try refine wpStill_nil ?_
        go_wp2_with fail
        refine (reading_any k _ (HD2.out.drewN 1) hk hl).mono ?_
        rintro e w' ⟨rfl, hb2⟩
        have hc2 : Chg (foot p sb cv) w w' := (((Chg.refl _ w).setCell (fun _ => .inl rfl) _).drewN 1).trans (Chg.of_below hb2 (Nat.le_refl _)) (fun _ _ h => h)
        have hd2 := (HD2.out.drewN 1).below hb2 (Nat.le_refl _)
        clear hb2
        go_wp2
        go_ret2
        exact ⟨rfl, hc2, hd2⟩
  · have e1 : D.readE i = r := by unfold Dv.readE; rw [← hr, if_pos h0]
    have e2 : D.readT i = ⟨#[]⟩ := by unfold Dv.readT; rw [e1, if_neg h0]
    have e3 : D.readD i = D := by unfold Dv.readD; rw [e1, if_neg h0]
    rw [e1, e2, e3]
    have hb : (r != 0) = true := by simpa using h0
    have HD := Lib.hid h
    clear e1 e2 e3 h0 hr h
    go_enter Tryz.func100, Tryz.ntmps100
    go_wp2_with fail
    refine (refusal_any _ HD.out).mono ?_
    rintro e w' ⟨rfl, rfl⟩
    rw [← HR.out]
    go_wp2
    go_ret2
    exact ⟨rfl, Chg.refl _ _, HD.out⟩

theorem info_write : (Tryz.prog.info? 131).map (fun i => (i.zero, i.size, i.bytes)) = some (some (.agg #[.int .i64 0, .string ⟨#[]⟩]), 2, 24) := by kernel_rfl

set_option maxRecDepth 100000 in
set_option maxHeartbeats 4000000 in
theorem write_any {p sb : Nat} {cv : Value} {D : Dv} (i : Int) (s : ByteArray) (w : World) (h : DevAt w p sb cv D) (hl : D.cache.length ≤ 1000000000) (hsm : s.size ≤ 1000000000) :
    Calls Tryz.prog 132 #[.pointer (some ⟨p, 0, none⟩), .int .i64 i, .string s] w fun e w' => e = .returned (.int .i64 (D.writeE i s)) ∧ Now p sb cv w (D.writeD i s) w' := by
  obtain ⟨r, hr⟩ : ∃ r, r = refuse D := ⟨_, rfl⟩
  have HR := Lib.hid hr
  by_cases h0 : r = 0
  · cases hh : hasB D i with
    | false =>
      have e1 : D.writeE i s = 3 := by unfold Dv.writeE; rw [← hr, h0, hh]; rfl
      have e3 : D.writeD i s = D := by unfold Dv.writeD; rw [if_pos (.inr (.inl hh))]
      rw [e1, e3]
      have HH := Lib.hid hh
      have HZ := Lib.hid h0
      have HD := Lib.hid h
      clear e1 e3 hh h0 hr h
      go_enter Tryz.func132, Tryz.ntmps132
      go_wp2_with fail
      refine (refusal_any _ HD.out).mono ?_
      rintro e w' ⟨rfl, rfl⟩
      rw [← HR.out, HZ.out]
      go_wp2_with fail
      refine (has_any i _ HD.out).mono ?_
      rintro e w' ⟨rfl, rfl⟩
      rw [HH.out]
      go_wp2
      go_ret
      exact ⟨rfl, .same (Chg.refl _ _) HD.out⟩
    | true =>
      have hrr : 0 ≤ i ∧ i < D.n := by unfold hasB at hh; simpa using hh
      obtain ⟨k, rfl⟩ := Int.eq_ofNat_of_zero_le hrr.1
      have hk : k < D.n := by omega
      have hki : (k : Int) < (D.n : Int) := hrr.2
      have hn4 := h.ok.n4096
      have hs1 := h.ok.s1024
      have h1 := h.c1
      have HH := Lib.hid hh
      have HZ := Lib.hid h0
      have HD := Lib.hid h
      by_cases hsz : s.size = D.size
      · have hne : ((s.size : Int) != (D.size : Int)) = false := by simp; omega
        have HSZ := Lib.hid hsz
        cases hst : stk D.fuse with
        | true =>
          have e1 : D.writeE k s = 6 := by unfold Dv.writeE; rw [← hr, h0, hh, hst]; simp [hsz]
          have e3 : D.writeD k s = D.blow := by unfold Dv.writeD; rw [if_neg (by rw [← hr, hh]; simp [h0, hsz]), if_pos (.inl hst)]
          rw [e1, e3]
          have HS := Lib.hid hst
          clear e1 e3 hh h0 hr h hst hrr hsz
          go_enter Tryz.func132, Tryz.ntmps132
          go_wp2_with fail
          refine (refusal_any _ HD.out).mono ?_
          rintro e w' ⟨rfl, rfl⟩
          rw [← HR.out, HZ.out]
          go_wp2_with fail
          refine (has_any k _ HD.out).mono ?_
          rintro e w' ⟨rfl, rfl⟩
          rw [HH.out]
          go_wp2_with fail
          refine (blows_any _ HD.out).mono ?_
          rintro e w1 ⟨rfl, hc1, hd1⟩
          rw [HS.out]
          have HC1 := Lib.hid hc1
          have HD1 := Lib.hid hd1
          clear hc1 hd1 h1
          go_wp2
          go_ret
          exact ⟨rfl, .same HC1.out HD1.out⟩
        | false =>
          have hbe : badB D k = (D.secs[k]'hk).2 := by unfold badB; rw [Int.toNat_natCast, List.getElem?_eq_getElem hk]; rfl
          have HS := Lib.hid hst
          cases hbb : (D.secs[k]'hk).2 with
          | true =>
            have e1 : D.writeE k s = 7 := by unfold Dv.writeE; rw [← hr, h0, hh, hst, hbe, hbb]; simp [hsz]
            have e3 : D.writeD k s = D.blow := by unfold Dv.writeD; rw [if_neg (by rw [← hr, hh]; simp [h0, hsz]), if_pos (.inr (by rw [hbe, hbb]))]
            rw [e1, e3]
            have HB := Lib.hid hbb
            clear e1 e3 hh h0 hr h hst hrr hsz hbe hbb
            go_enter Tryz.func132, Tryz.ntmps132
            go_wp2_with fail
            refine (refusal_any _ HD.out).mono ?_
            rintro e w' ⟨rfl, rfl⟩
            rw [← HR.out, HZ.out]
            go_wp2_with fail
            refine (has_any k _ HD.out).mono ?_
            rintro e w' ⟨rfl, rfl⟩
            rw [HH.out]
            go_wp2_with fail
            refine (blows_any _ HD.out).mono ?_
            rintro e w1 ⟨rfl, hc1, hd1⟩
            rw [HS.out]
            have HC1 := Lib.hid hc1
            have HD1 := Lib.hid hd1
            have h2 : w1.cell? ⟨p, 2, none⟩ = some (.slice (some ⟨sb, 0, none⟩) D.n D.n) := hd1.c2
            have hb : w1.cell? ⟨sb, k * 2 + 1, none⟩ = some (.bool true) := by rw [← HB.out]; exact hd1.bad k hk
            clear hc1 hd1 h1
            go_wp2
            go_ret
            exact ⟨rfl, .same HC1.out HD1.out⟩
          | false =>
            have e1 : D.writeE k s = 0 := by unfold Dv.writeE; rw [← hr, h0, hh, hst, hbe, hbb]; simp [hsz]
            have e3 : D.writeD k s = if goes D.blow.counted k then D.blow.counted.struck.push (dest D.blow.counted k) s else D.blow.counted.struck := by
              unfold Dv.writeD; rw [if_neg (by rw [← hr, hh]; simp [h0, hsz]), if_neg (by rw [hst, hbe, hbb]; simp)]
            rw [e1]
            have HB := Lib.hid hbb
            have HW := Lib.hid e3
            clear e1 e3 hh h0 hr h hst hrr hsz hbe hbb
            go_enter Tryz.func132, Tryz.ntmps132
            go_wp2_with fail
            refine (refusal_any _ HD.out).mono ?_
            rintro e w' ⟨rfl, rfl⟩
            rw [← HR.out, HZ.out]
            go_wp2_with fail
            refine (has_any k _ HD.out).mono ?_
            rintro e w' ⟨rfl, rfl⟩
            rw [HH.out]
            go_wp2_with fail
            refine (blows_any _ HD.out).mono ?_
            rintro e w1 ⟨rfl, hc1, hd1⟩
            rw [HS.out]
            have h2 : w1.cell? ⟨p, 2, none⟩ = some (.slice (some ⟨sb, 0, none⟩) D.n D.n) := hd1.c2
            have hb : w1.cell? ⟨sb, k * 2 + 1, none⟩ = some (.bool false) := by rw [← HB.out]; exact hd1.bad k hk
            have h11 : w1.cell? ⟨p, 11, none⟩ = some (.int .i64 D.nw) := hd1.c11
            have hf11 := hd1.fz 11
            have HC1 := Lib.hid hc1
            have HD1 := Lib.hid (hd1.set 11 (.int .i64 (bump D.nw)) D.blow.counted rfl rfl rfl ⟨hd1.ok.n8, hd1.ok.n4096, hd1.ok.s128, hd1.ok.s1024, hd1.ok.media, hd1.ok.text, hd1.ok.sector, hd1.ok.fuse, hd1.ok.lose, hd1.ok.stray⟩)
            clear hc1 hd1 h1
            go_wp2
            refine Reg.still_tail 9 (by kernel_rfl) (by kernel_rfl) ?_
            simp only [List.take_succ_cons, List.take_zero, List.drop_succ_cons, List.drop_zero]
            repeat still_step
            try refine wpStill_nil ?_
            go_wp2_with fail
            refine (target_any k _ (HD1.out.drewN 1)).mono ?_
            rintro e w2 ⟨rfl, hc2, hd2⟩
            have hc2' : Chg (foot p sb cv) w w2 := (((HC1.out.setCell (fun _ => .inl rfl) _).drewN 1)).trans hc2 (fun _ _ h => h)
            clear hc2 h2 hb h11 hf11
            cases hg : goes D.blow.counted k with
            | false =>
              have HC2 := Lib.hid hc2'
              have HD2 := Lib.hid hd2
              have HG := Lib.hid hg
              clear hc2' hd2 hg
              go_wp2
              go_ret
              exact ⟨rfl, .same HC2.out (by rw [HW.out, HG.out]; exact HD2.out)⟩
            | true =>
              have hgo : 0 ≤ dest D.blow.counted k ∧ dest D.blow.counted k < D.n := by
                unfold goes hasB at hg
                simp only [Bool.and_eq_true, decide_eq_true_eq] at hg
                exact hg.2.1
              obtain ⟨q, hq⟩ := Int.eq_ofNat_of_zero_le hgo.1
              have hqn : q < D.n := by omega
              rw [hq]
              have HG := Lib.hid (show D.writeD k s = D.blow.counted.struck.push (q : Nat) s by rw [HW.out, hg, hq]; rfl)
              have HC2 := Lib.hid hc2'
              have HD2 := Lib.hid hd2
              have h3 : w2.cell? ⟨p, 3, none⟩ = some cv := hd2.c3
              have hrow := hd2.cache.alloc (.cells #[.int .i64 (q : Nat), .string s] 131)
              have hp2 := hd2.main.lt
              have HLEN := Lib.hid (show D.blow.counted.struck.cache.length = D.cache.length from rfl)
              have HCP := Lib.hid hd2.cp
              have HSZ2 := Lib.hid (show s.size = D.blow.counted.struck.size from HSZ.out)
              have HQ := Lib.hid (show q < D.blow.counted.struck.n from hqn)
              have hfz3 := hd2.fz 3
              clear hc2' hd2 hg hgo hq
              obtain ⟨i0, hi, hz0, hz1, hz2⟩ := info_parts info_write
              go_wp2_with (at_builtin; refine wpList_append_own_at _ rfl _ _ 122 rfl 0 131 i0 (.agg #[.int .i64 0, .string ⟨#[]⟩]) 2 24 Tryz.underlying122 hi hz0 hz1 hz2 rfl (by decide) _ _ _ rfl hrow ⟨w2.heap.size, 0, none⟩ 1 1 [.int .i64 (q : Nat), .string s] rfl rfl ?c1 ?c2 ?c3 ?c4 ?c5 ?_)
              case c1 =>
                intro j u hj
                match j, hj with
                | 0, hj => simp at hj; subst hj; simp [Addr.add]
                | 1, hj => simp at hj; subst hj; simp [Addr.add]
              case c2 => intro u hu; simp at hu; rcases hu with rfl | rfl <;> rfl
              case c3 => rw [HLEN.out]; unfold maxLen; omega
              case c4 => rw [HLEN.out]; omega
              case c5 => simp
              intro v' w3 hown' hgrow _ hat
              obtain ⟨g', cap', rfl⟩ := ownsRow_succ hown'
              have HN := Lib.hid (HD2.out.append _ q s HQ.out HSZ2.out hown' hgrow (by rw [World.size_alloc]; exact hat))
              have hc3 : w3.cell? ⟨p, 3, none⟩ = some cv := (World.cell?_of_block (hgrow.block p (by simp; omega) (fun e => HCP.out e.symm))).trans ((World.cell?_alloc_lt w2 _ _ hp2).trans h3)
              have hf3 : w3.frozen? ⟨p, 3, none⟩ = false := (World.frozen?_of_block (hgrow.block p (by simp; omega) (fun e => HCP.out e.symm))).trans ((World.frozen?_of_block (Below.heap_alloc _ _ _ hp2)).trans hfz3)
              clear hown' hgrow hat h3 hrow hfz3
              go_wp2
              go_ret
              exact ⟨rfl, by rw [HG.out]; exact Now.trans HC2.out HN.out⟩
      · have hne : ((s.size : Int) != (D.size : Int)) = true := by simp; omega
        have e1 : D.writeE k s = 2 := by unfold Dv.writeE; rw [← hr, h0, hh]; simp [hsz]
        have e3 : D.writeD k s = D := by unfold Dv.writeD; rw [if_pos (.inr (.inr hsz))]
        rw [e1, e3]
        clear e1 e3 hh h0 hr h hrr hsz
        go_enter Tryz.func132, Tryz.ntmps132
        go_wp2_with fail
        refine (refusal_any _ HD.out).mono ?_
        rintro e w' ⟨rfl, rfl⟩
        rw [← HR.out, HZ.out]
        go_wp2_with fail
        refine (has_any k _ HD.out).mono ?_
        rintro e w' ⟨rfl, rfl⟩
        rw [HH.out]
        go_wp2
        go_ret
        exact ⟨rfl, .same (Chg.refl _ _) HD.out⟩
  · have e1 : D.writeE i s = r := by unfold Dv.writeE; rw [← hr, if_pos h0]
    have e3 : D.writeD i s = D := by unfold Dv.writeD; rw [if_pos (.inl (by rw [← hr]; exact h0))]
    rw [e1, e3]
    have hb : (r != 0) = true := by simpa using h0
    have HD := Lib.hid h
    clear e1 e3 h0 hr h
    go_enter Tryz.func132, Tryz.ntmps132
    go_wp2_with fail
    refine (refusal_any _ HD.out).mono ?_
    rintro e w' ⟨rfl, rfl⟩
    rw [← HR.out]
    go_wp2
    go_ret
    exact ⟨rfl, .same (Chg.refl _ _) HD.out⟩
end Go.Proofs.YtflanjcfkdjpjaaGreatDoor.Dev


/- Contracts of the document's own answers for layer 6: May, At, Move, Text, Parse. -/
namespace Go.Proofs.YtflanjcfkdjpjaaGreatDoor.Tab
open Go.RowKit Go.Proofs.YtflanjcfkdjpjaaGreatDoor Go.Proofs.YtflanjcfkdjpjaaGreatDoor.Lend
set_option linter.unusedVariables false

theorem ret_bool {a b : Bool} (h : a = b) : Ending.returned (.bool a) = .returned (.bool b) := by rw [h]
/-- a slice of ints that reads as m; nil only if it has no room -/
structure Ints (w : World) (ao : Option Addr) (len cap : Nat) (m : List Int) : Prop where
  row : Row .i64 w ao len m
  le : len ≤ cap
  nil : ao = none → cap = 0
theorem Ints.below {w w' : World} {ao : Option Addr} {len cap : Nat} {m : List Int} (h : Ints w ao len cap m) (hb : Below w.heap.size w w') : Ints w' ao len cap m := ⟨h.row.below hb (Nat.le_refl _), h.le, h.nil⟩
theorem Ints.new {w : World} {ao : Option Addr} {len cap : Nat} {m : List Int} (h : Ints w ao len cap m) (o : Obj) : Ints (w.alloc o) ao len cap m := h.below ((Below.refl _ _).alloc (Nat.le_refl _) _)
theorem Ints.drew {w : World} {ao : Option Addr} {len cap : Nat} {m : List Int} (h : Ints w ao len cap m) : Ints w.drew ao len cap m := ⟨⟨h.row.1, h.row.2⟩, h.le, h.nil⟩
theorem Ints.len_eq {w : World} {ao : Option Addr} {len cap : Nat} {m : List Int} (h : Ints w ao len cap m) : m.length = len := h.row.len_eq
theorem Ints.none (w : World) : Ints w none 0 0 [] := ⟨⟨rfl, fun h => by omega⟩, Nat.le_refl _, fun _ => rfl⟩
theorem Ints.own {w : World} {B : Nat} {e : TypeId} {ao : Option Addr} {n cap : Nat} {xs : List Int} (h : w.ownsRow B e 1 (.slice ao n cap) n (xs.map (Value.int .i64))) : Ints w ao n cap xs := by
  obtain ⟨ao', cap', hv, hle⟩ := own_shape h
  injection hv with h1 _ h3
  subst h1; subst h3
  refine ⟨Row.own h, hle, fun hn => ?_⟩
  subst hn
  rcases h.2 with ⟨hv, _⟩ | ⟨g, cap', cur, hv, _⟩
  · injection hv
  · injection hv with hv; cases hv
/-- its memory is from B on -/
def NewA (B : Nat) (ao : Option Addr) : Prop := ∀ a, ao = some a → B ≤ a.block
theorem NewA.none (B : Nat) : NewA B none := fun a h => by cases h
theorem NewA.mono {B C : Nat} {ao : Option Addr} (h : NewA B ao) (hC : C ≤ B) : NewA C ao := fun a e => Nat.le_trans hC (h a e)
theorem NewA.own {w : World} {B : Nat} {e : TypeId} {size : Nat} {ao : Option Addr} {n cap : Nat} {xs : List Value} (h : w.ownsRow B e size (.slice ao n cap) n xs) : NewA B ao := by
  intro a ha
  rcases h.2 with ⟨hv, _⟩ | ⟨g, cap', cur, hv, hB, _⟩
  · injection hv with hv; rw [ha] at hv; cases hv
  · injection hv with hv; rw [ha] at hv; injection hv with hv; subst hv; exact hB
theorem Ints.setCell {w : World} {ao : Option Addr} {len cap : Nat} {m : List Int} (h : Ints w ao len cap m) {p : Addr} (hp : ∀ a, ao = some a → a.block ≠ p.block) (v : Value) : Ints (w.setCell p v) ao len cap m := by
  refine ⟨⟨h.row.len_eq, fun hl => ?_⟩, h.le, h.nil⟩
  obtain ⟨b, off, hb, hc⟩ := h.row.at_ hl
  refine ⟨b, off, hb, fun i hi => ?_⟩
  rw [← hc i hi]
  unfold World.cell?
  rw [Below.heap_setCell _ _ _ _ (hp _ hb)]
theorem Ints.cells {w : World} {ao : Option Addr} {len cap : Nat} {m : List Int} {ad : Addr} (h : Ints w ao len cap m) (ha : ao = some ad) (j : Nat) (u : Value) (hj : (m.map (Value.int .i64))[j]? = some u) : w.cell? (ad.add j) = some u := by
  have hl := h.len_eq
  have hjl : j < len := by
    rw [← hl]
    rw [List.getElem?_map] at hj
    cases hc : m[j]? with
    | none => rw [hc] at hj; cases hj
    | some x => exact (List.getElem?_eq_some_iff.1 hc).1
  obtain ⟨b, off, hab, hc⟩ := h.row.at_ (by omega)
  rw [ha] at hab
  injection hab with hab
  subst hab
  rw [Addr.add_lit, hc j hjl]
  rw [List.getElem?_map, List.getElem?_eq_getElem (by omega)] at hj
  rw [List.getD_eq_getElem?_getD, List.getElem?_eq_getElem (by omega)]
  simpa using hj
theorem Ints.get {w : World} {ao : Option Addr} {len cap : Nat} {m : List Int} (h : Ints w ao len cap m) (hl : 0 < len) : ∃ b off, ao = some ⟨b, off, .none⟩ ∧ ∀ i, i < len → w.cell? ⟨b, off + i, .none⟩ = some (.int .i64 (m.getD i 0)) := h.row.at_ hl

theorem info_int6 : (Tryz.prog.info? 3).map (fun i => (i.zero, i.size, i.bytes)) = some (some (.int .i64 0), 1, 8) := by kernel_rfl
end Go.Proofs.YtflanjcfkdjpjaaGreatDoor.Tab


/- Layer 6: a table as a value of 35 cells: its counts, how many spares are used, and an array of 32. -/
namespace Go.Proofs.YtflanjcfkdjpjaaGreatDoor.Tab
open Go.RowKit Go.Proofs.YtflanjcfkdjpjaaGreatDoor Go.Proofs.YtflanjcfkdjpjaaGreatDoor.Lend
set_option linter.unusedVariables false

/-- a table's cells -/
def tl (n k : Int) (m : List Int) : List Value := .int .i64 n :: .int .i64 k :: .int .i64 m.length :: (List.range 32).map fun j => .int .i64 (m.getD j 0)
def ta (n k : Int) (m : List Int) : Array Value := (tl n k m).toArray
theorem tl_length (n k : Int) (m : List Int) : (tl n k m).length = 35 := by simp [tl]
@[simp] theorem ta_size (n k : Int) (m : List Int) : (ta n k m).size = 35 := by simp [ta, tl]
@[simp] theorem ta_ne (n k : Int) (m : List Int) : ta n k m ≠ #[] := by intro h; have := congrArg Array.size h; simp at this
theorem tl_at (n k : Int) (m : List Int) (j : Nat) (h : j < 32) : (tl n k m)[3 + j]? = some (.int .i64 (m.getD j 0)) := by
  rw [show 3 + j = j + 1 + 1 + 1 by omega, tl, List.getElem?_cons_succ, List.getElem?_cons_succ, List.getElem?_cons_succ, List.getElem?_map, List.getElem?_range h]; rfl
@[simp, go_sem] theorem ta_e0 (n k : Int) (m : List Int) (h : 0 < (ta n k m).size) : (ta n k m)[0] = .int .i64 n := by simp [ta, tl]
@[simp, go_sem] theorem ta_e1 (n k : Int) (m : List Int) (h : 1 < (ta n k m).size) : (ta n k m)[1] = .int .i64 k := by simp [ta, tl]
@[simp, go_sem] theorem ta_e2 (n k : Int) (m : List Int) (h : 2 < (ta n k m).size) : (ta n k m)[2] = .int .i64 m.length := by simp [ta, tl]
theorem ta_one (n k : Int) (m : List Int) : (ta n k m).all (·.oneCell') = true := by
  rw [Array.all_eq_true]
  intro i hi
  have hm : (ta n k m)[i] ∈ tl n k m := by
    have : (ta n k m)[i] = (tl n k m)[i]'(by simpa [ta] using hi) := by simp [ta]
    rw [this]; exact List.getElem_mem _
  simp only [tl, List.mem_cons, List.mem_map, List.mem_range] at hm
  rcases hm with h | h | h | ⟨j, _, h⟩
  · rw [h]; rfl
  · rw [h]; rfl
  · rw [h]; rfl
  · rw [← h]; rfl
theorem tl_set (n k : Int) (m : List Int) (b : Int) (h : m.length < 32) : ((tl n k m).set (3 + m.length) (.int .i64 b)).set 2 (.int .i64 (m.length + 1 : Int)) = tl n k (m ++ [b]) := by
  apply List.ext_getElem?
  intro i
  match i with
  | 0 => rw [List.getElem?_set_ne (by omega), List.getElem?_set_ne (by omega)]; rfl
  | 1 => rw [List.getElem?_set_ne (by omega), List.getElem?_set_ne (by omega)]; rfl
  | 2 => rw [List.getElem?_set_self (by rw [List.length_set, tl_length]; omega)]; simp [tl]
  | i + 3 =>
    rw [show i + 3 = 3 + i by omega, List.getElem?_set_ne (by omega)]
    by_cases hi : i < 32
    · rw [tl_at _ _ _ i hi]
      by_cases he : i = m.length
      · subst he
        rw [List.getElem?_set_self (by rw [tl_length]; omega)]
        simp
      · rw [List.getElem?_set_ne (by omega), tl_at _ _ _ i hi]
        congr 2
        by_cases hl : i < m.length
        · simp [List.getD_eq_getElem?_getD, List.getElem?_append_left hl]
        · rw [List.getD_eq_getElem?_getD, List.getD_eq_getElem?_getD, List.getElem?_eq_none (by omega), List.getElem?_eq_none (by simp; omega)]
    · rw [List.getElem?_eq_none (by simp [tl_length]; omega), List.getElem?_eq_none (by simp [tl_length]; omega)]

theorem b_on {w w1 w2 : World} (h : Below w.heap.size w w1) (k : Below w1.heap.size w1 w2) : Below w.heap.size w w2 := h.trans (k.mono h.size)
theorem b_nw {w w1 : World} (h : Below w.heap.size w w1) (o : Obj) : Below w.heap.size w (w1.alloc o) := h.alloc h.size o
theorem b_new (w : World) (o : Obj) : Below w.heap.size w (w.alloc o) := (Below.refl _ _).alloc (Nat.le_refl _) _
theorem b_row {a w : World} (h : Below a.heap.size a w) {p : Nat} (hp : a.heap.size ≤ p) (cs : Array Value) : Below a.heap.size a (w.setRow p cs) :=
  ⟨h.os, h.tape, h.output, by have := h.size; simp; omega, fun i hi => (setRow_other w p i cs (by omega)).trans (h.block i hi)⟩

/-- the load of a whole table: one operation, not 35 -/
def ldT (a : Addr) : Sem (Array Value) := loadCells a 35
@[simp ↓ high, go_sem ↓ high] theorem load_from (a : Addr) : loadCellsFrom a 0 35 #[] = ldT a := rfl
/-- a block that holds a table -/
def TAt (w : World) (p : Nat) (n k : Int) (m : List Int) : Prop := Has w p 88 (tl n k m)
section
variable {w w' : World} {p : Nat} {n k : Int} {m : List Int}
theorem TAt.row (h : TAt w p n k m) : w.heap[p]? = some (.cells (ta n k m) 88 (0, 0)) := h
theorem TAt.lt (h : TAt w p n k m) : p < w.heap.size := Has.lt h
theorem TAt.on (h : TAt w p n k m) (hb : Below w.heap.size w w') : TAt w' p n k m := Has.below h hb h.lt
theorem TAt.new (h : TAt w p n k m) (o : Obj) : TAt (w.alloc o) p n k m := Has.alloc h o
theorem TAt.made (w : World) (n k : Int) (m : List Int) : TAt (w.alloc (.cells (ta n k m) 88)) w.heap.size n k m := Has.new w (tl n k m) _
theorem TAt.c0 (h : TAt w p n k m) : w.cell? ⟨p, 0, none⟩ = some (.int .i64 n) := Has.cell h 0
theorem TAt.c1 (h : TAt w p n k m) : w.cell? ⟨p, 1, none⟩ = some (.int .i64 k) := Has.cell h 1
theorem TAt.c2 (h : TAt w p n k m) : w.cell? ⟨p, 2, none⟩ = some (.int .i64 m.length) := Has.cell h 2
theorem TAt.cm (h : TAt w p n k m) (j : Nat) (hj : j < 32) : w.cell? ⟨p, 3 + j, none⟩ = some (.int .i64 (m.getD j 0)) := (Has.cell h (3 + j)).trans (tl_at n k m j hj)
theorem TAt.ld (h : TAt w p n k m) : (ldT ⟨p, 0, none⟩).run Tryz.prog w = .ok (ta n k m) w := by
  have := run_loadCells_list (P := Tryz.prog) w ⟨p, 0, none⟩ (tl n k m) (fun j v hv => by
    have hadd : (⟨p, 0, none⟩ : Addr).add j = ⟨p, j, none⟩ := by unfold Addr.add; split <;> simp_all
    rw [hadd, Has.cell h j]; exact hv)
  rw [tl_length] at this
  exact this
theorem TAt.st (h : TAt w p n k m) (n' k' : Int) (m' : List Int) : (storeCells ⟨p, 0, none⟩ (ta n' k' m').toList 0).run Tryz.prog w = .ok () (w.setRow p (ta n' k' m')) := by
  have := run_storeVar_row (P := Tryz.prog) w p 88 88 (ta n k m) (ta n' k' m') h.row (by rw [ta_size]; kernel_rfl) (by simp) (ta_one _ _ _)
  simpa [storeVar, Value.cells] using this
theorem TAt.put (h : TAt w p n k m) (n' k' : Int) (m' : List Int) : TAt (w.setRow p (ta n' k' m')) p n' k' m' := setRow_heap w p _ _ _ _ h.row
theorem TAt.putOther {q : Nat} (h : TAt w p n k m) (hq : p ≠ q) (cs : Array Value) : TAt (w.setRow q cs) p n k m := by
  show (w.setRow q cs).heap[p]? = _
  rw [setRow_other _ _ _ _ hq]; exact h
theorem TAt.push (h : TAt w p n k m) (b : Int) (hm : m.length < 32) : TAt ((w.setCell ⟨p, 3 + m.length, none⟩ (.int .i64 b)).setCell ⟨p, 2, none⟩ (.int .i64 (m.length + 1 : Int))) p n k (m ++ [b]) := by
  have := (Has.set h (3 + m.length) (.int .i64 b)).set 2 (.int .i64 (m.length + 1 : Int))
  rw [tl_set n k m b hm] at this
  exact this
theorem TAt.setOther (h : TAt w p n k m) {a : Addr} (ha : a.block ≠ p) (v : Value) : TAt (w.setCell a v) p n k m := Has.setOther h ha v
end
/-- t.moved[:u] -/
theorem slice_sp (p u : Nat) (hu : u ≤ 32) (W : World) : (Instr.sliceAt 86 (.pointer (some ⟨p, 3, none⟩)) none (some (.int .i64 (u : Int))) none).run Tryz.prog W = .ok (.slice (some ⟨p, 3, none⟩) u 32) W := by
  rw [run_sliceAt_array_h W 86 ⟨p, 3, none⟩ (by kernel_rfl) .i64 (u : Int) (by omega) (by rw [show (Tryz.prog).arrayLen 86 = 32 from by kernel_rfl]; omega)]
  rw [show (Tryz.prog).arrayLen 86 = 32 from by kernel_rfl, show (Tryz.prog).elem 86 = 3 from by kernel_rfl]
  simp [slicedAt, go_sem]
@[simp, go_sem] theorem st_new (w : World) (n k : Int) (m : List Int) : (storeCells ⟨w.heap.size, 0, none⟩ (ta n k m).toList 0).run Tryz.prog (w.alloc (.cells (ta 0 0 []) 88)) = .ok () (w.alloc (.cells (ta n k m) 88)) := by
  have := (TAt.made w 0 0 []).st n k m
  rwa [World.setRow_alloc_new] at this
end Go.Proofs.YtflanjcfkdjpjaaGreatDoor.Tab


/- Contracts of layer 6 (table): New, Blocks, Left, Gen, has, Move. -/
namespace Go.Proofs.YtflanjcfkdjpjaaGreatDoor.Tab
open Go.RowKit Go.Proofs.YtflanjcfkdjpjaaGreatDoor Go.Proofs.YtflanjcfkdjpjaaGreatDoor.Lend
set_option linter.unusedVariables false

set_option maxRecDepth 100000 in
theorem blocks_any (n k : Int) (m : List Int) (w : World) : Calls Tryz.prog 32 #[.agg (ta n k m)] w fun e w' => e = .returned (.int .i64 n) ∧ Below w.heap.size w w' := by
  have e0 := (TAt.made w n k m).c0
  go_enter Tryz.func32, Tryz.ntmps32
  go_wp2
  go_ret
  exact ⟨rfl, b_new _ _⟩
set_option maxRecDepth 100000 in
theorem left_any (n k : Int) (m : List Int) (w : World) (hk : 0 ≤ k) (hk2 : k ≤ 32) (hl : m.length ≤ 32) : Calls Tryz.prog 130 #[.agg (ta n k m)] w fun e w' => e = .returned (.int .i64 (k - m.length)) ∧ Below w.heap.size w w' := by
  obtain ⟨u, hu⟩ : ∃ u, u = m.length := ⟨_, rfl⟩
  have e1 := (TAt.made w n k m).c1
  have e2 := (TAt.made w n k m).c2
  rw [← hu] at e2 hl ⊢
  clear hu
  go_enter Tryz.func130, Tryz.ntmps130
  go_wp2
  go_ret
  exact ⟨rfl, b_new _ _⟩
set_option maxRecDepth 100000 in
theorem gen_any (n k : Int) (m : List Int) (w : World) (hl : m.length ≤ 32) : Calls Tryz.prog 102 #[.agg (ta n k m)] w fun e w' => e = .returned (.int .u64 m.length) ∧ Below w.heap.size w w' := by
  obtain ⟨u, hu⟩ : ∃ u, u = m.length := ⟨_, rfl⟩
  have e2 := (TAt.made w n k m).c2
  rw [← hu] at e2 hl ⊢
  have hw : IntKind.u64.wrap (u : Int) = u := by rw [wrap_u64]; omega
  clear hu
  go_enter Tryz.func102, Tryz.ntmps102
  go_wp2
  go_ret
  exact ⟨rfl, b_new _ _⟩

set_option maxRecDepth 100000 in
theorem has_any (n k b : Int) (m : List Int) (w : World) : Calls Tryz.prog 146 #[.agg (ta n k m), .int .i64 b] w fun e w' => e = .returned (.bool (atB n b)) ∧ Below w.heap.size w w' := by
  have e0 := (TAt.made w n k m).c0
  by_cases h0 : 0 ≤ b
  · by_cases h1 : b < n
    · rw [(at_yes (m := []) h0 h1).1]
      go_enter Tryz.func146, Tryz.ntmps146
      go_wp2
      go_ret
      exact ⟨rfl, b_new _ _⟩
    · have h1' : n ≤ b := by omega
      rw [(at_no (m := []) (n := n) (b := b) (.inr h1')).1]
      clear h1
      go_enter Tryz.func146, Tryz.ntmps146
      go_wp2
      go_ret
      exact ⟨ret_bool (by simp; omega), b_new _ _⟩
  · have h0' : b < 0 := by omega
    rw [(at_no (m := []) (n := n) (b := b) (.inl h0')).1]
    clear h0
    go_enter Tryz.func146, Tryz.ntmps146
    go_wp2
    go_ret
    exact ⟨rfl, b_new _ _⟩

/-- what New answers -/
def nwE (n k : Int) : Int := if mayB n k = true then 0 else 2
def nwN (n k : Int) : Int := if mayB n k = true then n else 0
def nwK (n k : Int) : Int := if mayB n k = true then k else 0
theorem nw_yes {n k : Int} (h : mayB n k = true) : nwE n k = 0 ∧ nwN n k = n ∧ nwK n k = k := ⟨by rw [nwE, if_pos h], by rw [nwN, if_pos h], by rw [nwK, if_pos h]⟩
theorem nw_no {n k : Int} (h : mayB n k = false) : nwE n k = 2 ∧ nwN n k = 0 ∧ nwK n k = 0 := by
  have h' : ¬ mayB n k = true := by rw [h]; decide
  exact ⟨by rw [nwE, if_neg h'], by rw [nwN, if_neg h'], by rw [nwK, if_neg h']⟩
/-- what Move's table is -/
def mvN (n k : Int) (m : List Int) (b : Int) : Int := if mvE n k m b = 0 then n else 0
def mvK (n k : Int) (m : List Int) (b : Int) : Int := if mvE n k m b = 0 then k else 0
def mvM (n k : Int) (m : List Int) (b : Int) : List Int := if mvE n k m b = 0 then m ++ [b] else []
theorem mv_ok {n k : Int} {m : List Int} {b : Int} (h : mvE n k m b = 0) : mvN n k m b = n ∧ mvK n k m b = k ∧ mvM n k m b = m ++ [b] := ⟨by rw [mvN, if_pos h], by rw [mvK, if_pos h], by rw [mvM, if_pos h]⟩
theorem mv_bad {n k : Int} {m : List Int} {b : Int} (h : mvE n k m b ≠ 0) : mvN n k m b = 0 ∧ mvK n k m b = 0 ∧ mvM n k m b = [] := ⟨by rw [mvN, if_neg h], by rw [mvK, if_neg h], by rw [mvM, if_neg h]⟩

/-! the operations at the table's type, its cells under one name -/
theorem built0 : (Tryz.prog).built 88 [] = some (ta 0 0 []) := by kernel_rfl
theorem built2 (n k : Int) : (Tryz.prog).built 88 [(0, .int .i64 n), (1, .int .i64 k)] = some (ta n k []) := by kernel_rfl
theorem wl_alloc {ops : Array Oper} {rest : List Oper} {dst : Option Tmp} {ty : TypeId} {pos : String} {after : Array Edge} {a : Act} {w : World} {Q : Exit → Act → World → Prop}
    (h : wpList Tryz.prog ops Q rest (a.put dst (.pointer (some ⟨w.heap.size, 0, none⟩))) (w.alloc (.cells (ta 0 0 []) 88))) : wpList Tryz.prog ops Q (⟨dst, .alloc 88, ty, pos, after, none⟩ :: rest) a w := by
  refine wpList_plain rfl fun K' hK' => ?_
  unfold Oper.wp
  simp [execOp, Instr.alloc, Result.andThen]
  exact hK' _ _ h
set_option maxRecDepth 100000 in
theorem wl_build0 {ops : Array Oper} {rest : List Oper} {dst : Option Tmp} {ty : TypeId} {pos : String} {after : Array Edge} {a : Act} {w : World} {Q : Exit → Act → World → Prop}
    (h : wpList Tryz.prog ops Q rest (a.put dst (.agg (ta 0 0 []))) w) : wpList Tryz.prog ops Q (⟨dst, .build 88 #[], ty, pos, after, none⟩ :: rest) a w := by
  refine wpList_plain rfl fun K' hK' => wp_build 88 #[] rfl ?_ ?_
  · simp only [List.map_toArray, List.map_nil, built0]; rfl
  · simp only [List.map_toArray, List.map_nil, built0]; exact hK' _ _ h
set_option maxRecDepth 100000 in
theorem wl_build2 {ops : Array Oper} {rest : List Oper} {dst : Option Tmp} {ty : TypeId} {pos : String} {after : Array Edge} {a : Act} {w : World} {Q : Exit → Act → World → Prop} {x y : Operand} (n k : Int)
    (hx : a.eval x = .int .i64 n) (hy : a.eval y = .int .i64 k)
    (h : wpList Tryz.prog ops Q rest (a.put dst (.agg (ta n k []))) w) : wpList Tryz.prog ops Q (⟨dst, .build 88 #[(0, x), (1, y)], ty, pos, after, none⟩ :: rest) a w := by
  refine wpList_plain rfl fun K' hK' => wp_build 88 #[(0, x), (1, y)] rfl ?_ ?_
  · simp only [List.map_toArray, List.map_cons, List.map_nil, hx, hy, built2]; rfl
  · simp only [List.map_toArray, List.map_cons, List.map_nil, hx, hy, built2]; exact hK' _ _ h

set_option maxRecDepth 100000 in
theorem new_any (n k : Int) (w : World) : Calls Tryz.prog 89 #[.int .i64 n, .int .i64 k] w fun e w' => e = .returned (.tuple #[.agg (ta (nwN n k) (nwK n k) []), .int .i64 (nwE n k)]) ∧ Below w.heap.size w w' := by
  have z0 := (TAt.made w 0 0 []).ld
  have s0 := (TAt.made w 0 0 []).st 0 0 []
  have s1 := (TAt.made w 0 0 []).st n k []
  have z1 := ((TAt.made w 0 0 []).put n k []).ld
  rw [World.setRow_alloc_new] at s0 s1 z1
  by_cases h : mayB n k = true
  · obtain ⟨g1, g2, g3, g4⟩ := mayB_parts h
    obtain ⟨y1, y2, y3⟩ := nw_yes h
    rw [y1, y2, y3]
    clear h y1 y2 y3
    go_enter Tryz.func89, Tryz.ntmps89
    go_wp2_with (first | with_reducible refine wl_alloc ?_ | with_reducible refine wl_build0 ?_ | (refine wl_build2 n k rfl rfl ?_))
    exact bodyPost_ret (v := .tuple #[.agg (ta n k []), .int .i64 0]) (by simp [results, Tryz.results89, go_sem, z1]) rfl ⟨rfl, b_new _ _⟩
  · have h' : mayB n k = false := by simpa using h
    obtain ⟨y1, y2, y3⟩ := nw_no h'
    rw [y1, y2, y3]
    have hno : n < 1 ∨ 4096 < n ∨ k < 0 ∨ 32 < k := by
      by_cases a1 : n < 1; · exact .inl a1
      by_cases a2 : 4096 < n; · exact .inr (.inl a2)
      by_cases a3 : k < 0; · exact .inr (.inr (.inl a3))
      by_cases a4 : 32 < k; · exact .inr (.inr (.inr a4))
      exact absurd (mayB_of (by omega) (by omega) (by omega) (by omega)) h
    clear h h' y1 y2 y3
    by_cases a1 : n < 1
    · clear hno
      go_enter Tryz.func89, Tryz.ntmps89
      go_wp2_with (first | with_reducible refine wl_alloc ?_ | with_reducible refine wl_build0 ?_)
      all_goals exact bodyPost_ret (v := .tuple #[.agg (ta 0 0 []), .int .i64 2]) (by simp [results, Tryz.results89, go_sem, z0]) rfl ⟨rfl, b_new _ _⟩
    by_cases a2 : 4096 < n
    · clear hno
      go_enter Tryz.func89, Tryz.ntmps89
      go_wp2_with (first | with_reducible refine wl_alloc ?_ | with_reducible refine wl_build0 ?_)
      all_goals exact bodyPost_ret (v := .tuple #[.agg (ta 0 0 []), .int .i64 2]) (by simp [results, Tryz.results89, go_sem, z0]) rfl ⟨rfl, b_new _ _⟩
    by_cases a3 : k < 0
    · clear hno
      go_enter Tryz.func89, Tryz.ntmps89
      go_wp2_with (first | with_reducible refine wl_alloc ?_ | with_reducible refine wl_build0 ?_)
      all_goals exact bodyPost_ret (v := .tuple #[.agg (ta 0 0 []), .int .i64 2]) (by simp [results, Tryz.results89, go_sem, z0]) rfl ⟨rfl, b_new _ _⟩
    have a4 : 32 < k := by omega
    clear hno
    go_enter Tryz.func89, Tryz.ntmps89
    go_wp2_with (first | with_reducible refine wl_alloc ?_ | with_reducible refine wl_build0 ?_)
    all_goals exact bodyPost_ret (v := .tuple #[.agg (ta 0 0 []), .int .i64 2]) (by simp [results, Tryz.results89, go_sem, z0]) rfl ⟨rfl, b_new _ _⟩

set_option maxRecDepth 100000 in
set_option maxHeartbeats 1000000 in
theorem move_any (n k b : Int) (m : List Int) (w : World) (hg : Good n k m) : Calls Tryz.prog 136 #[.agg (ta n k m), .int .i64 b] w fun e w' => e = .returned (.tuple #[.agg (ta (mvN n k m b) (mvK n k m b) (mvM n k m b)), .int .i64 (mvE n k m b)]) ∧ Below w.heap.size w w' := by
  obtain ⟨g1, g2, g3, g4, g5⟩ := hg.bd
  have hglen := hg.len
  have hT0 := (TAt.made w n k m).new (.cells (ta 0 0 []) 88)
  have hR0 := TAt.made (w.alloc (.cells (ta n k m) 88)) 0 0 []
  have hB0 := b_nw (b_new w (.cells (ta n k m) 88)) (.cells (ta 0 0 []) 88)
  obtain ⟨p, hp⟩ : ∃ p, p = w.heap.size := ⟨_, rfl⟩
  have hq : (w.alloc (.cells (ta n k m) 88)).heap.size = p + 1 := by simp [hp]
  have hpw : w.heap.size ≤ p + 1 := by omega
  have hpq : w.heap.size ≤ p := by omega
  rw [hq] at hR0
  have e0 := hT0.ld
  rw [← hp] at hT0
  have HT := Lib.hid hT0
  have HR := Lib.hid hR0
  have HB := Lib.hid hB0
  clear hT0 hR0 hB0 hq
  by_cases hin : b < 0 ∨ n ≤ b
  · have hE := mv_no (k := k) (m := m) hin
    obtain ⟨y1, y2, y3⟩ := mv_bad (n := n) (k := k) (m := m) (b := b) (by rw [hE]; decide)
    have HA := Lib.hid (at_no (m := m) hin).1
    rw [y1, y2, y3, hE]
    clear hE y1 y2 y3 hin
    go_enter Tryz.func136, Tryz.ntmps136
    go_wp2_with (first | with_reducible refine wl_alloc ?_)
    rw [← hp]
    clear hp
    refine (has_any n k b m _).mono ?_
    rintro e w1 ⟨rfl, hb⟩
    have HT1 := Lib.hid (HT.out.on hb)
    have HR1 := Lib.hid (HR.out.on hb)
    have HB1 := Lib.hid (b_on HB.out hb)
    clear hb e0 HT HR HB
    rw [HA.out]
    have s0 := HR1.out.st 0 0 []
    have z0 := (HR1.out.put 0 0 []).ld
    have hB := b_row HB1.out (p := p + 1) hpw (ta 0 0 [])
    go_wp2_with (first | with_reducible refine wl_build0 ?_)
    exact bodyPost_ret (v := .tuple #[.agg (ta 0 0 []), .int .i64 3]) (by simp [results, Tryz.results136, go_sem, z0]) rfl ⟨rfl, hB⟩
  · obtain ⟨b1, b2⟩ : 0 ≤ b ∧ b < n := by omega
    have HA := Lib.hid (at_yes (m := m) b1 b2).1
    by_cases hk : (m.length : Int) < k
    · have hE := mv_yes (n := n) (k := k) (m := m) b1 b2 hk
      obtain ⟨y1, y2, y3⟩ := mv_ok hE
      rw [hE, y1, y2, y3]
      clear hE y1 y2 y3 hin
      go_enter Tryz.func136, Tryz.ntmps136
      go_wp2_with (first | with_reducible refine wl_alloc ?_)
      rw [← hp]
      clear hp
      refine (has_any n k b m _).mono ?_
      rintro e w1 ⟨rfl, hb⟩
      have HT1 := Lib.hid (HT.out.on hb)
      have HR1 := Lib.hid (HR.out.on hb)
      have HB1 := Lib.hid (b_on HB.out hb)
      clear hb e0 HT HR HB
      rw [HA.out]
      have e0 := HT1.out.ld
      go_wp2_with fail
      refine (left_any n k m _ g3 g4 g5).mono ?_
      rintro e w2 ⟨rfl, hb⟩
      have HT2 := Lib.hid (HT1.out.on hb)
      have HR2 := Lib.hid (HR1.out.on hb)
      have HB2 := Lib.hid (b_on HB1.out hb)
      clear hb e0 HT1 HR1 HB1
      obtain ⟨u, hu⟩ : ∃ u, u = m.length := ⟨_, rfl⟩
      have hP := HT2.out.push b (by omega)
      have hRP := (HR2.out.setOther (a := ⟨p, 3 + m.length, none⟩) (by simp) (.int .i64 b)).setOther (a := ⟨p, 2, none⟩) (by simp) (.int .i64 (m.length + 1 : Int))
      have s0 := hRP.st n k (m ++ [b])
      have z0 := (hRP.put n k (m ++ [b])).ld
      have e0 := hP.ld
      have e2 := HT2.out.c2
      have e3 := HT2.out.cm m.length (by omega)
      have fz2 := Has.frozen HT2.out 2
      have fz3 := Has.frozen HT2.out (3 + m.length)
      have hB := b_row ((HB2.out.setCell (p := ⟨p, 3 + m.length, none⟩) (by exact hpq) (.int .i64 b)).setCell (p := ⟨p, 2, none⟩) (by exact hpq) (.int .i64 (m.length + 1 : Int))) (p := p + 1) hpw (ta n k (m ++ [b]))
      have hu32 : m.length < 32 := by omega
      rw [← hu] at hk s0 z0 e0 e2 e3 fz3 hu32 hglen g5 hB ⊢
      clear hP hRP hu
      go_wp2_with fail
      exact bodyPost_ret (v := .tuple #[.agg (ta n k (m ++ [b])), .int .i64 0]) (by simp [results, Tryz.results136, go_sem, z0]) rfl ⟨rfl, hB⟩
    · have hE := mv_full (n := n) (k := k) (m := m) b1 b2 (by omega)
      obtain ⟨y1, y2, y3⟩ := mv_bad (n := n) (k := k) (m := m) (b := b) (by rw [hE]; decide)
      rw [hE, y1, y2, y3]
      clear hE y1 y2 y3 hin
      go_enter Tryz.func136, Tryz.ntmps136
      go_wp2_with (first | with_reducible refine wl_alloc ?_)
      rw [← hp]
      clear hp
      refine (has_any n k b m _).mono ?_
      rintro e w1 ⟨rfl, hb⟩
      have HT1 := Lib.hid (HT.out.on hb)
      have HR1 := Lib.hid (HR.out.on hb)
      have HB1 := Lib.hid (b_on HB.out hb)
      clear hb e0 HT HR HB
      rw [HA.out]
      have e0 := HT1.out.ld
      go_wp2_with fail
      refine (left_any n k m _ g3 g4 g5).mono ?_
      rintro e w2 ⟨rfl, hb⟩
      have HR2 := Lib.hid (HR1.out.on hb)
      have HB2 := Lib.hid (b_on HB1.out hb)
      clear hb e0 HT1 HR1 HB1
      have hk0 : k - (m.length : Int) = 0 := by omega
      rw [hk0]
      have s0 := HR2.out.st 0 0 []
      have z0 := (HR2.out.put 0 0 []).ld
      have hB := b_row HB2.out (p := p + 1) hpw (ta 0 0 [])
      clear hk0 hk
      go_wp2_with (first | with_reducible refine wl_build0 ?_)
      exact bodyPost_ret (v := .tuple #[.agg (ta 0 0 []), .int .i64 9]) (by simp [results, Tryz.results136, go_sem, z0]) rfl ⟨rfl, hB⟩
end Go.Proofs.YtflanjcfkdjpjaaGreatDoor.Tab


