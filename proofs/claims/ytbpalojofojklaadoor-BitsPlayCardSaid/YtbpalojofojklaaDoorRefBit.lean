/- Contracts of the document's own answers for layer 9: May, Put, Next. -/
import Derived.Test.YtbpalojofojklaaDoorBitMath
import Derived.Test.YtbpalojofojklaaDoorChecked
import Derived.WalkLawsBesides
import Derived.WalkSpells
import Derived.Lib.Hide
import Derived.Outline
import Derived.Deep.DeepCutAuto
import Derived.Deep.RegionWith
import Derived.OpenShut
import Derived.Deep.QuietTactic
import Derived.BigQuiet
namespace Go.Proofs.YtbpalojofojklaaDoor.Bit
open Go.RowKit Go.Proofs.YtbpalojofojklaaDoor
set_option linter.unusedVariables false

theorem ret_bool {a b : Bool} (h : a = b) : Ending.returned (.bool a) = .returned (.bool b) := by rw [h]
theorem ret_ib {a c : Int} {b d : Bool} (h : a = c) (k : b = d) : Ending.returned (.tuple #[.int .i64 a, .bool b]) = .returned (.tuple #[.int .i64 c, .bool d]) := by rw [h, k]
theorem refmay_any (n : Int) (w : World) : Calls Tryd.prog 8 #[.int .i64 n] w fun e w' => e = .returned (.bool (mayS n)) ∧ w = w' := by
  obtain ⟨B, hB⟩ : ∃ B, B = mayS n := ⟨_, rfl⟩
  rw [← hB]
  by_cases h1 : 1 ≤ n
  · by_cases h2 : n ≤ 4096
    · rw [mayS_of h1 h2] at hB
      subst hB
      go_enter Tryd.func8, Tryd.ntmps8
      go_wp2
      go_ret
      exact ⟨rfl, rfl⟩
    · have h2' : 4096 < n := by omega
      rw [mayS_no (.inr h2')] at hB
      subst hB
      clear h2
      go_enter Tryd.func8, Tryd.ntmps8
      go_wp2
      go_ret
      exact ⟨ret_bool (by simp; omega), rfl⟩
  · have h1' : n < 1 := by omega
    rw [mayS_no (.inl h1')] at hB
    subst hB
    clear h1
    go_enter Tryd.func8, Tryd.ntmps8
    go_wp2
    go_ret
    exact ⟨rfl, rfl⟩
theorem info_bool9 : (Tryd.prog.info? 4).map (fun i => (i.zero, i.size, i.bytes)) = some (some (.bool false), 1, 1) := by kernel_rfl
theorem bV_snoc (l : List Bool) (x : Bool) : bV (l ++ [x]) = bV l ++ [.bool x] := by simp [bV]
set_option maxHeartbeats 1000000 in
set_option maxRecDepth 100000 in
theorem refput9_any (ao : Option Addr) (len cap : Nat) (l : List Bool) (k : Int) (is : Bool) (w : World) (h : Vals w ao len cap (bV l)) (hl : len ≤ 10000) :
    Calls Tryd.prog 12 #[.slice ao len cap, .int .i64 k, .bool is] w fun e w' => ∃ ao' cap', e = .returned (.tuple #[.slice ao' len cap', .bool (hasL l k)]) ∧ Vals w' ao' len cap' (bV (putL l k is)) ∧ NewM w.heap.size ao' ∧ Below w.heap.size w w' := by
  obtain ⟨i0, hi, hz0, hz1, hz2⟩ := info_parts info_bool9
  have hlen : l.length = len := by have := h.len_eq; simpa [bV] using this
  have H := Lib.hid h
  have HL := Lib.hid hlen
  have HTK := Lib.hid (show ∀ c, c < len → bV ((putL l k is).take (c + 1)) = bV ((putL l k is).take c) ++ [.bool (if (c : Int) = k then is else bg l c)] from fun c hc => by rw [putL_take l k is c (by omega), bV_snoc])
  have HALL := Lib.hid (show (putL l k is).take len = putL l k is from List.take_of_length_le (by rw [putL_length]; omega))
  -- was it, of the first c
  obtain ⟨ws, hws⟩ : ∃ ws : Nat → Bool, ws = fun (c : Nat) => if k < (c : Int) then hasL l k else false := ⟨_, rfl⟩
  have HW0 := Lib.hid (show ws 0 = false by
    rw [hws]; simp only
    split
    · rw [hasL_out (.inl (by omega))]
    · rfl)
  have HWS := Lib.hid (show ∀ c : Nat, c < len → ws (c + 1) = if (c : Int) = k then bg l c else ws c from fun c hc => by
    rw [hws]; simp only
    by_cases e : (c : Int) = k
    · subst e
      rw [if_pos rfl, if_pos (by omega), hasL_in (by omega)]
    · rw [if_neg e]
      by_cases e2 : k < (c : Int)
      · rw [if_pos (by omega), if_pos e2]
      · rw [if_neg (by omega), if_neg e2])
  have HWE := Lib.hid (show ws len = hasL l k by
    rw [hws]; simp only
    by_cases e : k < (len : Int)
    · rw [if_pos e]
    · rw [if_neg e, hasL_out (.inr (by omega))])
  clear h hlen hws
  have hown := World.ownsRow_nil w w.heap.size 4 1
  go_enter Tryd.func12, Tryd.ntmps12
  go_wp2_with fail
  go_loopw [8, 9, 10] (fun v s i wr => ∃ c : Nat, c ≤ len ∧ i = .int .i64 c ∧ s = .bool (ws c) ∧ wr.ownsRow w.heap.size 4 1 v c (bV ((putL l k is).take c)) ∧ Below w.heap.size w wr) (fun _ _ i _ => len - (intOf i).toNat)
  case atStart => exact ⟨0, Nat.zero_le _, rfl, by rw [HW0.out], hown, Below.refl _ _⟩
  case round =>
    obtain ⟨c, hc, rfl, rfl, hownr, hbr⟩ := hrel
    have hszr := hbr.size
    clear hown
    by_cases hlt : c < len
    · obtain ⟨bb, off, rfl, hcell⟩ := (H.out.below hbr).bool (by omega)
      have hck := hcell c hlt
      have HS := Lib.hid (HWS.out c hlt)
      have HT := Lib.hid (HTK.out c hlt)
      obtain ⟨x, hx⟩ : ∃ x, x = bg l c := ⟨_, rfl⟩
      rw [← hx] at hck HS HT
      clear hcell hx
      by_cases hck2 : (c : Int) = k
      · rw [if_pos hck2] at HS HT
        subst hck2
        go_wp2_with (at_builtin; refine wpList_append_own _ rfl _ _ 28 rfl w.heap.size 4 i0 (.bool false) 1 1 Tryd.underlying28 hi hz0 hz1 hz2 rfl (by decide) _ _ _ rfl (hownr.alloc _) ⟨wr.heap.size, 0, none⟩ 1 1 [.bool is] rfl rfl ?c1 ?c2 ?c3 ?c4 ?c5 ?_)
        case c1 =>
          intro j q hj
          match j, hj with
          | 0, hj => simp at hj; subst hj; simp [Addr.add]
        case c2 => intro q hq; simp at hq; subst hq; rfl
        case c3 => unfold maxLen; omega
        case c4 => omega
        case c5 => simp; omega
        intro v' w2 hown' hgrow _
        have hbel : Below w.heap.size w w2 := (hbr.alloc hszr _).grown hgrow (by simp; omega) (fun q hq => (hownr.lt q hq).1)
        rw [← HT.out] at hown'
        clear hgrow hownr
        go_wp2
        go_roundw
        case rel => exact ⟨c + 1, by omega, by go_num, by rw [HS.out], hown', hbel⟩
        case measure => simp [intOf]; omega
      · rw [if_neg hck2] at HS HT
        go_wp2_with (at_builtin; refine wpList_append_own _ rfl _ _ 28 rfl w.heap.size 4 i0 (.bool false) 1 1 Tryd.underlying28 hi hz0 hz1 hz2 rfl (by decide) _ _ _ rfl (hownr.alloc _) ⟨wr.heap.size, 0, none⟩ 1 1 [.bool x] rfl rfl ?d1 ?d2 ?d3 ?d4 ?d5 ?_)
        case d1 =>
          intro j q hj
          match j, hj with
          | 0, hj => simp at hj; subst hj; simp [Addr.add]
        case d2 => intro q hq; simp at hq; subst hq; rfl
        case d3 => unfold maxLen; omega
        case d4 => omega
        case d5 => simp; omega
        intro v' w2 hown' hgrow _
        have hbel : Below w.heap.size w w2 := (hbr.alloc hszr _).grown hgrow (by simp; omega) (fun q hq => (hownr.lt q hq).1)
        rw [← HT.out] at hown'
        clear hgrow hownr
        go_wp2
        go_roundw
        case rel => exact ⟨c + 1, by omega, by go_num, by rw [HS.out], hown', hbel⟩
        case measure => simp [intOf]; omega
    · obtain rfl : c = len := by omega
      rw [HALL.out] at hownr
      rw [HWE.out]
      obtain ⟨bo, cap', rfl, _⟩ := own_shape hownr
      go_wp2_with fail
      go_ret2
      exact ⟨_, _, rfl, Vals.own hownr, NewM.own hownr, hbr⟩
set_option maxHeartbeats 1000000 in
set_option maxRecDepth 100000 in
theorem refnext_any (ao : Option Addr) (len cap : Nat) (l : List Bool) (f : Int) (is : Bool) (w : World) (h : Vals w ao len cap (bV l)) (hl : len ≤ 10000) :
    Calls Tryd.prog 19 #[.slice ao len cap, .int .i64 f, .bool is] w fun e w' => e = .returned (.tuple #[.int .i64 (nextN l f is), .bool (nextB l f is)]) ∧ w = w' := by
  have hlen : l.length = len := by have := h.len_eq; simpa [bV] using this
  have H := Lib.hid h
  have HL := Lib.hid hlen
  clear h hlen
  go_enter Tryd.func19, Tryd.ntmps19
  go_wp2_with fail
  go_loop [8] (fun i => ∃ c : Nat, c ≤ len ∧ i = .int .i64 c ∧ ∀ j : Nat, j < c → f ≤ (j : Int) → bg l j ≠ is) (fun i => len - (intOf i).toNat)
  case atStart => exact ⟨0, Nat.zero_le _, rfl, fun j hj => by omega⟩
  case round =>
    obtain ⟨c, hc, rfl, hno⟩ := hrel
    have HNO := Lib.hid hno
    clear hno
    by_cases hlt : c < len
    · obtain ⟨bb, off, rfl, hcell⟩ := H.out.bool (by omega)
      have hck := hcell c hlt
      obtain ⟨x, hx⟩ : ∃ x, x = bg l c := ⟨_, rfl⟩
      rw [← hx] at hck
      have HX := Lib.hid hx
      clear hcell hx
      by_cases hf : f ≤ (c : Int)
      · by_cases hxe : x = is
        · have hsm := next_some (l := l) (f := f) (is := is) (i := c) (by rw [HL.out]; exact hlt) hf (by rw [← HX.out]; exact hxe) HNO.out
          obtain ⟨y1, y2⟩ := next_yes hsm
          have HY1 := Lib.hid y1
          have HY2 := Lib.hid y2
          subst hxe
          clear hsm y1 y2
          go_wp2_with fail
          go_ret2
          exact ⟨ret_ib HY1.out.symm HY2.out.symm, rfl⟩
        · have hxe' : (x == is) = false := by simpa using hxe
          go_wp2_with fail
          go_round
          case rel => exact ⟨c + 1, by omega, by go_num, fun j hj hfj => by
            by_cases e : j < c
            · exact HNO.out j e hfj
            · obtain rfl : j = c := by omega
              rw [← HX.out]; exact hxe⟩
          case measure => simp [intOf]; omega
      · have hf' : (c : Int) < f := by omega
        go_wp2_with fail
        go_round
        case rel => exact ⟨c + 1, by omega, by go_num, fun j hj hfj => HNO.out j (by omega) hfj⟩
        case measure => simp [intOf]; omega
    · obtain ⟨y1, y2⟩ := next_no (next_none (l := l) (f := f) (is := is) (fun j hj hfj => HNO.out j (by have := HL.out; omega) hfj))
      have HY1 := Lib.hid y1
      have HY2 := Lib.hid y2
      clear y1 y2
      go_wp2_with fail
      go_ret2
      exact ⟨ret_ib HY1.out.symm HY2.out.symm, rfl⟩
end Go.Proofs.YtbpalojofojklaaDoor.Bit
