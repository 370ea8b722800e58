/- Contracts of the document's own answers for layer 6: May, At, Move, Text, Parse. -/
import Derived.Test.YtonfafjacmifaaaTabMath
import Derived.Test.YtonfafjacmifaaaRefLendB
import Derived.Laws.AppendOwnNone
import Derived.IntWalk
namespace Go.Proofs.Ytonfafjacmifaaa.Tab
open Go.RowKit Go.Proofs.Ytonfafjacmifaaa Go.Proofs.Ytonfafjacmifaaa.Lend
set_option linter.unusedVariables false

theorem ret_bool {a b : Bool} (h : a = b) : Ending.returned (.bool a) = .returned (.bool b) := by rw [h]
theorem refmay_any (n k : Int) (w : World) : Calls Try.prog 8 #[.int .i64 n, .int .i64 k] w fun e w' => e = .returned (.bool (mayB n k)) ∧ w = w' := by
  obtain ⟨B, hB⟩ : ∃ B, B = mayB n k := ⟨_, rfl⟩
  rw [← hB]
  by_cases h1 : 1 ≤ n
  · by_cases h2 : n ≤ 4096
    · by_cases h3 : 0 ≤ k
      · by_cases h4 : k ≤ 32
        · rw [mayB_of h1 h2 h3 h4] at hB
          subst hB
          go_enter Try.func8, Try.ntmps8
          go_wp2
          go_ret
          exact ⟨rfl, rfl⟩
        · have h4' : 32 < k := by omega
          rw [mayB_no (by omega)] at hB
          subst hB
          clear h4
          go_enter Try.func8, Try.ntmps8
          go_wp2
          go_ret
          exact ⟨ret_bool (by simp; omega), rfl⟩
      · have h3' : k < 0 := by omega
        rw [mayB_no (by omega)] at hB
        subst hB
        clear h3
        go_enter Try.func8, Try.ntmps8
        go_wp2
        go_ret
        exact ⟨rfl, rfl⟩
    · have h2' : 4096 < n := by omega
      rw [mayB_no (by omega)] at hB
      subst hB
      clear h2
      go_enter Try.func8, Try.ntmps8
      go_wp2
      go_ret
      exact ⟨rfl, rfl⟩
  · have h1' : n < 1 := by omega
    rw [mayB_no (by omega)] at hB
    subst hB
    clear h1
    go_enter Try.func8, Try.ntmps8
    go_wp2
    go_ret
    exact ⟨rfl, rfl⟩

/-- a slice of ints that reads as m; nil only if it has no room -/
structure Ints (w : World) (ao : Option Addr) (len cap : Nat) (m : List Int) : Prop where
  row : Row .i64 w ao len m
  le : len ≤ cap
  nil : ao = none → cap = 0
theorem Ints.below {w w' : World} {ao : Option Addr} {len cap : Nat} {m : List Int} (h : Ints w ao len cap m) (hb : Below w.heap.size w w') : Ints w' ao len cap m := ⟨h.row.below hb (Nat.le_refl _), h.le, h.nil⟩
theorem Ints.below' {w w' : World} {ao : Option Addr} {len cap B : Nat} {m : List Int} (h : Ints w ao len cap m) (hb : Below B w w') (hB : w.heap.size ≤ B) : Ints w' ao len cap m := ⟨h.row.below hb hB, h.le, h.nil⟩
theorem Ints.new {w : World} {ao : Option Addr} {len cap : Nat} {m : List Int} (h : Ints w ao len cap m) (o : Obj) : Ints (w.alloc o) ao len cap m := h.below ((Below.refl _ _).alloc (Nat.le_refl _) _)
theorem Ints.drew {w : World} {ao : Option Addr} {len cap : Nat} {m : List Int} (h : Ints w ao len cap m) : Ints w.drew ao len cap m := ⟨⟨h.row.1, h.row.2⟩, h.le, h.nil⟩
theorem Ints.len_eq {w : World} {ao : Option Addr} {len cap : Nat} {m : List Int} (h : Ints w ao len cap m) : m.length = len := h.row.len_eq
theorem Ints.none (w : World) : Ints w none 0 0 [] := ⟨⟨rfl, fun h => by omega⟩, Nat.le_refl _, fun _ => rfl⟩
theorem Ints.own {w : World} {B : Nat} {e : TypeId} {ao : Option Addr} {n cap : Nat} {xs : List Int} (h : w.ownsRow B e 1 (.slice ao n cap) n (xs.map (Value.int .i64))) : Ints w ao n cap xs := by
  obtain ⟨ao', cap', hv, hle⟩ := own_shape h
  injection hv with h1 _ h3
  subst h1; subst h3
  refine ⟨Row.own h, hle, fun hn => ?_⟩
  subst hn
  rcases h.2 with ⟨hv, _⟩ | ⟨g, cap', cur, hv, _⟩
  · injection hv
  · injection hv with hv; cases hv
/-- its memory is from B on -/
def NewA (B : Nat) (ao : Option Addr) : Prop := ∀ a, ao = some a → B ≤ a.block
theorem NewA.none (B : Nat) : NewA B none := fun a h => by cases h
theorem NewA.mono {B C : Nat} {ao : Option Addr} (h : NewA B ao) (hC : C ≤ B) : NewA C ao := fun a e => Nat.le_trans hC (h a e)
theorem NewA.own {w : World} {B : Nat} {e : TypeId} {size : Nat} {ao : Option Addr} {n cap : Nat} {xs : List Value} (h : w.ownsRow B e size (.slice ao n cap) n xs) : NewA B ao := by
  intro a ha
  rcases h.2 with ⟨hv, _⟩ | ⟨g, cap', cur, hv, hB, _⟩
  · injection hv with hv; rw [ha] at hv; cases hv
  · injection hv with hv; rw [ha] at hv; injection hv with hv; subst hv; exact hB
theorem Ints.setCell {w : World} {ao : Option Addr} {len cap : Nat} {m : List Int} (h : Ints w ao len cap m) {p : Addr} (hp : ∀ a, ao = some a → a.block ≠ p.block) (v : Value) : Ints (w.setCell p v) ao len cap m := by
  refine ⟨⟨h.row.len_eq, fun hl => ?_⟩, h.le, h.nil⟩
  obtain ⟨b, off, hb, hc⟩ := h.row.at_ hl
  refine ⟨b, off, hb, fun i hi => ?_⟩
  rw [← hc i hi]
  unfold World.cell?
  rw [Below.heap_setCell _ _ _ _ (hp _ hb)]
theorem Ints.cells {w : World} {ao : Option Addr} {len cap : Nat} {m : List Int} {ad : Addr} (h : Ints w ao len cap m) (ha : ao = some ad) (j : Nat) (u : Value) (hj : (m.map (Value.int .i64))[j]? = some u) : w.cell? (ad.add j) = some u := by
  have hl := h.len_eq
  have hjl : j < len := by
    rw [← hl]
    rw [List.getElem?_map] at hj
    cases hc : m[j]? with
    | none => rw [hc] at hj; cases hj
    | some x => exact (List.getElem?_eq_some_iff.1 hc).1
  obtain ⟨b, off, hab, hc⟩ := h.row.at_ (by omega)
  rw [ha] at hab
  injection hab with hab
  subst hab
  rw [Addr.add_lit, hc j hjl]
  rw [List.getElem?_map, List.getElem?_eq_getElem (by omega)] at hj
  rw [List.getD_eq_getElem?_getD, List.getElem?_eq_getElem (by omega)]
  simpa using hj
theorem Ints.get {w : World} {ao : Option Addr} {len cap : Nat} {m : List Int} (h : Ints w ao len cap m) (hl : 0 < len) : ∃ b off, ao = some ⟨b, off, .none⟩ ∧ ∀ i, i < len → w.cell? ⟨b, off + i, .none⟩ = some (.int .i64 (m.getD i 0)) := h.row.at_ hl

theorem refat_any (n b : Int) (ao : Option Addr) (len cap : Nat) (m : List Int) (w : World) (h : Ints w ao len cap m) (hn : 1 ≤ n) (hn2 : n ≤ 4096) (hl : len ≤ 32) :
    Calls Try.prog 22 #[.int .i64 n, .slice ao len cap, .int .i64 b] w fun e w' => e = .returned (.tuple #[.int .i64 (atN n m b), .int .i64 (atE n b)]) ∧ w = w' := by
  by_cases h0 : b < 0
  · obtain ⟨_, e1, e2⟩ := at_no (m := m) (n := n) (.inl h0)
    rw [e1, e2]
    clear e1 e2 h
    go_enter Try.func22, Try.ntmps22
    go_wp2
    go_ret2
    exact ⟨rfl, rfl⟩
  · by_cases h1 : n ≤ b
    · obtain ⟨_, e1, e2⟩ := at_no (m := m) (n := n) (.inr h1)
      have h0' : 0 ≤ b := by omega
      rw [e1, e2]
      clear e1 e2 h h0
      go_enter Try.func22, Try.ntmps22
      go_wp2
      go_ret2
      exact ⟨rfl, rfl⟩
    · obtain ⟨_, e1, e2⟩ := at_yes (m := m) (n := n) (b := b) (by omega) (by omega)
      have h0' : 0 ≤ b := by omega
      have h1' : b < n := by omega
      have H := Lib.hid h
      have HL := Lib.hid h.len_eq
      rw [e1, e2]
      clear e1 e2 h h0 h1
      go_enter Try.func22, Try.ntmps22
      go_wp2
      go_loop [8, 9] (fun p i => ∃ k : Nat, k ≤ len ∧ i = .int .i64 k ∧ p = .int .i64 (plc n (m.take k) b)) (fun _ i => len - (intOf i).toNat)
      case atStart => exact ⟨0, Nat.zero_le _, rfl, by rw [List.take_zero, plc_nil]⟩
      case round =>
        obtain ⟨k, hk, rfl, rfl⟩ := hrel
        by_cases hlt : k < len
        · obtain ⟨bb, off, rfl, hc⟩ := H.out.get (by omega)
          have hck := hc k hlt
          have hst := Lib.hid (plc_take n m b k (by rw [HL.out]; exact hlt))
          obtain ⟨x, hx⟩ : ∃ x, x = m.getD k 0 := ⟨_, rfl⟩
          rw [← hx] at hck hst
          clear hc hx
          by_cases hxb : x = b
          · have HS := Lib.hid (show plc n (m.take (k + 1)) b = n + k by rw [hst.out, if_pos hxb])
            subst hxb
            clear hst
            go_wp2
            go_round
            case rel => exact ⟨k + 1, by omega, by go_num, by rw [HS.out]⟩
            case measure => simp [intOf]; omega
          · have HS := Lib.hid (show plc n (m.take (k + 1)) b = plc n (m.take k) b by rw [hst.out, if_neg hxb])
            clear hst
            go_wp2
            go_round
            case rel => exact ⟨k + 1, by omega, by go_num, by rw [HS.out]⟩
            case measure => simp [intOf]; omega
        · have e : m.take k = m := List.take_of_length_le (by have := HL.out; omega)
          rw [e]
          go_wp2
          go_ret2
          exact ⟨rfl, rfl⟩

/-- what the document's Move tells then -/
def rmL (n k : Int) (m : List Int) (b : Int) : List Int := if mvE n k m b = 0 then m ++ [b] else m
theorem info_int6 : (Try.prog.info? 3).map (fun i => (i.zero, i.size, i.bytes)) = some (some (.int .i64 0), 1, 8) := by kernel_rfl
set_option maxHeartbeats 1000000 in
set_option maxRecDepth 100000 in
theorem refmove_any (n k b : Int) (ao : Option Addr) (len cap : Nat) (m : List Int) (w : World) (h : Ints w ao len cap m) (hl : len ≤ 32) (hn : n ≤ 4096) :
    Calls Try.prog 13 #[.int .i64 n, .int .i64 k, .slice ao len cap, .int .i64 b] w fun e w' => ∃ ao' len' cap', e = .returned (.tuple #[.slice ao' len' cap', .int .i64 (mvE n k m b)]) ∧ Ints w' ao' len' cap' (rmL n k m b) ∧ (∀ a, ao' = some a → ao = some a ∨ w.heap.size ≤ a.block) ∧ Below w.heap.size w w' := by
  have hlen := h.len_eq
  by_cases h0 : b < 0
  · have e1 := mv_no (k := k) (m := m) (n := n) (.inl h0)
    have HR := Lib.hid (show rmL n k m b = m by rw [rmL, e1]; rfl)
    have H := Lib.hid h
    rw [e1]
    clear e1 h hlen
    go_enter Try.func13, Try.ntmps13
    go_wp2
    go_ret2
    exact ⟨_, _, _, rfl, by rw [HR.out]; exact H.out, fun a h => .inl h, Below.refl _ _⟩
  · by_cases h1 : n ≤ b
    · have e1 := mv_no (k := k) (m := m) (n := n) (.inr h1)
      have HR := Lib.hid (show rmL n k m b = m by rw [rmL, e1]; rfl)
      have H := Lib.hid h
      have h0' : 0 ≤ b := by omega
      rw [e1]
      clear e1 h h0 hlen
      go_enter Try.func13, Try.ntmps13
      go_wp2
      go_ret2
      exact ⟨_, _, _, rfl, by rw [HR.out]; exact H.out, fun a h => .inl h, Below.refl _ _⟩
    · by_cases h2 : (len : Int) < k
      · have e1 := mv_yes (k := k) (m := m) (n := n) (b := b) (by omega) (by omega) (by rw [hlen]; exact h2)
        have HR := Lib.hid (show rmL n k m b = m ++ [b] by rw [rmL, e1]; rfl)
        have H := Lib.hid h
        have h0' : 0 ≤ b := by omega
        have h1' : b < n := by omega
        obtain ⟨i0, hi, hz0, hz1, hz2⟩ := info_parts info_int6
        rw [e1]
        cases hao : ao with
        | none =>
          obtain rfl : cap = 0 := h.nil hao
          obtain rfl : len = 0 := by have := h.le; omega
          have hm : m = [] := List.eq_nil_of_length_eq_zero hlen
          subst hm
          clear e1 h h0 h1 hlen hao H
          have hown := World.ownsRow_nil w w.heap.size 3 1
          go_enter Try.func13, Try.ntmps13
          go_wp2_with (at_builtin; refine wpList_append_own _ rfl _ _ 22 rfl w.heap.size 3 i0 (.int .i64 0) 1 8 Try.underlying22 hi hz0 hz1 hz2 rfl (by decide) _ _ _ rfl (hown.alloc _) ⟨w.heap.size, 0, none⟩ 1 1 [.int .i64 b] rfl rfl ?c1 ?c2 ?c3 ?c4 ?c5 ?_)
          case c1 =>
            intro j q hj
            match j, hj with
            | 0, hj => simp at hj; subst hj; simp [Addr.add]
          case c2 => intro q hq; simp at hq; subst hq; rfl
          case c3 => unfold maxLen; omega
          case c4 => omega
          case c5 => simp
          intro v' w2 hown' hgrow _
          have hbel : Below w.heap.size w w2 := ((Below.refl _ w).alloc (Nat.le_refl _) _).grown hgrow (by simp) (fun q hq => by cases hq)
          obtain ⟨bo, cap', rfl, hle⟩ := own_shape hown'
          clear hgrow hown
          go_wp2
          go_ret2
          exact ⟨_, _, _, rfl, by rw [HR.out]; exact Ints.own hown', fun a h => .inr (NewA.own hown' a h), hbel⟩
        | some ad =>
          have hc := fun j u => h.cells hao j u
          have hlm : (m.map (Value.int .i64)).length = len * 1 := by simp [hlen]
          have HM := Lib.hid hlm
          have HC := Lib.hid hc
          subst hao
          clear e1 h h0 h1 hlen H hlm hc
          have hown := World.ownsRow_nil w w.heap.size 3 1
          go_enter Try.func13, Try.ntmps13
          go_wp2_with (at_builtin; refine wpList_append_own _ rfl _ _ 22 rfl w.heap.size 3 i0 (.int .i64 0) 1 8 Try.underlying22 hi hz0 hz1 hz2 rfl (by decide) _ _ _ rfl hown ad len cap (m.map (Value.int .i64)) rfl HM.out HC.out ?c2 ?c3 ?c4 ?c5 ?_)
          case c2 => intro q hq; obtain ⟨x, _, rfl⟩ := List.mem_map.1 hq; rfl
          case c3 => unfold maxLen; omega
          case c4 => omega
          case c5 => exact Nat.le_refl _
          intro v1 w1 hown1 hgrow1 _
          have hbel1 : Below w.heap.size w w1 := (Below.refl _ w).grown hgrow1 (Nat.le_refl _) (fun q hq => by cases hq)
          clear hgrow1 hown
          have hsz := hbel1.size
          go_wp2_with (at_builtin; refine wpList_append_own _ rfl _ _ 22 rfl w.heap.size 3 i0 (.int .i64 0) 1 8 Try.underlying22 hi hz0 hz1 hz2 rfl (by decide) _ _ _ rfl (hown1.alloc _) ⟨w1.heap.size, 0, none⟩ 1 1 [.int .i64 b] rfl rfl ?d1 ?d2 ?d3 ?d4 ?d5 ?_)
          case d1 =>
            intro j q hj
            match j, hj with
            | 0, hj => simp at hj; subst hj; simp [Addr.add]
          case d2 => intro q hq; simp at hq; subst hq; rfl
          case d3 => unfold maxLen; omega
          case d4 => omega
          case d5 => simp; omega
          intro v' w2 hown' hgrow _
          have hbel : Below w.heap.size w w2 := (hbel1.alloc hsz _).grown hgrow (by simp; omega) (fun q hq => (hown1.lt q hq).1)
          obtain ⟨bo, cap', rfl, hle⟩ := own_shape hown'
          rw [show m.map (Value.int .i64) ++ [.int .i64 b] = (m ++ [b]).map (Value.int .i64) by simp] at hown'
          clear hgrow hown1
          go_wp2
          go_ret2
          exact ⟨_, _, _, rfl, by rw [HR.out]; exact Ints.own hown', fun a h => .inr (NewA.own hown' a h), hbel⟩
      · have e1 := mv_full (k := k) (m := m) (n := n) (b := b) (by omega) (by omega) (by rw [hlen]; omega)
        have HR := Lib.hid (show rmL n k m b = m by rw [rmL, e1]; rfl)
        have H := Lib.hid h
        have h0' : 0 ≤ b := by omega
        have h1' : b < n := by omega
        have h2' : k ≤ (len : Int) := by omega
        rw [e1]
        clear e1 h h0 h1 h2 hlen
        go_enter Try.func13, Try.ntmps13
        go_wp2
        go_ret2
        exact ⟨_, _, _, rfl, by rw [HR.out]; exact H.out, fun a h => .inl h, Below.refl _ _⟩

set_option maxHeartbeats 1000000 in
set_option maxRecDepth 100000 in
theorem reftext_any (n k : Int) (ao : Option Addr) (len cap : Nat) (m : List Int) (w : World) (h : Ints w ao len cap m) (hg : Good n k m) :
    Calls Try.prog 21 #[.slice ao len cap] w fun e w' => e = .returned (.string (txS m)) ∧ Below w.heap.size w w' := by
  have hlen := h.len_eq
  obtain ⟨g1, g2, g3, g4, g5⟩ := hg.bd
  have hl : len ≤ 32 := by omega
  have hwl : IntKind.u64.wrap (len : Int) = len := by rw [wrap_u64]; omega
  have hp8 := put_ok (n := (len : Int)) (x := 8) (by decide) (by decide)
  have HP8 := Lib.hid (show putS (len : Int) 8 = strOf (encN (len : Int) 8 ++ encL (twos 0) (m.take 0)) by rw [hp8.2]; simp [twos, encL])
  have H := Lib.hid h
  have HL := Lib.hid hlen
  have HG := Lib.hid hg
  clear h hg hlen g1 g2 g3 g4 g5 hp8
  go_enter Try.func21, Try.ntmps21
  go_wp2_with (go_at_call 32; refine (refput_any _ _ _ (by omega) (by omega)).mono ?_; rintro e w1 ⟨rfl, hb1⟩; rw [HP8.out])
  go_loopw [3, 5] (fun s i wr => ∃ c : Nat, c ≤ len ∧ i = .int .i64 c ∧ s = .string (strOf (encN (len : Int) 8 ++ encL (twos c) (m.take c))) ∧ Below w.heap.size w wr) (fun _ i _ => len - (intOf i).toNat)
  case atStart => exact ⟨0, Nat.zero_le _, rfl, rfl, hb1⟩
  case round =>
    obtain ⟨c, hc, rfl, rfl, hbr⟩ := hrel
    have hsz := hbr.size
    by_cases hlt : c < len
    · obtain ⟨bb, off, rfl, hcc⟩ := (H.out.below hbr).get (by omega)
      have hck := hcc c hlt
      have hx := HG.out.getD c (by rw [HL.out]; exact hlt)
      have hbd := HG.out.bd
      have he := enc2_take m c (by rw [HL.out]; exact hlt)
      obtain ⟨x, hxx⟩ : ∃ x, x = m.getD c 0 := ⟨_, rfl⟩
      rw [← hxx] at hck hx he
      have hwx : IntKind.u64.wrap x = x := by rw [wrap_u64]; omega
      have hx0 : 0 ≤ x := hx.1
      have hx1 : x < 4096 := by omega
      have hps : (putS x 2).size = 2 := by rw [(put_ok (n := x) (x := 2) (by decide) (by decide)).2]; show (encN x 2).length = 2; rw [encN_length]
      have HE := Lib.hid (show strOf (encN (len : Int) 8 ++ encL (twos c) (m.take c)) ++ putS x 2 = strOf (encN (len : Int) 8 ++ encL (twos (c + 1)) (m.take (c + 1))) by
        rw [(put_ok (n := x) (x := 2) (by decide) (by decide)).2, he]; apply strOf_ext; simp [strOf])
      have hss : (strOf (encN (len : Int) 8 ++ encL (twos c) (m.take c))).size ≤ 1000 := by
        show (encN (len : Int) 8 ++ encL (twos c) (m.take c)).length ≤ 1000
        have := encL_length (twos c) (m.take c) (twos_ok c) (by have := HL.out; rw [twos_length, List.length_take]; omega)
        rw [twos_sum] at this
        rw [List.length_append, encN_length]; omega
      obtain ⟨A, hA⟩ : ∃ A, A = strOf (encN (len : Int) 8 ++ encL (twos c) (m.take c)) := ⟨_, rfl⟩
      rw [← hA] at hss ⊢
      have HA := Lib.hid hA
      clear hcc hx hbd he hxx hA
      go_wp2_with (go_at_call 32; refine (refput_any _ _ _ hx0 (by omega)).mono ?_; rintro e w2 ⟨rfl, hb2⟩)
      go_roundw
      case rel => exact ⟨c + 1, by omega, by go_num, by rw [HA.out, HE.out], hbr.trans (hb2.mono hsz)⟩
      case measure => simp [intOf]; omega
    · obtain rfl : c = len := by omega
      have e : m.take c = m := List.take_of_length_le (by have := HL.out; omega)
      have HT := Lib.hid (show strOf (encN (c : Int) 8 ++ encL (twos c) (m.take c)) = txS m by rw [e, txS, txL_eq, HL.out])
      rw [HT.out]
      clear e
      go_wp2
      go_ret
      exact ⟨rfl, hbr⟩

set_option maxHeartbeats 2000000 in
set_option maxRecDepth 100000 in
theorem refparse_any (s : ByteArray) (n k : Int) (w : World) (hs : s.size ≤ 1000000) :
    Calls Try.prog 15 #[.string s, .int .i64 n, .int .i64 k] w fun e w' => ∃ ao len cap, e = .returned (.tuple #[.slice ao len cap, .int .i64 (paE s.data.toList n k)]) ∧ Ints w' ao len cap (paM s.data.toList n k) ∧ Below w.heap.size w w' := by
  obtain ⟨l, hl⟩ : ∃ l, s.data.toList = l := ⟨_, rfl⟩
  have hsz : s.size = l.length := by rw [← hl]; simp
  have HSZ := Lib.hid hsz
  have HLL := Lib.hid hl
  obtain ⟨E, hE⟩ : ∃ E, E = paE s.data.toList n k := ⟨_, rfl⟩
  rw [← hE]
  rw [hl] at hE ⊢
  have no : ∀ (w' : World), E ≠ 0 → Ints w' none 0 0 (paM l n k) := by
    intro w' h0; rw [paM_no (by rw [← hE]; exact h0)]; exact Ints.none _
  have NO := Lib.hid no
  clear no hl
  cases hm : mayB n k with
  | false =>
    have hE2 : (2 : Int) = E := by rw [hE, pa_may hm]
    have HE := Lib.hid hE2
    have HM := Lib.hid hm
    clear hsz hE hE2 hm
    go_enter Try.func15, Try.ntmps15
    go_wp2_with fail
    refine (refmay_any n k _).mono ?_
    rintro e w1 ⟨rfl, rfl⟩
    rw [HM.out]
    go_wp2_with fail
    go_ret2
    exact ⟨_, _, _, by rw [← HE.out]; rfl, NO.out _ (by rw [← HE.out]; decide), Below.refl _ _⟩
  | true =>
    have HM := Lib.hid hm
    obtain ⟨m1, m2, m3, m4⟩ := mayB_parts hm
    have bad : paF l k = false → (4 : Int) = E := fun h => by rw [hE, pa_form hm (by rw [paB, h]; rfl)]
    have BAD := Lib.hid bad
    have hst : Below w.heap.size w w := Below.refl _ _
    by_cases h8 : 8 ≤ s.size
    · by_cases h2 : s.size % 2 = 0
      · have hpn : paN l ≤ 499996 := by unfold paN; omega
        have hpl : s.size = 8 + 2 * paN l := by unfold paN; omega
        obtain ⟨N, hN⟩ : ∃ N, N = paN l := ⟨_, rfl⟩
        rw [← hN] at hpn hpl
        have HN := Lib.hid hN
        have h2' : Int.tmod (s.size : Int) 2 = 0 := by rw [Int.tmod_eq_emod_of_nonneg (by omega)]; omega
        have h8' : ¬ (s.size : Int) < 8 := by omega
        have hq : Int.tdiv ((s.size : Int) - 8) 2 = N := by rw [Int.tdiv_eq_ediv_of_nonneg (by omega)]; omega
        have hq' : ((s.size : Int) - 8) / 2 = N := by omega
        have HPL := Lib.hid hpl
        by_cases hk : (N : Int) ≤ k
        · have hxs : (s.extract 0 8).size ≤ 8 := by simp; omega
          have hget : getL (s.extract 0 8).data.toList = getL (l.take 8) := by rw [Lib.extract_data, HLL.out]; simp
          obtain ⟨G, hG⟩ : ∃ G, G = getL (l.take 8) := ⟨_, rfl⟩
          rw [← hG] at hget
          have HGET := Lib.hid hget
          have hwN : IntKind.u64.wrap (N : Int) = N := by rw [wrap_u64]; omega
          have HK := Lib.hid hk
          have hk' : ¬ k < (N : Int) := by omega
          by_cases hgn : G = N
          · have hform : paF l k = true := by
              simp only [paF, Bool.and_eq_true, decide_eq_true_eq, ← hN]; rw [← hG]; omega
            have HB := Lib.hid (show ∀ c, c < N → n ≤ paI l c → (4 : Int) = E from fun c hc hx => by rw [hE, pa_form hm (paB_bad (by rw [← hN]; exact hc) hx)])
            have HOK := Lib.hid (show (∀ c, c < N → paI l c < n) → (0 : Int) = E ∧ paM l n k = paL l from fun h => by
              have := pa_ok hm (paB_all hform (by rw [← hN]; exact h))
              exact ⟨by rw [hE, this], paM_ok this⟩)
            have HTK := Lib.hid (show ∀ c, c < N → (paL l).take (c + 1) = (paL l).take c ++ [paI l c] from fun c hc => paL_take l c (by rw [← hN]; exact hc))
            have HALL := Lib.hid (show (paL l).take N = paL l from List.take_of_length_le (by rw [paL_length, ← hN]; exact Nat.le_refl _))
            obtain ⟨i0, hi, hz0, hz1, hz2⟩ := info_parts info_int6
            have hsl : s.size ≤ 80 := by omega
            subst hgn
            clear hpl hsz hE bad hG hget hk h8 h2 hpn m1 m2 m3 m4 hm hform hs hN
            go_enter Try.func15, Try.ntmps15
            go_wp2_with fail
            refine (refmay_any n k _).mono ?_
            rintro e w1 ⟨rfl, rfl⟩
            rw [HM.out]
            go_wp2_with fail
            refine (refget_any _ _ hxs).mono ?_
            rintro e w1 ⟨rfl, rfl⟩
            rw [HGET.out]
            go_wp2_with fail
            have hown := World.ownsRow_nil w w.heap.size 3 1
            go_loopw [10, 11] (fun v i wr => ∃ c J : Nat, c ≤ G ∧ J = 8 + 2 * c ∧ i = .int .i64 J ∧ wr.ownsRow w.heap.size 3 1 v c (((paL l).take c).map (Value.int .i64)) ∧ (∀ j, j < c → paI l j < n) ∧ Below w.heap.size w wr) (fun _ i _ => s.size - (intOf i).toNat)
            case atStart => exact ⟨0, 8, Nat.zero_le _, rfl, rfl, hown, fun j hj => by omega, Below.refl _ _⟩
            case round =>
              obtain ⟨c, J, hc, hJ, rfl, hownr, hall, hbr⟩ := hrel
              have hszr := hbr.size
              clear hown
              by_cases hlt : c < G
              · have hJs : J + 2 ≤ s.size := by have := HPL.out; omega
                have hxs2 : (s.extract J (J + 2)).size ≤ 8 := by simp; omega
                have hx : ((getL (s.extract J (J + 2)).data.toList : Nat) : Int) = paI l c := by
                  rw [Lib.extract_data, HLL.out, paI, hJ]
                  rw [show 8 + 2 * c + 2 - (8 + 2 * c) = 2 by omega]
                obtain ⟨x, hxx⟩ : ∃ x, x = paI l c := ⟨_, rfl⟩
                have hxb : 0 ≤ x ∧ x < 65536 := by rw [hxx]; exact paI_bd l c
                rw [← hxx] at hx
                have hwx : IntKind.i64.wrap x = x := IntWalk.i64_in _ (by omega)
                have HX := Lib.hid hx
                have HXX := Lib.hid hxx
                have HAL := Lib.hid hall
                have HJ := Lib.hid hJ
                clear hx hall hJ
                by_cases hxn : n ≤ x
                · have HE := Lib.hid (HB.out c hlt (by rw [← hxx]; exact hxn))
                  clear hxx
                  go_wp2_with fail
                  refine (refget_any _ _ hxs2).mono ?_
                  rintro e w1 ⟨rfl, rfl⟩
                  rw [HX.out]
                  go_wp2_with fail
                  go_ret2
                  exact ⟨_, _, _, by rw [← HE.out]; rfl, NO.out _ (by rw [← HE.out]; decide), hbr⟩
                · have hxn' : x < n := by omega
                  clear hxx hxn
                  go_wp2_with fail
                  refine (refget_any _ _ hxs2).mono ?_
                  rintro e w1 ⟨rfl, rfl⟩
                  rw [HX.out]
                  go_wp2_with (at_builtin; refine wpList_append_own _ rfl _ _ 22 rfl w.heap.size 3 i0 (.int .i64 0) 1 8 Try.underlying22 hi hz0 hz1 hz2 rfl (by decide) _ _ _ rfl (hownr.alloc _) ⟨wr.heap.size, 0, none⟩ 1 1 [.int .i64 x] rfl rfl ?c1 ?c2 ?c3 ?c4 ?c5 ?_)
                  case c1 =>
                    intro j q hj
                    match j, hj with
                    | 0, hj => simp at hj; subst hj; simp [Addr.add]
                  case c2 => intro q hq; simp at hq; subst hq; rfl
                  case c3 => unfold maxLen; omega
                  case c4 => omega
                  case c5 => simp; omega
                  intro v' w2 hown' hgrow _
                  have hbel : Below w.heap.size w w2 := (hbr.alloc hszr _).grown hgrow (by simp; omega) (fun q hq => (hownr.lt q hq).1)
                  rw [show ((paL l).map (Value.int .i64)).take c ++ [.int .i64 x] = ((paL l).take (c + 1)).map (Value.int .i64) by rw [HTK.out c hlt, HXX.out]; simp] at hown'
                  clear hgrow hownr
                  go_wp2
                  go_roundw
                  case rel =>
                    refine ⟨c + 1, J + 2, by omega, (by have := HJ.out; omega), by go_num, hown', fun j hj => ?_, hbel⟩
                    by_cases hjc : j < c
                    · exact HAL.out j hjc
                    · obtain rfl : j = c := by omega
                      rw [← HXX.out]; exact hxn'
                  case measure => simp [intOf]; omega
              · obtain rfl : c = G := by omega
                obtain ⟨h00, hpm⟩ := HOK.out hall
                have HE := Lib.hid h00
                have HPM := Lib.hid hpm
                rw [HALL.out] at hownr
                obtain ⟨bo, cap, rfl, _⟩ := own_shape hownr
                have hJ2 : (J : Int) = (s.size : Int) := by have := HPL.out; omega
                clear h00 hpm hall
                go_wp2_with fail
                go_ret2
                exact ⟨_, _, _, by rw [← HE.out]; rfl, by rw [HPM.out]; exact Ints.own hownr, hbr⟩
          · have hF : paF l k = false := by
              have : ¬ getL (l.take 8) = paN l := by rw [← hG, ← hN]; exact hgn
              simp [paF, this]
            have HE := Lib.hid (BAD.out hF)
            have hgn' : ¬ (G : Int) = (N : Int) := by omega
            clear hpl hsz hE hF bad hgn hG hN hget hk h8 h2 hpn m1 m2 m3 m4
            go_enter Try.func15, Try.ntmps15
            go_wp2_with fail
            refine (refmay_any n k _).mono ?_
            rintro e w1 ⟨rfl, rfl⟩
            rw [HM.out]
            go_wp2_with fail
            refine (refget_any _ _ hxs).mono ?_
            rintro e w1 ⟨rfl, rfl⟩
            rw [HGET.out]
            go_wp2_with fail
            go_ret2
            exact ⟨_, _, _, by rw [← HE.out]; rfl, NO.out _ (by rw [← HE.out]; decide), Below.refl _ _⟩
        · have hF : paF l k = false := by
            have : ¬ (paN l : Int) ≤ k := by rw [← hN]; exact hk
            simp [paF, this]
          have HE := Lib.hid (BAD.out hF)
          have hk' : k < (N : Int) := by omega
          clear hpl hsz hE hF bad hN hk h8 h2 hpn m1 m2 m3 m4
          go_enter Try.func15, Try.ntmps15
          go_wp2_with fail
          refine (refmay_any n k _).mono ?_
          rintro e w1 ⟨rfl, rfl⟩
          rw [HM.out]
          go_wp2_with fail
          go_ret2
          exact ⟨_, _, _, by rw [← HE.out]; rfl, NO.out _ (by rw [← HE.out]; decide), Below.refl _ _⟩
      · have hF : paF l k = false := by
          have : ¬ l.length % 2 = 0 := by omega
          simp [paF, this]
        have HE := Lib.hid (BAD.out hF)
        have h2' : ¬ Int.tmod (s.size : Int) 2 = 0 := by rw [Int.tmod_eq_emod_of_nonneg (by omega)]; omega
        have h8' : ¬ (s.size : Int) < 8 := by omega
        clear hsz hE hF bad h8 h2 m1 m2 m3 m4
        go_enter Try.func15, Try.ntmps15
        go_wp2_with fail
        refine (refmay_any n k _).mono ?_
        rintro e w1 ⟨rfl, rfl⟩
        rw [HM.out]
        go_wp2_with fail
        go_ret2
        exact ⟨_, _, _, by rw [← HE.out]; rfl, NO.out _ (by rw [← HE.out]; decide), Below.refl _ _⟩
    · have hF : paF l k = false := by
        have : ¬ 8 ≤ l.length := by omega
        simp [paF, this]
      have HE := Lib.hid (BAD.out hF)
      have h8' : (s.size : Int) < 8 := by omega
      clear hsz hE hF bad h8 m1 m2 m3 m4
      go_enter Try.func15, Try.ntmps15
      go_wp2_with fail
      refine (refmay_any n k _).mono ?_
      rintro e w1 ⟨rfl, rfl⟩
      rw [HM.out]
      go_wp2_with fail
      go_ret2
      exact ⟨_, _, _, by rw [← HE.out]; rfl, NO.out _ (by rw [← HE.out]; decide), Below.refl _ _⟩
end Go.Proofs.Ytonfafjacmifaaa.Tab
