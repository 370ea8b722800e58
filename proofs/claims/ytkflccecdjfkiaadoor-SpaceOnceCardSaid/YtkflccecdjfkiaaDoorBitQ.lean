/- Contracts of layer 9 (bits): Next, List, Count, Copy, New. -/
import Derived.Test.YtkflccecdjfkiaaDoorBitP
namespace Go.Proofs.YtkflccecdjfkiaaDoor.Bit
open Go.RowKit Go.Proofs.YtkflccecdjfkiaaDoor
set_option linter.unusedVariables false
section
variable {p : Nat} {n : Int} {ws : List Nat} {l : List Bool} {R : List Nat}
theorem run_max0 (P : Program) (w : World) (t : TypeId) (ts : Array TypeId) (f : Int) (c : Nat) (h : (f ≤ 0 ∧ c = 0) ∨ f = c) : (Builtin.max_ ts t #[.int .i64 0, .int .i64 f]).run P w = .ok (.int .i64 (c : Nat)) w := by
  simp only [Builtin.max_, Builtin.max2, List.foldlM, Sem.run_bind, Sem.run_pure, Result.andThen]
  have e : (if (0 : Int) < f then f else 0) = (c : Int) := by split <;> omega
  first | rw [e] | (simp; omega)
set_option maxHeartbeats 1000000 in
set_option maxRecDepth 100000 in
theorem next_t (f : Int) (is : Bool) (w : World) (hT : Tz w) (h : TAt w p (l.length : Nat) ws) (hs : WS ws l) (hl : l.length ≤ 4096) :
    Calls Tryd.prog 30 #[.pointer (some ⟨p, 0, none⟩), .int .i64 f, .bool is] w fun e w' => e = .returned (.tuple #[.int .i64 (nextN l f is), .bool (nextB l f is)]) ∧ w = w' := by
  obtain ⟨c0, hc0⟩ : ∃ c0 : Nat, (f ≤ 0 ∧ c0 = 0) ∨ f = c0 := by
    by_cases h0 : f ≤ 0
    · exact ⟨0, .inl ⟨h0, rfl⟩⟩
    · exact ⟨f.toNat, .inr (by omega)⟩
  have hmax : ∀ W ts, (Builtin.max_ ts 3 #[.int .i64 0, .int .i64 f]).run Tryd.prog W = .ok (.int .i64 (c0 : Nat)) W := fun W ts => run_max0 _ _ _ _ f c0 hc0
  have hst : nextO l f is = nextO l (c0 : Nat) is := by
    rcases hc0 with ⟨h1, rfl⟩ | rfl
    · exact next_neg h1 is
    · rfl
  have HSO := Lib.hid hst
  have H := Lib.hid h
  have HS := Lib.hid hs
  have HL := Lib.hid hl
  have HT := Lib.hid hT
  clear h hs hl hst hc0 hT
  go_enter Tryd.func30, Tryd.ntmps30
  go_wp2_with fail
  clear hmax
  go_loopw [8] (fun i wr => ∃ c : Nat, i = .int .i64 c ∧ wr = w ∧ nextO l f is = nextO l (c : Nat) is) (fun i _ => l.length - (intOf i).toNat)
  case atStart => exact ⟨c0, rfl, rfl, HSO.out⟩
  case round =>
    obtain ⟨c, rfl, hwr, hst⟩ := hrel
    obtain rfl : w = wr := hwr.symm
    clear HSO hwr
    have HSO := Lib.hid hst
    clear hst
    by_cases hlt : c < l.length
    · have hl4 := HL.out
      have hc4 : c < 4096 := by omega
      have hsp := (spans_t (c : Nat) w H.out).mono fun e w' (k : e = .returned (.bool (spB (l.length : Nat) (c : Nat))) ∧ w = w') => (⟨by rw [k.1, sp_len hlt], k.2⟩ : e = .returned (.bool true) ∧ w = w')
      have hfr := from_t c hc4 is w H.out (HS.out.lt _)
      have hfl := fw_lt HS.out c is
      have HN := Lib.hid (fun z => WS.none HS.out hc4 (is := is) z)
      have HY := Lib.hid (fun z => WS.some HS.out hc4 (is := is) z)
      obtain ⟨v, hv⟩ : ∃ v, v = fw ws c is := ⟨_, rfl⟩
      rw [← hv] at hfr hfl HN HY
      have htz := tz_any v hfl w HT.out
      have HLT := Lib.hid hlt
      clear hv hfl hl4 hlt
      have hm : Int.tmod (c : Int) 64 = ((c % 64 : Nat) : Int) := by rw [Int.tmod_eq_emod_of_nonneg (by omega)]; omega
      have hm2 : (c : Int) % 64 = ((c % 64 : Nat) : Int) := by omega
      by_cases hz : v = 0
      · rw [hz, ctz_zero] at htz
        rw [hz] at hfr
        have HN2 := Lib.hid (HN.out hz)
        obtain ⟨r, hr⟩ : ∃ r, r = c % 64 := ⟨_, rfl⟩
        have hr64 : r < 64 := by omega
        rw [← hr] at hm hm2 HN2
        clear hz hr
        go_wp2_with fail
        refine hsp.mono ?_
        rintro e w1 ⟨rfl, rfl⟩
        go_wp2_with fail
        refine hfr.mono ?_
        rintro e w1 ⟨rfl, rfl⟩
        go_wp2_with fail
        refine htz.mono ?_
        rintro e w1 ⟨rfl, rfl⟩
        go_wp2_with fail
        go_roundw
        case rel => exact ⟨c + (64 - r), by go_num, trivial, HSO.out.trans HN2.out⟩
        case measure => have := HLT.out; simp [intOf]; omega
      · obtain ⟨y1, y2⟩ := HY.out hz
        obtain ⟨t, ht⟩ : ∃ t, t = Lib.ctz 64 v := ⟨_, rfl⟩
        rw [← ht] at htz y1 y2
        have ht64 : (t : Int) < 64 := by omega
        have hfo := found_t ((c : Int) + (t : Int)) w H.out
        have HR := Lib.hid (show Ending.returned (.tuple #[.int .i64 (if spB (l.length : Nat) ((c : Int) + (t : Int)) = true then (c : Int) + (t : Int) else 0), .bool (spB (l.length : Nat) ((c : Int) + (t : Int)))]) = .returned (.tuple #[.int .i64 (nextN l f is), .bool (nextB l f is)]) by
          have y3 := HSO.out.trans y2
          by_cases e : c + t < l.length
          · rw [if_pos e] at y3
            obtain ⟨z1, z2⟩ := next_yes y3
            have z3 : spB (l.length : Nat) ((c : Int) + (t : Int)) = true := sp_yes (by omega) (by omega)
            rw [z1, z2, z3, if_pos rfl]; rfl
          · rw [if_neg e] at y3
            obtain ⟨z1, z2⟩ := next_no y3
            have z3 : spB (l.length : Nat) ((c : Int) + (t : Int)) = false := sp_no (by omega)
            rw [z1, z2, z3, if_neg (by decide)])
        obtain ⟨A, hA⟩ : ∃ A, A = (if spB (l.length : Nat) ((c : Int) + (t : Int)) = true then (c : Int) + (t : Int) else 0) := ⟨_, rfl⟩
        obtain ⟨B, hB⟩ : ∃ B, B = spB (l.length : Nat) ((c : Int) + (t : Int)) := ⟨_, rfl⟩
        rw [← hA, ← hB] at hfo HR
        clear hA hB y1 y2 hz ht
        go_wp2_with fail
        refine hsp.mono ?_
        rintro e w1 ⟨rfl, rfl⟩
        go_wp2_with fail
        refine hfr.mono ?_
        rintro e w1 ⟨rfl, rfl⟩
        go_wp2_with fail
        refine htz.mono ?_
        rintro e w1 ⟨rfl, rfl⟩
        go_wp2_with fail
        refine hfo.mono ?_
        rintro e w1 ⟨rfl, rfl⟩
        go_wp2_with fail
        go_ret2
        exact ⟨HR.out, rfl⟩
    · have hsp := (spans_t (c : Nat) w H.out).mono fun e w' (k : e = .returned (.bool (spB (l.length : Nat) (c : Nat))) ∧ w = w') => (⟨by rw [k.1, sp_no (.inr (by omega))], k.2⟩ : e = .returned (.bool false) ∧ w = w')
      obtain ⟨z1, z2⟩ := next_no (HSO.out.trans (next_far (by omega) is))
      have Z1 := Lib.hid z1
      have Z2 := Lib.hid z2
      clear z1 z2 hlt
      go_wp2_with fail
      refine hsp.mono ?_
      rintro e w1 ⟨rfl, rfl⟩
      go_wp2_with fail
      go_ret2
      exact ⟨ret_ib Z1.out.symm Z2.out.symm, rfl⟩
theorem nextO_k (l : List Bool) (f : Int) (is : Bool) : nextB l f is = true ↔ ∃ i, nextO l f is = Option.some i := by rw [nextB, Option.isSome_iff_exists]
theorem next_any (f : Int) (is : Bool) (w : World) (hT : Tz w) (h : SetAt w p R l) : Calls Tryd.prog 30 #[.pointer (some ⟨p, 0, none⟩), .int .i64 f, .bool is] w fun e w' => e = .returned (.tuple #[.int .i64 (nextN l f is), .bool (nextB l f is)]) ∧ Below w.heap.size w w' := by
  obtain ⟨ws, rfl, h1, h2, h3, h4⟩ := h
  exact (next_t f is w hT h1 h2 h4).mono fun e w' ⟨he, hw⟩ => ⟨he, by rw [← hw]; exact Below.refl _ _⟩
set_option maxRecDepth 100000 in
theorem next_nil (f : Int) (is : Bool) (w : World) : Calls Tryd.prog 30 #[.pointer none, .int .i64 f, .bool is] w fun e w' => e = .returned (.tuple #[.int .i64 0, .bool false]) ∧ Below w.heap.size w w' := by
  obtain ⟨c0, hc0⟩ : ∃ c0 : Nat, (f ≤ 0 ∧ c0 = 0) ∨ f = c0 := by
    by_cases h0 : f ≤ 0
    · exact ⟨0, .inl ⟨h0, rfl⟩⟩
    · exact ⟨f.toNat, .inr (by omega)⟩
  have hmax : ∀ W ts, (Builtin.max_ ts 3 #[.int .i64 0, .int .i64 f]).run Tryd.prog W = .ok (.int .i64 (c0 : Nat)) W := fun W ts => run_max0 _ _ _ _ f c0 hc0
  clear hc0
  go_enter Tryd.func30, Tryd.ntmps30
  go_wp2_with fail
  clear hmax
  go_loopw [8] (fun i wr => i = .int .i64 (c0 : Nat) ∧ wr = w) (fun i _ => 0)
  case atStart => exact ⟨rfl, rfl⟩
  case round =>
    obtain ⟨rfl, hwr⟩ := hrel
    obtain rfl : w = wr := hwr.symm
    clear hwr
    go_wp2_with fail
    refine (spans_nil (c0 : Nat) w).mono ?_
    rintro e w1 ⟨rfl, rfl⟩
    go_wp2_with fail
    go_ret2
    exact ⟨rfl, Below.refl _ _⟩
theorem info_int9 : (Tryd.prog.info? 3).map (fun i => (i.zero, i.size, i.bytes)) = some (some (.int .i64 0), 1, 8) := by kernel_rfl
/-- how far a list is -/
def msL (n : Nat) (kv ok : Value) : Nat := match ok with | .bool true => n + 1 - (intOf kv).toNat | _ => 0
theorem msL_yes (n : Nat) (kv : Value) : msL n kv (.bool true) = n + 1 - (intOf kv).toNat := rfl
theorem msL_no (n : Nat) (kv : Value) : msL n kv (.bool false) = 0 := rfl
theorem iV_snoc (l : List Int) (x : Int) : iV (l ++ [x]) = iV l ++ [.int .i64 x] := by simp [iV]
set_option maxHeartbeats 1000000 in
set_option maxRecDepth 100000 in
theorem list_any (w : World) (hT : Tz w) (h : SetAt w p R l) : Calls Tryd.prog 42 #[.pointer (some ⟨p, 0, none⟩)] w fun e w' => ∃ ao cap, e = .returned (.slice ao (cntL l) cap) ∧ Vals w' ao (cntL l) cap (iV (lstL l.length l)) ∧ NewM w.heap.size ao ∧ Below w.heap.size w w' := by
  obtain ⟨i0, hi, hz0, hz1, hz2⟩ := info_parts info_int9
  have hnx : ∀ w1, Below w.heap.size w w1 → ∀ a : Nat, a ≤ 5000 → Calls Tryd.prog 30 #[.pointer (some ⟨p, 0, none⟩), .int .i64 (a : Nat), .bool true] w1 fun e w' => e = .returned (.tuple #[.int .i64 (nextN l (a : Nat) true), .bool (nextB l (a : Nat) true)]) ∧ Below w1.heap.size w1 w' := fun w1 hb a ha => next_any (a : Nat) true w1 (hT.on hb) (h.same fun k hk => hb.block k (h.lt k hk))
  have hbd := h.bd.2
  have HNX := Lib.hid hnx
  have HBD := Lib.hid hbd
  have hown := World.ownsRow_nil w w.heap.size 3 1
  clear hT h hnx hbd
  go_enter Tryd.func42, Tryd.ntmps42
  go_wp2_with fail
  refine (HNX.out w (Below.refl _ _) 0 (by omega)).mono ?_
  rintro e w1 ⟨rfl, hb⟩
  have HB1 := Lib.hid hb
  have hown1 := World.ownsRow_nil w1 w.heap.size 3 1
  clear hb hown
  go_wp2_with fail
  go_loopw [3, 4, 5] (fun s kv ok wr => ∃ a : Nat, a ≤ l.length ∧ kv = .int .i64 (nextN l (a : Nat) true) ∧ ok = .bool (nextB l (a : Nat) true) ∧ wr.ownsRow w.heap.size 3 1 s (lstL a l).length (iV (lstL a l)) ∧ Below w.heap.size w wr) (fun _ kv ok _ => msL l.length kv ok)
  case atStart => exact ⟨0, Nat.zero_le _, rfl, rfl, hown1, HB1.out⟩
  case round =>
    obtain ⟨a, ha, rfl, rfl, hownr, hbr⟩ := hrel
    have HBR := Lib.hid hbr
    have hszr := hbr.size
    have hbd := HBD.out
    clear hown1 HB1
    cases hn : nextO l (a : Nat) true with
    | none =>
      obtain ⟨z1, z2⟩ := next_no hn
      rw [z1, z2]
      have he := lst_end ha hn
      have HE := Lib.hid (show cntL l = (lstL a l).length by rw [cntL, he])
      have HF := Lib.hid he
      obtain ⟨bo, cap', rfl, _⟩ := own_shape hownr
      have HV := Lib.hid (Vals.own hownr)
      have HW := Lib.hid (NewM.own hownr)
      clear hownr hn z1 z2 he hbr
      go_wp2_with fail
      go_ret
      rw [HE.out, HF.out]
      exact ⟨_, _, rfl, HV.out, HW.out, HBR.out⟩
    | some i =>
      obtain ⟨z1, z2⟩ := next_yes hn
      obtain ⟨q1, q2, q3, q4⟩ := next_is hn
      have ht := lst_next hn
      have HTL := Lib.hid (show (lstL (i + 1) l).length = (lstL a l).length + 1 by rw [ht]; simp)
      have HTV := Lib.hid (show iV (lstL (i + 1) l) = iV (lstL a l) ++ [.int .i64 (i : Nat)] by rw [ht, iV_snoc])
      have hll := lst_le a l
      obtain ⟨N, hN⟩ : ∃ N, N = (lstL a l).length := ⟨_, rfl⟩
      obtain ⟨X, hX⟩ : ∃ X, X = iV (lstL a l) := ⟨_, rfl⟩
      rw [← hN] at hownr HTL hll
      rw [← hX] at hownr HTV
      rw [z1, z2]
      have HMS := Lib.hid (show msL l.length (.int .i64 (nextN l ((i + 1 : Nat) : Int) true)) (.bool (nextB l ((i + 1 : Nat) : Int) true)) < msL l.length (.int .i64 (i : Nat)) (.bool true) by
        rw [msL_yes]
        cases hn2 : nextO l ((i + 1 : Nat) : Int) true with
        | none => rw [(next_no hn2).2, msL_no]; simp [intOf]; omega
        | some i2 =>
          obtain ⟨r1, r2, r3, r4⟩ := next_is hn2
          rw [(next_yes hn2).1, (next_yes hn2).2, msL_yes]; simp [intOf]; omega)
      have HI := Lib.hid q1
      clear hn z1 z2 q2 q3 q4 ht hN hX
      go_wp2_with (at_builtin; refine wpList_append_own _ rfl _ _ 76 rfl w.heap.size 3 i0 (.int .i64 0) 1 8 Tryd.underlying76 hi hz0 hz1 hz2 rfl (by decide) _ _ _ rfl (hownr.alloc _) ⟨wr.heap.size, 0, none⟩ 1 1 [.int .i64 (i : Nat)] rfl rfl ?c1 ?c2 ?c3 ?c4 ?c5 ?_)
      case c1 =>
        intro j q hj
        match j, hj with
        | 0, hj => simp at hj; subst hj; simp [Addr.add]
      case c2 => intro q hq; simp at hq; subst hq; rfl
      case c3 => unfold maxLen; omega
      case c4 => omega
      case c5 => simp; omega
      intro v' w2 hown' hgrow _
      have hbel : Below w.heap.size w w2 := (hbr.alloc hszr _).grown hgrow (by simp; omega) (fun q hq => (hownr.lt q hq).1)
      rw [← HTV.out, ← HTL.out] at hown'
      have HBL := Lib.hid hbel
      have HOW := Lib.hid hown'
      clear hgrow hownr hbr HBR hbel hown'
      go_wp2_with fail
      refine (HNX.out w2 HBL.out (i + 1) (by omega)).mono ?_
      rintro e w3 ⟨rfl, hb⟩
      have hown3 := owns_same HOW.out (w' := w3) (fun k hk => by
        exact hb.block k (HOW.out.lt k hk).2)
      have HB3 := Lib.hid (HBL.out.trans (hb.mono HBL.out.size))
      clear hb
      go_wp2_with fail
      go_roundw
      case rel => exact ⟨i + 1, by omega, rfl, rfl, hown3, HB3.out⟩
      case measure => exact HMS.out
set_option maxRecDepth 100000 in
theorem list_nil (w : World) : Calls Tryd.prog 42 #[.pointer none] w fun e w' => ∃ ao cap, e = .returned (.slice ao 0 cap) ∧ Below w.heap.size w w' := by
  go_enter Tryd.func42, Tryd.ntmps42
  go_wp2_with fail
  refine (next_nil 0 true w).mono ?_
  rintro e w1 ⟨rfl, hb⟩
  have HB1 := Lib.hid hb
  clear hb
  go_wp2_with fail
  go_loopw [3, 5] (fun s ok wr => s = .slice none 0 0 ∧ ok = .bool false ∧ Below w.heap.size w wr) (fun _ _ _ => 0)
  case atStart => exact ⟨rfl, rfl, HB1.out⟩
  case round =>
    obtain ⟨rfl, rfl, hbr⟩ := hrel
    go_wp2_with fail
    go_ret
    exact ⟨_, _, rfl, hbr⟩
end
end Go.Proofs.YtkflccecdjfkiaaDoor.Bit
