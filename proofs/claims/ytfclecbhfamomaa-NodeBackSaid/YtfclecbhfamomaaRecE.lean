/- Layer 12 (rec): Parse. -/
import Derived.OwnWalk
import Derived.Maps.AppendAt
import Derived.Test.YtfclecbhfamomaaRecD
namespace Go.Proofs.Ytfclecbhfamomaa.Rec
open Go Go.RowKit Go.Proofs.Ytfclecbhfamomaa Go.Proofs.Ytfclecbhfamomaa.Lend
set_option linter.unusedVariables false

def lenOf : Value → Nat
  | .string b => b.size
  | _ => 0
/-- what Parse answers -/
def PaQ (w : World) (s : List UInt8) (e : Ending) (w' : World) : Prop :=
  (∃ l v', parL s = some l ∧ e = .returned (.tuple #[v', .int .i64 0]) ∧ RA w' w.heap.size v' l ∧ Below w.heap.size w w') ∨
  (parL s = none ∧ e = .returned (.tuple #[.slice none 0 0, .int .i64 4]) ∧ Below w.heap.size w w')
theorem PaQ.yes {w w' : World} {s : List UInt8} {e : Ending} (l : List Up) (v' : Value) (h : parL s = some l) (he : e = .returned (.tuple #[v', .int .i64 0])) (h1 : RA w' w.heap.size v' l) (h2 : Below w.heap.size w w') : PaQ w s e w' := .inl ⟨l, v', h, he, h1, h2⟩
theorem PaQ.no {w w' : World} {s : List UInt8} {e : Ending} (h : parL s = none) (he : e = .returned (.tuple #[.slice none 0 0, .int .i64 4])) (h2 : Below w.heap.size w w') : PaQ w s e w' := .inr ⟨h, he, h2⟩
set_option maxRecDepth 100000 in
set_option maxHeartbeats 4000000 in
theorem Parse_any (s : List UInt8) (w : World) (hs : s.length ≤ 100000) : Calls Try.prog 54 #[.string (Lend.strOf s)] w (PaQ w s) := by
  obtain ⟨i0, hi, hz0, hz1, hz2⟩ := info_parts info_up
  go_enter Try.func54, Try.ntmps54
  go_wp2_with fail
  go_loopw [0, 4] (fun sv ov wr => ∃ (r : List UInt8) (m : List Up) (v : Value), v = ov ∧ sv = .string (Lend.strOf r) ∧ RA wr w.heap.size v m ∧ parL s = (parL r).map (m ++ ·) ∧ m.length + r.length ≤ s.length ∧ Below w.heap.size w wr) (fun sv _ _ => lenOf sv)
  case atStart => exact ⟨s, [], _, rfl, rfl, World.ownsRow_nil _ _ _ _, by cases parL s <;> rfl, by simp, Below.refl _ _⟩
  case round =>
    obtain ⟨r, m, v, rfl, rfl, hrow, hpl, hln, hb⟩ := hrel
    cases r with
    | nil =>
      have HP := Lib.hid (show parL s = some m by rw [hpl, parL_nil]; simp)
      have HR := Lib.hid hrow
      have HB := Lib.hid hb
      clear hrow hpl hln hb
      rw [strOf0]
      go_wp2_with fail
      go_ret2
      exact PaQ.yes m _ HP.out rfl HR.out HB.out
    | cons b r =>
      have ha0 := str_ne (l := b :: r) (by simp)
      have ha1 := str_ne' (l := b :: r) (by simp)
      have HROW := Lib.hid hrow
      have HPL := Lib.hid hpl
      have HLN := Lib.hid hln
      have HB := Lib.hid hb
      have HPA := Lib.hid (parse_any (b :: r) wr (by omega) (by simp))
      have HSZ := Lib.hid (ssize (b :: r))
      obtain ⟨T, hT⟩ : ∃ T, T = Lend.strOf (b :: r) := ⟨_, rfl⟩
      rw [← hT] at ha0 ha1 HPA HSZ ⊢
      clear hrow hpl hln hb hT
      go_wp2_with fail
      refine HPA.out.mono ?_
      rintro e w1 (⟨u, r', hpu, rfl, hb1⟩ | ⟨hpu, rfl, hb1⟩)
      · have HPU := Lib.hid hpu
        have HB1 := Lib.hid (below_on HB.out hb1)
        have HR1 := Lib.hid (own_bel HROW.out hb1)
        have HNW := Lib.hid (show ∀ j x, (encU u)[j]? = some x → ((w1.alloc (.cells #[.int .u8 u.kind, .string (Lend.strOf u.key), .string (Lend.strOf u.val), .int .u64 u.delta] 70)).alloc (.cells #[.int .u8 u.kind, .string (Lend.strOf u.key), .string (Lend.strOf u.val), .int .u64 u.delta] 70)).cell? ((⟨w1.heap.size + 1, 0, none⟩ : Addr).add j) = some x from by
          have h := Has.new (w1.alloc (.cells #[.int .u8 u.kind, .string (Lend.strOf u.key), .string (Lend.strOf u.val), .int .u64 u.delta] 70)) (encU u) 70
          rw [World.size_alloc] at h
          exact has_news h)
        have HB2 := Lib.hid (below_nw (below_nw HB1.out (.cells #[.int .u8 u.kind, .string (Lend.strOf u.key), .string (Lend.strOf u.val), .int .u64 u.delta] 70)) (.cells #[.int .u8 u.kind, .string (Lend.strOf u.key), .string (Lend.strOf u.val), .int .u64 u.delta] 70))
        clear hpu hb1
        go_wp2_with (at_builtin; refine wpList_append_own _ rfl _ _ 27 rfl w.heap.size 70 i0 _ 4 48 Try.underlying27 hi hz0 hz1 hz2 rfl (by decide) _ m.length (flatU m) rfl ((HR1.out.alloc _).alloc _) ⟨w1.heap.size + 1, 0, none⟩ 1 1 (encU u) rfl rfl HNW.out (enc_one u) ?c1 ?c2 ?c3 ?_)
        case c1 => unfold maxLen; have := HLN.out; rw [List.length_cons] at this; omega
        case c2 => have := HLN.out; rw [List.length_cons] at this; omega
        case c3 => exact HB2.out.size
        intro v' w4 hown4 hgr _
        have HB4 := Lib.hid (HB2.out.grown hgr HB2.out.size (fun q hq => (HROW.out.lt q hq).1))
        have HOW4 := Lib.hid (show RA w4 w.heap.size v' (m ++ [u]) by unfold RA; rw [flatU_snoc, List.length_append]; exact hown4)
        have HPL2 := Lib.hid (show parL s = (parL r').map ((m ++ [u]) ++ ·) by
          rw [HPL.out, parL_some HPU.out]
          cases parL r' <;> simp)
        have HLN2 := Lib.hid (show (m ++ [u]).length + r'.length ≤ s.length ∧ r'.length < (b :: r).length by
          have h1 := (par1_some HPU.out).1
          have h2 := HLN.out
          rw [List.length_append]
          rw [List.length_cons] at h1 h2
          simp only [List.length_cons, List.length_nil]
          omega)
        clear hown4 hgr
        go_wp2_with fail
        go_roundw
        case rel => exact ⟨r', m ++ [u], _, rfl, rfl, HOW4.out, HPL2.out, HLN2.out.1, HB4.out⟩
        case measure => simp only [lenOf]; rw [HSZ.out, ssize]; exact HLN2.out.2
      · have HN := Lib.hid (show parL s = none by rw [HPL.out, parL_none (by simp) hpu]; rfl)
        have HB1 := Lib.hid (below_on HB.out hb1)
        clear hpu hb1
        go_wp2_with fail
        go_ret2
        exact PaQ.no HN.out rfl (below_nw HB1.out _)
theorem own_base {w : World} {base base' : Nat} {e : TypeId} {size : Nat} {v : Value} {n : Nat} {xs : List Value} (h : w.ownsRow base e size v n xs) (hb : base' ≤ base) : w.ownsRow base' e size v n xs := by
  refine ⟨h.1, ?_⟩
  rcases h.2 with h | ⟨g, cap, cur, a, b, rest⟩
  · exact .inl h
  · exact .inr ⟨g, cap, cur, a, Nat.le_trans hb b, rest⟩
theorem own_drew {w : World} {base : Nat} {e : TypeId} {size : Nat} {v : Value} {n : Nat} {xs : List Value} (h : w.ownsRow base e size v n xs) : w.drew.ownsRow base e size v n xs := h
theorem parN_le : ∀ (n : Nat) (s : List UInt8) (l : List Up), parN n s = some l → l.length ≤ s.length
  | n, [], l, h => by
    have : l = [] := by cases n <;> (unfold parN at h; injection h with h; exact h.symm)
    subst this; simp
  | 0, x :: s, l, h => by unfold parN at h; cases h
  | n + 1, x :: s, l, h => by
    rw [parN_cons _ _ (by simp)] at h
    cases e : par1 (x :: s) with
    | none => rw [e] at h; cases h
    | some p =>
      obtain ⟨u, r⟩ := p
      rw [e] at h
      simp only at h
      have h1 := (par1_some e).1
      cases e2 : parN n r with
      | none => rw [e2] at h; cases h
      | some m =>
        rw [e2] at h
        injection h with h
        subst h
        have := parN_le n r m e2
        rw [List.length_cons]; omega
theorem parL_le {s : List UInt8} {l : List Up} (h : parL s = some l) : l.length ≤ s.length := parN_le _ s l h
end Go.Proofs.Ytfclecbhfamomaa.Rec
