/- Layer 12 (rec): Parse. -/
import Derived.OwnWalk
import Derived.Maps.AppendAt
import Derived.Test.YtomhalcoomdadaaRecD
namespace Go.Proofs.Ytomhalcoomdadaa.Rec
open Go Go.RowKit Go.Proofs.Ytomhalcoomdadaa Go.Proofs.Ytomhalcoomdadaa.Lend
set_option linter.unusedVariables false

def flatU (l : List Up) : List Value := l.flatMap encU
theorem flatU_length (l : List Up) : (flatU l).length = l.length * 4 := by
  unfold flatU
  induction l with
  | nil => rfl
  | cons u l ih => rw [List.flatMap_cons, List.length_append, ih]; simp [encU]; omega
theorem flatU_snoc (l : List Up) (u : Up) : flatU (l ++ [u]) = flatU l ++ encU u := by unfold flatU; simp
/-- a row of the program's updates -/
abbrev RA (w : World) (base : Nat) (v : Value) (l : List Up) : Prop := w.ownsRow base 33 4 v l.length (flatU l)
def lenOf : Value → Nat
  | .string b => b.size
  | _ => 0
theorem flatU_get : ∀ (l : List Up) (i : Nat) (hi : i < l.length) (j : Nat), j < 4 → (flatU l)[i * 4 + j]? = (encU l[i])[j]?
  | [], i, hi, _, _ => by cases hi
  | u :: l, 0, _, j, hj => by
    unfold flatU
    rw [List.flatMap_cons, List.getElem?_append_left (by simp [encU]; omega)]
    simp
  | u :: l, i + 1, hi, j, hj => by
    have e : flatU (u :: l) = encU u ++ flatU l := by unfold flatU; simp
    rw [e, List.getElem?_append_right (by simp [encU]; omega), show (i + 1) * 4 + j - (encU u).length = i * 4 + j by simp [encU]; omega]
    exact flatU_get l i (by simpa using hi) j hj
theorem UR.of_own {w : World} {base : Nat} {e : TypeId} {v : Value} {l : List Up} (h : w.ownsRow base e 4 v l.length (flatU l)) : UR w v l := by
  rcases h.2 with ⟨hv, h0⟩ | ⟨g, cap, cur, hv, hb, hg, hn, hm, hs, ht⟩
  · exact ⟨none, 0, by rw [hv, h0], fun hp => by omega⟩
  · refine ⟨some ⟨g, 0, none⟩, cap, hv, fun _ => ⟨g, 0, rfl, fun i hi j hj => ?_⟩⟩
    rw [← flatU_get l i hi j hj, ← ht, List.getElem?_take, if_pos (by omega)]
    unfold World.cell?
    simp only [hg]
    simp
/-- what Parse answers -/
def PaQ (w : World) (s : List UInt8) (e : Ending) (w' : World) : Prop :=
  (∃ l v', parL s = some l ∧ e = .returned (.tuple #[v', .int .i64 0]) ∧ RA w' w.heap.size v' l ∧ Below w.heap.size w w') ∨
  (parL s = none ∧ e = .returned (.tuple #[.slice none 0 0, .int .i64 4]) ∧ Below w.heap.size w w')
theorem PaQ.yes {w w' : World} {s : List UInt8} {e : Ending} (l : List Up) (v' : Value) (h : parL s = some l) (he : e = .returned (.tuple #[v', .int .i64 0])) (h1 : RA w' w.heap.size v' l) (h2 : Below w.heap.size w w') : PaQ w s e w' := .inl ⟨l, v', h, he, h1, h2⟩
theorem PaQ.no {w w' : World} {s : List UInt8} {e : Ending} (h : parL s = none) (he : e = .returned (.tuple #[.slice none 0 0, .int .i64 4])) (h2 : Below w.heap.size w w') : PaQ w s e w' := .inr ⟨h, he, h2⟩
theorem info_up : (Try.prog.info? 33).map (fun i => (i.zero, i.size, i.bytes)) = some (some (.agg #[.int .u8 0, .string ⟨#[]⟩, .string ⟨#[]⟩, .int .u64 0]), 4, 48) := by kernel_rfl
theorem enc_one (u : Up) : ∀ x ∈ encU u, x.oneCell' = true := by
  intro x hx
  simp only [encU, List.mem_cons, List.mem_nil_iff, or_false] at hx
  rcases hx with rfl | rfl | rfl | rfl <;> rfl
theorem has_news {w : World} {b : Nat} {t : TypeId} {cs : List Value} (h : Has w b t cs) : ∀ j u, cs[j]? = some u → w.cell? ((⟨b, 0, none⟩ : Addr).add j) = some u := fun j u hu => by rw [Addr.add_lit, Nat.zero_add, h.cell]; exact hu
set_option maxRecDepth 100000 in
set_option maxHeartbeats 4000000 in
theorem Parse_any (s : List UInt8) (w : World) (hs : s.length ≤ 100000) : Calls Try.prog 16 #[.string (Lend.strOf s)] w (PaQ w s) := by
  obtain ⟨i0, hi, hz0, hz1, hz2⟩ := info_parts info_up
  go_enter Try.func16, Try.ntmps16
  go_wp2_with fail
  go_loopw [0, 4] (fun sv ov wr => ∃ (r : List UInt8) (m : List Up) (v : Value), v = ov ∧ sv = .string (Lend.strOf r) ∧ RA wr w.heap.size v m ∧ parL s = (parL r).map (m ++ ·) ∧ m.length + r.length ≤ s.length ∧ Below w.heap.size w wr) (fun sv _ _ => lenOf sv)
  case atStart => exact ⟨s, [], _, rfl, rfl, World.ownsRow_nil _ _ _ _, by cases parL s <;> rfl, by simp, Below.refl _ _⟩
  case round =>
    obtain ⟨r, m, v, rfl, rfl, hrow, hpl, hln, hb⟩ := hrel
    cases r with
    | nil =>
      have HP := Lib.hid (show parL s = some m by rw [hpl, parL_nil]; simp)
      have HR := Lib.hid hrow
      have HB := Lib.hid hb
      clear hrow hpl hln hb
      rw [strOf0]
      go_wp2_with fail
      go_ret2
      exact PaQ.yes m _ HP.out rfl HR.out HB.out
    | cons b r =>
      have ha0 := str_ne (l := b :: r) (by simp)
      have ha1 := str_ne' (l := b :: r) (by simp)
      have HROW := Lib.hid hrow
      have HPL := Lib.hid hpl
      have HLN := Lib.hid hln
      have HB := Lib.hid hb
      have HPA := Lib.hid (parse_any (b :: r) wr (by omega) (by simp))
      have HSZ := Lib.hid (ssize (b :: r))
      obtain ⟨T, hT⟩ : ∃ T, T = Lend.strOf (b :: r) := ⟨_, rfl⟩
      rw [← hT] at ha0 ha1 HPA HSZ ⊢
      clear hrow hpl hln hb hT
      go_wp2_with fail
      refine HPA.out.mono ?_
      rintro e w1 (⟨u, r', hpu, rfl, hb1⟩ | ⟨hpu, rfl, hb1⟩)
      · have HPU := Lib.hid hpu
        have HB1 := Lib.hid (below_on HB.out hb1)
        have HR1 := Lib.hid (own_bel HROW.out hb1)
        have HNW := Lib.hid (show ∀ j x, (encU u)[j]? = some x → ((w1.alloc (.cells #[.int .u8 u.kind, .string (Lend.strOf u.key), .string (Lend.strOf u.val), .int .u64 u.delta] 33)).alloc (.cells #[.int .u8 u.kind, .string (Lend.strOf u.key), .string (Lend.strOf u.val), .int .u64 u.delta] 33)).cell? ((⟨w1.heap.size + 1, 0, none⟩ : Addr).add j) = some x from by
          have h := Has.new (w1.alloc (.cells #[.int .u8 u.kind, .string (Lend.strOf u.key), .string (Lend.strOf u.val), .int .u64 u.delta] 33)) (encU u) 33
          rw [World.size_alloc] at h
          exact has_news h)
        have HB2 := Lib.hid (below_nw (below_nw HB1.out (.cells #[.int .u8 u.kind, .string (Lend.strOf u.key), .string (Lend.strOf u.val), .int .u64 u.delta] 33)) (.cells #[.int .u8 u.kind, .string (Lend.strOf u.key), .string (Lend.strOf u.val), .int .u64 u.delta] 33))
        clear hpu hb1
        go_wp2_with (at_builtin; refine wpList_append_own _ rfl _ _ 23 rfl w.heap.size 33 i0 _ 4 48 Try.underlying23 hi hz0 hz1 hz2 rfl (by decide) _ m.length (flatU m) rfl ((HR1.out.alloc _).alloc _) ⟨w1.heap.size + 1, 0, none⟩ 1 1 (encU u) rfl rfl HNW.out (enc_one u) ?c1 ?c2 ?c3 ?_)
        case c1 => unfold maxLen; have := HLN.out; rw [List.length_cons] at this; omega
        case c2 => have := HLN.out; rw [List.length_cons] at this; omega
        case c3 => exact HB2.out.size
        intro v' w4 hown4 hgr _
        have HB4 := Lib.hid (HB2.out.grown hgr HB2.out.size (fun q hq => (HROW.out.lt q hq).1))
        have HOW4 := Lib.hid (show RA w4 w.heap.size v' (m ++ [u]) by unfold RA; rw [flatU_snoc, List.length_append]; exact hown4)
        have HPL2 := Lib.hid (show parL s = (parL r').map ((m ++ [u]) ++ ·) by
          rw [HPL.out, parL_some HPU.out]
          cases parL r' <;> simp)
        have HLN2 := Lib.hid (show (m ++ [u]).length + r'.length ≤ s.length ∧ r'.length < (b :: r).length by
          have h1 := (par1_some HPU.out).1
          have h2 := HLN.out
          rw [List.length_append]
          rw [List.length_cons] at h1 h2
          simp only [List.length_cons, List.length_nil]
          omega)
        clear hown4 hgr
        go_wp2_with fail
        go_roundw
        case rel => exact ⟨r', m ++ [u], _, rfl, rfl, HOW4.out, HPL2.out, HLN2.out.1, HB4.out⟩
        case measure => simp only [lenOf]; rw [HSZ.out, ssize]; exact HLN2.out.2
      · have HN := Lib.hid (show parL s = none by rw [HPL.out, parL_none (by simp) hpu]; rfl)
        have HB1 := Lib.hid (below_on HB.out hb1)
        clear hpu hb1
        go_wp2_with fail
        go_ret2
        exact PaQ.no HN.out rfl (below_nw HB1.out _)
end Go.Proofs.Ytomhalcoomdadaa.Rec
