/- Layer 15 (buf): the document's With. -/
import Derived.Test.YtfmbjepjmjcgeaaBufE
import Derived.Test.YtfmbjepjmjcgeaaUno
import Derived.Test.YtfmbjepjmjcgeaaMsgS
namespace Go.Proofs.Ytfmbjepjmjcgeaa.Buf
open Go Go.RowKit Go.Proofs.Ytfmbjepjmjcgeaa Go.Proofs.Ytfmbjepjmjcgeaa.Lend Go.Proofs.Ytfmbjepjmjcgeaa.Rec Go.Proofs.Ytfmbjepjmjcgeaa.Msg
set_option linter.unusedVariables false

theorem isU_ru : IsU 35 := by unfold IsU; kernel_rfl
/-- append(v, x), x an update -/
theorem app_one {T S : TypeId} (hS : Try.prog.underlying S = some (.slice T)) (hI : IsU T) (ty : TypeId) {w : World} {B : Nat} {v : Value} {la : List Up} (x : Up) (ha : RO T w B v la) (hB : B ≤ w.heap.size) (hn : la.length ≤ 1000000) :
    ∃ v' w', (Builtin.append_ #[S, S] ty #[v, .slice (some ⟨w.heap.size, 0, none⟩) 1 1]).run Try.prog (w.alloc (.cells #[.int .u8 x.kind, .string (Lend.strOf x.key), .string (Lend.strOf x.val), .int .u64 x.delta] T)) = .ok v' w' ∧ RO T w' B v' (la ++ [x]) ∧
      (∀ {B0 : Nat} {w0 : World}, B0 ≤ B → Below B0 w0 w → Below B0 w0 w') ∧
      (∀ {B2 : Nat} {T2 : TypeId} {v2 : Value} {l2 : List Up}, RO T2 w B2 v2 l2 → (∀ k, v.ownBlock = some k → v2.ownBlock ≠ some k) → RO T2 w' B2 v2 l2 ∧ ∀ k, v'.ownBlock = some k → v2.ownBlock ≠ some k) := by
  have hb := below_new w (.cells #[.int .u8 x.kind, .string (Lend.strOf x.key), .string (Lend.strOf x.val), .int .u64 x.delta] T)
  have hx : UR (w.alloc (.cells #[.int .u8 x.kind, .string (Lend.strOf x.key), .string (Lend.strOf x.val), .int .u64 x.delta] T)) (.slice (some ⟨w.heap.size, 0, none⟩) 1 1) [x] := by
    refine ⟨_, 1, rfl, fun _ => ⟨w.heap.size, 0, rfl, fun i hi j hj => ?_⟩⟩
    have : i = 0 := by simp at hi; exact hi
    subst this
    have hh := Has.new w (encU x) T
    rw [show 0 + 0 * 4 + j = j by omega]
    exact hh.cell j
  have ha2 : RO T (w.alloc (.cells #[.int .u8 x.kind, .string (Lend.strOf x.key), .string (Lend.strOf x.val), .int .u64 x.delta] T)) B v la := own_bel ha hb
  obtain ⟨v', w', hr, ho, hg, hp⟩ := app_own hS hI ty ha2 hx (by simp; omega) (by simp; omega)
  refine ⟨v', w', hr, ho, fun h0 hb0 => ?_, fun {B2 T2 v2 l2} h2 hne => ?_⟩
  · exact ((hb0.alloc (Nat.le_trans h0 hB) _)).grown hg (by simp; omega) (fun k hk => Nat.le_trans h0 (ha.lt k hk).1)
  · have h3 := own_bel h2 hb
    refine ⟨h3.kept hg ?_, fun k hk hk2 => ?_⟩
    · cases hv : v2.ownBlock with
      | none => exact .inl rfl
      | some k => exact .inr fun e => hne k e.symm hv
    · rcases hp k hk with h | ⟨h, _⟩
      · exact hne k h hk2
      · have := (h2.lt k hk2).2
        simp at h
        omega
/-- how far the document's With has come -/
def Ws (l : List Up) (u : Up) (k : Nat) (d : Bool) (o : List Up) : Prop := if d = true then plK l u.key < k ∧ o ++ l.drop k = withU l u else k ≤ plK l u.key ∧ o = l.take k
theorem ws_len {l : List Up} {u : Up} {k : Nat} {d : Bool} {o : List Up} (h : Ws l u k d o) : o.length ≤ l.length + 1 := by
  unfold Ws at h
  split at h
  · have := congrArg List.length h.2
    have h2 := with_len l u
    rw [List.length_append] at this
    omega
  · rw [h.2, List.length_take]; omega
theorem ws_join {l : List Up} {u : Up} {k : Nat} {d : Bool} {o : List Up} (hs : Srt l) (hk : k < l.length) (h : Ws l u k d o) (he : l[k].key = u.key) : d = false ∧ Ws l u (k + 1) true (o ++ [joU l[k] u]) := by
  obtain ⟨h1, h2⟩ := plK_self hs k hk
  rw [he] at h1 h2
  unfold Ws at h ⊢
  cases d with
  | true => rw [if_pos rfl] at h; omega
  | false =>
    rw [if_neg (by simp)] at h
    refine ⟨rfl, ?_⟩
    rw [if_pos rfl]
    refine ⟨by omega, ?_⟩
    rw [with_yes hs h2, h.2]
    subst h1
    simp
theorem ws_here {l : List Up} {u : Up} {k : Nat} {o : List Up} (hs : Srt l) (hk : k < l.length) (h : Ws l u k false o) (he : l[k].key ≠ u.key) (hg : kLt l[k].key u.key = false) : Ws l u (k + 1) true ((o ++ [u]) ++ [l[k]]) := by
  unfold Ws at h ⊢
  rw [if_neg (by simp)] at h
  rw [if_pos rfl]
  have hp := plK_get (k := u.key) hs k hk
  rw [hg] at hp
  have hp : ¬ k < plK l u.key := by simpa using hp.symm
  have e : plK l u.key = k := by omega
  have ht : thK l u.key = false := by
    cases ht : thK l u.key with
    | false => rfl
    | true =>
      obtain ⟨h3, h4⟩ := thK_yes ht
      simp only [e] at h4
      exact absurd h4 he
  refine ⟨by omega, ?_⟩
  rw [with_no hs ht, e, h.2]
  rw [List.append_assoc, List.append_assoc]
  congr 1
  rw [List.drop_eq_getElem_cons hk]; rfl
theorem ws_on {l : List Up} {u : Up} {k : Nat} {o : List Up} (hs : Srt l) (hk : k < l.length) (h : Ws l u k false o) (hg : kLt l[k].key u.key = true) : Ws l u (k + 1) false (o ++ [l[k]]) := by
  unfold Ws at h ⊢
  rw [if_neg (by simp)] at h ⊢
  have hp := plK_get (k := u.key) hs k hk
  rw [hg] at hp
  have hp : k < plK l u.key := by simpa using hp.symm
  exact ⟨by omega, by rw [h.2, List.take_succ_eq_append_getElem hk]⟩
theorem ws_past {l : List Up} {u : Up} {k : Nat} {o : List Up} (hk : k < l.length) (h : Ws l u k true o) : Ws l u (k + 1) true (o ++ [l[k]]) := by
  unfold Ws at h ⊢
  rw [if_pos rfl] at h ⊢
  refine ⟨by omega, ?_⟩
  rw [← h.2, List.append_assoc]
  congr 1
  rw [List.drop_eq_getElem_cons hk]; rfl
theorem ws_end {l : List Up} {u : Up} {d : Bool} {o : List Up} (hs : Srt l) (h : Ws l u l.length d o) : withU l u = if d = true then o else o ++ [u] := by
  unfold Ws at h
  cases d with
  | true => rw [if_pos rfl] at h; rw [← h.2]; simp
  | false =>
    rw [if_neg (by simp)] at h
    have hp := plK_le l u.key
    have e : plK l u.key = l.length := by omega
    have ht : thK l u.key = false := by
      unfold thK
      rw [e, List.getElem?_eq_none (Nat.le_refl _)]
    rw [with_no hs ht, e, h.2]
    simp
end Go.Proofs.Ytfmbjepjmjcgeaa.Buf
/- Layer 15 (buf): the document's With, walked. -/
namespace Go.Proofs.Ytfmbjepjmjcgeaa.Buf
open Go Go.RowKit Go.Proofs.Ytfmbjepjmjcgeaa Go.Proofs.Ytfmbjepjmjcgeaa.Lend Go.Proofs.Ytfmbjepjmjcgeaa.Rec Go.Proofs.Ytfmbjepjmjcgeaa.Msg
set_option linter.unusedVariables false

theorem kst {w w' : World} {B : Nat} {p : Addr} {x : Value} (h : w.cell? p = some x) (hb : Below B w w') (hB : w.heap.size ≤ B) : w'.cell? p = some x := by rw [hb.cell (Nat.lt_of_lt_of_le (World.block_lt_of_cell? _ _ h) hB)]; exact h
end Go.Proofs.Ytfmbjepjmjcgeaa.Buf
/- Layer 15 (buf): the document's Within, Cut. -/
namespace Go.Proofs.Ytfmbjepjmjcgeaa.Buf
open Go Go.RowKit Go.Proofs.Ytfmbjepjmjcgeaa Go.Proofs.Ytfmbjepjmjcgeaa.Lend Go.Proofs.Ytfmbjepjmjcgeaa.Rec Go.Proofs.Ytfmbjepjmjcgeaa.Msg
set_option linter.unusedVariables false

theorem cutI_snoc (low high : List UInt8) (o : List Up) (x : Up) : cutI low high (o ++ [x]) = if inB low high x.key = true then cutI low high o ++ [x] else cutI low high o := by
  unfold cutI
  rw [List.filter_append]
  by_cases h : inB low high x.key = true
  · rw [if_pos h, List.filter_cons_of_pos (by exact h)]; rfl
  · rw [if_neg h, List.filter_cons_of_neg (by exact h), List.filter_nil, List.append_nil]
theorem cutO_snoc (low high : List UInt8) (o : List Up) (x : Up) : cutO low high (o ++ [x]) = if inB low high x.key = true then cutO low high o else cutO low high o ++ [x] := by
  unfold cutO
  rw [List.filter_append]
  by_cases h : inB low high x.key = true
  · rw [if_pos h, List.filter_cons_of_neg (by simp [h]), List.filter_nil, List.append_nil]
  · rw [if_neg h, List.filter_cons_of_pos (by simpa using h)]; rfl
/-- what the document's Cut answers -/
def CuQ (w : World) (l : List Up) (low high : List UInt8) (e : Ending) (w' : World) : Prop :=
  ∃ v1 v2, e = .returned (.tuple #[v1, v2]) ∧ RU w' w.heap.size v1 (cutI low high l) ∧ RU w' w.heap.size v2 (cutO low high l) ∧ Below w.heap.size w w'
def Apt (v1 v2 : Value) : Prop := ∀ k, v1.ownBlock = some k → v2.ownBlock ≠ some k
theorem Apt.symm {v1 v2 : Value} (h : Apt v1 v2) : Apt v2 v1 := fun k h2 h1 => h k h1 h2
end Go.Proofs.Ytfmbjepjmjcgeaa.Buf
