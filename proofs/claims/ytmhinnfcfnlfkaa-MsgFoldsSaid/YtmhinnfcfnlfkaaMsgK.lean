/- Layer 14 (msg): the law's own updates, as they came in. -/
import Derived.Test.YtmhinnfcfnlfkaaDuo
namespace Go.Proofs.Ytmhinnfcfnlfkaa.Msg
open Go Go.RowKit Go.Proofs.Ytmhinnfcfnlfkaa Go.Proofs.Ytmhinnfcfnlfkaa.Rec
set_option linter.unusedVariables false

/-- a slice that reads as the law's updates -/
structure LR (w : World) (ao : Option Addr) (l : List Up) : Prop where
  at_ : 0 < l.length → ∃ g off, ao = some ⟨g, off, none⟩ ∧ ∀ i (hi : i < l.length), w.cell? ⟨g, off + i * 3, none⟩ = some (.int .u8 l[i].kind) ∧ w.cell? ⟨g, off + i * 3 + 1, none⟩ = some (.string (Lend.strOf l[i].val)) ∧ w.cell? ⟨g, off + i * 3 + 2, none⟩ = some (.int .u64 l[i].delta)
  wf : ∀ u ∈ l, WfU u ∧ u.val.length ≤ 9223372036854775807
theorem lr_of {w : World} {a : Option Addr} {len : Nat} (h : 0 < len → ∃ b off, a = some ⟨b, off, none⟩ ∧ ∀ i, i < len → ∃ (x0 : Int) (x1 : ByteArray) (x2 : Int), w.cell? ⟨b, off + (i * 3 + 0), none⟩ = some (.int .u8 x0) ∧ (Lit.int .u8 x0).wf = true ∧ w.cell? ⟨b, off + (i * 3 + 1), none⟩ = some (.string x1) ∧ x1.size ≤ maxLen ∧ w.cell? ⟨b, off + (i * 3 + 2), none⟩ = some (.int .u64 x2) ∧ (Lit.int .u64 x2).wf = true) :
    ∃ l, len = l.length ∧ LR w a l := by
  by_cases h0 : 0 < len
  · obtain ⟨b, off, rfl, hx⟩ := h h0
    obtain ⟨l, hl, hp⟩ := list_of len (fun i (u : Up) => (w.cell? ⟨b, off + i * 3, none⟩ = some (.int .u8 u.kind) ∧ w.cell? ⟨b, off + i * 3 + 1, none⟩ = some (.string (Lend.strOf u.val)) ∧ w.cell? ⟨b, off + i * 3 + 2, none⟩ = some (.int .u64 u.delta)) ∧ WfU u ∧ u.val.length ≤ 9223372036854775807) (fun i hi => by
      obtain ⟨x0, x1, x2, c0, h0, c1, h1, c2, h2⟩ := hx i hi
      unfold maxLen at h1
      have e : Lend.strOf x1.data.toList = x1 := (Lend.strOf_ext rfl).symm
      refine ⟨⟨x0, [], x1.data.toList, x2⟩, ⟨c0, ?_, c2⟩, ⟨(u8_bd h0).1, (u8_bd h0).2, (u64_bd h2).1, (u64_bd h2).2⟩, by simpa using h1⟩
      show w.cell? _ = some (.string (Lend.strOf x1.data.toList))
      rw [e]; exact c1)
    subst hl
    refine ⟨l, rfl, ⟨fun _ => ⟨b, off, rfl, fun i hi => (hp i hi).1⟩, fun u hu => ?_⟩⟩
    obtain ⟨i, hi, rfl⟩ := List.mem_iff_getElem.1 hu
    exact (hp i hi).2
  · have : len = 0 := by omega
    subst this
    exact ⟨[], rfl, ⟨fun h => absurd h (by decide), fun u hu => by cases hu⟩⟩
/-- what the law makes of them -/
def ofs (l : List Up) : List Up := l.map ofM
theorem ofs_len (l : List Up) : (ofs l).length = l.length := by simp [ofs]
theorem ofs_snoc {l : List Up} {k : Nat} (h : k < l.length) : ofs (l.take (k + 1)) = ofs (l.take k) ++ [ofM l[k]] := by
  unfold ofs
  rw [List.take_succ_eq_append_getElem h, List.map_append]; rfl
theorem ofs_wf {l : List Up} (h : ∀ u ∈ l, WfU u ∧ u.val.length ≤ 9223372036854775807) : ∀ u ∈ ofs l, WfU u ∧ u.val.length ≤ 40 := by
  intro u hu
  obtain ⟨x, hx, rfl⟩ := List.mem_map.1 hu
  exact ⟨(h x hx).1, by show (x.val.take 40).length ≤ 40; simp; omega⟩
def tms (l : List Up) : List Up := l.map fun u => ofM (tmM u)
theorem tms_len (l : List Up) : (tms l).length = l.length := by simp [tms]
theorem tms_snoc {l : List Up} {k : Nat} (h : k < l.length) : tms (l.take (k + 1)) = tms (l.take k) ++ [ofM (tmM l[k])] := by
  unfold tms
  rw [List.take_succ_eq_append_getElem h, List.map_append]; rfl
theorem tms_tm {l : List Up} (h : ∀ u ∈ l, WfU u ∧ u.val.length ≤ 9223372036854775807) : ∀ u ∈ tms l, Tm u := by
  intro u hu
  obtain ⟨x, hx, rfl⟩ := List.mem_map.1 hu
  exact tmM_tm (h x hx).1
theorem tmM_len {u : Up} (h : u.val.length ≤ 9223372036854775807) : (tmM u).val.length ≤ 9223372036854775807 := by
  show (if 1 + u.kind % 3 = 1 then u.val else []).length ≤ _
  split
  · exact h
  · simp
theorem takeN (l : List UInt8) (n : Nat) : (Lend.strOf l).extract 0 (min (Lend.strOf l).size n) = Lend.strOf (l.take n) := by
  apply Lend.strOf_ext
  rw [Lib.extract_data, Lend.strOf_data, List.drop_zero, Nat.sub_zero, ssize]
  rw [List.take_eq_take_iff]; omega
end Go.Proofs.Ytmhinnfcfnlfkaa.Msg
