/- Layer 3: a garbled byte, as plain data and in memory. -/
import Derived.Test.YtlnocdmechidfaaDevT
import Derived.Test.YtlnocdmechidfaaRefDevF
import Derived.Laws.OwnMore
namespace Go.Proofs.Ytlnocdmechidfaa.Dev
open Go Go.RowKit Go.Proofs.Ytlnocdmechidfaa
set_option linter.unusedVariables false

def gF (i a : Nat) (b : UInt8) (x : Nat × ByteArray) : Nat × ByteArray := if x.1 = i then (x.1, turnB x.2 a b) else x
def Dv.turnM (D : Dv) (i a : Nat) (b : UInt8) : Dv := match D.secs[i]? with | some s => { D with secs := D.secs.set i (turnB s.1 a b, s.2) } | none => D
def Dv.turnC (D : Dv) (i a : Nat) (b : UInt8) (k : Nat) : Dv := { D with cache := (D.cache.take k).map (gF i a b) ++ D.cache.drop k }
def Dv.garbleD (D : Dv) (i at' : Int) (b : UInt8) : Dv := if hasB D i = false ∨ at' < 0 then D else (D.turnM i.toNat (at'.toNat % D.size) b).turnC i.toNat (at'.toNat % D.size) b D.cache.length
theorem Dv.turnM_eq (D : Dv) (i a : Nat) (b : UInt8) (hi : i < D.n) : D.turnM i a b = { D with secs := D.secs.set i (turnB (D.secs[i]'hi).1 a b, (D.secs[i]'hi).2) } := by
  unfold Dv.turnM; rw [List.getElem?_eq_getElem hi]
theorem Dv.turnM_ok (D : Dv) (i a : Nat) (b : UInt8) (hi : i < D.n) (ok : D.Ok) : (D.turnM i a b).Ok := by
  rw [D.turnM_eq i a b hi]
  have hn : (D.secs.set i (turnB (D.secs[i]'hi).1 a b, (D.secs[i]'hi).2)).length = D.n := by rw [List.length_set]; rfl
  have hm := ok.media _ (List.getElem_mem hi)
  refine ⟨?_, ?_, ok.s128, ok.s1024, ?_, ok.text, ?_, ok.fuse, ok.lose, ok.stray⟩
  · show 8 ≤ List.length _; rw [hn]; exact ok.n8
  · show List.length _ ≤ 4096; rw [hn]; exact ok.n4096
  · intro x hx
    rcases List.mem_or_eq_of_mem_set hx with hx | hx
    · exact ok.media x hx
    · subst hx; simp only; rw [turnB_size, hm]
  · intro x hx; show x.1 < List.length _; rw [hn]; exact ok.sector x hx
theorem Dv.turnC_zero (D : Dv) (i a : Nat) (b : UInt8) : D.turnC i a b 0 = D := by unfold Dv.turnC; rw [List.take_zero, List.drop_zero]; rfl
theorem Dv.turnC_len (D : Dv) (i a : Nat) (b : UInt8) (k : Nat) (hk : k ≤ D.cache.length) : (D.turnC i a b k).cache.length = D.cache.length := by
  show ((D.cache.take k).map (gF i a b) ++ D.cache.drop k).length = _
  rw [List.length_append, List.length_map, List.length_take, List.length_drop]; omega
theorem Dv.turnC_get (D : Dv) (i a : Nat) (b : UInt8) (k : Nat) (hk : k ≤ D.cache.length) : (D.turnC i a b k).cache[k]? = D.cache[k]? := by
  show ((D.cache.take k).map (gF i a b) ++ D.cache.drop k)[k]? = _
  rw [List.getElem?_append_right (by rw [List.length_map, List.length_take]; omega), List.length_map, List.length_take, List.getElem?_drop, show k + (k - min k D.cache.length) = k by omega]
theorem Dv.turnC_next (D : Dv) (i a : Nat) (b : UInt8) (k : Nat) (x : Nat × ByteArray) (hx : D.cache[k]? = some x) : D.turnC i a b (k + 1) = { D.turnC i a b k with cache := (D.turnC i a b k).cache.set k (gF i a b x) } := by
  have hk : k < D.cache.length := by
    rcases Nat.lt_or_ge k D.cache.length with h | h
    · exact h
    · rw [List.getElem?_eq_none h] at hx; cases hx
  have hxe : D.cache[k] = x := by rw [List.getElem?_eq_getElem hk] at hx; exact Option.some.inj hx
  unfold Dv.turnC
  simp only
  rw [List.set_append_right _ _ (by rw [List.length_map, List.length_take]; omega), List.length_map, List.length_take, show k - min k D.cache.length = 0 by omega, take_snoc' _ _ hk, List.map_append, hxe, List.append_assoc, List.drop_eq_getElem_cons hk]
  rfl
theorem Dv.turnC_same (D : Dv) (i a : Nat) (b : UInt8) (k : Nat) (x : Nat × ByteArray) (hx : D.cache[k]? = some x) (hi : ¬ x.1 = i) : D.turnC i a b (k + 1) = D.turnC i a b k := by
  have hk : k < D.cache.length := by
    rcases Nat.lt_or_ge k D.cache.length with h | h
    · exact h
    · rw [List.getElem?_eq_none h] at hx; cases hx
  rw [D.turnC_next i a b k x hx]
  have e : (D.turnC i a b k).cache.set k (gF i a b x) = (D.turnC i a b k).cache := by
    apply List.ext_getElem?
    intro j
    by_cases e : k = j
    · subst e
      rw [List.getElem?_set_self (by rw [D.turnC_len i a b k (by omega)]; exact hk), D.turnC_get i a b k (by omega), hx]
      unfold gF; rw [if_neg hi]
    · rw [List.getElem?_set_ne e]
  rw [e]
theorem Dv.retext_ok (D : Dv) (k : Nat) (x : Nat × ByteArray) (hx : D.cache[k]? = some x) (t : ByteArray) (ht : t.size = D.size) (ok : D.Ok) : ({ D with cache := D.cache.set k (x.1, t) } : Dv).Ok := by
  refine ⟨ok.n8, ok.n4096, ok.s128, ok.s1024, ok.media, ?_, ?_, ok.fuse, ok.lose, ok.stray⟩
  · intro y hy
    rcases List.mem_or_eq_of_mem_set hy with hy | hy
    · exact ok.text y hy
    · subst hy; exact ht
  · intro y hy
    rcases List.mem_or_eq_of_mem_set hy with hy | hy
    · exact ok.sector y hy
    · subst hy; exact ok.sector x (List.mem_of_getElem? hx)
theorem flatW_retext (l : List (Nat × ByteArray)) (k : Nat) (x : Nat × ByteArray) (hx : l[k]? = some x) (t : ByteArray) : (flatW l).set (k * 2 + 1) (.string t) = flatW (l.set k (x.1, t)) := by
  have hk : k < l.length := by
    rcases Nat.lt_or_ge k l.length with h | h
    · exact h
    · rw [List.getElem?_eq_none h] at hx; cases hx
  unfold flatW
  apply flat2_ext
  · rw [List.length_set, List.length_set, flat2_len]
  · intro j hj
    rw [List.length_set] at hj
    rw [List.getElem?_set_ne (by omega), flat2_get0]
    by_cases e : k = j
    · subst e; rw [List.getElem?_set_self hk, hx]; rfl
    · rw [List.getElem?_set_ne e]
  · intro j hj
    rw [List.length_set] at hj
    by_cases e : k = j
    · subst e; rw [List.getElem?_set_self (by rw [flat2_len]; omega), List.getElem?_set_self hk]; rfl
    · rw [List.getElem?_set_ne (by omega), List.getElem?_set_ne e, flat2_get1]
section
variable {w : World} {p sb g cap n : Nat} {B : RB} {D : Dv}
theorem RefAt.retext (h : RefAt w p B (.slice (some ⟨g, 0, none⟩) n cap) D) (hn : n = D.cache.length) (k : Nat) (x : Nat × ByteArray) (hx : D.cache[k]? = some x) (t : ByteArray) (ht : t.size = D.size) :
    RefAt (w.setCell ⟨g, k * 2 + 1, none⟩ (.string t)) p B (.slice (some ⟨g, 0, none⟩) n cap) { D with cache := D.cache.set k (x.1, t) } := by
  have hlen : (D.cache.set k (x.1, t)).length = D.cache.length := List.length_set
  have hc := h.cache
  rw [← hn] at hc
  have hst := (hc.stored (k * 2 + 1) (.string t)).1
  rw [flatW_retext _ k x hx] at hst
  refine ⟨h.main.setOther (a := ⟨g, k * 2 + 1, none⟩) (fun e => h.cp (congrArg some e)) _, h.meds.setOther (a := ⟨g, k * 2 + 1, none⟩) (fun e => h.cm (congrArg some e)) _, h.bads.setOther (a := ⟨g, k * 2 + 1, none⟩) (fun e => h.cb (congrArg some e)) _, ?_, h.pm, h.pb, h.mb, h.cp, h.cm, h.cb, D.retext_ok k x hx t ht h.ok⟩
  show World.ownsRow _ _ _ _ _ (List.length _) _
  rw [hlen, ← hn]; exact hst
theorem DevAt.retext (h : DevAt w p sb (.slice (some ⟨g, 0, none⟩) n cap) D) (hn : n = D.cache.length) (k : Nat) (x : Nat × ByteArray) (hx : D.cache[k]? = some x) (t : ByteArray) (ht : t.size = D.size) :
    DevAt (w.setCell ⟨g, k * 2 + 1, none⟩ (.string t)) p sb (.slice (some ⟨g, 0, none⟩) n cap) { D with cache := D.cache.set k (x.1, t) } := by
  have hlen : (D.cache.set k (x.1, t)).length = D.cache.length := List.length_set
  have hc := h.cache
  rw [← hn] at hc
  have hst := (hc.stored (k * 2 + 1) (.string t)).1
  rw [flatW_retext _ k x hx] at hst
  refine ⟨h.main.setOther (a := ⟨g, k * 2 + 1, none⟩) (fun e => h.cp (congrArg some e)) _, h.secs.setOther (a := ⟨g, k * 2 + 1, none⟩) (fun e => h.cs (congrArg some e)) _, ?_, h.ps, h.cp, h.cs, D.retext_ok k x hx t ht h.ok⟩
  show World.ownsRow _ _ _ _ _ (List.length _) _
  rw [hlen, ← hn]; exact hst
theorem RefAt.ctfz (h : RefAt w p B (.slice (some ⟨g, 0, none⟩) n cap) D) (hn : n = D.cache.length) (k : Nat) : w.frozen? ⟨g, k, none⟩ = false := by
  have hc := h.cache
  rw [← hn] at hc
  exact hc.frozenAt k
theorem DevAt.ctfz (h : DevAt w p sb (.slice (some ⟨g, 0, none⟩) n cap) D) (hn : n = D.cache.length) (k : Nat) : w.frozen? ⟨g, k, none⟩ = false := by
  have hc := h.cache
  rw [← hn] at hc
  exact hc.frozenAt k
end
end Go.Proofs.Ytlnocdmechidfaa.Dev
