/- Layer 16 (leaf): for the law LeafParts: as many entries as one likes; how long parts are. -/
import Derived.Test.YtfmbjepjmjcgeaaLeX
namespace Go.Proofs.Ytfmbjepjmjcgeaa.Leaf
open Go Go.RowKit Go.Proofs.Ytfmbjepjmjcgeaa Go.Proofs.Ytfmbjepjmjcgeaa.Lend Go.Proofs.Ytfmbjepjmjcgeaa.Rec Go.Proofs.Ytfmbjepjmjcgeaa.Msg Go.Proofs.Ytfmbjepjmjcgeaa.Buf
set_option linter.unusedVariables false

/-- so many entries, of one byte each -/
def kL (k : Nat) : List Up := (List.range k).map fun i => enU [UInt8.ofNat (i + 1)] [118]
theorem kL_len (k : Nat) : (kL k).length = k := by simp [kL]
theorem kL_succ (k : Nat) : kL (k + 1) = kL k ++ [enU [UInt8.ofNat (k + 1)] [118]] := by unfold kL; rw [List.range_succ, List.map_append]; rfl
theorem kb_lt {a b : Nat} (h : a < b) (hb : b ≤ 255) : kLt [UInt8.ofNat a] [UInt8.ofNat b] = true := by
  rw [kLt_cons]
  have : UInt8.ofNat a < UInt8.ofNat b := by
    rw [UInt8.lt_iff_toNat_lt, UInt8.toNat_ofNat', UInt8.toNat_ofNat']
    omega
  simp [this]
theorem kL_srt {k : Nat} (hk : k ≤ 255) : Srt (kL k) := by
  unfold Srt kL
  rw [List.pairwise_map]
  refine List.Pairwise.imp_of_mem (fun {a b} ha hb h => ?_) List.pairwise_lt_range
  have h2 := List.mem_range.1 hb
  exact kb_lt (by omega) (by omega)
theorem kL_ge {k : Nat} (hk : k ≤ 255) : Ge (kL k) k := ⟨kL_srt hk, fun x hx => by
  obtain ⟨i, _, rfl⟩ := List.mem_map.1 hx
  exact ⟨by simp [enU], by simp [enU], by simp [enU]⟩, Nat.le_of_eq (kL_len k)⟩
theorem kL_on {k : Nat} (hk : k < 255) : onL (kL k) [⟨1, [UInt8.ofNat (k + 1)], [118], 0⟩] = kL (k + 1) := by
  have hp : plK (kL k) [UInt8.ofNat (k + 1)] = (kL k).length := by
    unfold plK
    rw [List.countP_eq_length]
    intro x hx
    obtain ⟨i, hi, rfl⟩ := List.mem_map.1 hx
    have := List.mem_range.1 hi
    exact kb_lt (by omega) (by omega)
  have ht : thK (kL k) [UInt8.ofNat (k + 1)] = false := by
    unfold thK
    rw [hp, List.getElem?_eq_none (Nat.le_refl _)]
  have hs : svK (kL k) [UInt8.ofNat (k + 1)] = ([], false) := svK_no ht
  have ho : onU (svK (kL k) [UInt8.ofNat (k + 1)]) ⟨1, [UInt8.ofNat (k + 1)], [118], 0⟩ = ([118], true) := on_put _ rfl
  rw [onL_one, upE_yes (by rfl), putE_ins (u := ⟨1, [UInt8.ofNat (k + 1)], [118], 0⟩) ht (by rw [ho])]
  show List.take (plK (kL k) [UInt8.ofNat (k + 1)]) (kL k) ++ enU [UInt8.ofNat (k + 1)] (onU (svK (kL k) [UInt8.ofNat (k + 1)]) ⟨1, [UInt8.ofNat (k + 1)], [118], 0⟩).1 :: List.drop (plK (kL k) [UInt8.ofNat (k + 1)]) (kL k) = kL (k + 1)
  rw [hp, List.take_length, List.drop_length, ho, kL_succ]
theorem cnt_all (n m : Nat) (hm : 0 < m) : n ≤ cntP n m * m := by
  unfold cntP
  split
  · omega
  · have h1 := Nat.div_add_mod (n - 1) m
    have h2 := Nat.mod_lt (n - 1) hm
    rw [Nat.succ_mul, Nat.mul_comm]
    omega
theorem ln_le {n m k : Nat} (hm : 0 < m) : lnP n (cntP n m) k ≤ m := by
  have h0 := cnt_all n m hm
  have hc := cntP_pos n m
  obtain ⟨c, hce⟩ : ∃ c, c = cntP n m := ⟨_, rfl⟩
  rw [← hce] at h0 hc ⊢
  have h1 := Nat.div_add_mod n c
  unfold lnP t1
  by_cases hr : k < n % c
  · rw [if_pos (by simpa using hr)]
    have : c * (n / c) < c * m := by omega
    have := Nat.lt_of_mul_lt_mul_left this
    omega
  · rw [if_neg (by simpa using hr)]
    have : c * (n / c) ≤ c * m := by omega
    have := Nat.le_of_mul_le_mul_left this hc
    omega
theorem ln_down (n c k : Nat) : lnP n c (k + 1) ≤ lnP n c k ∧ lnP n c 0 ≤ lnP n c k + 1 := by
  unfold lnP t1
  constructor
  · split <;> split <;> simp_all <;> omega
  · split <;> split <;> simp_all
theorem ln_first (n c k : Nat) : lnP n c k ≤ lnP n c 0 := by
  unfold lnP t1
  split <;> split <;> simp_all <;> omega
theorem cnt_div (n m : Nat) (hn : n ≤ 1000000) (hm : 0 < m) : ∃ q : Int, ((n : Int) - 1).tdiv (m : Int) = q ∧ -1 ≤ q ∧ q ≤ n ∧ max 1 (q + 1) = (cntP n m : Int) := by
  by_cases h0 : n = 0
  · subst h0
    have h1 := tdiv_zero hm
    refine ⟨_, rfl, ?_⟩
    have e : cntP 0 m = 1 := rfl
    rw [e]
    have h1 : (((0 : Nat) : Int) - 1).tdiv (m : Int) = if m = 1 then -1 else 0 := h1
    rw [h1]
    split <;> omega
  · have h1 := tdiv_pred (n := n) (by omega) hm
    have e : cntP n m = (n - 1) / m + 1 := if_neg h0
    have hle := Nat.div_le_self (n - 1) m
    rw [e]
    obtain ⟨q, hq⟩ : ∃ q, q = (n - 1) / m := ⟨_, rfl⟩
    rw [← hq] at h1 hle ⊢
    refine ⟨_, h1, by omega, by omega, by omega⟩
/-- the parts, each in its place -/
def Pq (w : World) (g : Nat) (L : List Up) (c : Nat) : Prop := ∀ i, i < c → ∃ a cp, w.cell? ⟨g, i, none⟩ = some (.slice a (lnP L.length c i) cp) ∧ ER w (.slice a (lnP L.length c i) cp) (prtP L c i)
theorem Pq.on {w w' : World} {g : Nat} {L : List Up} {c : Nat} (h : Pq w g L c) (hb : Below w.heap.size w w') : Pq w' g L c := fun i hi => by
  obtain ⟨a, cp, h1, h2⟩ := h i hi
  exact ⟨a, cp, keep1 h1 hb, h2.below hb⟩
theorem pr_at {w : World} {B : Nat} {v : Value} {L : List Up} {m : Nat} (h : PR w B v (partsL L m)) : ∃ g pc, v = .slice (some ⟨g, 0, none⟩) (cntP L.length m) pc ∧ cntP L.length m ≤ pc ∧ Pq w g L (cntP L.length m) := by
  obtain ⟨vs, h1, h2⟩ := h.ex
  have hl : (partsL L m).length = cntP L.length m := by simp [partsL]
  rw [hl] at h1
  obtain ⟨g, pc, rfl, hpc, _⟩ := own_some h1 (cntP_pos _ _)
  refine ⟨g, pc, rfl, hpc, fun i hi => ?_⟩
  obtain ⟨x, e, hx⟩ := h2 i (by rw [hl]; exact hi)
  have hp : (partsL L m)[i]'(by rw [hl]; exact hi) = prtP L (cntP L.length m) i := by simp [partsL]
  rw [hp] at hx
  have hc := h1.cells rfl i x e
  rw [Addr.add_lit, Nat.zero_add] at hc
  obtain ⟨a, cp, rfl, _⟩ := own_shape hx
  have hln := prtP_len L (cntP L.length m) i hi
  rw [hln] at hc
  have := ER.of_own hx
  rw [hln] at this
  exact ⟨a, cp, hc, this⟩
/-- an element of a part -/
theorem prt_at {L : List Up} {c i j : Nat} (hi : i < c) (hj : j < lnP L.length c i) : ∃ (h : j < (prtP L c i).length) (h2 : stP L.length c i + j < L.length), (prtP L c i)[j] = L[stP L.length c i + j] := by
  have h1 := prtP_len L c i hi
  have h2 := stP_succ L.length c i
  have h3 := stP_le L.length c (i + 1) (by omega) (by omega)
  refine ⟨by omega, by omega, ?_⟩
  unfold prtP
  rw [List.getElem_take, List.getElem_drop]
end Go.Proofs.Ytfmbjepjmjcgeaa.Leaf
