/- Layer 12 (rec): what Open tells of Payload's bytes; updates that were made tame. -/
import Derived.Test.YtomhalcoomdadaaRecK
namespace Go.Proofs.Ytomhalcoomdadaa.Rec
open Go Go.RowKit Go.Proofs.Ytomhalcoomdadaa Go.Proofs.Ytomhalcoomdadaa.Lend
set_option linter.unusedVariables false

theorem hd3_eq (s c : Int) (n : Nat) : hd3 s c n = encN s 8 ++ (encN c 4 ++ encN (n : Int) 2) := by simp [hd3, encL]
theorem errL_ok : ∀ {l : List Up}, (∀ u ∈ l, chkU u = 0) → errL l = 0
  | [], _ => rfl
  | u :: l, h => by
    show (if chkU u = 0 then errL l else chkU u) = 0
    rw [if_pos (h u (List.mem_cons_self ..))]
    exact errL_ok fun x hx => h x (List.mem_cons_of_mem _ hx)
theorem okL_of {l : List Up} (h : ∀ u ∈ l, chkU u = 0) (hw : ∀ u ∈ l, WfU u) : OkL l := fun u hu => ⟨h u hu, (hw u hu).2.2.1, (hw u hu).2.2.2⟩
theorem pyT_ok {s c : Int} {l : List Up} (h : ∀ u ∈ l, chkU u = 0) : pyT s c l = hd3 s c l.length ++ txL l := by unfold pyT; rw [if_pos (errL_ok h)]
theorem txT_ok {l : List Up} (h : ∀ u ∈ l, chkU u = 0) : txT l = txL l := by unfold txT; rw [if_pos (errL_ok h)]
theorem hd3_8 {s c : Int} {n : Nat} (hf : Wf3 s c n) (r : List UInt8) : (getL ((hd3 s c n ++ r).take 8) : Int) = s := by
  rw [hd3_eq, List.append_assoc, List.take_left' (encN_length s 8)]
  exact getL_encN s 8 hf.s0 hf.s1
theorem hd3_4 {s c : Int} {n : Nat} (hf : Wf3 s c n) (r : List UInt8) : (getL (((hd3 s c n ++ r).drop 8).take 4) : Int) = c := by
  rw [hd3_eq, List.append_assoc, List.drop_left' (encN_length s 8), List.append_assoc, List.take_left' (encN_length c 4)]
  exact getL_encN c 4 hf.c0 hf.c1
theorem hd3_2 {s c : Int} {n : Nat} (hf : Wf3 s c n) (r : List UInt8) : getL (((hd3 s c n ++ r).drop 12).take 2) = n := by
  have e : (hd3 s c n ++ r).drop 12 = encN (n : Int) 2 ++ r := by
    rw [show (12 : Nat) = 8 + 4 from rfl, ← List.drop_drop, hd3_eq, List.append_assoc, List.drop_left' (encN_length s 8), List.append_assoc, List.drop_left' (encN_length c 4)]
  rw [e, List.take_left' (encN_length _ 2)]
  have h := getL_encN (n : Int) 2 (by omega) (by have := hf.n1; show (n : Int) < 65536; omega)
  omega
/-- what Open tells of a record's bytes -/
theorem op_py {s c : Int} {l : List Up} (hf : Wf3 s c l.length) (h : ∀ u ∈ l, chkU u = 0) (hw : ∀ u ∈ l, WfU u) : opR (pyT s c l) = some (s, c, l) := by
  rw [pyT_ok h]
  unfold opR
  rw [if_neg (by rw [List.length_append, hd3_length]; omega), List.drop_left' (hd3_length ..), parL_tx (okL_of h hw)]
  simp only
  rw [if_pos (hd3_2 hf _).symm, hd3_8 hf, hd3_4 hf]
/-- of a beginning there is none -/
theorem op_cut {s c : Int} {l : List Up} (hf : Wf3 s c l.length) (h : ∀ u ∈ l, chkU u = 0) (hw : ∀ u ∈ l, WfU u) {k : Nat} (hk : k < (pyT s c l).length) : opR ((pyT s c l).take k) = none := by
  rw [pyT_ok h] at hk ⊢
  rw [List.length_append, hd3_length] at hk
  unfold opR
  by_cases h14 : k < 14
  · rw [if_pos (by rw [List.length_take]; omega)]
  · have e : (hd3 s c l.length ++ txL l).take k = hd3 s c l.length ++ (txL l).take (k - 14) := by
      rw [List.take_append, hd3_length, List.take_of_length_le (by rw [hd3_length]; omega)]
    rw [e, if_neg (by rw [List.length_append, hd3_length]; omega), List.drop_left' (hd3_length ..)]
    cases e2 : parL ((txL l).take (k - 14)) with
    | none => rfl
    | some m =>
      have := parL_cut (okL_of h hw) (c := k - 14) (by omega) e2
      simp only
      rw [if_neg (by rw [hd3_2 hf]; omega)]
/-- what the laws make of the first updates -/
def tmL (K : Nat) (l : List Up) : List Up := (l.take K).map tmU
theorem tmL_length (K : Nat) (l : List Up) : (tmL K l).length = min K l.length := by simp [tmL]
theorem tmL_ok {K : Nat} {l : List Up} (h : ∀ u ∈ l, WfU u) : (∀ u ∈ tmL K l, chkU u = 0) ∧ (∀ u ∈ tmL K l, WfU u) := by
  refine ⟨fun u hu => ?_, fun u hu => ?_⟩
  all_goals
    obtain ⟨x, hx, rfl⟩ := List.mem_map.1 hu
    have := tmU_ok (h x (List.mem_of_mem_take hx))
  · exact this.1
  · exact this.2
theorem tmL_snoc {K k : Nat} {l : List Up} (hk : k < l.length) (h : k < K) : tmL K (l.take (k + 1)) = tmL K (l.take k) ++ [tmU l[k]] := by
  unfold tmL
  rw [List.take_take, List.take_take, Nat.min_eq_right (by omega), Nat.min_eq_right (by omega), List.take_succ_eq_append_getElem hk, List.map_append]
  rfl
theorem ct_ok {u : Up} (h : chkU u = 0) : ctU u = u := by
  obtain ⟨p1, p2, p3, _⟩ := chkU_ok h
  unfold ctU
  rw [List.take_of_length_le (by omega), List.take_of_length_le (by omega)]
theorem ofL_ok {l : List Up} (h : ∀ u ∈ l, chkU u = 0) (hl : l.length ≤ 12) : ofL l = l := by
  unfold ofL
  rw [List.take_of_length_le hl]
  have : ∀ (l : List Up), (∀ u ∈ l, chkU u = 0) → l.map ctU = l := fun l => by
    induction l with
    | nil => intro _; rfl
    | cons u l ih => intro h; rw [List.map_cons, ct_ok (h u (List.mem_cons_self ..)), ih fun x hx => h x (List.mem_cons_of_mem _ hx)]
  exact this l h
theorem szU_ok {l : List Up} (h : ∀ u ∈ l, chkU u = 0) : ∀ u ∈ l, SzU u := fun u hu => by
  obtain ⟨p1, p2, p3, _⟩ := chkU_ok (h u hu)
  exact ⟨by omega, by omega⟩
/-- a row of the law's updates -/
abbrev RT (w : World) (base : Nat) (v : Value) (l : List Up) : Prop := w.ownsRow base 43 4 v l.length (flatU l)
theorem info_lu : (Try.prog.info? 43).map (fun i => (i.zero, i.size, i.bytes)) = some (some (.agg #[.int .u8 0, .string ⟨#[]⟩, .string ⟨#[]⟩, .int .u64 0]), 4, 48) := by kernel_rfl
theorem own_cap {w : World} {B : Nat} {e : TypeId} {size : Nat} {v : Value} {n : Nat} {xs : List Value} (h : w.ownsRow B e size v n xs) : ∃ ao cap, v = .slice ao n cap ∧ n ≤ cap ∧ cap ≤ maxLen := by
  rcases h.2 with ⟨rfl, rfl⟩ | ⟨g, cap, cur, rfl, _, _, hn, hm, _⟩
  · exact ⟨none, 0, rfl, Nat.le_refl _, by unfold maxLen; omega⟩
  · exact ⟨_, cap, rfl, hn, hm⟩
/-- texts that the reading's reach allows -/
def SmU (u : Up) : Prop := u.key.length ≤ 140737488355327 ∧ u.val.length ≤ 140737488355327
theorem tame_at (u : Up) (w : World) (h : WfU u) (hs : SmU u) : Calls Try.prog 14 #[.agg #[.int .u8 u.kind, .string (Lend.strOf u.key), .string (Lend.strOf u.val), .int .u64 u.delta]] w fun e w' => e = .returned (.agg #[.int .u8 (tmU u).kind, .string (Lend.strOf (tmU u).key), .string (Lend.strOf (tmU u).val), .int .u64 (tmU u).delta]) ∧ Below w.heap.size w w' := tame_any u w h hs.1 hs.2
end Go.Proofs.Ytomhalcoomdadaa.Rec
