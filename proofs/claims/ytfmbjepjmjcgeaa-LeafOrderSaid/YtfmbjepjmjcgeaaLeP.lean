/- Layer 16 (leaf): Parts. -/
import Derived.Test.YtfmbjepjmjcgeaaLeC
import Derived.Lib.MinMaxS
namespace Go.Proofs.Ytfmbjepjmjcgeaa.Leaf
open Go Go.RowKit Go.Proofs.Ytfmbjepjmjcgeaa Go.Proofs.Ytfmbjepjmjcgeaa.Lend Go.Proofs.Ytfmbjepjmjcgeaa.Rec Go.Proofs.Ytfmbjepjmjcgeaa.Msg Go.Proofs.Ytfmbjepjmjcgeaa.Buf
set_option linter.unusedVariables false

/-- how many parts; how long; from where -/
def cntP (n m : Nat) : Nat := if n = 0 then 1 else (n - 1) / m + 1
def lnP (n c k : Nat) : Nat := n / c + t1 (decide (k < n % c))
def stP (n c k : Nat) : Nat := k * (n / c) + min k (n % c)
theorem cntP_pos (n m : Nat) : 0 < cntP n m := by
  unfold cntP
  split
  · omega
  · exact Nat.succ_pos _
theorem cntP_le (n m : Nat) : cntP n m ≤ n + 1 := by
  unfold cntP
  split
  · omega
  · have := Nat.div_le_self (n - 1) m
    omega
theorem stP_zero (n c : Nat) : stP n c 0 = 0 := by unfold stP; simp
theorem stP_succ (n c k : Nat) : stP n c (k + 1) = stP n c k + lnP n c k := by
  unfold stP lnP t1
  rw [Nat.succ_mul]
  by_cases h : k < n % c
  · rw [if_pos (by simpa using h)]; omega
  · rw [if_neg (by simpa using h)]; omega
theorem stP_last (n c : Nat) (hc : 0 < c) : stP n c c = n := by
  unfold stP
  have h1 := Nat.div_add_mod n c
  have h2 := Nat.mod_lt n hc
  rw [Nat.min_eq_right (Nat.le_of_lt h2)]
  omega
theorem stP_le (n c k : Nat) (hc : 0 < c) (hk : k ≤ c) : stP n c k ≤ n := by
  have h1 := Nat.div_add_mod n c
  have h2 := Nat.mod_lt n hc
  have h3 : k * (n / c) ≤ c * (n / c) := Nat.mul_le_mul_right _ hk
  unfold stP
  omega
def prtP (L : List Up) (c k : Nat) : List Up := (L.drop (stP L.length c k)).take (lnP L.length c k)
def partsL (L : List Up) (m : Nat) : List (List Up) := (List.range (cntP L.length m)).map (prtP L (cntP L.length m))
theorem prtP_len (L : List Up) (c k : Nat) (hk : k < c) : (prtP L c k).length = lnP L.length c k := by
  have h1 := stP_succ L.length c k
  have h2 := stP_le L.length c (k + 1) (by omega) (by omega)
  unfold prtP
  rw [List.length_take, List.length_drop]
  omega
theorem tdiv_pred {n m : Nat} (h0 : 0 < n) (hm : 0 < m) : ((n : Int) - 1).tdiv (m : Int) = (((n - 1) / m : Nat) : Int) := by
  rw [show (n : Int) - 1 = ((n - 1 : Nat) : Int) by omega, Int.tdiv_eq_ediv_of_nonneg (by omega)]
  exact Int.natCast_ediv _ _
theorem tdiv_zero {m : Nat} (hm : 0 < m) : ((0 : Int) - 1).tdiv (m : Int) = if m = 1 then -1 else 0 := by
  by_cases h : m = 1
  · subst h; rfl
  · rw [if_neg h, show (0 : Int) - 1 = -(1 : Int) by omega, Int.neg_tdiv, Int.tdiv_eq_zero_of_lt (by omega) (by omega)]; rfl
set_option maxRecDepth 100000 in
theorem partCount_any (n m : Nat) (w : World) (hn : n ≤ 1000000) (hm : 0 < m) (hm2 : (m : Int) ≤ 9223372036854775807) :
    Calls Try.prog 42 #[.int .i64 n, .int .i64 m] w fun e w' => e = .returned (.int .i64 (cntP n m : Nat)) ∧ w' = w := by
  have hm0 : ¬ (m : Int) = 0 := by omega
  have hw1 : IntKind.i64.wrap ((n : Int) - 1) = (n : Int) - 1 := by rw [IntKind.wrap_i64]; omega
  by_cases h0 : n = 0
  · subst h0
    have h1 := tdiv_zero hm
    obtain ⟨q, hq⟩ : ∃ q, q = ((0 : Int) - 1).tdiv (m : Int) := ⟨_, rfl⟩
    have hqb : q = -1 ∨ q = 0 := by rw [hq, h1]; split <;> simp
    have hw2 : IntKind.i64.wrap q = q := by rw [IntKind.wrap_i64]; omega
    have hw3 : IntKind.i64.wrap (q + 1) = q + 1 := by rw [IntKind.wrap_i64]; omega
    have hmx : max 1 (q + 1) = 1 := by omega
    have hq1 : ((((0 : Nat) : Int)) - 1).tdiv (m : Int) = q := hq.symm
    have hq2 : (-1 : Int).tdiv (m : Int) = q := hq.symm
    have e : cntP 0 m = 1 := rfl
    rw [e]
    clear h1 hq hqb hm hn
    go_enter Try.func42, Try.ntmps42
    go_wp2_with fail
    go_ret
    exact ⟨rfl, rfl⟩
  · have h1 := tdiv_pred (n := n) (by omega) hm
    have hle := Nat.div_le_self (n - 1) m
    have e : cntP n m = (n - 1) / m + 1 := if_neg h0
    rw [e]
    obtain ⟨q, hq⟩ : ∃ q, q = (n - 1) / m := ⟨_, rfl⟩
    rw [← hq] at h1 hle ⊢
    have hw2 : IntKind.i64.wrap (q : Int) = q := by rw [IntKind.wrap_i64]; omega
    have hw3 : IntKind.i64.wrap ((q : Int) + 1) = (q : Int) + 1 := by rw [IntKind.wrap_i64]; omega
    have hmx : max 1 ((q : Int) + 1) = (q : Int) + 1 := by omega
    clear hq hm hn e hle h0
    go_enter Try.func42, Try.ntmps42
    go_wp2_with fail
    go_ret
    exact ⟨rfl, rfl⟩
/-- a part of a slice of entries, up to a place; from a place -/
theorem er_upto {a : Option Addr} {n cap t : Nat} (ht : t ≤ n) (hc : n ≤ cap) : ∃ a', (∀ w, (Instr.slice 23 (.slice a n cap) none (some (.int .i64 (t : Int))) none).run Try.prog w = .ok (.slice a' t cap) w) ∧ ∀ (W : World) (L : List Up), ER W (.slice a n cap) L → ER W (.slice a' t cap) (L.take t) := by
  have h1 : (0 : Int) ≤ (t : Int) := by omega
  have h2 : (t : Int) ≤ (cap : Int) := by omega
  refine ⟨if cap = 0 then a else Option.map (fun x => x.add (0 * 2)) a, fun w => by go_simp, fun W L h => ?_⟩
  have hn := er_len h
  refine ⟨_, cap, by rw [List.length_take, Nat.min_eq_left (by omega)], fun h0 => ?_⟩
  rw [List.length_take] at h0
  obtain ⟨g, off, rfl, hcc⟩ := ER.at_ h (by omega)
  rw [if_neg (by omega)]
  refine ⟨g, off, by simp [Addr.add_lit], fun i hi j hj => ?_⟩
  rw [List.length_take] at hi
  rw [List.getElem_take]
  exact hcc i (by omega) j hj
theorem er_from {a : Option Addr} {n cap k : Nat} (hk : k ≤ n) (hc : n ≤ cap) : ∃ a', (∀ w, (Instr.slice 23 (.slice a n cap) (some (.int .i64 (k : Int))) none none).run Try.prog w = .ok (.slice a' (n - k) (cap - k)) w) ∧ ∀ (W : World) (L : List Up), ER W (.slice a n cap) L → ER W (.slice a' (n - k) (cap - k)) (L.drop k) := by
  have h1 : (0 : Int) ≤ (k : Int) := by omega
  have h2 : (k : Int) ≤ (n : Int) := by omega
  refine ⟨if cap = k then a else Option.map (fun x => x.add (k * 2)) a, fun w => by go_simp, fun W L h => ?_⟩
  have hn := er_len h
  refine ⟨_, cap - k, by rw [List.length_drop, ← hn], fun h0 => ?_⟩
  rw [List.length_drop] at h0
  obtain ⟨g, off, rfl, hcc⟩ := ER.at_ h (by omega)
  rw [if_neg (by omega)]
  refine ⟨g, off + k * 2, by simp [Addr.add_lit], fun i hi j hj => ?_⟩
  rw [List.length_drop] at hi
  rw [List.getElem_drop, ← hcc (k + i) (by omega) j hj]
  congr 2
  omega
theorem und_l : Try.prog.underlying 65 = some (.slice 25) := Try.underlying65
theorem info_l : (Try.prog.info? 25).map (fun i => (i.zero, i.size, i.bytes)) = some (some (.agg #[.slice none 0 0]), 1, 24) := by kernel_rfl
/-- rows of entries, one behind the other in a row of leaves -/
structure PR (w : World) (B : Nat) (v : Value) (Ls : List (List Up)) : Prop where
  ex : ∃ vs : List Value, w.ownsRow B 25 1 v Ls.length vs ∧ ∀ i (hi : i < Ls.length), ∃ x, vs[i]? = some x ∧ EA w B x Ls[i]
theorem PR.on {w w' : World} {B : Nat} {v : Value} {Ls : List (List Up)} (h : PR w B v Ls) (hb : Below w.heap.size w w') : PR w' B v Ls := by
  obtain ⟨vs, h1, h2⟩ := h.ex
  exact ⟨vs, own_bel h1 hb, fun i hi => by obtain ⟨x, e, hx⟩ := h2 i hi; exact ⟨x, e, own_bel hx hb⟩⟩
theorem PR.base {w : World} {B B' : Nat} {v : Value} {Ls : List (List Up)} (h : PR w B v Ls) (hb : B' ≤ B) : PR w B' v Ls := by
  obtain ⟨vs, h1, h2⟩ := h.ex
  exact ⟨vs, own_base h1 hb, fun i hi => by obtain ⟨x, e, hx⟩ := h2 i hi; exact ⟨x, e, own_base hx hb⟩⟩
theorem pr_nil (w : World) (B : Nat) : PR w B (.slice none 0 0) [] := ⟨[], World.ownsRow_nil _ _ _ _, fun i hi => by cases hi⟩
/-- rows of two types have no block in common -/
theorem own_ne {w : World} {B B' : Nat} {T T' : TypeId} {s s' : Nat} {v v' : Value} {n n' : Nat} {xs xs' : List Value} (hT : T ≠ T') (h : w.ownsRow B T s v n xs) (h' : w.ownsRow B' T' s' v' n' xs') : ∀ k, v.ownBlock = some k → v'.ownBlock ≠ some k := by
  intro k hk hk'
  rcases h.2 with ⟨rfl, _⟩ | ⟨g, cap, cur, rfl, hb, hg, _⟩
  · cases hk
  · rcases h'.2 with ⟨rfl, _⟩ | ⟨g', cap', cur', rfl, hb', hg', _⟩
    · cases hk'
    · have e1 : g = k := by simpa [Value.ownBlock] using hk
      have e2 : g' = k := by simpa [Value.ownBlock] using hk'
      rw [e1] at hg
      rw [e2, hg] at hg'
      simp only [Option.some.injEq, Obj.cells.injEq] at hg'
      exact hT hg'.2.1
theorem tne : (25 : TypeId) ≠ 53 := by decide
/-- append(parts, x) -/
theorem papp {w : World} {B : Nat} {v x : Value} {Ls : List (List Up)} {l : List Up} (h : PR w B v Ls) (hB : B ≤ w.heap.size) (hx : EA w B x l) (hn : Ls.length ≤ 1000000) :
    ∃ v' w', (Builtin.append_ #[65, 65] 65 #[v, .slice (some ⟨w.heap.size, 0, none⟩) 1 1]).run Try.prog (w.alloc (.cells #[x] 25)) = .ok v' w' ∧ PR w' B v' (Ls ++ [l]) ∧ (∀ {B0 : Nat} {w0 : World}, B0 ≤ B → Below B0 w0 w → Below B0 w0 w') := by
  obtain ⟨i0, hi, hz0, hz1, hz2⟩ := info_parts info_l
  obtain ⟨vs, h1, h2⟩ := h.ex
  have hb := below_new w (.cells #[x] 25)
  obtain ⟨ao, cp, rfl, _⟩ := own_shape hx
  have hl : vs.length = Ls.length := by have := h1.1; omega
  have h1b := own_bel h1 hb
  obtain ⟨v', w', hr, h3, h4, _⟩ := run_append_own (P := Try.prog) (w.alloc (.cells #[.slice ao l.length cp] 25)) B 65 65 25 i0 _ 1 24 und_l hi hz0 hz1 hz2 rfl (by decide) v Ls.length vs h1b ⟨w.heap.size, 0, none⟩ 1 1 [.slice ao l.length cp] rfl
    (fun j u hj => by
      have hh := Has.new w [.slice ao l.length cp] 25
      rw [Addr.add_lit, Nat.zero_add]
      rw [← hj]
      exact hh.cell j) (fun u hu => by rw [List.mem_singleton] at hu; rw [hu]; rfl) (by unfold maxLen; omega) (by omega) (by simp; omega)
  refine ⟨v', w', hr, ⟨vs ++ [.slice ao l.length cp], by rw [List.length_append]; exact h3, fun i hi => ?_⟩, fun h0 hb0 => (hb0.alloc (Nat.le_trans h0 hB) _).grown h4 (by simp; omega) (fun k hk => Nat.le_trans h0 (h1.lt k hk).1)⟩
  have hkeep : ∀ {y : Value} {m : List Up}, EA w B y m → EA w' B y m := fun {y m} hy => (own_bel hy hb).kept h4 (by
    cases hv : y.ownBlock with
    | none => exact .inl rfl
    | some k => exact .inr fun e => own_ne tne h1 hy k e.symm hv)
  rw [List.length_append] at hi
  by_cases hlt : i < Ls.length
  · obtain ⟨y, e, hy⟩ := h2 i hlt
    refine ⟨y, by rw [List.getElem?_append_left (by omega)]; exact e, ?_⟩
    rw [List.getElem_append_left hlt]
    exact hkeep hy
  · have e : i = Ls.length := by simp at hi; omega
    subst e
    refine ⟨_, by rw [List.getElem?_append_right (by omega), hl, Nat.sub_self]; rfl, ?_⟩
    rw [List.getElem_append_right (Nat.le_refl _)]
    simp only [Nat.sub_self, List.getElem_cons_zero]
    exact hkeep hx
end Go.Proofs.Ytfmbjepjmjcgeaa.Leaf
/- Layer 16 (leaf): Parts, walked. -/
namespace Go.Proofs.Ytfmbjepjmjcgeaa.Leaf
open Go Go.RowKit Go.Proofs.Ytfmbjepjmjcgeaa Go.Proofs.Ytfmbjepjmjcgeaa.Lend Go.Proofs.Ytfmbjepjmjcgeaa.Rec Go.Proofs.Ytfmbjepjmjcgeaa.Msg Go.Proofs.Ytfmbjepjmjcgeaa.Buf
set_option linter.unusedVariables false

theorem max_cases (most : Int) (h1 : -9223372036854775808 ≤ most) (h2 : most ≤ 9223372036854775807) : ∃ m : Nat, max 1 most = (m : Int) ∧ 0 < m ∧ (m : Int) ≤ 9223372036854775807 ∧ (max 1 most).toNat = m := ⟨(max 1 most).toNat, by omega, by omega, by omega, rfl⟩
set_option maxRecDepth 100000 in
set_option maxHeartbeats 8000000 in
theorem parts_any {w : World} {B : Nat} {v : Value} {L : List Up} (most : Int) (h : EA w B v L) (hl : L.length ≤ 10000) (hm1 : -9223372036854775808 ≤ most) (hm2 : most ≤ 9223372036854775807) :
    Calls Try.prog 22 #[.agg #[v], .int .i64 most] w fun e w' => ∃ v', e = .returned v' ∧ PR w' w.heap.size v' (partsL L (max 1 most).toNat) ∧ Below w.heap.size w w' := by
  obtain ⟨m, hmm, hm0, hm63, hmt⟩ := max_cases most hm1 hm2
  rw [hmt]
  obtain ⟨a, cap, rfl, hcap⟩ := own_shape h
  obtain ⟨w1, hw1⟩ : ∃ x, x = w.alloc (.cells #[.slice a L.length cap] 25) := ⟨_, rfl⟩
  have HV := Lib.hid (show Has w1 w.heap.size 25 [.slice a L.length cap] by rw [hw1]; exact Has.new w [.slice a L.length cap] _)
  have HB1 := Lib.hid (show Below w.heap.size w w1 by rw [hw1]; exact below_new w _)
  have HS1 := Lib.hid (show w1.heap.size = w.heap.size + 1 by rw [hw1]; simp)
  have HU := Lib.hid (ER.of_own (own_bel h HB1.out))
  have HPC := Lib.hid (fun W => partCount_any L.length m W (by omega) hm0 hm63)
  have hcp := cntP_pos L.length m
  have hcl := cntP_le L.length m
  obtain ⟨n, hn⟩ : ∃ n, n = L.length := ⟨_, rfl⟩
  have HN := Lib.hid hn
  obtain ⟨c, hc⟩ : ∃ c, c = cntP n m := ⟨_, rfl⟩
  rw [← hn] at HV HPC hcp hcl hcap hl hw1 ⊢
  rw [← hc] at HPC hcp hcl
  have HPL := Lib.hid (show partsL L m = (List.range c).map (prtP L c) by unfold partsL; rw [← hn, ← hc])
  have HU : Hid (ER w1 (.slice a n cap) L) := by rw [hn]; exact HU
  obtain ⟨q, hq⟩ : ∃ q, q = n / c := ⟨_, rfl⟩
  obtain ⟨r, hr⟩ : ∃ r, r = n % c := ⟨_, rfl⟩
  have hqn : q ≤ n := by rw [hq]; exact Nat.div_le_self _ _
  have hrn : r ≤ n := by rw [hr]; exact Nat.mod_le _ _
  have HST := Lib.hid (show ∀ k, k < c → stP n c k + lnP n c k = stP n c (k + 1) ∧ stP n c (k + 1) ≤ n ∧ (lnP n c k = if k < r then q + 1 else q) from fun k hk => ⟨(stP_succ n c k).symm, stP_le n c (k + 1) hcp hk, by unfold lnP t1; rw [← hq, ← hr]; by_cases hh : k < r <;> simp [hh]⟩)
  have htd : (n : Int).tdiv (c : Int) = (q : Int) := by rw [Int.tdiv_eq_ediv_of_nonneg (by omega), hq]; exact (Int.natCast_ediv _ _).symm
  have htm : (n : Int).tmod (c : Int) = (r : Int) := by rw [Int.tmod_eq_emod_of_nonneg (by omega), hr]; exact (Int.natCast_emod _ _).symm
  have hcz : ¬ (c : Int) = 0 := by omega
  have hwq : IntKind.i64.wrap (q : Int) = q := by rw [IntKind.wrap_i64]; omega
  have hwr : IntKind.i64.wrap (r : Int) = r := by rw [IntKind.wrap_i64]; omega
  have hwq1 : IntKind.i64.wrap ((q : Int) + 1) = (q : Int) + 1 := by rw [IntKind.wrap_i64]; omega
  have cb : w1.cell? ⟨w.heap.size, 0, none⟩ = some (.slice a n cap) := HV.out.cell 0
  rw [HPL.out]
  clear h hn hc hq hr hmt hm1 hm2 hm0 hm63
  go_enter Try.func22, Try.ntmps22
  go_wp2_with fail
  rw [← hw1]
  clear hw1
  go_wp2_with fail
  refine (HPC.out w1).mono ?_
  rintro e w2 ⟨rfl, hww⟩
  have hww := hww.symm
  subst hww
  go_wp2_with fail
  go_quiet (fail)
  go_wp2_with fail
  go_loopw [8, 9, 31] (fun pv lv i wr => ∃ (k : Nat) (pv' : Value) (la : Option Addr) (lc : Nat), pv' = pv ∧ k ≤ c ∧ i = .int .i64 k ∧ lv = .slice la (n - stP n c k) lc ∧ n - stP n c k ≤ lc ∧ ER w1 (.slice la (n - stP n c k) lc) (L.drop (stP n c k)) ∧ PR wr w1.heap.size pv' ((List.range k).map (prtP L c)) ∧ Below w1.heap.size w1 wr) (fun _ _ i _ => c - (intOf i).toNat)
  case atStart => exact ⟨0, _, a, cap, rfl, Nat.zero_le _, rfl, by rw [stP_zero]; rfl, by rw [stP_zero]; exact hcap, by rw [stP_zero]; exact HU.out, pr_nil _ _, ⟨rfl, rfl, rfl, Nat.le_refl _, fun _ _ => rfl⟩⟩
  case round =>
    obtain ⟨k, pv, la, lc, rfl, hk, rfl, rfl, hlc, her, hpr, hb⟩ := hrel
    rename World => wr
    have HL := Lib.hid her
    have HPR := Lib.hid hpr
    have HB := Lib.hid hb
    clear her hpr hb
    by_cases hlt : k < c
    · have hki : (k : Int) < (c : Int) := by omega
      obtain ⟨g1, g2, g3⟩ := HST.out k hlt
      obtain ⟨s0, hs0⟩ : ∃ s, s = stP n c k := ⟨_, rfl⟩
      obtain ⟨s1, hs1⟩ : ∃ s, s = stP n c (k + 1) := ⟨_, rfl⟩
      have HS0 := Lib.hid hs0
      have HS1E := Lib.hid hs1
      rw [← hs0] at g1 hlc HL ⊢
      rw [← hs1] at g1 g2
      clear hs0 hs1
      by_cases hkr : k < r
      · have hkri : (k : Int) < (r : Int) := by omega
        rw [if_pos hkr] at g3
        have hlk := g3
        rw [g3] at g1
        clear g3
        obtain ⟨a1, hr1, he1⟩ := er_upto (a := la) (n := n - s0) (cap := lc) (t := q + 1) (by omega) (by omega)
        obtain ⟨a2, hr2, he2⟩ := er_from (a := la) (n := n - s0) (cap := lc) (k := q + 1) (by omega) (by omega)
        rw [show ((q + 1 : Nat) : Int) = (q : Int) + 1 by omega] at hr1 hr2
        rw [show n - s0 - (q + 1) = n - s1 by omega] at hr2 he2
        have hcl := eclone_any (w := wr) ((he1 w1 _ HL.out).below HB.out) (by rw [List.length_take, List.length_drop]; have := HN.out; omega)
        have HE2 := Lib.hid (show ER w1 (.slice a2 (n - s1) (lc - (q + 1))) (L.drop s1) by
          have := he2 w1 _ HL.out
          rwa [List.drop_drop, show s0 + (q + 1) = s1 by omega] at this)
        rw [show (L.drop s0).take (q + 1) = prtP L c k by unfold prtP; rw [← HN.out, ← HS0.out, hlk]] at hcl
        have HLC := Lib.hid (show n - s1 ≤ lc - (q + 1) by omega)
        clear he1 he2 hlk
        go_wp2_with fail
        refine hcl.mono ?_
        clear hcl
        rintro e w2 ⟨v2, rfl, hv2, hb2⟩
        obtain ⟨a3, c3, rfl, _⟩ := own_shape hv2
        have HPR2 := Lib.hid (HPR.out.on hb2)
        have HB2 := Lib.hid (HB.out.trans (hb2.mono HB.out.size))
        obtain ⟨v3, w3, hr3, hp3, hbb3⟩ := papp (l := prtP L c k) HPR2.out HB2.out.size (own_base hv2 HB.out.size) (by rw [List.length_map, List.length_range]; omega)
        have HR3 := Lib.hid hp3
        have HB3 := Lib.hid (hbb3 (Nat.le_refl _) HB2.out)
        clear hv2 hb2 hp3 hbb3
        go_wp2_with (at_builtin; refine wpList_append_run rfl _ _ _ _ rfl _ _ _ rfl rfl hr3 ?_)
        go_roundw
        case rel => exact ⟨k + 1, _, _, _, rfl, by omega, by go_num, by rw [← HS1E.out], by rw [← HS1E.out]; exact HLC.out, by rw [← HS1E.out]; exact HE2.out, by rw [List.range_succ, List.map_append]; exact HR3.out, HB3.out⟩
        case measure => simp [intOf]; omega
      · have hkri : ¬ (k : Int) < (r : Int) := by omega
        rw [if_neg hkr] at g3
        have hlk := g3
        rw [g3] at g1
        clear g3
        obtain ⟨a1, hr1, he1⟩ := er_upto (a := la) (n := n - s0) (cap := lc) (t := q) (by omega) (by omega)
        obtain ⟨a2, hr2, he2⟩ := er_from (a := la) (n := n - s0) (cap := lc) (k := q) (by omega) (by omega)
        skip
        rw [show n - s0 - (q) = n - s1 by omega] at hr2 he2
        have hcl := eclone_any (w := wr) ((he1 w1 _ HL.out).below HB.out) (by rw [List.length_take, List.length_drop]; have := HN.out; omega)
        have HE2 := Lib.hid (show ER w1 (.slice a2 (n - s1) (lc - (q))) (L.drop s1) by
          have := he2 w1 _ HL.out
          rwa [List.drop_drop, show s0 + (q) = s1 by omega] at this)
        rw [show (L.drop s0).take (q) = prtP L c k by unfold prtP; rw [← HN.out, ← HS0.out, hlk]] at hcl
        have HLC := Lib.hid (show n - s1 ≤ lc - (q) by omega)
        clear he1 he2 hlk
        go_wp2_with fail
        refine hcl.mono ?_
        clear hcl
        rintro e w2 ⟨v2, rfl, hv2, hb2⟩
        obtain ⟨a3, c3, rfl, _⟩ := own_shape hv2
        have HPR2 := Lib.hid (HPR.out.on hb2)
        have HB2 := Lib.hid (HB.out.trans (hb2.mono HB.out.size))
        obtain ⟨v3, w3, hr3, hp3, hbb3⟩ := papp (l := prtP L c k) HPR2.out HB2.out.size (own_base hv2 HB.out.size) (by rw [List.length_map, List.length_range]; omega)
        have HR3 := Lib.hid hp3
        have HB3 := Lib.hid (hbb3 (Nat.le_refl _) HB2.out)
        clear hv2 hb2 hp3 hbb3
        go_wp2_with (at_builtin; refine wpList_append_run rfl _ _ _ _ rfl _ _ _ rfl rfl hr3 ?_)
        go_roundw
        case rel => exact ⟨k + 1, _, _, _, rfl, by omega, by go_num, by rw [← HS1E.out], by rw [← HS1E.out]; exact HLC.out, by rw [← HS1E.out]; exact HE2.out, by rw [List.range_succ, List.map_append]; exact HR3.out, HB3.out⟩
        case measure => simp [intOf]; omega
    · obtain rfl : k = c := by omega
      have hki : ¬ ((k : Int) < (k : Int)) := by omega
      have HPB := Lib.hid (HPR.out.base (show w.heap.size ≤ w1.heap.size by rw [HS1.out]; omega))
      have HBE := Lib.hid (below_on HB1.out HB.out)
      go_wp2_with fail
      go_ret
      exact ⟨_, rfl, HPB.out, HBE.out⟩
end Go.Proofs.Ytfmbjepjmjcgeaa.Leaf
