/- Layer 9's laws: the maps that they make, and how many of a kind there are. -/
import Derived.Test.YtkflccecdjfkiaaDoorBitL
import Derived.Test.YtkflccecdjfkiaaDoorRows
import Derived.Lib.LaidTab
import Derived.Test.YtkflccecdjfkiaaDoorArr
import Derived.Test.YtkflccecdjfkiaaDoorRegionW
import Derived.Maps.Views
import Derived.Maps.OwnSet
namespace Go.Proofs.YtkflccecdjfkiaaDoor.Bit
open Go Go.RowKit Go.Proofs.YtkflccecdjfkiaaDoor Go.Maps
set_option linter.unusedVariables false

theorem laid_tz : (YtkflccecdjfkiaaDoor.Rows.laid_math_bits_deBruijn64tab : DataW Unit) = Lib.tabData .u8 (Lib.deBruijn64tab.map fun (x : Nat) => (x : Int)) := rfl
/-- what the row says of the table -/
theorem tz_of {w : World} {rest : List (String × DataW Unit)} (h : laidMet Tryd.prog (("math/bits.deBruijn64tab", YtkflccecdjfkiaaDoor.Rows.laid_math_bits_deBruijn64tab) :: rest) w) : Tz w := by
  rw [laid_tz] at h
  have ht := Lib.tabIs_of_head (g := 0) (t := 78) (e := 5) (n := 64) (by kernel_rfl) (by kernel_rfl) (by kernel_rfl) (by kernel_rfl) (by kernel_rfl) (by kernel_rfl) h
  intro j hj
  have := ht.cell (g := 0) (by kernel_rfl) j (by rw [List.length_map]; exact hj)
  rw [this, List.getD_eq_getElem?_getD, List.getD_eq_getElem?_getD, List.getElem?_map]
  cases hx : Lib.deBruijn64tab[j]? with
  | none => rw [List.getElem?_eq_none_iff] at hx; omega
  | some x => rfl

/-- how many of the first j are of a kind -/
def cntK (l : List Bool) (is : Bool) : Nat → Nat
  | 0 => 0
  | j + 1 => cntK l is j + if bg l j = is then 1 else 0
theorem cntK_le (l : List Bool) (is : Bool) : ∀ j, cntK l is j ≤ j
  | 0 => Nat.le_refl _
  | j + 1 => by have := cntK_le l is j; unfold cntK; split <;> omega
theorem cntK_both (l : List Bool) : ∀ j, cntK l true j + cntK l false j = j
  | 0 => rfl
  | j + 1 => by
    have := cntK_both l j
    unfold cntK
    cases bg l j <;> simp <;> omega
theorem cntK_lst (l : List Bool) : ∀ j, cntK l true j = (lstL j l).length
  | 0 => rfl
  | j + 1 => by
    rw [lst_succ, cntK, cntK_lst l j]
    by_cases h : bg l j = true <;> simp [h]
theorem cntK_cnt (l : List Bool) : cntK l true l.length = cntL l := cntK_lst l _
/-- none between -/
theorem cntK_gap (l : List Bool) (is : Bool) (a : Nat) : ∀ c, (∀ j, a ≤ j → j < a + c → bg l j ≠ is) → cntK l is (a + c) = cntK l is a
  | 0, _ => rfl
  | c + 1, h => by
    rw [← Nat.add_assoc, cntK, if_neg (h _ (by omega) (by omega)), cntK_gap l is a c (fun j h1 h2 => h j h1 (by omega))]; rfl
theorem cntK_next {l : List Bool} {is : Bool} {a k : Nat} (h : nextO l (a : Nat) is = some k) : cntK l is (k + 1) = cntK l is a + 1 ∧ a ≤ k ∧ k < l.length ∧ bg l k = is := by
  obtain ⟨h1, h2, h3, h4⟩ := next_is h
  have ha : a ≤ k := by omega
  refine ⟨?_, ha, h1, h3⟩
  rw [cntK, if_pos h3]
  have := cntK_gap l is a (k - a) (fun j h5 h6 => h4 j (by omega) (by omega))
  rw [show a + (k - a) = k by omega] at this
  rw [this]
theorem cntK_end {l : List Bool} {is : Bool} {a : Nat} (ha : a ≤ l.length) (h : nextO l (a : Nat) is = none) : cntK l is l.length = cntK l is a := by
  have h4 := next_isn h
  have := cntK_gap l is a (l.length - a) (fun j h5 h6 => h4 j (by omega) (by omega))
  rwa [show a + (l.length - a) = l.length by omega] at this

theorem zero_bool (w : World) : (zeroValue 4).run Tryd.prog w = .ok (.bool false) w := by kernel_rfl
theorem owns_map_same {w w' : World} {P : Program} {k : TypeId} {R : Value → Option (DataW Unit × List MemPlace)} {b n : Nat} {D : DataW Unit} (h : w.ownsMap P k R b n D) (hk : w'.heap[b]? = w.heap[b]?) : w'.ownsMap P k R b n D := by
  obtain ⟨es, clock, hb, F, hs, hD⟩ := h
  exact ⟨es, clock, hk.trans hb, F, hs, hD⟩
theorem owns_map_lt {w : World} {P : Program} {k : TypeId} {R : Value → Option (DataW Unit × List MemPlace)} {b n : Nat} {D : DataW Unit} (h : w.ownsMap P k R b n D) : b < w.heap.size := by
  obtain ⟨es, clock, hb, _⟩ := h
  exact (Array.getElem?_eq_some_iff.1 hb).1
theorem owns_map_on {w w' : World} {P : Program} {k : TypeId} {R : Value → Option (DataW Unit × List MemPlace)} {b n : Nat} {D : DataW Unit} (h : w.ownsMap P k R b n D) (hb : Below w.heap.size w w') : w'.ownsMap P k R b n D := owns_map_same h (hb.block _ (owns_map_lt h))
theorem plainElem_bool_inv {P : Program} {e : TypeId} (he : P.underlying e = some .bool) {v : Value} {z : DataW Unit × List MemPlace} (h : plainElem P e v = some z) : ∃ x, v = .bool x ∧ z = (.lit (.bool x), []) := by
  unfold plainElem at h
  rw [he] at h
  cases v <;> simp at h
  subst h
  exact ⟨_, rfl, rfl⟩
/-- 'm[k]' at bools -/
theorem lookup_bool {P : Program} {w : World} {t k e : TypeId} {b n : Nat} {D : DataW Unit} (h : w.ownsMap P k (plainElem P e) b n D) (K : Keyed P k) (ht : P.underlying t = some (.map k e)) (he : P.underlying e = some .bool) (hz : (zeroValue e).run P w = .ok (.bool false) w)
    {key : Value} {kl : Lit} (hkey : keyOf P k key = some kl) : ∃ c : Bool, (Instr.lookup t (.map (some b)) key false).run P w = .ok (.bool c) w ∧ D.atKey kl (.lit (.bool false)) = .lit (.bool c) := by
  obtain ⟨v, ps, hrun, hv⟩ := h.lookup K ht hz (plainElem_bool he false) hkey
  obtain ⟨c, rfl, hc⟩ := plainElem_bool_inv he hv
  simp only [Prod.mk.injEq] at hc
  exact ⟨c, hrun, hc.1⟩
theorem int_wf {x : Int} (h0 : -9223372036854775808 ≤ x) (h1 : x ≤ 9223372036854775807) : (Lit.int .i64 x).wf = true := by
  simp only [Lit.wf, Bool.and_eq_true, decide_eq_true_eq, show IntKind.i64.min = -9223372036854775808 from rfl, show IntKind.i64.max = 9223372036854775807 from rfl]
  omega
theorem map_ne {w : World} {P : Program} {k : TypeId} {R : Value → Option (DataW Unit × List MemPlace)} {mb n : Nat} {D : DataW Unit} (h : w.ownsMap P k R mb n D) {a : Addr} {v : Value} (hc : w.cell? a = some v) : a.block ≠ mb := by
  obtain ⟨es, clock, hb, _⟩ := h
  intro e
  unfold World.cell? at hc
  rw [e, hb] at hc
  cases hc
/-- what was seen: of those of the first kind all, or up to the last one; of those of the second one up to the last one. a: behind the last one -/
def Seen (l : List Bool) (is : Bool) (a : Nat) (D : DataW Unit) : Prop := IsMap D ∧ ∀ x : Int, has D (.int .i64 x) = true → ∃ j : Nat, x = j ∧ ((bg l j = true ∧ (is = true → j < a)) ∨ (is = false ∧ bg l j = false ∧ j < a))
theorem Seen.start (l : List Bool) : Seen l true 0 (.map []) := ⟨isMap_empty, fun x h => by cases h⟩
theorem Seen.turn {l : List Bool} {a : Nat} {D : DataW Unit} (h : Seen l true a D) : Seen l false 0 D := ⟨h.1, fun x hx => by
  obtain ⟨j, e, h1 | h1⟩ := h.2 x hx
  · exact ⟨j, e, .inl ⟨h1.1, fun h => by cases h⟩⟩
  · cases h1.1⟩
theorem Seen.no {l : List Bool} {is : Bool} {a k : Nat} {D : DataW Unit} (h : Seen l is a D) (hk : a ≤ k) (hb : bg l k = is) : has D (.int .i64 (k : Int)) = false := by
  cases e : has D (.int .i64 (k : Int)) with
  | false => rfl
  | true =>
    obtain ⟨j, e1, h1 | h1⟩ := h.2 _ e
    · obtain rfl : k = j := by omega
      rw [h1.1] at hb
      have := h1.2 hb.symm
      omega
    · omega
theorem Seen.look {l : List Bool} {is : Bool} {a k : Nat} {D : DataW Unit} (h : Seen l is a D) (hk : a ≤ k) (hb : bg l k = is) {b : Bool} (he : D.atKey (.int .i64 (k : Int)) (.lit (.bool false)) = .lit (.bool b)) : b = false := by
  rw [atKey_of_not_has (h.no hk hb)] at he
  simpa using he.symm
theorem Seen.push {l : List Bool} {is : Bool} {a k : Nat} {D : DataW Unit} (h : Seen l is a D) (hk : a ≤ k) (hb : bg l k = is) : Seen l is (k + 1) (D.put (.int .i64 (k : Int)) (.lit (.bool true))) := by
  refine ⟨h.1.put _ _, fun x hx => ?_⟩
  by_cases e : x = k
  · refine ⟨k, e, ?_⟩
    cases is with
    | true => exact .inl ⟨hb, fun _ => by omega⟩
    | false => exact .inr ⟨rfl, hb, by omega⟩
  · rw [has_put_other (by intro h; injection h with _ h; exact e h)] at hx
    obtain ⟨j, e1, h1 | h1⟩ := h.2 x hx
    · exact ⟨j, e1, .inl ⟨h1.1, fun h => by have := h1.2 h; omega⟩⟩
    · exact ⟨j, e1, .inr ⟨h1.1, h1.2.1, by omega⟩⟩
theorem Seen.size {l : List Bool} {is : Bool} {a k n : Nat} {D : DataW Unit} (h : Seen l is a D) (hk : a ≤ k) (hb : bg l k = is) (ht : Tidy D) (hs : Maps.size D = n) : Maps.size (D.put (.int .i64 (k : Int)) (.lit (.bool true))) = n + 1 := by
  rw [size_put ht, h.no hk hb, hs]; rfl
/-! ### BitsParts' two kinds, one behind the other -/
def kindOf (c : Nat) : Bool := decide (c = 0)
def Ph (l : List Bool) (c : Nat) (D : DataW Unit) (K : Nat) : Prop := if c = 0 then Seen l true 0 D ∧ K = 0 else if c = 1 then Seen l false 0 D ∧ K = cntK l true l.length else K = l.length
def cellsC (l : List Bool) (c d : Nat) : List Value := if c = 0 then [.int .i64 d, .int .i64 0] else if c = 1 then [.int .i64 (cntK l true l.length), .int .i64 d] else [.int .i64 (cntK l true l.length), .int .i64 (cntK l false l.length)]
theorem Ph.start (l : List Bool) : Ph l 0 (.map []) 0 := ⟨Seen.start l, rfl⟩
theorem Ph.seen {l : List Bool} {c K : Nat} {D : DataW Unit} (h : Ph l c D K) (hc : c < 2) : Seen l (kindOf c) 0 D := by
  match c, hc with
  | 0, _ => exact h.1
  | 1, _ => exact h.1
theorem Ph.next {l : List Bool} {c K a d : Nat} {D D' : DataW Unit} (h : Ph l c D K) (hc : c < 2) (hs : Seen l (kindOf c) a D') (hd : d = cntK l (kindOf c) l.length) : Ph l (c + 1) D' (K + d) := by
  match c, hc with
  | 0, _ =>
    have h2 : K = 0 := h.2
    exact ⟨Seen.turn hs, by rw [h2, hd, Nat.zero_add]; rfl⟩
  | 1, _ =>
    have h2 : K = cntK l true l.length := h.2
    have := cntK_both l l.length
    show K + d = l.length
    rw [h2, hd]; exact this
theorem Ph.full {l : List Bool} {K : Nat} {D : DataW Unit} (h : Ph l 2 D K) : K = l.length := h
theorem cells_next {l : List Bool} {c d : Nat} (hc : c < 2) (hd : d = cntK l (kindOf c) l.length) : cellsC l c d = cellsC l (c + 1) 0 := by
  match c, hc with
  | 0, _ => subst hd; rfl
  | 1, _ => subst hd; rfl
theorem cells_set {l : List Bool} {c d : Nat} (hc : c < 2) : (cellsC l c d).set c (.int .i64 ((d : Int) + 1)) = cellsC l c (d + 1) := by
  match c, hc with
  | 0, _ => rfl
  | 1, _ => rfl
theorem cells_get {l : List Bool} {c d : Nat} (hc : c < 2) : (cellsC l c d)[c]? = some (.int .i64 d) := by
  match c, hc with
  | 0, _ => rfl
  | 1, _ => rfl
theorem cells_start (l : List Bool) : cellsC l 0 0 = [.int .i64 0, .int .i64 0] := rfl
theorem cells_first (l : List Bool) : cellsC l 2 0 = [.int .i64 (cntK l true l.length), .int .i64 (cntK l false l.length)] := rfl
theorem kinds_get {w : World} {b : Nat} {t : TypeId} (h : Has w b t [.bool true, .bool false]) {c : Nat} (hc : c < 2) : w.cell? ⟨b, c, none⟩ = some (.bool (kindOf c)) := by
  match c, hc with
  | 0, _ => exact h.cell 0
  | 1, _ => exact h.cell 1
theorem Own.map {w0 w w' : World} {p : Nat} {R : List Nat} {l : List Bool} {b : Nat} (h : Own w0 p R l w) (hg : w.grownBy w' (some b)) (hd : ∀ k ∈ R, k ≠ b) : Own w0 p R l w' := ⟨h.at_.same fun k hk => hg.block k (h.at_.lt k hk) (fun e => hd k hk (Option.some.inj e)), h.ge⟩
theorem Own.setCell {w0 w : World} {p : Nat} {R : List Nat} {l : List Bool} (h : Own w0 p R l w) {a : Addr} (hd : ∀ k ∈ R, k ≠ a.block) (v : Value) : Own w0 p R l (w.setCell a v) := ⟨h.at_.same fun k hk => Below.heap_setCell _ _ _ _ (hd k hk), h.ge⟩
theorem Has.map {w w' : World} {b mb : Nat} {t : TypeId} {cs : List Value} (h : Has w b t cs) (hg : w.grownBy w' (some mb)) (hd : b ≠ mb) : Has w' b t cs := h.same (hg.block b h.lt (fun e => hd (Option.some.inj e)))
theorem Vals.chg {w w' : World} {ao : Option Addr} {len cap : Nat} {vs : List Value} {R : List Nat} (h : Vals w ao len cap vs) (hc : Chg (fun k => k ∈ R) w w') (ha : 0 < len → Apart R ao) : Vals w' ao len cap vs := by
  by_cases hl : 0 < len
  · exact h.keep (ha hl) fun k hk hkR => hc.block k hk hkR
  · exact ⟨h.len_eq, fun h0 => absurd h0 hl, h.le, h.nil⟩
theorem apart_put {w : World} {ao : Option Addr} {len cap : Nat} {vs : List Value} {R R' : List Nat} (h : Vals w ao len cap vs) (ha : 0 < len → Apart R ao) (hR : ∀ k ∈ R', k ∈ R ∨ w.heap.size ≤ k) : 0 < len → Apart R' ao := by
  intro hl a e hk
  rcases hR _ hk with h1 | h1
  · exact ha hl a e h1
  · obtain ⟨a', e', hlt⟩ := h.lt hl
    rw [e] at e'; cases e'; omega
theorem putL_back (l : List Bool) (k : Nat) (hk : k < l.length) (b : Bool) : putL (putL l k b) k (bg l k) = l := by
  rw [putL_in (l := putL l k b) (by rw [putL_length]; exact hk), putL_in hk, List.set_set]
  apply List.ext_getElem?
  intro i
  by_cases e : k = i
  · subst e
    rw [List.getElem?_set_self hk, bg, List.getD_eq_getElem?_getD, List.getElem?_eq_getElem hk]; rfl
  · rw [List.getElem?_set_ne e]
theorem hasL_put (l : List Bool) (k : Nat) (hk : k < l.length) (b : Bool) : hasL (putL l k b) k = b := by
  rw [hasL_in (by rw [putL_length]; exact hk), putL_get l k b k hk, if_pos rfl]
/-- the first c are turned, the others aren't of it -/
def tn (l : List Bool) (c : Nat) : List Bool := (List.range l.length).map fun j => if j < c then !bg l j else false
theorem tn_length (l : List Bool) (c : Nat) : (tn l c).length = l.length := by simp [tn]
theorem tn_get (l : List Bool) (c j : Nat) (hj : j < l.length) : bg (tn l c) j = if j < c then !bg l j else false := by
  rw [bg, List.getD_eq_getElem?_getD, tn, List.getElem?_map, List.getElem?_range hj]; rfl
theorem bg_ext {l m : List Bool} (h : l.length = m.length) (hb : ∀ j, j < l.length → bg l j = bg m j) : l = m := by
  apply List.ext_getElem h
  intro i h1 h2
  have := hb i h1
  rw [bg, bg, List.getD_eq_getElem?_getD, List.getD_eq_getElem?_getD, List.getElem?_eq_getElem h1, List.getElem?_eq_getElem h2] at this
  simpa using this
theorem tn_start (l : List Bool) : tn l 0 = List.replicate l.length false := by
  refine bg_ext (by rw [tn_length]; simp) fun j hj => ?_
  rw [tn_length] at hj
  rw [tn_get l 0 j hj, if_neg (by omega), bg, List.getD_eq_getElem?_getD, List.getElem?_replicate, if_pos hj]; rfl
theorem tn_put (l : List Bool) (c : Nat) (hc : c < l.length) : putL (tn l c) c (!bg l c) = tn l (c + 1) := by
  refine bg_ext (by rw [putL_length, tn_length, tn_length]) fun j hj => ?_
  rw [putL_length, tn_length] at hj
  rw [putL_get _ _ _ _ (by rw [tn_length]; exact hj), tn_get l (c + 1) j hj, tn_get l c j hj]
  by_cases e : j = c
  · subst e; rw [if_pos rfl, if_pos (by omega)]
  · rw [if_neg (by omega)]
    by_cases e2 : j < c
    · rw [if_pos e2, if_pos (by omega)]
    · rw [if_neg e2, if_neg (by omega)]
theorem tn_next (l : List Bool) (f : Int) : nextO (tn l l.length) f false = nextO l f true := by
  cases h : nextO l f true with
  | none =>
    have h4 := next_isn h
    refine next_none fun j hj hf => ?_
    rw [tn_length] at hj
    rw [tn_get l _ j hj, if_pos hj]
    have := h4 j hj hf
    cases hb : bg l j with
    | true => exact absurd hb this
    | false => decide
  | some i =>
    obtain ⟨h1, h2, h3, h4⟩ := next_is h
    refine next_some (by rw [tn_length]; exact h1) h2 (by rw [tn_get l _ i h1, if_pos h1, h3]; rfl) fun j hj hf => ?_
    rw [tn_get l _ j (by omega), if_pos (by omega)]
    have := h4 j hj hf
    cases hb : bg l j with
    | true => exact absurd hb this
    | false => decide
theorem tn_nexts (l : List Bool) (f : Int) : nextN (tn l l.length) f false = nextN l f true ∧ nextB (tn l l.length) f false = nextB l f true := by
  rw [nextN, nextB, tn_next, nextN, nextB]; exact ⟨rfl, rfl⟩
theorem tn_cnt (l : List Bool) : cntL l + cntL (tn l l.length) = l.length := by
  have key : ∀ j, j ≤ l.length → cntK (tn l l.length) true j = cntK l false j := by
    intro j
    induction j with
    | zero => intro _; rfl
    | succ j ih =>
      intro hj
      rw [cntK, cntK, ih (by omega), tn_get l _ j (by omega), if_pos (show j < l.length by omega)]
      cases bg l j <;> simp
  have h1 := key l.length (Nat.le_refl _)
  have h2 := cntK_both l l.length
  rw [← cntK_cnt l, ← cntK_cnt (tn l l.length), tn_length, h1]; exact h2
/-- a drawn region whose last operation alone writes: c tells whether it was, b whether the one ahead of it was -/
structure Mid (W : World) (Q : World → Prop) (b c : Bool) (w : World) : Prop where
  no : c = false → Below W.heap.size W w
  yes : c = true → Q w
  cl : c = true → b = true
theorem Mid.start (W : World) (Q : World → Prop) : Mid W Q false false W.drew := ⟨fun _ => (Below.refl _ _).drew, (fun h => by cases h), (fun h => by cases h)⟩
theorem Mid.ahead {W : World} {Q : World → Prop} {b c : Bool} {w : World} (h : Mid W Q b c w) (hb : b = false) : c = false := by
  cases c with
  | false => rfl
  | true => have := h.cl rfl; rw [hb] at this; cases this
end Go.Proofs.YtkflccecdjfkiaaDoor.Bit
