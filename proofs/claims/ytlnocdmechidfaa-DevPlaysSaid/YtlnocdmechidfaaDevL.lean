/- Layer 3: a device that stands beside other blocks; and what DevLasts needs, as plain data. -/
import Derived.Test.YtlnocdmechidfaaDevO
import Derived.Test.YtlnocdmechidfaaDevF
import Derived.Test.YtlnocdmechidfaaDevFM
import Derived.Maps.Views
import Derived.Maps.OwnSet
namespace Go.Proofs.Ytlnocdmechidfaa.Dev
open Go Go.RowKit Go.Proofs.Ytlnocdmechidfaa Go.Maps
set_option linter.unusedVariables false

/-! ### a device beside the blocks X -/
/-- the device D is at p, all that it has lies from w0's end on, and none of it in X; X lies there, too; below it nothing is another one -/
def OwnX (w0 : World) (p : Nat) (X : List Nat) (D : Dv) (w : World) : Prop := ∃ sb cv, DevAt w p sb cv D ∧ (∀ k, foot p sb cv k → w0.heap.size ≤ k ∧ k ∉ X) ∧ (∀ k ∈ X, w0.heap.size ≤ k ∧ k < w.heap.size) ∧ Below w0.heap.size w0 w
def Same (X : List Nat) (w w' : World) : Prop := ∀ k ∈ X, w'.heap[k]? = w.heap[k]?
section
variable {w0 w wc w' : World} {p : Nat} {X Y : List Nat} {D D' : Dv}
theorem OwnX.of_own (h : Own9 w0 p D w) : OwnX w0 p [] D w := by
  obtain ⟨sb, cv, hd, hf, hb⟩ := h
  exact ⟨sb, cv, hd, fun k hk => ⟨hf k hk, by simp⟩, fun k hk => by simp at hk, hb⟩
theorem OwnX.below (h : OwnX w0 p X D w) : Below w0.heap.size w0 w := by obtain ⟨_, _, _, _, _, hb⟩ := h; exact hb
theorem OwnX.ok (h : OwnX w0 p X D w) : D.Ok := by obtain ⟨_, _, hd, _⟩ := h; exact hd.ok
theorem OwnX.lt (h : OwnX w0 p X D w) {k : Nat} (hk : k ∈ X) : k < w.heap.size := by obtain ⟨_, _, _, _, hx, _⟩ := h; exact (hx k hk).2
theorem OwnX.sub (h : OwnX w0 p X D w) (hY : ∀ k ∈ Y, k ∈ X) : OwnX w0 p Y D w := by
  obtain ⟨sb, cv, hd, hf, hx, hb⟩ := h
  exact ⟨sb, cv, hd, fun k hk => ⟨(hf k hk).1, fun e => (hf k hk).2 (hY k e)⟩, fun k hk => hx k (hY k hk), hb⟩
theorem OwnX.new (h : OwnX w0 p X D w) (o : Obj) : OwnX w0 p (w.heap.size :: X) D (w.alloc o) := by
  obtain ⟨sb, cv, hd, hf, hx, hb⟩ := h
  refine ⟨sb, cv, hd.alloc o, fun k hk => ⟨(hf k hk).1, ?_⟩, fun k hk => ?_, hb.alloc hb.size o⟩
  · intro h
    rcases List.mem_cons.1 h with rfl | h
    · exact absurd (hd.lt _ hk) (Nat.lt_irrefl _)
    · exact (hf k hk).2 h
  · rcases List.mem_cons.1 hk with rfl | h
    · exact ⟨hb.size, by simp⟩
    · have := hx k h
      simp; omega
theorem OwnX.chg (h : OwnX w0 p X D w) (hc : Chg (fun k => k ∈ X) w w') : OwnX w0 p X D w' := by
  obtain ⟨sb, cv, hd, hf, hx, hb⟩ := h
  exact ⟨sb, cv, hd.chg hc fun k hk => (hf k hk).2, hf, fun k hk => ⟨(hx k hk).1, Nat.lt_of_lt_of_le (hx k hk).2 hc.size⟩, hb.trans (hc.below hb.size fun k hk => (hx k hk).1)⟩
theorem OwnX.drewN (h : OwnX w0 p X D w) (n : Nat) : OwnX w0 p X D (w.drewN n) := h.chg ((Chg.refl _ _).drewN n)
theorem OwnX.later (h : OwnX w0 p X D w) (hb : Below w.heap.size w w') : OwnX w0 p X D w' := h.chg (Chg.of_below hb (Nat.le_refl _))
theorem Same.of_below (hX : ∀ k ∈ X, k < w.heap.size) (hb : Below w.heap.size w w') : Same X w w' := fun k hk => hb.block k (hX k hk)
theorem OwnX.now {sb : Nat} {cv : Value} (hd : DevAt w p sb cv D) (hf : ∀ k, foot p sb cv k → w0.heap.size ≤ k ∧ k ∉ X) (hx : ∀ k ∈ X, w0.heap.size ≤ k ∧ k < w.heap.size) (hb : Below w0.heap.size w0 w) (hn : Now p sb cv w D' w') : OwnX w0 p X D' w' ∧ Same X w w' := by
  obtain ⟨cv', hc, hd', hf'⟩ := hn
  refine ⟨⟨sb, cv', hd', fun k hk => ?_, fun k hk => ⟨(hx k hk).1, Nat.lt_of_lt_of_le (hx k hk).2 hc.size⟩, hb.trans (hc.below hb.size fun k hk => (hf k hk).1)⟩, fun k hk => hc.block k (hx k hk).2 fun e => (hf k e).2 hk⟩
  rcases hf' k hk with h | h
  · exact hf k h
  · exact ⟨Nat.le_trans hb.size h, fun hk' => by have := (hx k hk').2; omega⟩
theorem write_x (i : Int) (s : ByteArray) (h : OwnX w0 p X D w) (hl : D.cache.length ≤ 1000000000) (hsm : s.size ≤ 1000000000) :
    Calls Try.prog 7 #[.pointer (some ⟨p, 0, none⟩), .int .i64 i, .string s] w fun e w' => e = .returned (.int .i64 (D.writeE i s)) ∧ OwnX w0 p X (D.writeD i s) w' ∧ Same X w w' := by
  obtain ⟨sb, cv, hd, hf, hx, hb⟩ := h
  exact (write_any i s w hd hl hsm).mono fun e w' ⟨he, hn⟩ => ⟨he, OwnX.now hd hf hx hb hn⟩
theorem read_x (i : Int) (h : OwnX w0 p X D w) (hl : D.cache.length ≤ 1000000000) :
    Calls Try.prog 12 #[.pointer (some ⟨p, 0, none⟩), .int .i64 i] w fun e w' => e = .returned (.tuple #[.string (D.readT i), .int .i64 (D.readE i)]) ∧ OwnX w0 p X (D.readD i) w' ∧ Same X w w' := by
  obtain ⟨sb, cv, hd, hf, hx, hb⟩ := h
  exact (read_any i w hd (by omega)).mono fun e w' ⟨he, hc, hd'⟩ => ⟨he, OwnX.now hd hf hx hb (.same hc hd')⟩
theorem flush_x (h : OwnX w0 p X D w) (hl : D.cache.length ≤ 1000000000) :
    Calls Try.prog 10 #[.pointer (some ⟨p, 0, none⟩)] w fun e w' => e = .returned (.int .i64 D.flushE) ∧ OwnX w0 p X D.flushD w' ∧ Same X w w' := by
  obtain ⟨sb, cv, hd, hf, hx, hb⟩ := h
  exact (flush_any w hd hl).mono fun e w' ⟨he, hn⟩ => ⟨he, OwnX.now hd hf hx hb hn⟩
theorem media_x (i : Int) (h : OwnX w0 p X D w) :
    Calls Try.prog 26 #[.pointer (some ⟨p, 0, none⟩), .int .i64 i] w fun e w' => e = .returned (.string (mediaN D i)) ∧ w = w' := by
  obtain ⟨sb, cv, hd, hf, hx, hb⟩ := h
  exact media_any i w hd
theorem crash_x (v : Value) (n : Nat) (fs : List Int) (h : OwnX w0 p X D wc) (hb2 : Below wc.heap.size wc w) (hrow : w.ownsRow wc.heap.size 84 1 v n (fs.map (Value.int .i64))) (hn : n ≤ 1000000000) (hl : D.cache.length ≤ 1000000000) (hfb : ∀ f ∈ fs, f ≤ 9223372036854775807) :
    Calls Try.prog 21 #[.pointer (some ⟨p, 0, none⟩), v] w fun e w' => e = .returned (.tuple #[]) ∧ OwnX w0 p X (D.crashD fs) w' ∧ Same X wc w' := by
  have hx2 : ∀ k ∈ X, k < wc.heap.size := fun k hk => h.lt hk
  have h' := h.later hb2
  obtain ⟨sb0, cv0, hd0, hf0, hx0, hb0⟩ := h
  have hd := hd0.below hb2 (Nat.le_refl _)
  have hx : ∀ k ∈ X, w0.heap.size ≤ k ∧ k < w.heap.size := fun k hk => ⟨(hx0 k hk).1, Nat.lt_of_lt_of_le (hx0 k hk).2 hb2.size⟩
  have hb : Below w0.heap.size w0 w := hb0.trans (hb2.mono hb0.size)
  have hlen : fs.length = n := by have := hrow.1; simpa using this
  have fin : ∀ e w', e = Ending.returned (.tuple #[]) ∧ Now p sb0 cv0 w (D.crashD fs) w' → e = .returned (.tuple #[]) ∧ OwnX w0 p X (D.crashD fs) w' ∧ Same X wc w' := by
    rintro e w' ⟨he, hn⟩
    obtain ⟨r1, r2⟩ := OwnX.now hd hf0 hx hb hn
    exact ⟨he, r1, fun k hk => (r2 k hk).trans (hb2.block k (hx2 k hk))⟩
  rcases hrow.2 with ⟨rfl, h0⟩ | ⟨g, cap, cur, rfl, hg, _⟩
  · subst h0
    obtain rfl : fs = [] := List.length_eq_zero_iff.1 hlen
    exact (crash_any none 0 0 [] w hd hl (by omega) ⟨rfl, fun h => by omega⟩ (fun a e => by cases e) (fun f hf => by cases hf)).mono fin
  · refine (crash_any (some ⟨g, 0, none⟩) n cap fs w hd hl hn ⟨hlen, fun _ => ⟨_, _, rfl, fun i hi => ?_⟩⟩ (fun a e => by cases e; exact fun hk => by have := hd0.lt _ hk; simp only at this; omega) hfb).mono fin
    rw [show (⟨g, 0 + i, none⟩ : Addr) = ⟨g, i, none⟩ by rw [Nat.zero_add], hrow.cellAt i (by omega), List.getElem?_map, List.getElem?_eq_getElem (by omega), List.getD_eq_getElem?_getD, List.getElem?_eq_getElem (by omega)]; rfl
end

/-! ### the map -/
theorem zero_bool (w : World) : (zeroValue 4).run Try.prog w = .ok (.bool false) w := by kernel_rfl
theorem owns_map_same {w w' : World} {P : Program} {k : TypeId} {R : Value → Option (DataW Unit × List MemPlace)} {b n : Nat} {D : DataW Unit} (h : w.ownsMap P k R b n D) (hk : w'.heap[b]? = w.heap[b]?) : w'.ownsMap P k R b n D := by
  obtain ⟨es, clock, hb, F, hs, hD⟩ := h
  exact ⟨es, clock, hk.trans hb, F, hs, hD⟩
theorem plainElem_bool_inv {P : Program} {e : TypeId} (he : P.underlying e = some .bool) {v : Value} {z : DataW Unit × List MemPlace} (h : plainElem P e v = some z) : ∃ x, v = .bool x ∧ z = (.lit (.bool x), []) := by
  unfold plainElem at h
  rw [he] at h
  cases v <;> simp at h
  subst h
  exact ⟨_, rfl, rfl⟩
/-- 'm[k]' at bools -/
theorem lookup_bool {P : Program} {w : World} {t k e : TypeId} {b n : Nat} {D : DataW Unit} (h : w.ownsMap P k (plainElem P e) b n D) (K : Keyed P k) (ht : P.underlying t = some (.map k e)) (he : P.underlying e = some .bool) (hz : (zeroValue e).run P w = .ok (.bool false) w)
    {key : Value} {kl : Lit} (hkey : keyOf P k key = some kl) : ∃ c : Bool, (Instr.lookup t (.map (some b)) key false).run P w = .ok (.bool c) w ∧ D.atKey kl (.lit (.bool false)) = .lit (.bool c) := by
  obtain ⟨v, ps, hrun, hv⟩ := h.lookup K ht hz (plainElem_bool he false) hkey
  obtain ⟨c, rfl, hc⟩ := plainElem_bool_inv he hv
  simp only [Prod.mk.injEq] at hc
  exact ⟨c, hrun, hc.1⟩
/-- each sector in the cache has its mark -/
def Mark (M : DataW Unit) (D : Dv) : Prop := IsMap M ∧ ∀ x ∈ D.cache, M.atKey (.int .i64 (x.1 : Nat)) (.lit (.bool false)) = .lit (.bool true)
theorem Mark.push {M : DataW Unit} {D : Dv} (h : Mark M D) (i : Nat) (s : ByteArray) : Mark (M.put (.int .i64 (i : Nat)) (.lit (.bool true))) (D.counted.push (i : Nat) s) := by
  refine ⟨h.1.put _ _, fun x hx => ?_⟩
  by_cases e : x.1 = i
  · rw [e]
    exact atKey_put_same h.1 (show WideAt.IsKeyLit (.int .i64 (i : Nat)) from trivial) _ _
  · rw [atKey_put_other (by intro h; injection h with _ h; omega)]
    rcases List.mem_append.1 hx with hx | hx
    · exact h.2 x hx
    · rw [List.mem_singleton.1 hx] at e
      exact absurd (Int.toNat_natCast i) e

/-! ### media and what is read -/
def mediaG (D : Dv) (i : Nat) : ByteArray := ((D.secs[i]?).map (·.1)).getD ⟨#[]⟩
theorem mediaN_eq (D : Dv) (i : Nat) (hi : i < D.n) : mediaN D (i : Nat) = mediaG D i := by
  unfold mediaN mediaG; rw [hasB_nat D i hi, Int.toNat_natCast]; rfl
theorem mediaG_put_same (D : Dv) (i : Nat) (t : ByteArray) (hi : i < D.n) (ht : t.size = D.size) (hm : ∀ x ∈ D.secs, x.1.size = D.size) : mediaG (D.put i t D.size) i = t := by
  have h := hm _ (List.getElem_mem hi)
  rw [D.put_eq i t _ hi]
  unfold mediaG
  simp only [List.getElem?_set_self hi]
  exact mixB_whole _ _ _ ht h
theorem mediaG_put_ne (D : Dv) (i j : Nat) (t : ByteArray) (k : Nat) (h : j ≠ i) : mediaG (D.put j t k) i = mediaG D i := by
  unfold Dv.put
  split
  · unfold mediaG; simp only [List.getElem?_set_ne h]
  · rfl
theorem put_media (D : Dv) (i : Nat) (t : ByteArray) (ht : t.size = D.size) (hm : ∀ x ∈ D.secs, x.1.size = D.size) : ∀ x ∈ (D.put i t D.size).secs, x.1.size = D.size := by
  unfold Dv.put
  split
  · rename_i s hs
    intro x hx
    rcases List.mem_or_eq_of_mem_set hx with hx | rfl
    · exact hm x hx
    · have h := hm s (List.mem_of_getElem? hs)
      exact (mixB_size _ _ _ (ht.trans h.symm) (by omega)).trans h
  · exact hm
theorem puts_get (i : Nat) : ∀ (l : List (Nat × ByteArray)) (D : Dv), (∀ x ∈ l, x.2.size = D.size) → (∀ x ∈ D.secs, x.1.size = D.size) → i < D.n →
    mediaG (D.puts (l.map fun x => (x, D.size))) i = match l.reverse.find? (fun x => x.1 == i) with | some x => x.2 | none => mediaG D i
  | [], D, _, _, _ => rfl
  | x :: l, D, ht, hm, hi => by
    have hs : (D.put x.1 x.2 D.size).size = D.size := D.put_size _ _ _
    have hx := ht x (by simp)
    have h := puts_get i l (D.put x.1 x.2 D.size) (fun y hy => by rw [hs]; exact ht y (by simp [hy])) (by rw [hs]; exact put_media D _ _ hx hm) (by rw [D.put_n]; exact hi)
    rw [hs] at h
    show mediaG ((D.put x.1 x.2 D.size).puts (l.map fun x => (x, D.size))) i = _
    rw [h, List.reverse_cons, List.find?_append]
    cases l.reverse.find? (fun x => x.1 == i) with
    | some y => rfl
    | none =>
      by_cases e : x.1 = i
      · subst e
        simp only [Option.none_or, List.find?_cons, beq_self_eq_true]
        exact mediaG_put_same D _ _ hi hx hm
      · have : (x.1 == i) = false := by simpa using e
        simp only [Option.none_or, List.find?_cons, this, List.find?_nil]
        exact mediaG_put_ne D i _ _ _ e
theorem puts_keep (i : Nat) : ∀ (l : List ((Nat × ByteArray) × Nat)) (D : Dv), (∀ x ∈ l, x.1.1 ≠ i) → mediaG (D.puts l) i = mediaG D i
  | [], D, _ => rfl
  | x :: l, D, h => by
    show mediaG ((D.put x.1.1 x.1.2 x.2).puts l) i = _
    rw [puts_keep i l _ (fun y hy => h y (by simp [hy])), mediaG_put_ne _ _ _ _ _ (h x (by simp))]
theorem reads_eq (D : Dv) (i : Nat) : D.reads i = match D.cache.reverse.find? (fun x => x.1 == i) with | some x => x.2 | none => mediaG D i := rfl
section
variable {D : Dv}
theorem Dv.Plain.flush_media (h : D.Plain) (ok : D.Ok) (i : Nat) (hi : i < D.n) : mediaG D.flushD i = D.reads i := by
  rw [h.flushD, reads_eq]
  exact puts_get i D.cache D.flushed ok.text ok.media hi
theorem Dv.Plain.flush_cache (h : D.Plain) : D.flushD.cache = [] := by rw [h.flushD]; rfl
theorem Dv.Plain.flush_n (h : D.Plain) : D.flushD.n = D.n := by rw [h.flushD]; exact Dv.puts_n _ _
theorem Dv.Plain.flush_size (h : D.Plain) : D.flushD.size = D.size := by rw [h.flushD]; exact Dv.puts_size _ _
theorem Dv.Plain.flush_reads (h : D.Plain) (ok : D.Ok) (i : Nat) (hi : i < D.n) : D.flushD.reads i = D.reads i := by
  rw [reads_eq, h.flush_cache]
  exact h.flush_media ok i hi
theorem crash_n (D : Dv) (fs : List Int) : (D.crashD fs).n = D.n := Dv.puts_n _ _
theorem crash_cache (D : Dv) (fs : List Int) : (D.crashD fs).cache = [] := rfl
theorem crash_reads (D : Dv) (fs : List Int) (i : Nat) (h : ∀ x ∈ D.cache, x.1 ≠ i) : (D.crashD fs).reads i = mediaG D i := by
  rw [reads_eq, crash_cache]
  refine (puts_keep i (fated D fs) D fun x hx => ?_ : mediaG (D.puts (fated D fs)) i = _)
  obtain ⟨k, hk, rfl⟩ := List.getElem_of_mem hx
  have hk' : k < (List.zipWith (fun (x : Nat × ByteArray) (f : Int) => (x, keptN f D.size)) D.cache fs).length := hk
  show ((List.zipWith (fun (x : Nat × ByteArray) (f : Int) => (x, keptN f D.size)) D.cache fs)[k]'hk').1.1 ≠ i
  rw [List.getElem_zipWith]
  exact h _ (List.getElem_mem _)
end
def listG (f : Nat → ByteArray) : List Value := [.string (f 0), .string (f 1), .string (f 2), .string (f 3), .string (f 4), .string (f 5), .string (f 6), .string (f 7), .string (f 8)]
theorem listG_get (f : Nat → ByteArray) : ∀ i, i < 9 → (listG f)[i]? = some (.string (f i))
  | 0, _ => rfl | 1, _ => rfl | 2, _ => rfl | 3, _ => rfl | 4, _ => rfl | 5, _ => rfl | 6, _ => rfl | 7, _ => rfl | 8, _ => rfl
theorem listG_one (f : Nat → ByteArray) : (listG f).toArray.all (·.oneCell') = true := by simp [listG, Value.oneCell']
theorem listG_congr (f g : Nat → ByteArray) (h : ∀ i, i < 9 → f i = g i) : listG f = listG g := by
  unfold listG
  rw [h 0 (by decide), h 1 (by decide), h 2 (by decide), h 3 (by decide), h 4 (by decide), h 5 (by decide), h 6 (by decide), h 7 (by decide), h 8 (by decide)]
theorem listG_set (f g : Nat → ByteArray) (q : Nat) (hq : q < 9) (s : ByteArray) (h : g q = s) (hn : ∀ i, i ≠ q → g i = f i) : (listG f).set q (.string s) = listG g := by
  subst h
  match q, hq with
  | 0, _ | 1, _ | 2, _ | 3, _ | 4, _ | 5, _ | 6, _ | 7, _ | 8, _ => simp [listG, hn]

/-! ### the state of DevLasts -/
section
variable {w0 w w' : World} {p b7 b10 mb k : Nat} {D D' : Dv}
end
section
variable {w0 w w' : World} {p b7 b10 mb k : Nat} {D D' : Dv} {f : Nat → ByteArray}
end
end Go.Proofs.Ytlnocdmechidfaa.Dev
