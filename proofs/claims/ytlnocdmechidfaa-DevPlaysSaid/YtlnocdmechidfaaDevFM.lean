/- Layer 3 (dev): plain mathematics of the law DevFaults. -/
import Derived.Test.YtlnocdmechidfaaDevW
import Derived.Test.YtlnocdmechidfaaDevS
namespace Go.Proofs.Ytlnocdmechidfaa.Dev
open Go Go.RowKit Go.Proofs.Ytlnocdmechidfaa
set_option linter.unusedVariables false

theorem mixB_whole (t m : ByteArray) (k : Nat) (ht : t.size = k) (hm : m.size = k) : mixB t m k = t := by
  unfold mixB
  rw [hm]
  have e1 : t.extract 0 k = t := by rw [← ht]; exact ByteArray.extract_zero_size
  have e2 : m.extract k k = ByteArray.empty := by
    rw [ByteArray.extract_eq_empty_iff]; omega
  rw [e1, e2]; simp
def mk9 (S : List (ByteArray × Bool)) (c : List (Nat × ByteArray)) (lose stray : Nat) (tg nr nw nf : Int) : Dv :=
  { size := 128, secs := S, cache := c, dead := false, off := false, fuse := 0, lose := lose, stray := stray, tgt := tg, nr := nr, nw := nw, nf := nf }
section
variable {S : List (ByteArray × Bool)} {c : List (Nat × ByteArray)} {tg nr nw nf : Int} {lo st : Nat}
theorem mk9_has (hS : S.length = 9) (i : Nat) (hi : i < 9) : hasB (mk9 S c lo st tg nr nw nf) (i : Nat) = true := by
  apply hasB_nat; show i < S.length; omega
theorem mk9_bad (i : Nat) (x : ByteArray × Bool) (h : S[i]? = some x) : badB (mk9 S c lo st tg nr nw nf) (i : Nat) = x.2 := by
  unfold badB; rw [Int.toNat_natCast]; show (Option.map _ S[i]?).getD false = _; rw [h]; rfl
theorem mk9_lost (hS : S.length = 9) (l : Nat) (hl : l < 9) (x s : ByteArray) (hx : S[l]? = some (x, false)) (hs : s.size = 128) :
    (mk9 S [] 1 0 tg nr nw nf).writeE (l : Nat) s = 0 ∧ (mk9 S [] 1 0 tg nr nw nf).writeD (l : Nat) s = mk9 S [] 0 0 tg nr (bump nw) nf := by
  have h1 : hasB (mk9 S [] 1 0 tg nr nw nf) (l : Nat) = true := mk9_has hS l hl
  have h2 : badB (mk9 S [] 1 0 tg nr nw nf) (l : Nat) = false := mk9_bad l _ hx
  have hz : s.size = (mk9 S [] 1 0 tg nr nw nf).size := hs
  constructor
  · unfold Dv.writeE
    rw [h1, h2, if_neg (by simp [refuse, mk9]), if_neg (by simp), if_neg (by simp [hz]), if_neg (by simp [mk9, stk]), if_neg (by simp)]
  · unfold Dv.writeD
    rw [h1, h2, if_neg (by simp [refuse, mk9, hs]), if_neg (by simp [mk9, stk]), if_neg (by simp [goes, mk9, Dv.blow, Dv.counted, stk])]
    rfl
theorem mk9_stray (hS : S.length = 9) (l t : Nat) (hl : l < 9) (ht : t < 9) (x y s : ByteArray) (hx : S[l]? = some (x, false)) (hy : S[t]? = some (y, false)) (hs : s.size = 128) :
    (mk9 S [] 0 1 (t : Nat) nr nw nf).writeE (l : Nat) s = 0 ∧ (mk9 S [] 0 1 (t : Nat) nr nw nf).writeD (l : Nat) s = mk9 S [(t, s)] 0 0 (t : Nat) nr (bump nw) nf := by
  have h1 : hasB (mk9 S [] 0 1 (t : Nat) nr nw nf) (l : Nat) = true := mk9_has hS l hl
  have h2 : badB (mk9 S [] 0 1 (t : Nat) nr nw nf) (l : Nat) = false := mk9_bad l _ hx
  have h3 : hasB (mk9 S [] 0 1 (t : Nat) nr (bump nw) nf) (t : Nat) = true := mk9_has hS t ht
  have h4 : badB (mk9 S [] 0 1 (t : Nat) nr (bump nw) nf) (t : Nat) = false := mk9_bad t _ hy
  have hz : s.size = (mk9 S [] 0 1 (t : Nat) nr nw nf).size := hs
  have hb : (mk9 S [] 0 1 (t : Nat) nr nw nf).blow.counted = mk9 S [] 0 1 (t : Nat) nr (bump nw) nf := rfl
  have hd : dest (mk9 S [] 0 1 (t : Nat) nr (bump nw) nf) (l : Nat) = (t : Nat) := by unfold dest; rw [if_pos (by simp [mk9, stk])]; rfl
  have hg : goes (mk9 S [] 0 1 (t : Nat) nr (bump nw) nf) (l : Nat) = true := by unfold goes; rw [hd, h3, h4]; simp [mk9, stk]
  constructor
  · unfold Dv.writeE
    rw [h1, h2, if_neg (by simp [refuse, mk9]), if_neg (by simp), if_neg (by simp [hz]), if_neg (by simp [mk9, stk]), if_neg (by simp)]
  · unfold Dv.writeD
    rw [h1, h2, if_neg (by simp [refuse, mk9, hs]), if_neg (by simp [mk9, stk]), hb, hg, if_pos rfl, hd]
    rfl
theorem mk9_read (hS : S.length = 9) (i : Nat) (hi : i < 9) (x : ByteArray) (hx : S[i]? = some (x, false)) :
    (mk9 S c lo st tg nr nw nf).readE (i : Nat) = 0 ∧ (mk9 S c lo st tg nr nw nf).readT (i : Nat) = (mk9 S c lo st tg nr nw nf).reads i ∧ (mk9 S c lo st tg nr nw nf).readD (i : Nat) = mk9 S c lo st tg (bump nr) nw nf := by
  have h1 : hasB (mk9 S c lo st tg nr nw nf) (i : Nat) = true := mk9_has hS i hi
  have h2 : badB (mk9 S c lo st tg nr nw nf) (i : Nat) = false := mk9_bad i _ hx
  have e : (mk9 S c lo st tg nr nw nf).readE (i : Nat) = 0 := by
    unfold Dv.readE; rw [h1, h2, if_neg (by simp [refuse, mk9]), if_neg (by simp), if_neg (by simp)]
  refine ⟨e, ?_, ?_⟩
  · unfold Dv.readT; rw [e, Int.toNat_natCast]; rfl
  · unfold Dv.readD; rw [e]; rfl
theorem mk9_reads_none (i : Nat) (x : ByteArray) (hx : S[i]? = some (x, false)) (hc : ∀ y ∈ c, y.1 ≠ i) : (mk9 S c lo st tg nr nw nf).reads i = x := by
  unfold Dv.reads
  have : (mk9 S c lo st tg nr nw nf).cache.reverse.find? (fun x => x.1 == i) = none := by
    rw [List.find?_eq_none]; intro y hy; simpa using hc y (List.mem_reverse.1 hy)
  rw [this]
  show (Option.map _ S[i]?).getD _ = _
  rw [hx]; rfl
theorem mk9_reads_one (i : Nat) (s : ByteArray) : (mk9 S [(i, s)] lo st tg nr nw nf).reads i = s := by
  unfold Dv.reads mk9; simp
end

/-- the sectors, one written, another one bad -/
def secs9 (b l : Nat) (x : ByteArray) : List (ByteArray × Bool) := ((List.replicate 9 (noughts 128, false)).set l (x, false)).set b (noughts 128, true)
theorem secs9_len (b l : Nat) (x : ByteArray) : (secs9 b l x).length = 9 := by simp [secs9]
theorem secs9_l (b l : Nat) (x : ByteArray) (hl : l < 9) (h : b ≠ l) : (secs9 b l x)[l]? = some (x, false) := by
  unfold secs9; rw [List.getElem?_set_ne h, List.getElem?_set_self (by simpa using hl)]
theorem secs9_t (b l t : Nat) (x : ByteArray) (ht : t < 9) (h1 : b ≠ t) (h2 : l ≠ t) : (secs9 b l x)[t]? = some (noughts 128, false) := by
  unfold secs9; rw [List.getElem?_set_ne h1, List.getElem?_set_ne h2, List.getElem?_replicate]; simp [ht]
theorem secs9_b (b l : Nat) (x : ByteArray) (hb : b < 9) : (secs9 b l x)[b]? = some (noughts 128, true) := by
  unfold secs9; rw [List.getElem?_set_self (by simpa using hb)]
theorem rep_lt (l : Nat) (hl : l < 9) (z : ByteArray × Bool) : l < (List.replicate 9 z).length := by rw [List.length_replicate]; exact hl
theorem rep_set_lt (b l : Nat) (hb : b < 9) (z y : ByteArray × Bool) : b < ((List.replicate 9 z).set l y).length := by rw [List.length_set, List.length_replicate]; exact hb
theorem fresh_mk9 : Dv.fresh 9 128 = mk9 (List.replicate 9 (noughts 128, false)) [] 0 0 0 0 0 0 := rfl
theorem first_write (l : Nat) (hl : l < 9) (x : ByteArray) (hx : x.size = 128) : (Dv.fresh 9 128).writeD (l : Nat) x = mk9 (List.replicate 9 (noughts 128, false)) [(l, x)] 0 0 0 0 (bump 0) 0 := by
  rw [(fresh_plain 9 128).writeD l x (rep_lt l hl _) hx]
  unfold Dv.push; rw [Int.toNat_natCast]; rfl
theorem first_flush (l : Nat) (hl : l < 9) (x : ByteArray) (hx : x.size = 128) :
    (mk9 (List.replicate 9 (noughts 128, false)) [(l, x)] 0 0 0 0 (bump 0) 0).flushD = mk9 ((List.replicate 9 (noughts 128, false)).set l (x, false)) [] 0 0 0 0 (bump 0) (bump 0) := by
  have hp : (mk9 (List.replicate 9 (noughts 128, false)) [(l, x)] 0 0 0 0 (bump 0) 0).Plain := ⟨rfl, rfl, rfl, rfl, rfl, fun y hy => by rw [(List.mem_replicate.1 hy).2]⟩
  rw [hp.flushD]
  have hw : whole (mk9 (List.replicate 9 (noughts 128, false)) [(l, x)] 0 0 0 0 (bump 0) 0) = [((l, x), 128)] := rfl
  rw [hw]
  show ((mk9 (List.replicate 9 (noughts 128, false)) [(l, x)] 0 0 0 0 (bump 0) (bump 0)).put l x 128).emptied = _
  rw [Dv.put_eq (mk9 (List.replicate 9 (noughts 128, false)) [(l, x)] 0 0 0 0 (bump 0) (bump 0)) l x 128 (rep_lt l hl (noughts 128, false))]
  have e : ((mk9 (List.replicate 9 (noughts 128, false)) [(l, x)] 0 0 0 0 (bump 0) (bump 0)).secs[l]'(rep_lt l hl _)) = (noughts 128, false) := List.getElem_replicate _
  rw [e]
  simp only [mixB_whole x (noughts 128) 128 hx (noughts_size 128)]
  rfl
theorem first_stick (b l : Nat) (hb : b < 9) (x : ByteArray) (h : b ≠ l) :
    (mk9 ((List.replicate 9 (noughts 128, false)).set l (x, false)) [] 0 0 0 0 (bump 0) (bump 0)).stickD (b : Nat) = mk9 (secs9 b l x) [] 0 0 0 0 (bump 0) (bump 0) := by
  unfold Dv.stickD
  rw [mk9_has (by simp) b hb, if_pos rfl, Int.toNat_natCast, Dv.spoiled_eq (mk9 ((List.replicate 9 (noughts 128, false)).set l (x, false)) [] 0 0 0 0 (bump 0) (bump 0)) b (rep_set_lt b l hb (noughts 128, false) (x, false))]
  have e : ((mk9 ((List.replicate 9 (noughts 128, false)).set l (x, false)) [] 0 0 0 0 (bump 0) (bump 0)).secs[b]'(rep_set_lt b l hb _ _)).1 = noughts 128 := by
    show (((List.replicate 9 (noughts 128, false)).set l (x, false))[b]'(by simpa using hb)).1 = _
    rw [List.getElem_set_ne (fun e => h e.symm), List.getElem_replicate]
  rw [e]
  rfl

/-! ### a bad sector stays so -/
structure Stuck (b : Nat) (D : Dv) : Prop where
  dead : D.dead = false
  off : D.off = false
  fuse : D.fuse = 0
  n : D.n = 9
  size : D.size = 128
  bad : badB D (b : Nat) = true
  few : D.cache.length ≤ 1
theorem put_bad (D : Dv) (i : Nat) (t : ByteArray) (k : Nat) (j : Int) : badB (D.put i t k) j = badB D j := by
  unfold badB Dv.put
  split
  · rename_i s hs
    simp only
    by_cases e : i = j.toNat
    · subst e
      rw [List.getElem?_set_self (List.getElem?_eq_some_iff.1 hs).1, hs]; rfl
    · rw [List.getElem?_set_ne e]
  · rfl
theorem puts_bad (l : List ((Nat × ByteArray) × Nat)) (j : Int) : ∀ D : Dv, badB (D.puts l) j = badB D j := by
  induction l with
  | nil => intro D; rfl
  | cons x l ih => intro D; show badB (Dv.puts _ l) j = _; rw [ih, put_bad]
theorem put_flags (D : Dv) (i : Nat) (t : ByteArray) (k : Nat) : (D.put i t k).dead = D.dead ∧ (D.put i t k).off = D.off ∧ (D.put i t k).fuse = D.fuse := by
  unfold Dv.put; split <;> exact ⟨rfl, rfl, rfl⟩
theorem puts_flags (l : List ((Nat × ByteArray) × Nat)) : ∀ D : Dv, (D.puts l).dead = D.dead ∧ (D.puts l).off = D.off ∧ (D.puts l).fuse = D.fuse := by
  induction l with
  | nil => intro D; exact ⟨rfl, rfl, rfl⟩
  | cons x l ih => intro D; obtain ⟨a, b, c⟩ := ih (D.put x.1.1 x.1.2 x.2); obtain ⟨a', b', c'⟩ := put_flags D x.1.1 x.1.2 x.2; exact ⟨a.trans a', b.trans b', c.trans c'⟩
section
variable {b : Nat} {D : Dv}
theorem Stuck.refuse (h : Stuck b D) : refuse D = 0 := by unfold Dev.refuse; rw [h.off, h.dead]; rfl
theorem Stuck.stk (h : Stuck b D) : stk D.fuse = false := by rw [h.fuse]; rfl
theorem Stuck.blow (h : Stuck b D) : D.blow = D := by
  obtain ⟨size, secs, cache, dead, off, fuse, lose, stray, tgt, nr, nw, nf⟩ := D
  have h1 := h.off; have h2 := h.fuse
  simp only at h1 h2
  subst h1; subst h2
  rfl
theorem Stuck.has (h : Stuck b D) (hb : b < 9) : hasB D (b : Nat) = true := hasB_nat D b (by rw [h.n]; exact hb)
theorem Stuck.read (h : Stuck b D) (hb : b < 9) : D.readE (b : Nat) = 7 ∧ D.readD (b : Nat) = D := by
  have e : D.readE (b : Nat) = 7 := by unfold Dv.readE; rw [h.refuse, h.has hb, h.bad]; rfl
  exact ⟨e, by unfold Dv.readD; rw [e]; rfl⟩
theorem Stuck.write (h : Stuck b D) (hb : b < 9) (s : ByteArray) (hs : s.size = 128) : D.writeE (b : Nat) s = 7 ∧ D.writeD (b : Nat) s = D := by
  have hz : s.size = D.size := by rw [h.size, hs]
  constructor
  · unfold Dv.writeE; rw [h.refuse, h.has hb, h.bad, h.stk]; simp [hz]
  · unfold Dv.writeD; rw [h.refuse, h.has hb, h.bad, h.blow]; simp [hz]
theorem Stuck.flush (h : Stuck b D) : Stuck b D.flushD := by
  have e : D.flushD = (D.flushed.puts (whole D)).emptied := by unfold Dv.flushD; rw [h.refuse, h.stk, h.blow]; rfl
  rw [e]
  obtain ⟨f1, f2, f3⟩ := puts_flags (whole D) D.flushed
  exact ⟨f1.trans h.dead, f2.trans h.off, f3.trans h.fuse, (Dv.puts_n _ _).trans h.n, (Dv.puts_size _ _).trans h.size, (puts_bad _ _ _).trans h.bad, Nat.zero_le _⟩
theorem Stuck.crash (h : Stuck b D) (fs : List Int) : Stuck b (D.crashD fs) := by
  obtain ⟨f1, f2, f3⟩ := puts_flags (fated D fs) D
  exact ⟨f1.trans h.dead, rfl, rfl, (Dv.puts_n _ _).trans h.n, (Dv.puts_size _ _).trans h.size, (puts_bad _ _ _).trans h.bad, Nat.zero_le _⟩
/-- gone -/
theorem Stuck.gone (h : Stuck b D) (i : Int) (s : ByteArray) : (({ D with dead := true } : Dv).crashD []).readE i = 8 ∧ (({ D with dead := true } : Dv).crashD []).readD i = ({ D with dead := true } : Dv).crashD [] ∧
    (({ D with dead := true } : Dv).crashD []).writeE i s = 8 ∧ (({ D with dead := true } : Dv).crashD []).writeD i s = ({ D with dead := true } : Dv).crashD [] ∧ (({ D with dead := true } : Dv).crashD []).dead = true ∧ (({ D with dead := true } : Dv).crashD []).cache = [] := by
  have hr : Dev.refuse (({ D with dead := true } : Dv).crashD []) = 8 := by
    unfold Dev.refuse Dv.crashD fated
    simp [Dv.puts, Dv.calm, Dv.emptied]
  have e : (({ D with dead := true } : Dv).crashD []).readE i = 8 := by unfold Dv.readE; rw [hr, if_pos (by decide)]
  refine ⟨e, by unfold Dv.readD; rw [e]; rfl, by unfold Dv.writeE; rw [hr, if_pos (by decide)], by unfold Dv.writeD; rw [if_pos (.inl (by rw [hr]; decide))], ?_, rfl⟩
  unfold Dv.crashD fated; simp [Dv.puts, Dv.calm, Dv.emptied]
end
theorem stuck9 (b l t : Nat) (x s : ByteArray) (hb : b < 9) (tg nr nw nf : Int) : Stuck b (mk9 (secs9 b l x) [(t, s)] 0 0 tg nr nw nf) :=
  ⟨rfl, rfl, rfl, secs9_len _ _ _, rfl, mk9_bad b _ (secs9_b b l x hb), Nat.le_refl _⟩
end Go.Proofs.Ytlnocdmechidfaa.Dev
