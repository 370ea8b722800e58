/- Layer 3 (dev): a device without faults, as plain data. -/
import Derived.Test.YtlnocdmechidfaaDevMathB
namespace Go.Proofs.Ytlnocdmechidfaa.Dev
open Go Go.RowKit Go.Proofs.Ytlnocdmechidfaa

structure Dv.Plain (D : Dv) : Prop where
  dead : D.dead = false
  off : D.off = false
  fuse : D.fuse = 0
  lose : D.lose = 0
  stray : D.stray = 0
  good : ∀ x ∈ D.secs, x.2 = false
section
variable {D : Dv}
theorem Dv.Plain.refuse (h : D.Plain) : refuse D = 0 := by unfold Dev.refuse; rw [h.off, h.dead]; rfl
theorem Dv.Plain.stk_fuse (h : D.Plain) : stk D.fuse = false := by rw [h.fuse]; rfl
theorem Dv.Plain.blow (h : D.Plain) : D.blow = D := by
  obtain ⟨size, secs, cache, dead, off, fuse, lose, stray, tgt, nr, nw, nf⟩ := D
  have h1 := h.off; have h2 := h.fuse
  simp only at h1 h2
  subst h1; subst h2
  rfl
theorem hasB_nat (D : Dv) (i : Nat) (hi : i < D.n) : hasB D (i : Nat) = true := by unfold hasB; simp; omega
theorem Dv.Plain.bad (h : D.Plain) (i : Int) : badB D i = false := by
  unfold badB
  cases hx : D.secs[i.toNat]? with
  | none => rfl
  | some x => exact h.good x (List.mem_of_getElem? hx)
theorem Dv.Plain.writeE (h : D.Plain) (i : Nat) (s : ByteArray) (hi : i < D.n) (hs : s.size = D.size) : D.writeE (i : Nat) s = 0 := by
  unfold Dv.writeE; rw [h.refuse, h.stk_fuse, h.bad, hasB_nat D i hi]; simp [hs]
theorem Dv.Plain.struck (h : D.Plain) : D.struck = D := by
  obtain ⟨size, secs, cache, dead, off, fuse, lose, stray, tgt, nr, nw, nf⟩ := D
  have h1 := h.lose; have h2 := h.stray
  simp only at h1 h2
  subst h1; subst h2
  rfl
theorem Dv.Plain.counted (h : D.Plain) : D.counted.Plain := ⟨h.dead, h.off, h.fuse, h.lose, h.stray, h.good⟩
theorem Dv.Plain.dest (h : D.Plain) (i : Int) : dest D i = i := by unfold Dev.dest; rw [h.stray]; rfl
theorem Dv.Plain.goes (h : D.Plain) (i : Nat) (hi : i < D.n) : goes D (i : Nat) = true := by
  unfold Dev.goes; rw [h.dest, h.bad, h.lose, hasB_nat D i hi]; rfl
theorem Dv.Plain.writeD (h : D.Plain) (i : Nat) (s : ByteArray) (hi : i < D.n) (hs : s.size = D.size) : D.writeD (i : Nat) s = D.counted.push (i : Nat) s := by
  unfold Dv.writeD; rw [h.refuse, h.stk_fuse, h.bad, hasB_nat D i hi, h.blow, h.counted.goes i hi, h.counted.dest, h.counted.struck]; simp [hs]
theorem Dv.Plain.push (h : D.Plain) (i : Int) (s : ByteArray) : (D.push i s).Plain := ⟨h.dead, h.off, h.fuse, h.lose, h.stray, h.good⟩
theorem Dv.Plain.readE (h : D.Plain) (i : Nat) (hi : i < D.n) : D.readE (i : Nat) = 0 := by
  unfold Dv.readE; rw [h.refuse, h.bad, hasB_nat D i hi]; simp
theorem Dv.Plain.readT (h : D.Plain) (i : Nat) (hi : i < D.n) : D.readT (i : Nat) = D.reads i := by
  unfold Dv.readT; rw [h.readE i hi, Int.toNat_natCast]; rfl
theorem Dv.Plain.readD (h : D.Plain) (i : Nat) (hi : i < D.n) : D.readD (i : Nat) = { D with nr := bump D.nr } := by
  unfold Dv.readD; rw [h.readE i hi]; rfl
theorem Dv.Plain.read (h : D.Plain) (x : Int) : ({ D with nr := x } : Dv).Plain := ⟨h.dead, h.off, h.fuse, h.lose, h.stray, h.good⟩
theorem Dv.Plain.put (h : D.Plain) (i : Nat) (t : ByteArray) (k : Nat) : (D.put i t k).Plain := by
  unfold Dv.put
  split
  · rename_i s hs
    refine ⟨h.dead, h.off, h.fuse, h.lose, h.stray, fun x hx => ?_⟩
    rcases List.mem_or_eq_of_mem_set hx with hx | hx
    · exact h.good x hx
    · subst hx; exact h.good s (List.mem_of_getElem? hs)
  · exact h
theorem Dv.Plain.puts (l : List ((Nat × ByteArray) × Nat)) : ∀ {D : Dv}, D.Plain → (D.puts l).Plain := by
  induction l with
  | nil => intro D h; exact h
  | cons x l ih => intro D h; exact ih (h.put _ _ _)
theorem Dv.Plain.flushed (h : D.Plain) : D.flushed.Plain := ⟨h.dead, h.off, h.fuse, h.lose, h.stray, h.good⟩
theorem Dv.Plain.emptied (h : D.Plain) : D.emptied.Plain := ⟨h.dead, h.off, h.fuse, h.lose, h.stray, h.good⟩
theorem Dv.Plain.calm (h : D.Plain) : D.calm.Plain := ⟨h.dead, rfl, rfl, h.lose, h.stray, h.good⟩
theorem Dv.Plain.flushE (h : D.Plain) : D.flushE = 0 := by unfold Dv.flushE; rw [h.refuse, h.stk_fuse]; rfl
theorem Dv.Plain.flushD (h : D.Plain) : D.flushD = (D.flushed.puts (whole D)).emptied := by unfold Dv.flushD; rw [h.refuse, h.stk_fuse, h.blow]; rfl
theorem Dv.Plain.flush (h : D.Plain) : D.flushD.Plain := by rw [h.flushD]; exact (Dv.Plain.puts _ h.flushed).emptied
theorem Dv.Plain.crash (h : D.Plain) (fs : List Int) : (D.crashD fs).Plain := (Dv.Plain.puts _ h).emptied.calm
end
end Go.Proofs.Ytlnocdmechidfaa.Dev
