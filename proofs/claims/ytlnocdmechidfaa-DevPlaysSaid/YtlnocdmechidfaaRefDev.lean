/- Layer 3's reference: how its device lies in memory, said by the same plain data (Dv) as the program's; its small functions. -/
import Derived.Test.YtlnocdmechidfaaDevL
namespace Go.Proofs.Ytlnocdmechidfaa.Dev
open Go Go.RowKit Go.Proofs.Ytlnocdmechidfaa
set_option linter.unusedVariables false

/-- where the reference's device has its media and its bad sectors: they stay there -/
structure RB where
  mb : Nat
  bb : Nat
  mc : Nat
  bc : Nat
  mt : List Value
  bt : List Value
def medS (l : List (ByteArray × Bool)) : List Value := l.map fun x => .string x.1
def badS (l : List (ByteArray × Bool)) : List Value := l.map fun x => .bool x.2
def Dv.rcells (D : Dv) (B : RB) (cv : Value) : List Value :=
  [.int .i64 D.size, .slice (some ⟨B.mb, 0, none⟩) D.n B.mc, .slice (some ⟨B.bb, 0, none⟩) D.n B.bc, cv, .int .i64 D.fuse, .int .i64 D.lose, .int .i64 D.stray, .int .i64 D.tgt, .bool D.off, .bool D.dead, .int .i64 D.nr, .int .i64 D.nw, .int .i64 D.nf]
structure RefAt (w : World) (p : Nat) (B : RB) (cv : Value) (D : Dv) : Prop where
  main : Has w p 52 (D.rcells B cv)
  meds : Has w B.mb 9 (medS D.secs ++ B.mt)
  bads : Has w B.bb 4 (badS D.secs ++ B.bt)
  cache : w.ownsRow 0 79 2 cv D.cache.length (flatW D.cache)
  pm : p ≠ B.mb
  pb : p ≠ B.bb
  mb : B.mb ≠ B.bb
  cp : cv.ownBlock ≠ some p
  cm : cv.ownBlock ≠ some B.mb
  cb : cv.ownBlock ≠ some B.bb
  ok : D.Ok
def rfoot (p : Nat) (B : RB) (cv : Value) : Nat → Prop := fun k => k = p ∨ k = B.mb ∨ k = B.bb ∨ cv.ownBlock = some k
section
variable {w w' : World} {p : Nat} {B : RB} {cv : Value} {D : Dv}
theorem RefAt.same (h : RefAt w p B cv D) (hk : ∀ k, rfoot p B cv k → w'.heap[k]? = w.heap[k]?) : RefAt w' p B cv D :=
  ⟨h.main.same (hk p (.inl rfl)), h.meds.same (hk _ (.inr (.inl rfl))), h.bads.same (hk _ (.inr (.inr (.inl rfl)))), owns_same h.cache fun k e => hk k (.inr (.inr (.inr e))), h.pm, h.pb, h.mb, h.cp, h.cm, h.cb, h.ok⟩
theorem RefAt.lt (h : RefAt w p B cv D) : ∀ k, rfoot p B cv k → k < w.heap.size := by
  rintro k (rfl | rfl | rfl | e)
  · exact h.main.lt
  · exact h.meds.lt
  · exact h.bads.lt
  · exact (h.cache.lt k e).2
theorem RefAt.chg {R : Nat → Prop} (h : RefAt w p B cv D) (hc : Chg R w w') (hr : ∀ k, rfoot p B cv k → ¬ R k) : RefAt w' p B cv D :=
  h.same fun k hk => hc.block k (h.lt k hk) (hr k hk)
theorem RefAt.below {b : Nat} (h : RefAt w p B cv D) (hb : Below b w w') (hB : w.heap.size ≤ b) : RefAt w' p B cv D :=
  h.same fun k hk => hb.block k (by have := h.lt k hk; omega)
theorem RefAt.alloc (h : RefAt w p B cv D) (o : Obj) : RefAt (w.alloc o) p B cv D := h.below ((Below.refl _ _).alloc (Nat.le_refl _) o) (Nat.le_refl _)
theorem RefAt.drew (h : RefAt w p B cv D) : RefAt w.drew p B cv D := h.same fun _ _ => rfl
theorem RefAt.drewN (h : RefAt w p B cv D) (n : Nat) : RefAt (w.drewN n) p B cv D := h.same fun _ _ => rfl
theorem RefAt.cell (h : RefAt w p B cv D) (i : Nat) : w.cell? ⟨p, i, none⟩ = (D.rcells B cv)[i]? := h.main.cell i
theorem RefAt.c0 (h : RefAt w p B cv D) : w.cell? ⟨p, 0, none⟩ = some (.int .i64 D.size) := h.cell 0
theorem RefAt.c1 (h : RefAt w p B cv D) : w.cell? ⟨p, 1, none⟩ = some (.slice (some ⟨B.mb, 0, none⟩) D.n B.mc) := h.cell 1
theorem RefAt.c2 (h : RefAt w p B cv D) : w.cell? ⟨p, 2, none⟩ = some (.slice (some ⟨B.bb, 0, none⟩) D.n B.bc) := h.cell 2
theorem RefAt.c3 (h : RefAt w p B cv D) : w.cell? ⟨p, 3, none⟩ = some cv := h.cell 3
theorem RefAt.c4 (h : RefAt w p B cv D) : w.cell? ⟨p, 4, none⟩ = some (.int .i64 D.fuse) := h.cell 4
theorem RefAt.c5 (h : RefAt w p B cv D) : w.cell? ⟨p, 5, none⟩ = some (.int .i64 D.lose) := h.cell 5
theorem RefAt.c6 (h : RefAt w p B cv D) : w.cell? ⟨p, 6, none⟩ = some (.int .i64 D.stray) := h.cell 6
theorem RefAt.c7 (h : RefAt w p B cv D) : w.cell? ⟨p, 7, none⟩ = some (.int .i64 D.tgt) := h.cell 7
theorem RefAt.c8 (h : RefAt w p B cv D) : w.cell? ⟨p, 8, none⟩ = some (.bool D.off) := h.cell 8
theorem RefAt.c9 (h : RefAt w p B cv D) : w.cell? ⟨p, 9, none⟩ = some (.bool D.dead) := h.cell 9
theorem RefAt.c10 (h : RefAt w p B cv D) : w.cell? ⟨p, 10, none⟩ = some (.int .i64 D.nr) := h.cell 10
theorem RefAt.c11 (h : RefAt w p B cv D) : w.cell? ⟨p, 11, none⟩ = some (.int .i64 D.nw) := h.cell 11
theorem RefAt.c12 (h : RefAt w p B cv D) : w.cell? ⟨p, 12, none⟩ = some (.int .i64 D.nf) := h.cell 12
theorem RefAt.fz (h : RefAt w p B cv D) (i : Nat) : w.frozen? ⟨p, i, none⟩ = false := h.main.frozen i
theorem RefAt.med (h : RefAt w p B cv D) (i : Nat) (hi : i < D.n) : w.cell? ⟨B.mb, i, none⟩ = some (.string (D.secs[i]'hi).1) := by
  rw [h.meds.cell, List.getElem?_append_left (by rw [medS, List.length_map]; exact hi), medS, List.getElem?_map, List.getElem?_eq_getElem hi]; rfl
theorem RefAt.bad (h : RefAt w p B cv D) (i : Nat) (hi : i < D.n) : w.cell? ⟨B.bb, i, none⟩ = some (.bool (D.secs[i]'hi).2) := by
  rw [h.bads.cell, List.getElem?_append_left (by rw [badS, List.length_map]; exact hi), badS, List.getElem?_map, List.getElem?_eq_getElem hi]; rfl
theorem RefAt.mfz (h : RefAt w p B cv D) (i : Nat) : w.frozen? ⟨B.mb, i, none⟩ = false := h.meds.frozen i
theorem RefAt.bfz (h : RefAt w p B cv D) (i : Nat) : w.frozen? ⟨B.bb, i, none⟩ = false := h.bads.frozen i
/-- one field is another one -/
theorem RefAt.set (h : RefAt w p B cv D) (i : Nat) (v : Value) (D' : Dv) (hc : (D.rcells B cv).set i v = D'.rcells B cv) (hs : D'.secs = D.secs) (hw : D'.cache = D.cache) (ok : D'.Ok) : RefAt (w.setCell ⟨p, i, none⟩ v) p B cv D' :=
  ⟨by rw [← hc]; exact h.main.set i v, by rw [hs]; exact h.meds.setOther h.pm v, by rw [hs]; exact h.bads.setOther h.pb v, by rw [hw]; exact owns_same h.cache fun k e => Below.heap_setCell _ _ _ _ (fun e' => h.cp (by rw [e]; exact congrArg some e')), h.pm, h.pb, h.mb, h.cp, h.cm, h.cb, ok⟩
theorem RefAt.setMedia (h : RefAt w p B cv D) (i : Nat) (hi : i < D.n) (t : ByteArray) (D' : Dv) (hD : D' = { D with secs := D.secs.set i (t, (D.secs[i]'hi).2) }) (ok : D'.Ok) : RefAt (w.setCell ⟨B.mb, i, none⟩ (.string t)) p B cv D' := by
  subst hD
  have hc : ∀ D2 : Dv, D2 = { D with secs := D.secs.set i (t, (D.secs[i]'hi).2) } → D2.rcells B cv = D.rcells B cv := by
    rintro D2 rfl
    have : Dv.n { D with secs := D.secs.set i (t, (D.secs[i]'hi).2) } = D.n := by show List.length _ = _; rw [List.length_set]; rfl
    unfold Dv.rcells; rw [this]
  have e1 : medS (D.secs.set i (t, (D.secs[i]'hi).2)) = (medS D.secs).set i (.string t) := by unfold medS; rw [List.map_set]
  have e2 : badS (D.secs.set i (t, (D.secs[i]'hi).2)) = badS D.secs := by
    unfold badS
    apply List.ext_getElem?
    intro j
    rw [List.getElem?_map, List.getElem?_map]
    by_cases e : i = j
    · subst e; rw [List.getElem?_set_self hi, List.getElem?_eq_getElem hi]; rfl
    · rw [List.getElem?_set_ne e]
  refine ⟨by rw [hc _ rfl]; exact h.main.setOther (fun e => h.pm e.symm) _, ?_, by rw [e2]; exact h.bads.setOther h.mb _, owns_same h.cache fun k e => Below.heap_setCell _ _ _ _ (fun e' => h.cm (by rw [e]; exact congrArg some e')), h.pm, h.pb, h.mb, h.cp, h.cm, h.cb, ok⟩
  have := h.meds.set i (.string t)
  rw [List.set_append_left _ _ (by rw [medS, List.length_map]; exact hi)] at this
  rw [e1]; exact this
theorem RefAt.setBad (h : RefAt w p B cv D) (i : Nat) (hi : i < D.n) (b : Bool) (D' : Dv) (hD : D' = { D with secs := D.secs.set i ((D.secs[i]'hi).1, b) }) (ok : D'.Ok) : RefAt (w.setCell ⟨B.bb, i, none⟩ (.bool b)) p B cv D' := by
  subst hD
  have hc : ∀ D2 : Dv, D2 = { D with secs := D.secs.set i ((D.secs[i]'hi).1, b) } → D2.rcells B cv = D.rcells B cv := by
    rintro D2 rfl
    have : Dv.n { D with secs := D.secs.set i ((D.secs[i]'hi).1, b) } = D.n := by show List.length _ = _; rw [List.length_set]; rfl
    unfold Dv.rcells; rw [this]
  have e1 : badS (D.secs.set i ((D.secs[i]'hi).1, b)) = (badS D.secs).set i (.bool b) := by unfold badS; rw [List.map_set]
  have e2 : medS (D.secs.set i ((D.secs[i]'hi).1, b)) = medS D.secs := by
    unfold medS
    apply List.ext_getElem?
    intro j
    rw [List.getElem?_map, List.getElem?_map]
    by_cases e : i = j
    · subst e; rw [List.getElem?_set_self hi, List.getElem?_eq_getElem hi]; rfl
    · rw [List.getElem?_set_ne e]
  refine ⟨by rw [hc _ rfl]; exact h.main.setOther (fun e => h.pb e.symm) _, by rw [e2]; exact h.meds.setOther (fun e => h.mb e.symm) _, ?_, owns_same h.cache fun k e => Below.heap_setCell _ _ _ _ (fun e' => h.cb (by rw [e]; exact congrArg some e')), h.pm, h.pb, h.mb, h.cp, h.cm, h.cb, ok⟩
  have := h.bads.set i (.bool b)
  rw [List.set_append_left _ _ (by rw [badS, List.length_map]; exact hi)] at this
  rw [e1]; exact this
end
/-- the reference's device is D now; only its own blocks, and new ones, are others -/
def RNow (p : Nat) (B : RB) (cv : Value) (w : World) (D : Dv) (w' : World) : Prop :=
  ∃ cv', Chg (rfoot p B cv) w w' ∧ RefAt w' p B cv' D ∧ ∀ k, rfoot p B cv' k → rfoot p B cv k ∨ w.heap.size ≤ k
theorem RNow.same {p : Nat} {B : RB} {cv : Value} {w w' : World} {D : Dv} (hc : Chg (rfoot p B cv) w w') (h : RefAt w' p B cv D) : RNow p B cv w D w' := ⟨cv, hc, h, fun _ hk => .inl hk⟩
theorem ready_any {p : Nat} {B : RB} {cv : Value} {D : Dv} (w : World) (h : RefAt w p B cv D) :
    Calls Try.prog 34 #[.pointer (some ⟨p, 0, none⟩)] w fun e w' => e = .returned (.int .i64 (refuse D)) ∧ w = w' := by
  have c8 := h.c8
  have c9 := h.c9
  have HR := Lib.hid (show refuse D = if D.off then 6 else if D.dead then 8 else 0 from rfl)
  clear h
  cases ho : D.off
  · cases hd : D.dead
    · rw [ho] at c8 HR
      rw [hd] at c9 HR
      clear ho hd
      go_enter Try.func34, Try.ntmps34
      go_wp2
      go_ret
      exact ⟨ret_k HR.out.symm, rfl⟩
    · rw [ho] at c8 HR
      rw [hd] at c9 HR
      clear ho hd
      go_enter Try.func34, Try.ntmps34
      go_wp2
      go_ret
      exact ⟨ret_k HR.out.symm, rfl⟩
  · rw [ho] at c8 HR
    clear ho c9
    go_enter Try.func34, Try.ntmps34
    go_wp2
    go_ret
    exact ⟨ret_k HR.out.symm, rfl⟩
end Go.Proofs.Ytlnocdmechidfaa.Dev
