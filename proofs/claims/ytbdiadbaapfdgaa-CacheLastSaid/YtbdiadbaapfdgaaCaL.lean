/- Layer 11 (cache): List, Counts, New; nil caches. -/
import Derived.Test.YtbdiadbaapfdgaaCaS
import Derived.Laws.OwnMore
namespace Go.Proofs.Ytbdiadbaapfdgaa.Ca
open Go Go.RowKit Go.Proofs Go.Proofs.Ytbdiadbaapfdgaa Go.Maps
set_option linter.unusedVariables false

theorem sort_none (a : Option Addr) (cap : Nat) (fv : Value) (W : World) : Calls Try.prog 23 #[.slice a 0 cap, fv] W fun e w' => e = .returned (.tuple #[]) ∧ w' = W := by
  have hpq := fun lim => AnyF.pdqsortCmpFunc_none (ρ := Try.sortS_ren) { Try.sortS with } a cap lim fv W
  change ∀ lim, Calls Try.prog 28 _ _ _ at hpq
  have HPQ := Lib.hid hpq
  have HL := Lib.hid (Try.bits_Len 0 W (by omega) (by omega))
  clear hpq
  go_enter Try.func23, Try.ntmps23
  go_wp2_with fail
  refine HL.out.mono ?_
  rintro e w' ⟨rfl, rfl⟩
  go_wp2_with fail
  refine (HPQ.out _).mono ?_
  rintro e w' ⟨rfl, rfl⟩
  go_wp2
  go_end0
  exact ⟨rfl, rfl⟩
theorem info_int11 : (Try.prog.info? 3).map (fun i => (i.zero, i.size, i.bytes)) = some (some (.int .i64 0), 1, 8) := by kernel_rfl
/-- the addresses of the first k, and noughts -/
def fillL (l : List Sl) (k : Nat) : List Value := (l.take k).map (fun s => Value.int .i64 s.addr) ++ List.replicate (l.length - k) (.int .i64 0)
theorem fillL_step {l : List Sl} {k : Nat} (hk : k < l.length) : (fillL l k).set k (.int .i64 (sg l k).addr) = fillL l (k + 1) := by
  unfold fillL
  have h1 : ((l.take k).map (fun s => Value.int .i64 s.addr)).length = k := by rw [List.length_map, List.length_take]; omega
  rw [List.set_append_right _ _ (by omega), h1, Nat.sub_self]
  obtain ⟨m, hm⟩ : ∃ m, l.length - k = m + 1 := ⟨l.length - k - 1, by omega⟩
  rw [hm, show l.length - (k + 1) = m by omega, List.replicate_succ, List.set_cons_zero, List.take_succ_eq_append_getElem hk, List.map_append, ← sg_eq hk]
  simp
theorem fillL_all (l : List Sl) : fillL l l.length = l.map fun s => Value.int .i64 s.addr := by
  unfold fillL; rw [List.take_length]; simp
section
variable {w : World} {p mb : Nat} {v : Value} {H : List Sl} {n : Nat} {l : List Sl} {u f m : Nat}
theorem sort_any {W : World} {base g cap : Nat} {l H : List Sl} (hp : H.Perm l) (hd : l.Pairwise fun a b => b.use < a.use) (h1 : l.length ≤ 4096) (hrow : W.ownsRow base 65 1 (.slice (some ⟨g, 0, none⟩) H.length cap) H.length (H.map ptr))
    (hs : ∀ s ∈ l, W.cell? ⟨s.blk, 5, none⟩ = some (.int .u64 s.use) ∧ s.blk < W.heap.size ∧ s.blk ≠ g) : Calls Try.prog 23 #[.slice (some ⟨g, 0, none⟩) H.length cap, .func (.func 24) #[] #[]] W fun e w' => e = .returned (.tuple #[]) ∧ (∀ j, j < l.length → w'.cell? ⟨g, j, none⟩ = some (ptr (sg l j))) ∧ Chg (fun k => k = g) W w' := by
  by_cases h0 : 0 < l.length
  · exact sort_some hp hd h0 h1 hrow hs
  · have hl : H.length = 0 := by rw [hp.length_eq]; omega
    rw [hl]
    refine (sort_none _ _ _ _).mono ?_
    rintro e w' ⟨rfl, rfl⟩
    exact ⟨rfl, fun j hj => by omega, Chg.refl _ _⟩
/-- what List answers: a row of the call's own -/
def LsP (w : World) (l : List Sl) (e : Ending) (w' : World) : Prop := ∃ v', e = .returned v' ∧ w'.ownsRow w.heap.size 3 1 v' l.length (l.map fun s => .int .i64 s.addr) ∧ Below w.heap.size w w'
theorem LsP.mk {e : Ending} {w' : World} (v' : Value) (he : e = .returned v') (h : w'.ownsRow w.heap.size 3 1 v' l.length (l.map fun s => .int .i64 s.addr)) (hb : Below w.heap.size w w') : LsP w l e w' := ⟨v', he, h, hb⟩
set_option maxRecDepth 100000 in
set_option maxHeartbeats 2000000 in
theorem list_i (h : CaI w p mb v H n l u f m) : Calls Try.prog 16 #[.pointer (some ⟨p, 0, none⟩)] w (LsP w l) := by
  have c2 := h.hp.main.cell 2
  simp only [cc, List.getElem?_cons_zero, List.getElem?_cons_succ] at c2
  obtain ⟨i0, hi, hz0, hz1, hz2⟩ := info_parts info_int11
  obtain ⟨i0p, hip, hz0p, hz1p, hz2p⟩ := info_parts info_ptr
  have hlen := h.perm.length_eq
  have hfew := h.hp.few
  rcases h.hp.row.2 with ⟨hv, hl0⟩ | ⟨g0, cap0, cur0, hv, _⟩
  · subst hv
    have hl : l = [] := List.eq_nil_of_length_eq_zero (by omega)
    subst hl
    have HCL := Lib.hid (AnyE.slices_Clone_nil Try.cloneS 0 0 w)
    obtain ⟨w3, hrun, hown, hg⟩ := run_make_full w w.heap.size 47 3 i0 (.int .i64 0) 1 Try.underlying47 hi hz0 hz1 .i64 .i64 0 (by omega) (by unfold maxLen; omega) (Nat.le_refl _)
    have hrun : (Instr.makeSlice 47 (.int .i64 0) (.int .i64 0)).run Try.prog w = .ok (.slice (some ⟨w.heap.size, 0, none⟩) 0 0) w3 := hrun
    have HB := Lib.hid (show Below w.heap.size w w3 from ⟨hg.os, hg.tape, hg.output, hg.size, fun k hk => hg.block k hk (by simp)⟩)
    have HO := Lib.hid (show w3.ownsRow w.heap.size 3 1 (.slice (some ⟨w.heap.size, 0, none⟩) 0 0) 0 [] from by have := hown; rwa [show (madeCells (Value.int .i64 0).cells (0 * 1)).toList = [] from toList_madeCells_one _ 0] at this)
    clear h hown hg
    go_enter Try.func16, Try.ntmps16
    go_wp2_with fail
    refine HCL.out.mono ?_
    rintro e w1 ⟨rfl, rfl⟩
    go_wp2_with fail
    refine (sort_none none 0 _ _).mono ?_
    rintro e w1 ⟨rfl, rfl⟩
    go_wp2_with fail
    go_loopw [21] (fun x wr => x = .int .i64 0 ∧ wr = w3) (fun _ _ => 0)
    case atStart => exact ⟨rfl, rfl⟩
    case round =>
      obtain ⟨rfl, rfl⟩ := hrel
      go_wp2
      go_ret
      exact LsP.mk _ rfl HO.out HB.out
  · subst hv
    have HCL := Lib.hid (AnyE.slices_Clone Try.cloneS i0p (.pointer none) 1 8 hip hz0p hz1p hz2p rfl (by omega) Try.sizeOf65 g0 0 H.length cap0 (H.map ptr) w (by simp) (by unfold maxLen; omega) (by omega)
      (fun j x hj => by
        have hjl : j < H.length := by have := (List.getElem?_eq_some_iff.1 hj).1; simpa using this
        rw [Nat.zero_add, h.hp.row.cellAt j (by omega)]; exact hj)
      (fun x hx => by obtain ⟨t, _, rfl⟩ := List.mem_map.1 hx; rfl))
    have HH := Lib.hid h
    have HLEN := Lib.hid hlen
    clear h hlen
    go_enter Try.func16, Try.ntmps16
    go_wp2_with fail
    refine HCL.out.mono ?_
    rintro e w1 ⟨v1, rfl, hrow1, hnn, hb1⟩
    obtain ⟨g1, cap1, hv1⟩ : ∃ g cap, v1 = .slice (some ⟨g, 0, none⟩) H.length cap := by
      rcases hrow1.2 with ⟨e, _⟩ | ⟨g, cap, _, e, _⟩
      · exact absurd e hnn
      · exact ⟨g, cap, e⟩
    subst hv1
    have hg1 := hrow1.lt g1 rfl
    have HSL := Lib.hid (show ∀ s ∈ l, w1.cell? ⟨s.blk, 5, none⟩ = some (.int .u64 s.use) ∧ s.blk < w1.heap.size ∧ s.blk ≠ g1 from fun s hs => by
      obtain ⟨i, hi⟩ := HH.out.slot hs
      have h2 := hi.lt
      have h3 : s.blk ≠ g1 := by have := hg1.1; omega
      have h4 : (sc s i)[5]? = some (.int .u64 s.use) := rfl
      exact ⟨((hi.below hb1 h2).cell 5).trans h4, Nat.lt_of_lt_of_le h2 hb1.size, h3⟩)
    have HSO := Lib.hid (sort_any HH.out.perm HH.out.dec (by have := HLEN.out; omega) hrow1 HSL.out)
    have HB1 := Lib.hid hb1
    have HG1 := Lib.hid hg1
    clear hb1 hnn hrow1 hg1 HSL
    go_wp2_with fail
    refine HSO.out.mono ?_
    rintro e w2 ⟨rfl, hcl, hch⟩
    obtain ⟨w3, hrun, hown, hg⟩ := run_make_full w2 w.heap.size 47 3 i0 (.int .i64 0) 1 Try.underlying47 hi hz0 hz1 .i64 .i64 H.length (by rw [hz2]; omega) (by unfold maxLen; omega) (Nat.le_trans HB1.out.size hch.size)
    have HB2 := Lib.hid (HB1.out.trans (hch.below HB1.out.size (fun i e => by have := HG1.out.1; omega)))
    have HB3 := Lib.hid (HB2.out.trans (show Below w.heap.size w2 w3 from ⟨hg.os, hg.tape, hg.output, hg.size, fun k hk => hg.block k (Nat.lt_of_lt_of_le hk HB2.out.size) (by simp)⟩))
    have HG2 := Lib.hid (show g1 < w2.heap.size from Nat.lt_of_lt_of_le HG1.out.2 hch.size)
    have HCL3 := Lib.hid (show ∀ j, j < l.length → w3.cell? ⟨g1, j, none⟩ = some (ptr (sg l j)) from fun j hj => by
      rw [← hcl j hj]; exact World.cell?_of_block (hg.block g1 HG2.out (by simp)))
    have HO := Lib.hid (show w3.ownsRow w.heap.size 3 1 (.slice (some ⟨w2.heap.size, 0, none⟩) H.length H.length) H.length (fillL l 0) from by
      have := hown
      rw [Nat.mul_one] at this
      rwa [show (madeCells (Value.int .i64 0).cells H.length).toList = fillL l 0 from (toList_madeCells_one _ H.length).trans (by unfold fillL; rw [HLEN.out]; simp)] at this)
    have HSZ := Lib.hid (Nat.le_trans HB1.out.size hch.size)
    clear hcl hch hown hg HSO
    go_wp2_with fail
    go_loopw [21] (fun x wr => ∃ k : Nat, k ≤ H.length ∧ x = .int .i64 k ∧ wr.ownsRow w.heap.size 3 1 (.slice (some ⟨w2.heap.size, 0, none⟩) H.length H.length) H.length (fillL l k) ∧ Chg (fun b => b = w2.heap.size) w3 wr) (fun x _ => H.length - (intOf x).toNat)
    case atStart => exact ⟨0, Nat.zero_le _, rfl, HO.out, Chg.refl _ _⟩
    case round =>
      obtain ⟨k, hk, rfl, hrow, hc⟩ := hrel
      have HROW := Lib.hid hrow
      have HC := Lib.hid hc
      rcases Nat.lt_or_ge k H.length with hlt | hge
      · have hki : (k : Int) < (H.length : Int) := by omega
        have hkl : k < l.length := by have := HLEN.out; omega
        have e1 : wr.cell? ⟨g1, k, none⟩ = some (ptr (sg l k)) := by
          rw [← HCL3.out k hkl]
          refine World.cell?_of_block (hc.block g1 ?_ (by have := HG2.out; omega))
          have := hc.size
          have h5 : g1 < w2.heap.size := HG2.out
          have h6 : w2.heap.size < w3.heap.size := (HO.out.lt w2.heap.size rfl).2
          exact Nat.lt_trans h5 h6
        have e2 : wr.cell? ⟨(sg l k).blk, 0, none⟩ = some (.int .i64 (sg l k).addr) := by
          obtain ⟨i, hi⟩ := HH.out.slot (sg_mem hkl)
          have h2 := hi.lt
          have h3 : wr.heap[(sg l k).blk]? = w.heap[(sg l k).blk]? := (hc.block _ (Nat.lt_of_lt_of_le h2 HB3.out.size) (by have := HSZ.out; omega)).trans (HB3.out.block _ h2)
          have h4 : (sc (sg l k) i)[0]? = some (.int .i64 (sg l k).addr) := rfl
          exact ((hi.same h3).cell 0).trans h4
        have z3 : wr.frozen? ⟨w2.heap.size, k, none⟩ = false := hrow.frozenAt k
        have e3 : ∃ y, wr.cell? ⟨w2.heap.size, k, none⟩ = some y := ⟨_, by rw [hrow.cellAt k (by omega), List.getElem?_eq_getElem (by rw [hrow.1]; omega)]⟩
        obtain ⟨y, e3⟩ := e3
        have HST := Lib.hid (hrow.stored k (.int .i64 (sg l k).addr)).1
        have HCS := Lib.hid (hc.setCell (p := ⟨w2.heap.size, k, none⟩) (fun _ => rfl) (.int .i64 (sg l k).addr))
        rw [fillL_step hkl] at HST
        dsimp only [ptr] at e1
        clear hrow hc
        generalize (sg l k).blk = bb at *
        generalize (sg l k).addr = aa at *
        go_wp2_with fail
        go_roundw
        case rel => exact ⟨k + 1, by omega, by go_num, HST.out, HCS.out⟩
        case measure => simp [intOf]; omega
      · have hke : k = l.length := by have := HLEN.out; omega
        have hke2 : k = H.length := by omega
        have hno : ¬ (k : Int) < (H.length : Int) := by omega
        have HFIN := Lib.hid (show LsP w l (.returned (.slice (some ⟨w2.heap.size, 0, none⟩) H.length H.length)) (wr) from by
          refine LsP.mk _ rfl ?_ (HB3.out.trans (hc.below HB3.out.size (fun i e => by have := HSZ.out; omega)))
          have := hrow
          rw [hke, fillL_all] at this
          rw [← HLEN.out]; exact this)
        clear hrow hc hke
        go_wp2
        go_ret
        exact HFIN.out
end
end Go.Proofs.Ytbdiadbaapfdgaa.Ca
