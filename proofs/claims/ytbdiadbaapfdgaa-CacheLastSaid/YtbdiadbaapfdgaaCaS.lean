/- Layer 11 (cache): the slots, sorted. -/
import Derived.Test.YtbdiadbaapfdgaaCaN
import Derived.Test.YtbdiadbaapfdgaaCaLay
import Derived.Test.YtbdiadbaapfdgaaShelf
import Derived.Shelf.SlSortCmp.Whole1
import Derived.Shelf.SlSortCmp.NoneTotal
import Derived.Shelf.SlicesE.Clone
namespace Go.Proofs.Ytbdiadbaapfdgaa.Ca
open Go Go.RowKit Go.Shelf Go.Lib Go.Sort Go.Proofs Go.Proofs.Ytbdiadbaapfdgaa Go.Maps
set_option linter.unusedVariables false

theorem nan_any (a : Int) (w : World) : Calls Try.prog 30 #[.int .u64 a] w fun e w' => e = .returned (.bool false) ∧ w' = w := by
  go_enter Try.func30, Try.ntmps30
  go_wp2
  go_ret
  exact ⟨rfl, rfl⟩
theorem cmpu_any (a b : Int) (w : World) : Calls Try.prog 25 #[.int .u64 a, .int .u64 b] w fun e w' => e = .returned (.int .i64 (Lib.compareInt a b)) ∧ w' = w := by
  rcases Int.lt_trichotomy a b with h | h | h
  · have hc : Lib.compareInt a b = -1 := by unfold Lib.compareInt; rw [if_pos h]
    rw [hc]
    go_enter Try.func25, Try.ntmps25
    go_wp2_with (go_at_call 30; refine (nan_any _ _).mono ?_; rintro e w' ⟨rfl, rfl⟩)
    go_ret
    exact ⟨rfl, rfl⟩
  · subst h
    have hc : Lib.compareInt a a = 0 := by unfold Lib.compareInt; rw [if_neg (by omega), if_neg (by omega)]
    rw [hc]
    go_enter Try.func25, Try.ntmps25
    go_wp2_with (go_at_call 30; refine (nan_any _ _).mono ?_; rintro e w' ⟨rfl, rfl⟩)
    go_ret
    exact ⟨rfl, rfl⟩
  · have hc : Lib.compareInt a b = 1 := by unfold Lib.compareInt; rw [if_neg (by omega), if_pos h]
    have h1 : ¬ a < b := by omega
    rw [hc]
    go_enter Try.func25, Try.ntmps25
    go_wp2_with (go_at_call 30; refine (nan_any _ _).mono ?_; rintro e w' ⟨rfl, rfl⟩)
    go_ret
    exact ⟨rfl, rfl⟩
set_option maxRecDepth 100000 in
theorem close_any (x y : Sl) (W : World) (hx : W.cell? ⟨x.blk, 5, none⟩ = some (.int .u64 x.use)) (hy : W.cell? ⟨y.blk, 5, none⟩ = some (.int .u64 y.use)) : Calls Try.prog 24 #[ptr x, ptr y] W fun e w' => e = .returned (.int .i64 (Lib.compareInt y.use x.use)) ∧ ∃ q, w' = W.drewN q := by
  have HX := Lib.hid (fun (wq : World) (e : Dr W wq) => (by rw [show wq = W.drew from e]; exact ⟨hx, hy⟩ : wq.cell? ⟨x.blk, 5, none⟩ = some (.int .u64 x.use) ∧ wq.cell? ⟨y.blk, 5, none⟩ = some (.int .u64 y.use)))
  clear hx hy
  dsimp only [ptr]
  generalize x.blk = b1 at *
  generalize y.blk = b2 at *
  obtain ⟨u1, hu1⟩ : ∃ u : Int, u = (x.use : Int) := ⟨_, rfl⟩
  obtain ⟨u2, hu2⟩ : ∃ u : Int, u = (y.use : Int) := ⟨_, rfl⟩
  rw [← hu1, ← hu2] at HX ⊢
  clear hu1 hu2
  obtain ⟨z, hz⟩ : ∃ z, z = Lib.compareInt u2 u1 := ⟨_, rfl⟩
  have HC := Lib.hid (fun wq => (by rw [hz]; exact cmpu_any u2 u1 wq : Calls Try.prog 25 #[.int .u64 u2, .int .u64 u1] wq fun e w' => e = .returned (.int .i64 z) ∧ w' = wq))
  rw [← hz]
  clear hz
  go_enter Try.func24, Try.ntmps24
  go_upto_region 1 with fail
  refine Reg.region_vals (by kernel_rfl) [(5, .pointer (some ⟨b2, 0, none⟩)), (6, .pointer (some ⟨b2, 0, none⟩)), (7, .pointer (some ⟨b2, 5, none⟩)), (8, .int .u64 u2), (9, .pointer (some ⟨b1, 0, none⟩)), (10, .pointer (some ⟨b1, 0, none⟩)), (11, .pointer (some ⟨b1, 5, none⟩)), (12, .int .u64 u1), (13, .int .i64 z), (4, .int .i64 z)] (fun l wy => Dr W wy) (by kernel_rfl) (by kernel_rfl) (by kernel_rfl) (rfl) ⟨?_, ?_, ?_, ?_, ?_, ?_, ?_, ?_, ?_, ?_, trivial⟩ ?hend
  · -- 0: 5 := Op.move t1
    intro aq wq lq hI hl hdone hlater hold hd ho
    have h1 : aq.tmps.getD 1 undef = .pointer (some ⟨b2, 0, none⟩) := ho 1 (by kernel_rfl)
    clear hd ho hdone hlater hold
    exact Reg.step2_move (.tmp 1) rfl h1 hI trivial
  · -- 1: 6 := Op.nilCheck t5
    intro aq wq lq hI hl hdone hlater hold hd ho
    have h5 : aq.tmps.getD 5 undef = .pointer (some ⟨b2, 0, none⟩) := hd 5 (by kernel_rfl)
    clear hd ho hdone hlater hold
    rw [Array.getD_eq_getD_getElem?] at h5
    refine Reg.step2_val (.pointer (some ⟨b2, 0, none⟩)) ?_ rfl hI trivial
    go_simp
  · -- 2: 7 := Op.fieldAddr 64 t6 3
    intro aq wq lq hI hl hdone hlater hold hd ho
    have h6 : aq.tmps.getD 6 undef = .pointer (some ⟨b2, 0, none⟩) := hd 6 (by kernel_rfl)
    clear hd ho hdone hlater hold
    rw [Array.getD_eq_getD_getElem?] at h6
    refine Reg.step2_val (.pointer (some ⟨b2, 5, none⟩)) ?_ rfl hI trivial
    go_simp
  · -- 3: 8 := Op.load 30 t7
    intro aq wq lq hI hl hdone hlater hold hd ho
    have h7 : aq.tmps.getD 7 undef = .pointer (some ⟨b2, 5, none⟩) := hd 7 (by kernel_rfl)
    clear hd ho hdone hlater hold
    rw [Array.getD_eq_getD_getElem?] at h7
    have e0 := (HX.out wq hI).2
    refine Reg.step2_val (.int .u64 u2) ?_ rfl hI trivial
    go_simp
  · -- 4: 9 := Op.move t0
    intro aq wq lq hI hl hdone hlater hold hd ho
    have h0 : aq.tmps.getD 0 undef = .pointer (some ⟨b1, 0, none⟩) := ho 0 (by kernel_rfl)
    clear hd ho hdone hlater hold
    exact Reg.step2_move (.tmp 0) rfl h0 hI trivial
  · -- 5: 10 := Op.nilCheck t9
    intro aq wq lq hI hl hdone hlater hold hd ho
    have h9 : aq.tmps.getD 9 undef = .pointer (some ⟨b1, 0, none⟩) := hd 9 (by kernel_rfl)
    clear hd ho hdone hlater hold
    rw [Array.getD_eq_getD_getElem?] at h9
    refine Reg.step2_val (.pointer (some ⟨b1, 0, none⟩)) ?_ rfl hI trivial
    go_simp
  · -- 6: 11 := Op.fieldAddr 64 t10 3
    intro aq wq lq hI hl hdone hlater hold hd ho
    have h10 : aq.tmps.getD 10 undef = .pointer (some ⟨b1, 0, none⟩) := hd 10 (by kernel_rfl)
    clear hd ho hdone hlater hold
    rw [Array.getD_eq_getD_getElem?] at h10
    refine Reg.step2_val (.pointer (some ⟨b1, 5, none⟩)) ?_ rfl hI trivial
    go_simp
  · -- 7: 12 := Op.load 30 t11
    intro aq wq lq hI hl hdone hlater hold hd ho
    have h11 : aq.tmps.getD 11 undef = .pointer (some ⟨b1, 5, none⟩) := hd 11 (by kernel_rfl)
    clear hd ho hdone hlater hold
    rw [Array.getD_eq_getD_getElem?] at h11
    have e0 := (HX.out wq hI).1
    refine Reg.step2_val (.int .u64 u1) ?_ rfl hI trivial
    go_simp
  · -- 8: 13 := Op.call ( value (Operand.func 25), args := #(t8, t12), argTy
    intro aq wq lq hI hl hdone hlater hold hd ho
    have h8 : aq.tmps.getD 8 undef = .int .u64 u2 := hd 8 (by kernel_rfl)
    have h12 : aq.tmps.getD 12 undef = .int .u64 u1 := hd 12 (by kernel_rfl)
    clear hd ho hdone hlater hold
    rw [Array.getD_eq_getD_getElem?] at h8 h12
    refine Reg.step2_call 25 #[.int .u64 u2, .int .u64 u1] ?_ ((HC.out wq).mono ?_)
    · clear hI
      simp [execOp]
      go_simp
    · rintro e w' ⟨rfl, rfl⟩
      exact ⟨_, rfl, rfl, hI, trivial⟩
  · -- 9: 4 := Op.assign t13
    intro aq wq lq hI hl hdone hlater hold hd ho
    have h13 : aq.tmps.getD 13 undef = .int .i64 z := hd 13 (by kernel_rfl)
    clear hd ho hdone hlater hold
    exact Reg.step2_assign (.tmp 13) rfl h13 hI trivial
  case hend =>
  intro w2 hI
  simp only [Reg.fill, List.foldl_cons, List.foldl_nil, List.setIfInBounds_toArray, List.set_cons_zero, List.set_cons_succ]
  have hw : w2 = W.drew := hI
  have HW := Lib.hid hw
  clear hI hw
  go_wp2
  go_ret
  exact ⟨rfl, 1, HW.out⟩
/-- what is put in order: the slots of l -/
abbrev Of (l : List Sl) := { s : Sl // s ∈ l }
def encS (l : List Sl) (x : Of l) : Value := ptr x.1
def cmpS (l : List Sl) (x y : Of l) : Int := Lib.compareInt (y.1.use : Int) (x.1.use : Int)
theorem cmpS_lt {l : List Sl} (x y : Of l) : ltOf (cmpS l) x y = decide (y.1.use < x.1.use) := by
  unfold ltOf cmpS Lib.compareInt
  by_cases h1 : y.1.use < x.1.use
  · have : (y.1.use : Int) < (x.1.use : Int) := by omega
    simp [h1, this]
  · have h2 : ¬ (y.1.use : Int) < (x.1.use : Int) := by omega
    rw [if_neg h2]
    split <;> simp [h1]
theorem cmpS_swo (l : List Sl) : SWO (ltOf (cmpS l)) where
  irrefl x := by rw [cmpS_lt]; simp
  trans x y z h1 h2 := by rw [cmpS_lt] at *; simp at *; omega
  ntrans x y z h1 h2 := by rw [cmpS_lt] at *; simp at *; omega
theorem sortWorld_block {α : Type} [Inhabited α] (enc : α → Value) (w : World) (blk off m k : Nat) (dk : Array α) (os : Array Obj) (h1 : k < w.heap.size) (h2 : k ≠ blk) : (sortWorld enc w blk off m dk os).heap[k]? = w.heap[k]? := by
  show ((w.heap.modify blk _) ++ os)[k]? = w.heap[k]?
  rw [Array.getElem?_append_left (by rw [Array.size_modify]; omega), Array.getElem?_modify, if_neg (fun e => h2 e.symm)]
theorem sortWorld_chg {α : Type} [Inhabited α] (enc : α → Value) (w : World) (blk off m : Nat) (dk : Array α) (os : Array Obj) : Chg (fun k => k = blk) w (sortWorld enc w blk off m dk os) := by
  refine ⟨rfl, rfl, rfl, ?_, fun k h1 h2 => sortWorld_block enc w blk off m k dk os h1 h2⟩
  show w.heap.size ≤ ((w.heap.modify blk _) ++ os).size
  rw [Array.size_append, Array.size_modify]; omega
theorem sorted_eq {l : List Sl} (hd : l.Pairwise fun a b => b.use < a.use) {m : List Sl} (hp : m.Perm l) (hs : m.Pairwise fun a b => b.use ≤ a.use) : m = l := by
  refine List.Perm.eq_of_pairwise (le := fun a b => b.use ≤ a.use) (fun a b ha hb h1 h2 => ?_) hs (hd.imp fun h => Nat.le_of_lt h) hp
  obtain ⟨i, hi, e1⟩ := mem_sg (hp.mem_iff.1 ha)
  obtain ⟨j, hj, e2⟩ := mem_sg hb
  have := uses_nodup hd hi hj (by rw [e1, e2]; omega)
  subst this
  rw [← e1, ← e2]
set_option maxRecDepth 100000 in
set_option maxHeartbeats 2000000 in
theorem sort_some {W : World} {base g cap : Nat} {l H : List Sl} (hp : H.Perm l) (hd : l.Pairwise fun a b => b.use < a.use) (h0 : 0 < l.length) (h1 : l.length ≤ 4096) (hrow : W.ownsRow base 65 1 (.slice (some ⟨g, 0, none⟩) H.length cap) H.length (H.map ptr))
    (hs : ∀ s ∈ l, W.cell? ⟨s.blk, 5, none⟩ = some (.int .u64 s.use) ∧ s.blk < W.heap.size ∧ s.blk ≠ g) : Calls Try.prog 23 #[.slice (some ⟨g, 0, none⟩) H.length cap, .func (.func 24) #[] #[]] W fun e w' => e = .returned (.tuple #[]) ∧ (∀ j, j < l.length → w'.cell? ⟨g, j, none⟩ = some (ptr (sg l j))) ∧ Chg (fun k => k = g) W w' := by
  haveI : Inhabited (Of l) := ⟨⟨sg l 0, sg_mem h0⟩⟩
  have hlen := hp.length_eq
  have hg : g < W.heap.size := (hrow.lt g rfl).2
  obtain ⟨d, hd1⟩ : ∃ d : Array (Of l), d.toList.map Subtype.val = H := ⟨(H.attach.map fun s => ⟨s.1, hp.mem_iff.1 s.2⟩).toArray, by simp⟩
  have hds : d.size = H.length := by rw [← hd1]; simp
  have hH : Holds (encS l) W g 0 d := fun j hj => by
    rw [Nat.zero_add]
    refine ⟨?_, hrow.frozenAt j⟩
    have e1 : H[j]? = some (d[j]!).1 := by
      rw [← hd1, List.getElem?_map, Array.getElem?_toList, Array.getElem?_eq_getElem hj, getElem!_pos d j hj]; rfl
    rw [hrow.cellAt j (by omega), List.getElem?_map, e1]; rfl
  have eg : ∀ args w, (callFunc 24 args).run Try.prog w = .ok (.enter 24 args) w := enters_of Try.func24 (by kernel_rfl) rfl
  have hcmp : CmpLays1 Try.prog 24 #[] (encS l) (cmpS l) g 0 d.size W := CmpReads.lays fun m os dk hsz x y => by
    have hcell : ∀ z : Of l, (sortWorld (encS l) W g 0 m dk os).cell? ⟨z.1.blk, 5, none⟩ = some (.int .u64 z.1.use) := fun z => by
      obtain ⟨a1, a2, a3⟩ := hs z.1 z.2
      rw [← a1]
      exact World.cell?_of_block (sortWorld_block (encS l) W g 0 m z.1.blk dk os a2 a3)
    exact close_any x.1 y.1 _ (hcell x) (hcell y)
  have h1c : OneCell (encS l) := fun x => by rfl
  have hlim : Lib.bitLen d.size < 4611686018427387904 := Nat.lt_of_le_of_lt (Lib.bitLen_le d.size 62 (by omega) (by omega)) (by omega)
  have hpq := Any.pdqsortCmpFunc_all Try.sortS (encS l) (cmpS l) 24 #[] (cmpS_swo l) g 0 cap d W eg hcmp ⟨h1c, hH, hg⟩ (d.size + 1) 0 d.size (Lib.bitLen d.size) d W (by omega) rfl (SW.start hH) (Nat.zero_le _) (Nat.le_refl _) (by omega) hlim (Or.inl rfl)
  change Calls Try.prog 28 _ _ _ at hpq
  have hl : Calls Try.prog 29 #[.int .u64 (d.size : Int)] W fun e w' => e = .returned (.int .i64 (Lib.bitLen d.size : Nat)) ∧ w' = W := by
    have h := Try.bits_Len (d.size : Int) W (by omega) (by omega)
    rwa [Int.toNat_natCast] at h
  obtain ⟨dk, hdk⟩ : ∃ dk, dk = pdq (ltOf (cmpS l)) d 0 d.size (Lib.bitLen d.size) true true := ⟨_, rfl⟩
  have hsrt := pdq_sorts (ltOf (cmpS l)) (cmpS_swo l) d 0 d.size (Lib.bitLen d.size) true true (Nat.zero_le _) (Nat.le_refl _) (Or.inl rfl)
  rw [← hdk] at hsrt hpq
  have hfin : dk.toList.map Subtype.val = l := by
    obtain ⟨⟨p1, p2, p3⟩, s1⟩ := hsrt
    have e1 : dk.extract 0 d.size = dk := by rw [← p1]; exact Array.extract_size
    rw [e1, Array.extract_size] at p3
    refine sorted_eq hd ((p3.map Subtype.val).trans (by rw [hd1]; exact hp)) ?_
    rw [List.pairwise_map]
    refine List.pairwise_iff_getElem.2 fun i j hi hj hij => ?_
    rw [Array.length_toList] at hi hj
    have := s1 i j (Nat.zero_le _) hij (by omega)
    rw [getElem!_pos dk i hi, getElem!_pos dk j hj, cmpS_lt] at this
    simp only [decide_eq_false_iff_not] at this
    rw [Array.getElem_toList, Array.getElem_toList]
    omega
  have hdl : dk.size = d.size := hsrt.1.1
  have HFIN := Lib.hid (fun (w' : World) (h : SW (encS l) W g 0 dk w') => (⟨fun j hj => by
      have h1 := (h.holds hg hH hdl j (by omega)).1
      rw [Nat.zero_add] at h1
      rw [h1]
      have e0 : (dk.toList.map Subtype.val)[j]? = some (dk[j]!).1 := by
        rw [List.getElem?_map, Array.getElem?_toList, Array.getElem?_eq_getElem (by omega), getElem!_pos dk j (by omega)]; rfl
      have e1 : l[j]? = some (dk[j]!).1 := (congrArg (fun t => t[j]?) hfin).symm.trans e0
      have e2 : sg l j = (dk[j]!).1 := by unfold sg; rw [List.getD_eq_getElem?_getD, e1]; rfl
      rw [e2]; rfl, by obtain ⟨n, os, rfl⟩ := h; exact sortWorld_chg (encS l) W g 0 n dk os⟩ : (∀ j, j < l.length → w'.cell? ⟨g, j, none⟩ = some (ptr (sg l j))) ∧ Chg (fun k => k = g) W w'))
  rw [← hds]
  have hpq' := hpq
  have HPQ := Lib.hid hpq'
  have HL := Lib.hid hl
  have hb : d.size ≤ 4096 := by omega
  clear hpq hpq' hl hsrt hfin hdk hcmp eg hH hrow hs hd1 hds h1c
  go_enter Try.func23, Try.ntmps23
  go_wp2_with fail
  refine HL.out.mono ?_
  rintro e w' ⟨rfl, rfl⟩
  go_wp2_with fail
  refine HPQ.out.mono ?_
  rintro e w' ⟨rfl, hsw⟩
  have HSW := Lib.hid hsw
  clear hsw
  go_wp2
  go_end0
  exact ⟨rfl, HFIN.out _ HSW.out⟩
end Go.Proofs.Ytbdiadbaapfdgaa.Ca
