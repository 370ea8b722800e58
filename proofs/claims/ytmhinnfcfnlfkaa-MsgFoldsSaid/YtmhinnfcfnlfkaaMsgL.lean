/- Layer 14 (msg): the law's own of, tame, wakes. -/
import Derived.Test.YtmhinnfcfnlfkaaMsgS
import Derived.Test.YtmhinnfcfnlfkaaRegion
import Derived.Test.YtmhinnfcfnlfkaaRegionW
import Derived.Test.YtmhinnfcfnlfkaaRegionV
namespace Go.Proofs.Ytmhinnfcfnlfkaa.Msg
open Go Go.RowKit Go.Proofs.Ytmhinnfcfnlfkaa Go.Proofs.Ytmhinnfcfnlfkaa.Lend Go.Proofs.Ytmhinnfcfnlfkaa.Rec
set_option linter.unusedVariables false

/-- the law's own update, as a value -/
def ag3 (u : Up) : Value := .agg #[.int .u8 u.kind, .string (Lend.strOf u.val), .int .u64 u.delta]
/-- what of makes of it -/
def ofM (u : Up) : Up := ⟨u.kind, [107], u.val.take 40, u.delta⟩
def tmM (u : Up) : Up := ⟨1 + u.kind % 3, [], if 1 + u.kind % 3 = 1 then u.val else [], if 1 + u.kind % 3 = 3 then u.delta else 0⟩
theorem ofM_wf {u : Up} (h : WfU u) : WfU (ofM u) := h
theorem tmM_tm {u : Up} (h : WfU u) : Tm (ofM (tmM u)) := by
  obtain ⟨k0, k1, d0, d1⟩ := h
  refine ⟨?_, ?_, ?_, ?_, ?_, ?_⟩
  · show 1 ≤ 1 + u.kind % 3; omega
  · show 1 + u.kind % 3 ≤ 3; omega
  · show 0 ≤ (if 1 + u.kind % 3 = 3 then u.delta else 0); split <;> omega
  · show (if 1 + u.kind % 3 = 3 then u.delta else 0) < 18446744073709551616; split <;> omega
  · intro h
    have h : 1 + u.kind % 3 = 1 := h
    show (if 1 + u.kind % 3 = 3 then u.delta else 0) = 0
    rw [if_neg (by omega)]
  · show ((tmM u).val.take 40).length ≤ 40
    simp; omega
theorem take40 (l : List UInt8) : (Lend.strOf l).extract 0 (min (Lend.strOf l).size 40) = Lend.strOf (l.take 40) := by
  apply Lend.strOf_ext
  rw [Lib.extract_data, Lend.strOf_data, List.drop_zero, Nat.sub_zero, ssize]
  rw [List.take_eq_take_iff]; omega
/-- the law's update, and both that are made of it -/
structure Of3 (w0 : World) (ca cs : List Value) (x y : Bool) (w : World) : Prop where
  a : Has w w0.heap.size 26 ca
  b : Has w (w0.heap.size + 1) 29 (if x = true then cs else z4)
  r : Has w (w0.heap.size + 1 + 1) 31 (if y = true then cs else z4)
  bel : Below w0.heap.size w0 w
section
variable {w0 w : World} {ca : List Value} {x y : Bool} {v0 v1 v2 v3 : Value}
theorem Of3.new (w : World) (ca cs : List Value) : Of3 w ca cs false false (((w.alloc (.cells ca.toArray 26)).alloc (.cells z4.toArray 29)).alloc (.cells z4.toArray 31)) := by
  have h1 := Has.new w ca 26
  have h2 := Has.new (w.alloc (.cells ca.toArray 26)) z4 29
  have h3 := Has.new ((w.alloc (.cells ca.toArray 26)).alloc (.cells z4.toArray 29)) z4 31
  simp only [World.size_alloc] at h2 h3
  exact ⟨(h1.alloc _).alloc _, h2.alloc _, h3, below_nw (below_nw (below_new w _) _) _⟩
theorem set4_z {b : Bool} {n : Nat} {t : TypeId} (h : Has w n t (if b = true then [v0, v1, v2, v3] else z4)) : Has ((((w.setCell ⟨n, 0, none⟩ v0).setCell ⟨n, 1, none⟩ v1).setCell ⟨n, 2, none⟩ v2).setCell ⟨n, 3, none⟩ v3) n t (if true = true then [v0, v1, v2, v3] else z4) := by
  have h2 := (((h.set 0 v0).set 1 v1).set 2 v2).set 3 v3
  cases b <;> exact h2
theorem oth4 {n m : Nat} {t : TypeId} {cs : List Value} (h : Has w n t cs) (hm : m ≠ n) : Has ((((w.setCell ⟨m, 0, none⟩ v0).setCell ⟨m, 1, none⟩ v1).setCell ⟨m, 2, none⟩ v2).setCell ⟨m, 3, none⟩ v3) n t cs :=
  (((h.setOther (by simpa using hm) v0).setOther (by simpa using hm) v1).setOther (by simpa using hm) v2).setOther (by simpa using hm) v3
theorem bel4 {m : Nat} (h : Below w0.heap.size w0 w) (hm : w0.heap.size ≤ m) : Below w0.heap.size w0 ((((w.setCell ⟨m, 0, none⟩ v0).setCell ⟨m, 1, none⟩ v1).setCell ⟨m, 2, none⟩ v2).setCell ⟨m, 3, none⟩ v3) :=
  (((h.setCell hm v0).setCell hm v1).setCell hm v2).setCell hm v3
theorem Of3.stB (h : Of3 w0 ca [v0, v1, v2, v3] x y w) : Of3 w0 ca [v0, v1, v2, v3] true y ((((w.setCell ⟨w0.heap.size + 1, 0, none⟩ v0).setCell ⟨w0.heap.size + 1, 1, none⟩ v1).setCell ⟨w0.heap.size + 1, 2, none⟩ v2).setCell ⟨w0.heap.size + 1, 3, none⟩ v3) :=
  ⟨oth4 h.a (by omega), set4_z h.b, oth4 h.r (by omega), bel4 h.bel (by omega)⟩
theorem Of3.stR (h : Of3 w0 ca [v0, v1, v2, v3] x y w) : Of3 w0 ca [v0, v1, v2, v3] x true ((((w.setCell ⟨w0.heap.size + 1 + 1, 0, none⟩ v0).setCell ⟨w0.heap.size + 1 + 1, 1, none⟩ v1).setCell ⟨w0.heap.size + 1 + 1, 2, none⟩ v2).setCell ⟨w0.heap.size + 1 + 1, 3, none⟩ v3) :=
  ⟨oth4 h.a (by omega), oth4 h.b (by omega), set4_z h.r, bel4 h.bel (by omega)⟩
theorem Of3.dr (h : Of3 w0 ca [v0, v1, v2, v3] x y w) : Of3 w0 ca [v0, v1, v2, v3] x y w.drew := ⟨h.a.drew, h.b.drew, h.r.drew, h.bel.drew⟩
end
set_option maxRecDepth 100000 in
set_option maxHeartbeats 8000000 in
theorem of_any (u : Up) (w : World) (hs : u.val.length ≤ 9223372036854775807) :
    Calls Try.prog 8 #[ag3 u] w fun e w' => e = .returned (.tuple #[agU (ofM u), agU (ofM u)]) ∧ Below w.heap.size w w' := by
  have HE : Hid (agU (ofM u) = .agg #[.int .u8 u.kind, .string ⟨#[107]⟩, .string (Lend.strOf (u.val.take 40)), .int .u64 u.delta]) := Lib.hid rfl
  rw [HE.out]
  unfold ag3
  have hvs : (Lend.strOf u.val).size ≤ 9223372036854775807 := by rw [ssize]; exact hs
  have HVT := Lib.hid (take40 u.val)
  generalize Lend.strOf (u.val.take 40) = VT at *
  generalize Lend.strOf u.val = V at *
  generalize u.kind = kd at *
  generalize u.delta = D at *
  clear HE hs
  have cV : (40 < V.size ∧ min V.size 40 = 40) ∨ (¬ 40 < V.size ∧ min V.size 40 = V.size) := by omega
  rcases cV with ⟨hv, hm⟩ | ⟨hv, hm⟩
  all_goals
    have hve := HVT.out
    rw [hm] at hve
    clear hm HVT
    go_enter Try.func8, Try.ntmps8
    have HOF := Lib.hid (Of3.new w [.int .u8 kd, .string V, .int .u64 D] [.int .u8 kd, .string ⟨#[107]⟩, .string VT, .int .u64 D])
    obtain ⟨w1, hw1⟩ : ∃ x, x = ((w.alloc (.cells #[.int .u8 kd, .string V, .int .u64 D] 26)).alloc (.cells #[.int .u8 0, .string ⟨#[]⟩, .string ⟨#[]⟩, .int .u64 0] 29)).alloc (.cells #[.int .u8 0, .string ⟨#[]⟩, .string ⟨#[]⟩, .int .u64 0] 31) := ⟨_, rfl⟩
    unfold z4 at HOF
    rw [← hw1] at HOF
    go_wp2_with fail
    rw [← hw1]
    clear hw1
    refine Reg.region_vals (by kernel_rfl) [(12, .pointer (some ⟨w.heap.size, 0, none⟩)), (13, .int .u8 kd), (14, .string VT), (15, .pointer (some ⟨w.heap.size, 2, none⟩)), (16, .int .u64 D), (17, .agg #[.int .u8 kd, .string ⟨#[107]⟩, .string VT, .int .u64 D]), (18, .pointer (some ⟨w.heap.size, 0, none⟩)), (19, .int .u8 kd), (20, .string VT), (21, .pointer (some ⟨w.heap.size, 2, none⟩)), (22, .int .u64 D), (23, .agg #[.int .u8 kd, .string ⟨#[107]⟩, .string VT, .int .u64 D])] (fun l wy => Of3 w [.int .u8 kd, .string V, .int .u64 D] [.int .u8 kd, .string ⟨#[107]⟩, .string VT, .int .u64 D] (l 12) (l 13) wy) (by kernel_rfl) (by kernel_rfl) (by kernel_rfl) (HOF.out.dr) ⟨?_, ?_, ?_, ?_, ?_, ?_, ?_, ?_, ?_, ?_, ?_, ?_, ?_, ?_, trivial⟩ ?hend
    · -- 0: 12 := Op.fieldAddr 26 t1 0
      intro aq wq lq hI hl hdone hlater hold hd ho
      have h1 : aq.tmps.getD 1 undef = .pointer (some ⟨w.heap.size, 0, none⟩) := ho 1 (by kernel_rfl)
      clear hd ho hdone hlater hold
      rw [Array.getD_eq_getD_getElem?] at h1
      refine Reg.step2_val (.pointer (some ⟨w.heap.size, 0, none⟩)) ?_ rfl hI trivial
      go_simp
    · -- 1: 13 := Op.load 5 t12
      intro aq wq lq hI hl hdone hlater hold hd ho
      have h12 : aq.tmps.getD 12 undef = .pointer (some ⟨w.heap.size, 0, none⟩) := hd 12 (by kernel_rfl)
      clear hd ho hdone hlater hold
      rw [Array.getD_eq_getD_getElem?] at h12
      have e0 : wq.cell? ⟨w.heap.size, 0, none⟩ = some (.int .u8 kd) := hI.a.cell 0
      refine Reg.step2_val (.int .u8 kd) ?_ rfl hI trivial
      go_simp
    · -- 2: 14 := Op.move t4
      intro aq wq lq hI hl hdone hlater hold hd ho
      have h4 : aq.tmps.getD 4 undef = .string VT := ho 4 (by kernel_rfl)
      clear hd ho hdone hlater hold
      exact Reg.step2_move (.tmp 4) rfl h4 hI trivial
    · -- 3: 15 := Op.fieldAddr 26 t1 2
      intro aq wq lq hI hl hdone hlater hold hd ho
      have h1 : aq.tmps.getD 1 undef = .pointer (some ⟨w.heap.size, 0, none⟩) := ho 1 (by kernel_rfl)
      clear hd ho hdone hlater hold
      rw [Array.getD_eq_getD_getElem?] at h1
      refine Reg.step2_val (.pointer (some ⟨w.heap.size, 2, none⟩)) ?_ rfl hI trivial
      go_simp
    · -- 4: 16 := Op.load 24 t15
      intro aq wq lq hI hl hdone hlater hold hd ho
      have h15 : aq.tmps.getD 15 undef = .pointer (some ⟨w.heap.size, 2, none⟩) := hd 15 (by kernel_rfl)
      clear hd ho hdone hlater hold
      rw [Array.getD_eq_getD_getElem?] at h15
      have e0 : wq.cell? ⟨w.heap.size, 2, none⟩ = some (.int .u64 D) := hI.a.cell 2
      refine Reg.step2_val (.int .u64 D) ?_ rfl hI trivial
      go_simp
    · -- 5: 17 := Op.build 29 #((0, t13), (1, const (Value.string ( data := #(
      intro aq wq lq hI hl hdone hlater hold hd ho
      have h13 : aq.tmps.getD 13 undef = .int .u8 kd := hd 13 (by kernel_rfl)
      have h14 : aq.tmps.getD 14 undef = .string VT := hd 14 (by kernel_rfl)
      have h16 : aq.tmps.getD 16 undef = .int .u64 D := hd 16 (by kernel_rfl)
      clear hd ho hdone hlater hold
      rw [Array.getD_eq_getD_getElem?] at h13 h14 h16
      refine Reg.step2_val (.agg #[.int .u8 kd, .string ⟨#[107]⟩, .string VT, .int .u64 D]) ?_ rfl hI trivial
      simp [execOp, Act.eval, h13, h14, h16]
      try go_simp
    · -- 6: 18 := Op.fieldAddr 26 t1 0
      intro aq wq lq hI hl hdone hlater hold hd ho
      have h1 : aq.tmps.getD 1 undef = .pointer (some ⟨w.heap.size, 0, none⟩) := ho 1 (by kernel_rfl)
      clear hd ho hdone hlater hold
      rw [Array.getD_eq_getD_getElem?] at h1
      refine Reg.step2_val (.pointer (some ⟨w.heap.size, 0, none⟩)) ?_ rfl hI trivial
      go_simp
    · -- 7: 19 := Op.load 5 t18
      intro aq wq lq hI hl hdone hlater hold hd ho
      have h18 : aq.tmps.getD 18 undef = .pointer (some ⟨w.heap.size, 0, none⟩) := hd 18 (by kernel_rfl)
      clear hd ho hdone hlater hold
      rw [Array.getD_eq_getD_getElem?] at h18
      have e0 : wq.cell? ⟨w.heap.size, 0, none⟩ = some (.int .u8 kd) := hI.a.cell 0
      refine Reg.step2_val (.int .u8 kd) ?_ rfl hI trivial
      go_simp
    · -- 8: 20 := Op.move t4
      intro aq wq lq hI hl hdone hlater hold hd ho
      have h4 : aq.tmps.getD 4 undef = .string VT := ho 4 (by kernel_rfl)
      clear hd ho hdone hlater hold
      exact Reg.step2_move (.tmp 4) rfl h4 hI trivial
    · -- 9: 21 := Op.fieldAddr 26 t1 2
      intro aq wq lq hI hl hdone hlater hold hd ho
      have h1 : aq.tmps.getD 1 undef = .pointer (some ⟨w.heap.size, 0, none⟩) := ho 1 (by kernel_rfl)
      clear hd ho hdone hlater hold
      rw [Array.getD_eq_getD_getElem?] at h1
      refine Reg.step2_val (.pointer (some ⟨w.heap.size, 2, none⟩)) ?_ rfl hI trivial
      go_simp
    · -- 10: 22 := Op.load 24 t21
      intro aq wq lq hI hl hdone hlater hold hd ho
      have h21 : aq.tmps.getD 21 undef = .pointer (some ⟨w.heap.size, 2, none⟩) := hd 21 (by kernel_rfl)
      clear hd ho hdone hlater hold
      rw [Array.getD_eq_getD_getElem?] at h21
      have e0 : wq.cell? ⟨w.heap.size, 2, none⟩ = some (.int .u64 D) := hI.a.cell 2
      refine Reg.step2_val (.int .u64 D) ?_ rfl hI trivial
      go_simp
    · -- 11: 23 := Op.build 31 #((0, t19), (1, const (Value.string ( data := #(
      intro aq wq lq hI hl hdone hlater hold hd ho
      have h19 : aq.tmps.getD 19 undef = .int .u8 kd := hd 19 (by kernel_rfl)
      have h20 : aq.tmps.getD 20 undef = .string VT := hd 20 (by kernel_rfl)
      have h22 : aq.tmps.getD 22 undef = .int .u64 D := hd 22 (by kernel_rfl)
      clear hd ho hdone hlater hold
      rw [Array.getD_eq_getD_getElem?] at h19 h20 h22
      refine Reg.step2_val (.agg #[.int .u8 kd, .string ⟨#[107]⟩, .string VT, .int .u64 D]) ?_ rfl hI trivial
      simp [execOp, Act.eval, h19, h20, h22]
      try go_simp
    · -- 12: None := Op.store 29 t2 t17
      intro aq wq lq hI hl hdone hlater hold hd ho
      have h2 : aq.tmps.getD 2 undef = .pointer (some ⟨w.heap.size + 1, 0, none⟩) := ho 2 (by kernel_rfl)
      have h17 : aq.tmps.getD 17 undef = .agg #[.int .u8 kd, .string ⟨#[107]⟩, .string VT, .int .u64 D] := hd 17 (by kernel_rfl)
      clear hd ho hdone hlater hold
      rw [Array.getD_eq_getD_getElem?] at h2 h17
      have hB := hI.b
      rw [hl] at hB
      have e0 := hB.cell 0
      have e1 := hB.cell 1
      have e2 := hB.cell 2
      have e3 := hB.cell 3
      have f0 := hB.frozen 0
      have f1 := hB.frozen 1
      have f2 := hB.frozen 2
      have f3 := hB.frozen 3
      simp only [z4, if_neg Bool.false_ne_true, List.getElem?_cons_zero, List.getElem?_cons_succ] at e0 e1 e2 e3
      have hJ := hI
      clear hI hB hl
      refine Reg.step2_skip _ rfl ?_ (Of3.stB hJ) trivial
      clear hJ
      simp [execOp]
      go_simp
    · -- 13: None := Op.store 31 t3 t23
      intro aq wq lq hI hl hdone hlater hold hd ho
      have h3 : aq.tmps.getD 3 undef = .pointer (some ⟨w.heap.size + 1 + 1, 0, none⟩) := ho 3 (by kernel_rfl)
      have h23 : aq.tmps.getD 23 undef = .agg #[.int .u8 kd, .string ⟨#[107]⟩, .string VT, .int .u64 D] := hd 23 (by kernel_rfl)
      clear hd ho hdone hlater hold
      rw [Array.getD_eq_getD_getElem?] at h3 h23
      have hB := hI.r
      rw [hl] at hB
      have e0 := hB.cell 0
      have e1 := hB.cell 1
      have e2 := hB.cell 2
      have e3 := hB.cell 3
      have f0 := hB.frozen 0
      have f1 := hB.frozen 1
      have f2 := hB.frozen 2
      have f3 := hB.frozen 3
      simp only [z4, if_neg Bool.false_ne_true, List.getElem?_cons_zero, List.getElem?_cons_succ] at e0 e1 e2 e3
      have hJ := hI
      clear hI hB hl
      refine Reg.step2_skip _ rfl ?_ (Of3.stR hJ) trivial
      clear hJ
      simp [execOp]
      go_simp
    case hend =>
    intro wx hI
    simp only [Reg.fill, List.foldl_cons, List.foldl_nil, List.setIfInBounds_toArray, List.set_cons_zero, List.set_cons_succ]
    have hJ : Of3 w [.int .u8 kd, .string V, .int .u64 D] [.int .u8 kd, .string ⟨#[107]⟩, .string VT, .int .u64 D] true true wx := hI
    clear hI HOF
    have r0 := hJ.b.cell 0
    have r1 := hJ.b.cell 1
    have r2 := hJ.b.cell 2
    have r3 := hJ.b.cell 3
    have s0 := hJ.r.cell 0
    have s1 := hJ.r.cell 1
    have s2 := hJ.r.cell 2
    have s3 := hJ.r.cell 3
    simp only [if_true, List.getElem?_cons_zero, List.getElem?_cons_succ] at r0 r1 r2 r3 s0 s1 s2 s3
    have hbel := hJ.bel
    clear hJ
    go_wp2_with fail
    exact bodyPost_ret (v := .tuple #[.agg #[.int .u8 kd, .string ⟨#[107]⟩, .string VT, .int .u64 D], .agg #[.int .u8 kd, .string ⟨#[107]⟩, .string VT, .int .u64 D]]) (by simp [results, Try.results8, go_sem, r0, r1, r2, r3, s0, s1, s2, s3]) rfl ⟨rfl, hbel⟩
set_option maxRecDepth 100000 in
set_option maxHeartbeats 8000000 in
theorem tame_any (u : Up) (w : World) (h : WfU u) : Calls Try.prog 13 #[ag3 u] w fun e w' => e = .returned (ag3 (tmM u)) ∧ Below w.heap.size w w' := by
  obtain ⟨k0, k1, d0, d1⟩ := h
  have HK := Lib.hid (show (tmM u).kind = 1 + u.kind % 3 from rfl)
  have HV : Hid ((tmM u).val = if 1 + u.kind % 3 = 1 then u.val else []) := Lib.hid rfl
  have HD : Hid ((tmM u).delta = if 1 + u.kind % 3 = 3 then u.delta else 0) := Lib.hid rfl
  unfold ag3
  rw [HK.out, HV.out, HD.out]
  generalize u.kind = kd at *
  generalize u.delta = D at *
  clear HK HV HD d0 d1
  rcases (show kd % 3 = 0 ∨ kd % 3 = 1 ∨ kd % 3 = 2 by omega) with hr | hr | hr
  · rw [hr, if_pos (by decide), if_neg (by decide), show (1 : Int) + 0 = 1 from rfl]
    generalize Lend.strOf u.val = V at *
    go_enter Try.func13, Try.ntmps13
    go_wp2_with fail
    exact bodyPost_ret (v := .agg #[.int .u8 1, .string V, .int .u64 0]) (by simp [results, Try.results13, go_sem]) rfl ⟨rfl, below_nw (below_new _ _) _⟩
  · rw [hr, if_neg (by decide), if_neg (by decide), show (1 : Int) + 1 = 2 from rfl, strOf0]
    generalize Lend.strOf u.val = V at *
    go_enter Try.func13, Try.ntmps13
    go_wp2_with fail
    exact bodyPost_ret (v := .agg #[.int .u8 2, .string ⟨#[]⟩, .int .u64 0]) (by simp [results, Try.results13, go_sem]) rfl ⟨rfl, below_nw (below_new _ _) _⟩
  · rw [hr, if_neg (by decide), if_pos (by decide), show (1 : Int) + 2 = 3 from rfl, strOf0]
    generalize Lend.strOf u.val = V at *
    go_enter Try.func13, Try.ntmps13
    go_wp2_with fail
    exact bodyPost_ret (v := .agg #[.int .u8 3, .string ⟨#[]⟩, .int .u64 D]) (by simp [results, Try.results13, go_sem]) rfl ⟨rfl, below_nw (below_new _ _) _⟩
theorem wk_facts : onU ([], false) ⟨3, [], [], 5⟩ = ([5, 0, 0, 0, 0, 0, 0, 0], true) ∧ encN 5 8 = [5, 0, 0, 0, 0, 0, 0, 0] ∧ numB [5, 0, 0, 0, 0, 0, 0, 0] = true ∧ numN [5, 0, 0, 0, 0, 0, 0, 0] = 5 ∧ numB [97, 98, 99] = false := by
  have e : encN 5 8 = [5, 0, 0, 0, 0, 0, 0, 0] := by decide +kernel
  refine ⟨?_, e, rfl, by decide +kernel, rfl⟩
  rw [on_add _ rfl]
  show (encN 5 8, true) = _
  rw [e]
set_option maxRecDepth 100000 in
set_option maxHeartbeats 8000000 in
theorem wakes_any (w : World) : Calls Try.prog 12 #[] w fun e w' => e = .returned (.bool true) ∧ Below w.heap.size w w' := by
  have F := wk_facts
  have HON := Lib.hid (show ∀ W, Calls Try.prog 9 #[.string ⟨#[]⟩, .bool false, .agg #[.int .u8 3, .string ⟨#[]⟩, .string ⟨#[]⟩, .int .u64 5]] W fun e w' => e = .returned (.tuple #[.string ⟨#[5, 0, 0, 0, 0, 0, 0, 0]⟩, .bool true]) ∧ Below W.heap.size W w' from fun W => by
    have h := on_any ([], false) ⟨3, [], [], 5⟩ W (by decide) ⟨by decide, by decide, by decide, by decide⟩
    rw [F.1] at h
    exact h)
  have HN1 := Lib.hid (show ∀ W, Calls Try.prog 16 #[.string ⟨#[5, 0, 0, 0, 0, 0, 0, 0]⟩] W fun e w' => e = .returned (.tuple #[.int .u64 5, .bool true]) ∧ Below W.heap.size W w' from fun W => by
    have h := number_any [5, 0, 0, 0, 0, 0, 0, 0] W (by decide)
    rw [F.2.2.1, F.2.2.2.1] at h
    exact h)
  have HN2 := Lib.hid (show ∀ W, Calls Try.prog 16 #[.string ⟨#[97, 98, 99]⟩] W fun e w' => e = .returned (.tuple #[.int .u64 (numN [97, 98, 99]), .bool false]) ∧ Below W.heap.size W w' from fun W => by
    have h := number_any [97, 98, 99] W (by decide)
    rw [F.2.2.2.2] at h
    exact h)
  have HV := Lib.hid (show ∀ W, Calls Try.prog 18 #[.int .u64 5] W fun e w' => e = .returned (.string ⟨#[5, 0, 0, 0, 0, 0, 0, 0]⟩) ∧ Below W.heap.size W w' from fun W => by
    have h := value_any 5 W (by decide) (by decide)
    rw [F.2.1] at h
    exact h)
  generalize numN [97, 98, 99] = z at *
  clear F
  go_enter Try.func12, Try.ntmps12
  go_wp2_with fail
  refine (HON.out _).mono ?_
  rintro e w1 ⟨rfl, hb1⟩
  have HB1 := Lib.hid hb1
  clear hb1
  go_wp2_with fail
  refine (HN1.out _).mono ?_
  rintro e w2 ⟨rfl, hb2⟩
  have HB2 := Lib.hid (below_on HB1.out hb2)
  clear hb2
  go_wp2_with fail
  refine (HN2.out _).mono ?_
  rintro e w3 ⟨rfl, hb3⟩
  have HB3 := Lib.hid (below_on HB2.out hb3)
  clear hb3
  go_wp2_with fail
  refine (HV.out _).mono ?_
  rintro e w4 ⟨rfl, hb4⟩
  have HB4 := Lib.hid (below_on HB3.out hb4)
  clear hb4
  go_wp2_with fail
  go_ret
  exact ⟨rfl, HB4.out⟩
end Go.Proofs.Ytmhinnfcfnlfkaa.Msg
