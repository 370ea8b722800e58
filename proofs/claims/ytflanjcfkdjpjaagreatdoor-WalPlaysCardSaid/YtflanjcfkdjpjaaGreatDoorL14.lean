/- Layers' contracts, bundled: WalE, WalG. -/
import Derived.Test.YtflanjcfkdjpjaaGreatDoorL13
import Derived.Test.YtflanjcfkdjpjaaGreatDoorL08
import Derived.Deep.RegionWith
/- Layer 13 (wal): open, add. -/
namespace Go.Proofs.YtflanjcfkdjpjaaGreatDoor.Wal
open Go Go.RowKit Go.Proofs.YtflanjcfkdjpjaaGreatDoor Dev Tab Rem Go.Maps Go.WideMaps Mir Rec
set_option linter.unusedVariables false
section
variable {w0 w w' : World} {X Y Z : List Nat} {q c mm tb bb R s b lb tl : Nat} {pd : Nat → Nat} {S S' : Nat → Sd} {F C n ch : Int} {k : Nat}
/-- what 'open' tells of an image -/
def OpnP (w : World) (b n ch : Int) (t : List UInt8) (e : Ending) (w' : World) : Prop :=
  (∃ l v, rcO b n ch t = some l ∧ e = .returned (.tuple #[.agg #[.int .u64 n, .int .u32 ch, v], .bool true]) ∧ RA w' w.heap.size v l ∧ Below w.heap.size w w') ∨
  (rcO b n ch t = none ∧ (∃ x y a l c, e = .returned (.tuple #[.agg #[.int .u64 x, .int .u32 y, .slice a l c], .bool false])) ∧ Below w.heap.size w w')
theorem OpnP.yes {b n ch : Int} {t : List UInt8} {e : Ending} (l : List Up) (v : Value) (h : rcO b n ch t = some l) (he : e = .returned (.tuple #[.agg #[.int .u64 n, .int .u32 ch, v], .bool true])) (h1 : RA w' w.heap.size v l) (h2 : Below w.heap.size w w') : OpnP w b n ch t e w' := .inl ⟨l, v, h, he, h1, h2⟩
theorem OpnP.no {b n ch : Int} {t : List UInt8} {e : Ending} (x y : Int) (a : Option Addr) (l c : Nat) (h : rcO b n ch t = none) (he : e = .returned (.tuple #[.agg #[.int .u64 x, .int .u32 y, .slice a l c], .bool false])) (h2 : Below w.heap.size w w') : OpnP w b n ch t e w' := .inr ⟨h, ⟨x, y, a, l, c, he⟩, h2⟩
theorem Lg.drew (h : Lg w0 Y lb tl mm tb bb q pd S c R F C n k ch w) : Lg w0 Y lb tl mm tb bb q pd S c R F C n k ch w.drew := h.later (Below.refl _ w).drew
/-- the result's block g, and the record's rb -/
structure Op6 (w : World) (g rb : Nat) (a d : Int) (v : Value) (l : List Up) (b : Bool) (wy : World) : Prop where
  bel : Below w.heap.size w wy
  res : Has wy g 59 (bif b then [.int .u64 a, .int .u32 d, v] else [.int .u64 0, .int .u32 0, .slice none 0 0])
  rcd : Has wy rb 59 [.int .u64 a, .int .u32 d, v]
  ra : RA wy w.heap.size v l
  ne : rb ≠ g
  ge : w.heap.size ≤ g
  nv : ∀ k, v.ownBlock = some k → k ≠ g
theorem Op6.st {g rb : Nat} {a d : Int} {v : Value} {l : List Up} {wy : World} (h : Op6 w g rb a d v l false wy) : Op6 w g rb a d v l true (((wy.setCell ⟨g, 0, none⟩ (.int .u64 a)).setCell ⟨g, 1, none⟩ (.int .u32 d)).setCell ⟨g, 2, none⟩ v) := by
  obtain ⟨h1, h2, h3, h4, h5, h6, h7⟩ := h
  refine ⟨((h1.setCell (by exact h6) _).setCell (by exact h6) _).setCell (by exact h6) _, ?_, ?_, ?_, h5, h6, h7⟩
  · have := ((Has.set h2 0 (.int .u64 a)).set 1 (.int .u32 d)).set 2 v
    simpa using this
  · exact ((h3.setOther (fun e => h5 e.symm) _).setOther (fun e => h5 e.symm) _).setOther (fun e => h5 e.symm) _
  · refine owns_same h4 fun k hk => ?_
    have := h7 k hk
    rw [Below.heap_setCell _ _ _ _ (fun e => this e), Below.heap_setCell _ _ _ _ (fun e => this e), Below.heap_setCell _ _ _ _ (fun e => this e)]
set_option maxHeartbeats 4000000 in
set_option maxRecDepth 100000 in
theorem open_l (t : ByteArray) (h : Lg w0 Y lb tl mm tb bb q pd S c R F C n k ch w) (ht : t.size ≤ 100000) : Calls Tryz.prog 60 #[.pointer (some ⟨lb, 0, none⟩), .string t] w (OpnP w (bk F C (n + k)) (n + k) ch t.data.toList) := by
  obtain ⟨g0, hg0⟩ : ∃ x, x = w.alloc (.cells #[.int .u64 0, .int .u32 0, .slice none 0 0] 59) := ⟨_, rfl⟩
  have HB0 := Lib.hid (show Below w.heap.size w g0 by rw [hg0]; exact below_new _ _)
  have HX := Lib.hid (show Has g0 w.heap.size 59 [.int .u64 0, .int .u32 0, .slice none 0 0] by rw [hg0]; exact Has.new _ _ _)
  have HL := Lib.hid (h.later HB0.out)
  have HT := Lib.hid ht
  have c1 := (h.later (below_new w (.cells #[.int .u64 0, .int .u32 0, .slice none 0 0] 59))).c1
  obtain ⟨B, hB⟩ : ∃ x, x = bk F C (n + k) := ⟨_, rfl⟩
  have HBB := Lib.hid hB
  rw [← hB]
  clear h ht hB
  go_enter Tryz.func60, Tryz.ntmps60
  go_wp2_with fail
  rw [← hg0]
  refine (Env.open_any tl t _ HL.out.tab (Nat.le_trans HT.out (by decide))).mono ?_
  rintro e w1 ⟨rfl, hb⟩
  have HB1 := Lib.hid (below_on HB0.out hb)
  have HX1 := Lib.hid (HX.out.below hb HX.out.lt)
  have HL1 := Lib.hid (HL.out.later hb)
  clear hg0 c1 hb HX HL HB0
  obtain ⟨tt, htt⟩ : ∃ x, x = t.data.toList := ⟨_, rfl⟩
  rw [← htt]
  have HTT := Lib.hid htt
  clear htt
  have HH := Has.new w1 [.int .u8 0, .int .i64 0, .int .u64 0] 113
  have e0 := HH.cell 0
  have e1 := HH.cell 1
  have e2 := HH.cell 2
  have q0 := HH.frozen 0
  have q1 := HH.frozen 1
  have q2 := HH.frozen 2
  simp only [List.getElem?_cons_zero, List.getElem?_cons_succ] at e0 e1 e2
  clear HH
  by_cases hE : Env.opE tt = 0
  · have hv : Env.open3V tt = .tuple #[.agg #[.int .u8 (Env.F tt 0), .int .i64 (Env.F tt 3), .int .u64 (Env.F tt 4)], .string (Lend.strOf (Env.opP tt)), .int .i64 0] := by
      simp [Env.open3V, Env.oK, Env.oA, Env.oG, Env.oP, hE]
    rw [hv]
    have HRC := Lib.hid (show ∀ b n c, rcO b n c tt = if Env.F tt 0 = 3 ∧ Env.F tt 3 = b ∧ Env.F tt 4 = n then (match opR (Env.opP tt) with
        | some (a, d, l) => if a = n ∧ d = c then some l else none
        | none => none) else none from fun b n c => by unfold rcO; simp only [hE, true_and]; rfl)
    have HPS := Lib.hid (show (Env.opP tt).length ≤ 100000 from by
      have h1 : tt.length ≤ 100000 := by rw [HTT.out]; have := HT.out; simpa using this
      unfold Env.opP; rw [List.length_take, List.length_drop]; omega)
    obtain ⟨p, hp⟩ : ∃ x, x = Env.opP tt := ⟨_, rfl⟩
    obtain ⟨K, hK⟩ : ∃ x, x = Env.F tt 0 := ⟨_, rfl⟩
    obtain ⟨A, hA⟩ : ∃ x, x = Env.F tt 3 := ⟨_, rfl⟩
    obtain ⟨G, hG⟩ : ∃ x, x = Env.F tt 4 := ⟨_, rfl⟩
    rw [← hp] at HRC HPS ⊢
    rw [← hK, ← hA, ← hG] at HRC ⊢
    clear hv hE hp hK hA hG
    have HB2 := Lib.hid (below_nw HB1.out (.cells #[.int .u8 K, .int .i64 A, .int .u64 G] 113))
    have HX2 := Lib.hid (HX1.out.alloc (.cells #[.int .u8 K, .int .i64 A, .int .u64 G] 113))
    have HL2 := Lib.hid (HL1.out.later (below_new w1 (.cells #[.int .u8 K, .int .i64 A, .int .u64 G] 113)))
    have HH2 := Lib.hid (Has.new w1 [.int .u8 K, .int .i64 A, .int .u64 G] 113)
    obtain ⟨w2, hw2⟩ : ∃ x, x = w1.alloc (.cells #[.int .u8 K, .int .i64 A, .int .u64 G] 113) := ⟨_, rfl⟩
    obtain ⟨hb, hhb⟩ : ∃ x, x = w1.heap.size := ⟨_, rfl⟩
    go_upto_region 2 with fail
    rw [show w1.alloc (.cells #[.int .u8 K, .int .i64 A, .int .u64 G] 113) = w2 from hw2.symm] at HB2 HX2 HL2 ⊢
    rw [show [Value.int .u8 K, .int .i64 A, .int .u64 G].toArray = #[.int .u8 K, .int .i64 A, .int .u64 G] from rfl, ← hw2] at HH2
    rw [← hhb] at HH2 ⊢
    clear hw2 hhb e0 e1 e2 q0 q1 q2 HX1 HL1 HB1
    by_cases hm : K = 3 ∧ A = B ∧ G = n + k
    · obtain ⟨hK, hA, hG⟩ := hm
      rw [hK, hA, hG] at HRC HH2 ⊢
      clear hK hA hG K A G
      refine Reg.region_vals (by kernel_rfl) [(22, .int .i64 0), (23, .bool false), (24, .bool false), (25, .agg #[.int .u8 3, .int .i64 B, .int .u64 (n + k)]), (26, .pointer (some ⟨lb, 0, none⟩)), (27, hdV B (n + k)), (28, .bool false), (29, .bool false)] (fun _ wy => Below w2.heap.size w2 wy) (by kernel_rfl) (by kernel_rfl) (by kernel_rfl) ((Env.below_dr (Below.refl _ w2))) ⟨?_, ?_, ?_, ?_, ?_, ?_, ?_, ?_, trivial⟩ ?hend
      · skip
        intro aq wq lq hI hl hdone hlater hold hd ho
        have h8 : aq.tmps.getD 8 undef = .int .i64 0 := ho 8 (by kernel_rfl)
        clear hd ho hdone hlater hold
        exact Reg.step2_move (.tmp 8) rfl h8 hI trivial
      · skip
        intro aq wq lq hI hl hdone hlater hold hd ho
        have h22 : aq.tmps.getD 22 undef = .int .i64 0 := hd 22 (by kernel_rfl)
        clear hd ho hdone hlater hold
        rw [Array.getD_eq_getD_getElem?] at h22
        refine Reg.step2_val (.bool false) ?_ rfl hI trivial
        simp [execOp, Act.eval, h22]
        try go_simp
      · skip
        intro aq wq lq hI hl hdone hlater hold hd ho
        have h23 : aq.tmps.getD 23 undef = .bool false := hd 23 (by kernel_rfl)
        clear hd ho hdone hlater hold
        exact Reg.step2_move (.tmp 23) rfl h23 hI trivial
      · skip
        intro aq wq lq hI hl hdone hlater hold hd ho
        have h6 : aq.tmps.getD 6 undef = .pointer (some ⟨hb, 0, none⟩) := ho 6 (by kernel_rfl)
        clear hd ho hdone hlater hold
        rw [Array.getD_eq_getD_getElem?] at h6
        have hx := HH2.out.below hI HH2.out.lt
        have x0 := hx.cell 0
        have x1 := hx.cell 1
        have x2 := hx.cell 2
        simp only [List.getElem?_cons_zero, List.getElem?_cons_succ] at x0 x1 x2
        clear hx
        refine Reg.step2_val (.agg #[.int .u8 3, .int .i64 B, .int .u64 (n + k)]) ?_ rfl hI trivial
        go_simp
      · skip
        intro aq wq lq hI hl hdone hlater hold hd ho
        have h0 : aq.tmps.getD 0 undef = .pointer (some ⟨lb, 0, none⟩) := ho 0 (by kernel_rfl)
        clear hd ho hdone hlater hold
        exact Reg.step2_move (.tmp 0) rfl h0 hI trivial
      · skip
        intro aq wq lq hI hl hdone hlater hold hd ho
        have h26 : aq.tmps.getD 26 undef = .pointer (some ⟨lb, 0, none⟩) := hd 26 (by kernel_rfl)
        clear hd ho hdone hlater hold
        rw [Array.getD_eq_getD_getElem?] at h26
        refine Reg.step2_call 42 #[.pointer (some ⟨lb, 0, none⟩)] ?_ ((head_l (HL2.out.later hI)).mono ?_)
        · clear hI
          simp [execOp]
          go_simp
        · rintro e w3 ⟨rfl, hb⟩
          rw [← HBB.out]
          exact ⟨_, rfl, rfl, hI.trans (hb.mono hI.size), trivial⟩
      · skip
        intro aq wq lq hI hl hdone hlater hold hd ho
        have h25 : aq.tmps.getD 25 undef = .agg #[.int .u8 3, .int .i64 B, .int .u64 (n + k)] := hd 25 (by kernel_rfl)
        have h27 : aq.tmps.getD 27 undef = hdV B (n + k) := hd 27 (by kernel_rfl)
        clear hd ho hdone hlater hold
        rw [Array.getD_eq_getD_getElem?] at h25 h27
        refine Reg.step2_val (.bool false) ?_ rfl hI trivial
        simp [execOp, Act.eval, h25, h27]
        try go_simp
      · skip
        intro aq wq lq hI hl hdone hlater hold hd ho
        have h24 : aq.tmps.getD 24 undef = .bool false := hd 24 (by kernel_rfl)
        have h28 : aq.tmps.getD 28 undef = .bool false := hd 28 (by kernel_rfl)
        clear hd ho hdone hlater hold
        rw [Array.getD_eq_getD_getElem?] at h24 h28
        refine Reg.step2_val (.bool false) ?_ rfl hI trivial
        simp [execOp, Act.eval, h24, h28]
        try go_simp
      case hend =>
      intro wz hI
      simp only [Reg.fill, List.foldl_cons, List.foldl_nil, List.setIfInBounds_toArray, List.set_cons_zero, List.set_cons_succ]
      have HB3 := Lib.hid (below_on HB2.out hI)
      have HX3 := Lib.hid (HX2.out.below hI HX2.out.lt)
      have HL3 := Lib.hid (HL2.out.later hI)
      clear hI HX2 HL2 HH2 HB2
      go_wp2_with fail
      refine (Rec.Open_any p wz HPS.out).mono ?_
      intro e w4 hop
      rcases hop with ⟨a, d, l, v', hor, rfl, hra, hb⟩ | ⟨hor, rfl, hb⟩
      · obtain ⟨va, vc, rfl⟩ := (UR.of_own hra).slice
        obtain ⟨ln, hln⟩ : ∃ x, x = l.length := ⟨_, rfl⟩
        rw [← hln] at hra ⊢
        have HLN := Lib.hid hln
        clear hln
        have HOR := Lib.hid hor
        have HB4 := Lib.hid (below_nw (below_on HB3.out hb) (.cells #[.int .u64 a, .int .u32 d, (.slice va ln vc)] 59))
        have HX4 := Lib.hid ((HX3.out.below hb HX3.out.lt).alloc (.cells #[.int .u64 a, .int .u32 d, (.slice va ln vc)] 59))
        have HL4 := Lib.hid ((HL3.out.later hb).later (below_new w4 (.cells #[.int .u64 a, .int .u32 d, (.slice va ln vc)] 59)))
        have HG4 := Lib.hid (Has.new w4 [.int .u64 a, .int .u32 d, (.slice va ln vc)] 59)
        have HRA4 := Lib.hid (own_bel hra (below_new w4 (.cells #[.int .u64 a, .int .u32 d, (.slice va ln vc)] 59)))
        have HGE := Lib.hid hb.size
        have HB3S := Lib.hid HB3.out.size
        have HX4L := Lib.hid (show w.heap.size < w4.heap.size from Nat.lt_of_lt_of_le HX3.out.lt hb.size)
        have HX4L2 := Lib.hid HX3.out.lt
        have HH := Has.new w4 [.int .u64 0, .int .u32 0, .slice none 0 0] 59
        have e0 := HH.cell 0
        have e1 := HH.cell 1
        have e2 := HH.cell 2
        have q0 := HH.frozen 0
        have q1 := HH.frozen 1
        have q2 := HH.frozen 2
        simp only [List.getElem?_cons_zero, List.getElem?_cons_succ] at e0 e1 e2
        clear HH hra hor hb HX3 HL3 HB3
        go_wp2_with fail
        refine (Next_l HL4.out).mono ?_
        rintro e w5 ⟨rfl, j5, rfl⟩
        clear e0 e1 e2 q0 q1 q2
        go_wp2_with fail
        obtain ⟨rb, hrb⟩ : ∃ x, x = w4.heap.size := ⟨_, rfl⟩
        rw [← hrb] at HG4 ⊢
        have HO := Lib.hid (show Op6 w w.heap.size rb a d (.slice va ln vc) l false ((w4.alloc (.cells #[.int .u64 a, .int .u32 d, (.slice va ln vc)] 59)).drewN j5).drew from
          ⟨Below.drew (below_drewN HB4.out _), HX4.out, HG4.out, own_base HRA4.out HB3S.out, by have := HX4L.out; omega, Nat.le_refl _, fun k hk e => by have := HRA4.out.lt k hk; have := HX4L2.out; omega⟩)
        clear HB4 HX4 HL4 HG4 HRA4 HGE hrb
        by_cases ha : a = n + k
        · by_cases hd : d = ch
          · have hd2 := hd.symm
            subst ha
            subst hd2
            have HYES := Lib.hid (show rcO B (n + k) ch tt = some l from by rw [HRC.out]; simp [HOR.out])
            clear hd
            refine Reg.region_vals (by kernel_rfl) [(41, .agg #[.int .u64 (n + k), .int .u32 (ch), .slice va ln vc]), (42, .int .i64 0), (43, .bool true), (44, .bool true), (45, .pointer (some ⟨rb, 0, none⟩)), (46, .int .u64 (n + k)), (47, .int .u64 (n + k)), (48, .bool true), (49, .bool true), (50, .bool true), (51, .pointer (some ⟨rb, 1, none⟩)), (52, .int .u32 (ch)), (53, .int .u32 ch), (54, .bool true), (55, .bool true), (5, .bool true)] (fun lx wy => Op6 w w.heap.size rb (n + k) (ch) (.slice va ln vc) (l) (lx 15) wy) (by kernel_rfl) (by kernel_rfl) (by kernel_rfl) (HO.out) ⟨?_, ?_, ?_, ?_, ?_, ?_, ?_, ?_, ?_, ?_, ?_, ?_, ?_, ?_, ?_, ?_, ?_, trivial⟩ ?hend
            · skip
              intro aq wq lq hI hl hdone hlater hold hd ho
              have h9 : aq.tmps.getD 9 undef = .pointer (some ⟨rb, 0, none⟩) := ho 9 (by kernel_rfl)
              clear hd ho hdone hlater hold
              rw [Array.getD_eq_getD_getElem?] at h9
              have x0 := hI.rcd.cell 0
              have x1 := hI.rcd.cell 1
              have x2 := hI.rcd.cell 2
              simp only [List.getElem?_cons_zero, List.getElem?_cons_succ] at x0 x1 x2
              refine Reg.step2_val (.agg #[.int .u64 (n + k), .int .u32 (ch), .slice va ln vc]) ?_ rfl hI trivial
              go_simp
            · skip
              intro aq wq lq hI hl hdone hlater hold hd ho
              have h8 : aq.tmps.getD 8 undef = .int .i64 0 := ho 8 (by kernel_rfl)
              clear hd ho hdone hlater hold
              exact Reg.step2_move (.tmp 8) rfl h8 hI trivial
            · skip
              intro aq wq lq hI hl hdone hlater hold hd ho
              have h42 : aq.tmps.getD 42 undef = .int .i64 0 := hd 42 (by kernel_rfl)
              clear hd ho hdone hlater hold
              rw [Array.getD_eq_getD_getElem?] at h42
              refine Reg.step2_val (.bool true) ?_ rfl hI trivial
              simp [execOp, Act.eval, h42]
              try go_simp
            · skip
              intro aq wq lq hI hl hdone hlater hold hd ho
              have h43 : aq.tmps.getD 43 undef = .bool true := hd 43 (by kernel_rfl)
              clear hd ho hdone hlater hold
              exact Reg.step2_move (.tmp 43) rfl h43 hI trivial
            · skip
              intro aq wq lq hI hl hdone hlater hold hd ho
              have h9 : aq.tmps.getD 9 undef = .pointer (some ⟨rb, 0, none⟩) := ho 9 (by kernel_rfl)
              clear hd ho hdone hlater hold
              rw [Array.getD_eq_getD_getElem?] at h9
              refine Reg.step2_val (.pointer (some ⟨rb, 0, none⟩)) ?_ rfl hI trivial
              go_simp
            · skip
              intro aq wq lq hI hl hdone hlater hold hd ho
              have h45 : aq.tmps.getD 45 undef = .pointer (some ⟨rb, 0, none⟩) := hd 45 (by kernel_rfl)
              clear hd ho hdone hlater hold
              rw [Array.getD_eq_getD_getElem?] at h45
              have x0 := hI.rcd.cell 0
              simp only [List.getElem?_cons_zero] at x0
              refine Reg.step2_val (.int .u64 (n + k)) ?_ rfl hI trivial
              go_simp
            · skip
              intro aq wq lq hI hl hdone hlater hold hd ho
              have h10 : aq.tmps.getD 10 undef = .int .u64 (n + k) := ho 10 (by kernel_rfl)
              clear hd ho hdone hlater hold
              exact Reg.step2_move (.tmp 10) rfl h10 hI trivial
            · skip
              intro aq wq lq hI hl hdone hlater hold hd ho
              have h46 : aq.tmps.getD 46 undef = .int .u64 (n + k) := hd 46 (by kernel_rfl)
              have h47 : aq.tmps.getD 47 undef = .int .u64 (n + k) := hd 47 (by kernel_rfl)
              clear hd ho hdone hlater hold
              rw [Array.getD_eq_getD_getElem?] at h46 h47
              refine Reg.step2_val (.bool true) ?_ rfl hI trivial
              simp [execOp, Act.eval, h46, h47]
              try go_simp
            · skip
              intro aq wq lq hI hl hdone hlater hold hd ho
              have h44 : aq.tmps.getD 44 undef = .bool true := hd 44 (by kernel_rfl)
              have h48 : aq.tmps.getD 48 undef = .bool true := hd 48 (by kernel_rfl)
              clear hd ho hdone hlater hold
              rw [Array.getD_eq_getD_getElem?] at h44 h48
              refine Reg.step2_val (.bool true) ?_ rfl hI trivial
              simp [execOp, Act.eval, h44, h48]
              try go_simp
            · skip
              intro aq wq lq hI hl hdone hlater hold hd ho
              have h49 : aq.tmps.getD 49 undef = .bool true := hd 49 (by kernel_rfl)
              clear hd ho hdone hlater hold
              exact Reg.step2_move (.tmp 49) rfl h49 hI trivial
            · skip
              intro aq wq lq hI hl hdone hlater hold hd ho
              have h9 : aq.tmps.getD 9 undef = .pointer (some ⟨rb, 0, none⟩) := ho 9 (by kernel_rfl)
              clear hd ho hdone hlater hold
              rw [Array.getD_eq_getD_getElem?] at h9
              refine Reg.step2_val (.pointer (some ⟨rb, 1, none⟩)) ?_ rfl hI trivial
              go_simp
            · skip
              intro aq wq lq hI hl hdone hlater hold hd ho
              have h51 : aq.tmps.getD 51 undef = .pointer (some ⟨rb, 1, none⟩) := hd 51 (by kernel_rfl)
              clear hd ho hdone hlater hold
              rw [Array.getD_eq_getD_getElem?] at h51
              have x1 := hI.rcd.cell 1
              simp only [List.getElem?_cons_zero, List.getElem?_cons_succ] at x1
              refine Reg.step2_val (.int .u32 (ch)) ?_ rfl hI trivial
              go_simp
            · skip
              intro aq wq lq hI hl hdone hlater hold hd ho
              have h11 : aq.tmps.getD 11 undef = .int .u32 ch := ho 11 (by kernel_rfl)
              clear hd ho hdone hlater hold
              exact Reg.step2_move (.tmp 11) rfl h11 hI trivial
            · skip
              intro aq wq lq hI hl hdone hlater hold hd ho
              have h52 : aq.tmps.getD 52 undef = .int .u32 (ch) := hd 52 (by kernel_rfl)
              have h53 : aq.tmps.getD 53 undef = .int .u32 ch := hd 53 (by kernel_rfl)
              clear hd ho hdone hlater hold
              rw [Array.getD_eq_getD_getElem?] at h52 h53
              refine Reg.step2_val (.bool true) ?_ rfl hI trivial
              simp [execOp, Act.eval, h52, h53]
              try go_simp
            · skip
              intro aq wq lq hI hl hdone hlater hold hd ho
              have h50 : aq.tmps.getD 50 undef = .bool true := hd 50 (by kernel_rfl)
              have h54 : aq.tmps.getD 54 undef = .bool true := hd 54 (by kernel_rfl)
              clear hd ho hdone hlater hold
              rw [Array.getD_eq_getD_getElem?] at h50 h54
              refine Reg.step2_val (.bool true) ?_ rfl hI trivial
              simp [execOp, Act.eval, h50, h54]
              try go_simp
            · skip
              intro aq wq lq hI hl hdone hlater hold hd ho
              have h4 : aq.tmps.getD 4 undef = .pointer (some ⟨w.heap.size, 0, none⟩) := ho 4 (by kernel_rfl)
              have h41 : aq.tmps.getD 41 undef = .agg #[.int .u64 (n + k), .int .u32 (ch), .slice va ln vc] := hd 41 (by kernel_rfl)
              clear hd ho hdone hlater hold
              rw [Array.getD_eq_getD_getElem?] at h4 h41
              have hJ := hI
              clear hI
              rw [show lq 15 = false from hl] at hJ
              have y0 := hJ.res.cell 0
              have y1 := hJ.res.cell 1
              have y2 := hJ.res.cell 2
              have z0 := hJ.res.frozen 0
              have z1 := hJ.res.frozen 1
              have z2 := hJ.res.frozen 2
              simp only [cond_false, List.getElem?_cons_zero, List.getElem?_cons_succ] at y0 y1 y2
              refine Reg.step2_skip (((wq.setCell ⟨w.heap.size, 0, none⟩ (.int .u64 (n + k))).setCell ⟨w.heap.size, 1, none⟩ (.int .u32 (ch))).setCell ⟨w.heap.size, 2, none⟩ (.slice va ln vc)) rfl ?_ hJ.st trivial
              clear hJ
              simp [execOp]
              go_simp
            · skip
              intro aq wq lq hI hl hdone hlater hold hd ho
              have h55 : aq.tmps.getD 55 undef = .bool true := hd 55 (by kernel_rfl)
              clear hd ho hdone hlater hold
              exact Reg.step2_assign (.tmp 55) rfl h55 hI trivial
            case hend =>
            intro wz hI
            simp only [Reg.fill, List.foldl_cons, List.foldl_nil, List.setIfInBounds_toArray, List.set_cons_zero, List.set_cons_succ]
            have HI := Lib.hid (show Op6 w w.heap.size rb (n + k) (ch) (.slice va ln vc) l true wz from hI)
            have x0 := HI.out.res.cell 0
            have x1 := HI.out.res.cell 1
            have x2 := HI.out.res.cell 2
            simp only [cond_true, List.getElem?_cons_zero, List.getElem?_cons_succ] at x0 x1 x2
            clear hI
            go_wp2
            refine bodyPost_ret (v := .tuple #[.agg #[.int .u64 (n + k), .int .u32 (ch), .slice va ln vc], .bool true]) (by simp [results, Tryz.results60, go_sem, x0, x1, x2]) rfl (OpnP.yes l _ (by rw [← HTT.out]; exact HYES.out) rfl HI.out.ra HI.out.bel)
          · have HNOT := Lib.hid (show rcO B (n + k) ch tt = none from by rw [HRC.out]; simp [HOR.out, hd])
            subst ha
            refine Reg.region_vals (by kernel_rfl) [(41, .agg #[.int .u64 (n + k), .int .u32 (d), .slice va ln vc]), (42, .int .i64 0), (43, .bool true), (44, .bool true), (45, .pointer (some ⟨rb, 0, none⟩)), (46, .int .u64 (n + k)), (47, .int .u64 (n + k)), (48, .bool true), (49, .bool true), (50, .bool true), (51, .pointer (some ⟨rb, 1, none⟩)), (52, .int .u32 (d)), (53, .int .u32 ch), (54, .bool false), (55, .bool false), (5, .bool false)] (fun lx wy => Op6 w w.heap.size rb (n + k) (d) (.slice va ln vc) (l) (lx 15) wy) (by kernel_rfl) (by kernel_rfl) (by kernel_rfl) (HO.out) ⟨?_, ?_, ?_, ?_, ?_, ?_, ?_, ?_, ?_, ?_, ?_, ?_, ?_, ?_, ?_, ?_, ?_, trivial⟩ ?hend
            · skip
              intro aq wq lq hI hl hdone hlater hold hd ho
              have h9 : aq.tmps.getD 9 undef = .pointer (some ⟨rb, 0, none⟩) := ho 9 (by kernel_rfl)
              clear hd ho hdone hlater hold
              rw [Array.getD_eq_getD_getElem?] at h9
              have x0 := hI.rcd.cell 0
              have x1 := hI.rcd.cell 1
              have x2 := hI.rcd.cell 2
              simp only [List.getElem?_cons_zero, List.getElem?_cons_succ] at x0 x1 x2
              refine Reg.step2_val (.agg #[.int .u64 (n + k), .int .u32 (d), .slice va ln vc]) ?_ rfl hI trivial
              go_simp
            · skip
              intro aq wq lq hI hl hdone hlater hold hd ho
              have h8 : aq.tmps.getD 8 undef = .int .i64 0 := ho 8 (by kernel_rfl)
              clear hd ho hdone hlater hold
              exact Reg.step2_move (.tmp 8) rfl h8 hI trivial
            · skip
              intro aq wq lq hI hl hdone hlater hold hd ho
              have h42 : aq.tmps.getD 42 undef = .int .i64 0 := hd 42 (by kernel_rfl)
              clear hd ho hdone hlater hold
              rw [Array.getD_eq_getD_getElem?] at h42
              refine Reg.step2_val (.bool true) ?_ rfl hI trivial
              simp [execOp, Act.eval, h42]
              try go_simp
            · skip
              intro aq wq lq hI hl hdone hlater hold hd ho
              have h43 : aq.tmps.getD 43 undef = .bool true := hd 43 (by kernel_rfl)
              clear hd ho hdone hlater hold
              exact Reg.step2_move (.tmp 43) rfl h43 hI trivial
            · skip
              intro aq wq lq hI hl hdone hlater hold hd ho
              have h9 : aq.tmps.getD 9 undef = .pointer (some ⟨rb, 0, none⟩) := ho 9 (by kernel_rfl)
              clear hd ho hdone hlater hold
              rw [Array.getD_eq_getD_getElem?] at h9
              refine Reg.step2_val (.pointer (some ⟨rb, 0, none⟩)) ?_ rfl hI trivial
              go_simp
            · skip
              intro aq wq lq hI hl hdone hlater hold hd ho
              have h45 : aq.tmps.getD 45 undef = .pointer (some ⟨rb, 0, none⟩) := hd 45 (by kernel_rfl)
              clear hd ho hdone hlater hold
              rw [Array.getD_eq_getD_getElem?] at h45
              have x0 := hI.rcd.cell 0
              simp only [List.getElem?_cons_zero] at x0
              refine Reg.step2_val (.int .u64 (n + k)) ?_ rfl hI trivial
              go_simp
            · skip
              intro aq wq lq hI hl hdone hlater hold hd ho
              have h10 : aq.tmps.getD 10 undef = .int .u64 (n + k) := ho 10 (by kernel_rfl)
              clear hd ho hdone hlater hold
              exact Reg.step2_move (.tmp 10) rfl h10 hI trivial
            · skip
              intro aq wq lq hI hl hdone hlater hold hd ho
              have h46 : aq.tmps.getD 46 undef = .int .u64 (n + k) := hd 46 (by kernel_rfl)
              have h47 : aq.tmps.getD 47 undef = .int .u64 (n + k) := hd 47 (by kernel_rfl)
              clear hd ho hdone hlater hold
              rw [Array.getD_eq_getD_getElem?] at h46 h47
              refine Reg.step2_val (.bool true) ?_ rfl hI trivial
              simp [execOp, Act.eval, h46, h47]
              try go_simp
            · skip
              intro aq wq lq hI hl hdone hlater hold hd ho
              have h44 : aq.tmps.getD 44 undef = .bool true := hd 44 (by kernel_rfl)
              have h48 : aq.tmps.getD 48 undef = .bool true := hd 48 (by kernel_rfl)
              clear hd ho hdone hlater hold
              rw [Array.getD_eq_getD_getElem?] at h44 h48
              refine Reg.step2_val (.bool true) ?_ rfl hI trivial
              simp [execOp, Act.eval, h44, h48]
              try go_simp
            · skip
              intro aq wq lq hI hl hdone hlater hold hd ho
              have h49 : aq.tmps.getD 49 undef = .bool true := hd 49 (by kernel_rfl)
              clear hd ho hdone hlater hold
              exact Reg.step2_move (.tmp 49) rfl h49 hI trivial
            · skip
              intro aq wq lq hI hl hdone hlater hold hd ho
              have h9 : aq.tmps.getD 9 undef = .pointer (some ⟨rb, 0, none⟩) := ho 9 (by kernel_rfl)
              clear hd ho hdone hlater hold
              rw [Array.getD_eq_getD_getElem?] at h9
              refine Reg.step2_val (.pointer (some ⟨rb, 1, none⟩)) ?_ rfl hI trivial
              go_simp
            · skip
              intro aq wq lq hI hl hdone hlater hold hd ho
              have h51 : aq.tmps.getD 51 undef = .pointer (some ⟨rb, 1, none⟩) := hd 51 (by kernel_rfl)
              clear hd ho hdone hlater hold
              rw [Array.getD_eq_getD_getElem?] at h51
              have x1 := hI.rcd.cell 1
              simp only [List.getElem?_cons_zero, List.getElem?_cons_succ] at x1
              refine Reg.step2_val (.int .u32 (d)) ?_ rfl hI trivial
              go_simp
            · skip
              intro aq wq lq hI hl hdone hlater hold hd ho
              have h11 : aq.tmps.getD 11 undef = .int .u32 ch := ho 11 (by kernel_rfl)
              clear hd ho hdone hlater hold
              exact Reg.step2_move (.tmp 11) rfl h11 hI trivial
            · skip
              intro aq wq lq hI hl hdone hlater hold hd ho
              have h52 : aq.tmps.getD 52 undef = .int .u32 (d) := hd 52 (by kernel_rfl)
              have h53 : aq.tmps.getD 53 undef = .int .u32 ch := hd 53 (by kernel_rfl)
              clear hd ho hdone hlater hold
              rw [Array.getD_eq_getD_getElem?] at h52 h53
              refine Reg.step2_val (.bool false) ?_ rfl hI trivial
              simp [execOp, Act.eval, h52, h53]
              try go_simp
            · skip
              intro aq wq lq hI hl hdone hlater hold hd ho
              have h50 : aq.tmps.getD 50 undef = .bool true := hd 50 (by kernel_rfl)
              have h54 : aq.tmps.getD 54 undef = .bool false := hd 54 (by kernel_rfl)
              clear hd ho hdone hlater hold
              rw [Array.getD_eq_getD_getElem?] at h50 h54
              refine Reg.step2_val (.bool false) ?_ rfl hI trivial
              simp [execOp, Act.eval, h50, h54]
              try go_simp
            · skip
              intro aq wq lq hI hl hdone hlater hold hd ho
              have h4 : aq.tmps.getD 4 undef = .pointer (some ⟨w.heap.size, 0, none⟩) := ho 4 (by kernel_rfl)
              have h41 : aq.tmps.getD 41 undef = .agg #[.int .u64 (n + k), .int .u32 (d), .slice va ln vc] := hd 41 (by kernel_rfl)
              clear hd ho hdone hlater hold
              rw [Array.getD_eq_getD_getElem?] at h4 h41
              have hJ := hI
              clear hI
              rw [show lq 15 = false from hl] at hJ
              have y0 := hJ.res.cell 0
              have y1 := hJ.res.cell 1
              have y2 := hJ.res.cell 2
              have z0 := hJ.res.frozen 0
              have z1 := hJ.res.frozen 1
              have z2 := hJ.res.frozen 2
              simp only [cond_false, List.getElem?_cons_zero, List.getElem?_cons_succ] at y0 y1 y2
              refine Reg.step2_skip (((wq.setCell ⟨w.heap.size, 0, none⟩ (.int .u64 (n + k))).setCell ⟨w.heap.size, 1, none⟩ (.int .u32 (d))).setCell ⟨w.heap.size, 2, none⟩ (.slice va ln vc)) rfl ?_ hJ.st trivial
              clear hJ
              simp [execOp]
              go_simp
            · skip
              intro aq wq lq hI hl hdone hlater hold hd ho
              have h55 : aq.tmps.getD 55 undef = .bool false := hd 55 (by kernel_rfl)
              clear hd ho hdone hlater hold
              exact Reg.step2_assign (.tmp 55) rfl h55 hI trivial
            case hend =>
            intro wz hI
            simp only [Reg.fill, List.foldl_cons, List.foldl_nil, List.setIfInBounds_toArray, List.set_cons_zero, List.set_cons_succ]
            have HI := Lib.hid (show Op6 w w.heap.size rb (n + k) (d) (.slice va ln vc) l true wz from hI)
            have x0 := HI.out.res.cell 0
            have x1 := HI.out.res.cell 1
            have x2 := HI.out.res.cell 2
            simp only [cond_true, List.getElem?_cons_zero, List.getElem?_cons_succ] at x0 x1 x2
            clear hI
            go_wp2
            refine bodyPost_ret (v := .tuple #[.agg #[.int .u64 (n + k), .int .u32 (d), .slice va ln vc], .bool false]) (by simp [results, Tryz.results60, go_sem, x0, x1, x2]) rfl (OpnP.no _ _ _ _ _ (by rw [← HTT.out]; exact HNOT.out) rfl HI.out.bel)
        · have HNOT := Lib.hid (show rcO B (n + k) ch tt = none from by rw [HRC.out]; simp [HOR.out, ha])
          refine Reg.region_valsG (by kernel_rfl) [(41, .agg #[.int .u64 (a), .int .u32 (d), .slice va ln vc]), (42, .int .i64 0), (43, .bool true), (44, .bool true), (45, .pointer (some ⟨rb, 0, none⟩)), (46, .int .u64 (a)), (47, .int .u64 (n + k)), (48, .bool false), (49, .bool false), (50, .bool false), (51, undef), (52, undef), (53, undef), (54, undef), (55, .bool false), (5, .bool false)] (fun lx wy => Op6 w w.heap.size rb (a) (d) (.slice va ln vc) (l) (lx 15) wy) (by kernel_rfl) (by kernel_rfl) [10, 11, 12, 13] (by kernel_rfl) (HO.out) ⟨?_, ?_, ?_, ?_, ?_, ?_, ?_, ?_, ?_, ?_, ?_, ?_, ?_, ?_, ?_, ?_, ?_, trivial⟩ ?hend
          · skip
            intro aq wq lq hI hl hdone hlater hold hd ho
            have h9 : aq.tmps.getD 9 undef = .pointer (some ⟨rb, 0, none⟩) := ho 9 (by kernel_rfl)
            clear hd ho hdone hlater hold
            rw [Array.getD_eq_getD_getElem?] at h9
            have x0 := hI.rcd.cell 0
            have x1 := hI.rcd.cell 1
            have x2 := hI.rcd.cell 2
            simp only [List.getElem?_cons_zero, List.getElem?_cons_succ] at x0 x1 x2
            refine Reg.step2_val (.agg #[.int .u64 (a), .int .u32 (d), .slice va ln vc]) ?_ rfl hI trivial
            go_simp
          · skip
            intro aq wq lq hI hl hdone hlater hold hd ho
            have h8 : aq.tmps.getD 8 undef = .int .i64 0 := ho 8 (by kernel_rfl)
            clear hd ho hdone hlater hold
            exact Reg.step2_move (.tmp 8) rfl h8 hI trivial
          · skip
            intro aq wq lq hI hl hdone hlater hold hd ho
            have h42 : aq.tmps.getD 42 undef = .int .i64 0 := hd 42 (by kernel_rfl)
            clear hd ho hdone hlater hold
            rw [Array.getD_eq_getD_getElem?] at h42
            refine Reg.step2_val (.bool true) ?_ rfl hI trivial
            simp [execOp, Act.eval, h42]
            try go_simp
          · skip
            intro aq wq lq hI hl hdone hlater hold hd ho
            have h43 : aq.tmps.getD 43 undef = .bool true := hd 43 (by kernel_rfl)
            clear hd ho hdone hlater hold
            exact Reg.step2_move (.tmp 43) rfl h43 hI trivial
          · skip
            intro aq wq lq hI hl hdone hlater hold hd ho
            have h9 : aq.tmps.getD 9 undef = .pointer (some ⟨rb, 0, none⟩) := ho 9 (by kernel_rfl)
            clear hd ho hdone hlater hold
            rw [Array.getD_eq_getD_getElem?] at h9
            refine Reg.step2_val (.pointer (some ⟨rb, 0, none⟩)) ?_ rfl hI trivial
            go_simp
          · skip
            intro aq wq lq hI hl hdone hlater hold hd ho
            have h45 : aq.tmps.getD 45 undef = .pointer (some ⟨rb, 0, none⟩) := hd 45 (by kernel_rfl)
            clear hd ho hdone hlater hold
            rw [Array.getD_eq_getD_getElem?] at h45
            have x0 := hI.rcd.cell 0
            simp only [List.getElem?_cons_zero] at x0
            refine Reg.step2_val (.int .u64 (a)) ?_ rfl hI trivial
            go_simp
          · skip
            intro aq wq lq hI hl hdone hlater hold hd ho
            have h10 : aq.tmps.getD 10 undef = .int .u64 (n + k) := ho 10 (by kernel_rfl)
            clear hd ho hdone hlater hold
            exact Reg.step2_move (.tmp 10) rfl h10 hI trivial
          · skip
            intro aq wq lq hI hl hdone hlater hold hd ho
            have h46 : aq.tmps.getD 46 undef = .int .u64 (a) := hd 46 (by kernel_rfl)
            have h47 : aq.tmps.getD 47 undef = .int .u64 (n + k) := hd 47 (by kernel_rfl)
            clear hd ho hdone hlater hold
            rw [Array.getD_eq_getD_getElem?] at h46 h47
            refine Reg.step2_val (.bool false) ?_ rfl hI trivial
            simp [execOp, Act.eval, h46, h47]
            try go_simp
          · skip
            intro aq wq lq hI hl hdone hlater hold hd ho
            have h44 : aq.tmps.getD 44 undef = .bool true := hd 44 (by kernel_rfl)
            have h48 : aq.tmps.getD 48 undef = .bool false := hd 48 (by kernel_rfl)
            clear hd ho hdone hlater hold
            rw [Array.getD_eq_getD_getElem?] at h44 h48
            refine Reg.step2_val (.bool false) ?_ rfl hI trivial
            simp [execOp, Act.eval, h44, h48]
            try go_simp
          · skip
            intro aq wq lq hI hl hdone hlater hold hd ho
            have h49 : aq.tmps.getD 49 undef = .bool false := hd 49 (by kernel_rfl)
            clear hd ho hdone hlater hold
            exact Reg.step2_move (.tmp 49) rfl h49 hI trivial
          · skip
            intro aq wq lq hI hl hdone hlater hold hd ho
            exact Reg.stepG_skip rfl hI trivial
          · skip
            intro aq wq lq hI hl hdone hlater hold hd ho
            exact Reg.stepG_skip rfl hI trivial
          · skip
            intro aq wq lq hI hl hdone hlater hold hd ho
            exact Reg.stepG_skip rfl hI trivial
          · skip
            intro aq wq lq hI hl hdone hlater hold hd ho
            exact Reg.stepG_skip rfl hI trivial
          · skip
            intro aq wq lq hI hl hdone hlater hold hd ho
            have h50 : aq.tmps.getD 50 undef = .bool false := hd 50 (by kernel_rfl)
            have h54 : aq.tmps.getD 54 undef = undef := hd 54 (by kernel_rfl)
            clear hd ho hdone hlater hold
            rw [Array.getD_eq_getD_getElem?] at h50 h54
            refine Reg.step2_val (.bool false) ?_ rfl hI trivial
            simp [execOp, Act.eval, h50, h54]
            try go_simp
          · skip
            intro aq wq lq hI hl hdone hlater hold hd ho
            have h4 : aq.tmps.getD 4 undef = .pointer (some ⟨w.heap.size, 0, none⟩) := ho 4 (by kernel_rfl)
            have h41 : aq.tmps.getD 41 undef = .agg #[.int .u64 (a), .int .u32 (d), .slice va ln vc] := hd 41 (by kernel_rfl)
            clear hd ho hdone hlater hold
            rw [Array.getD_eq_getD_getElem?] at h4 h41
            have hJ := hI
            clear hI
            rw [show lq 15 = false from hl] at hJ
            have y0 := hJ.res.cell 0
            have y1 := hJ.res.cell 1
            have y2 := hJ.res.cell 2
            have z0 := hJ.res.frozen 0
            have z1 := hJ.res.frozen 1
            have z2 := hJ.res.frozen 2
            simp only [cond_false, List.getElem?_cons_zero, List.getElem?_cons_succ] at y0 y1 y2
            refine Reg.step2_skip (((wq.setCell ⟨w.heap.size, 0, none⟩ (.int .u64 (a))).setCell ⟨w.heap.size, 1, none⟩ (.int .u32 (d))).setCell ⟨w.heap.size, 2, none⟩ (.slice va ln vc)) rfl ?_ hJ.st trivial
            clear hJ
            simp [execOp]
            go_simp
          · skip
            intro aq wq lq hI hl hdone hlater hold hd ho
            have h55 : aq.tmps.getD 55 undef = .bool false := hd 55 (by kernel_rfl)
            clear hd ho hdone hlater hold
            exact Reg.step2_assign (.tmp 55) rfl h55 hI trivial
          case hend =>
          intro wz hI
          simp only [Reg.fill, List.foldl_cons, List.foldl_nil, List.setIfInBounds_toArray, List.set_cons_zero, List.set_cons_succ]
          have HI := Lib.hid (show Op6 w w.heap.size rb (a) (d) (.slice va ln vc) l true wz from hI)
          have x0 := HI.out.res.cell 0
          have x1 := HI.out.res.cell 1
          have x2 := HI.out.res.cell 2
          simp only [cond_true, List.getElem?_cons_zero, List.getElem?_cons_succ] at x0 x1 x2
          clear hI
          go_wp2
          refine bodyPost_ret (v := .tuple #[.agg #[.int .u64 (a), .int .u32 (d), .slice va ln vc], .bool false]) (by simp [results, Tryz.results60, go_sem, x0, x1, x2]) rfl (OpnP.no _ _ _ _ _ (by rw [← HTT.out]; exact HNOT.out) rfl HI.out.bel)
      · have HNOT := Lib.hid (show rcO B (n + k) ch tt = none from by rw [HRC.out]; simp [hor])
        have HB4 := Lib.hid (below_nw (below_on HB3.out hb) (.cells #[.int .u64 0, .int .u32 0, .slice none 0 0] 59))
        have HX4 := Lib.hid ((HX3.out.below hb HX3.out.lt).alloc (.cells #[.int .u64 0, .int .u32 0, .slice none 0 0] 59))
        have HL4 := Lib.hid ((HL3.out.later hb).later (below_new w4 (.cells #[.int .u64 0, .int .u32 0, .slice none 0 0] 59)))
        have HG4 := Lib.hid (Has.new w4 [.int .u64 0, .int .u32 0, .slice none 0 0] 59)
        have HX4L := Lib.hid (show w.heap.size < w4.heap.size from Nat.lt_of_lt_of_le HX3.out.lt hb.size)
        have HH := Has.new w4 [.int .u64 0, .int .u32 0, .slice none 0 0] 59
        have e0 := HH.cell 0
        have e1 := HH.cell 1
        have e2 := HH.cell 2
        have q0 := HH.frozen 0
        have q1 := HH.frozen 1
        have q2 := HH.frozen 2
        simp only [List.getElem?_cons_zero, List.getElem?_cons_succ] at e0 e1 e2
        clear HH hor hb HX3 HL3 HB3
        go_wp2_with fail
        refine (Next_l HL4.out).mono ?_
        rintro e w5 ⟨rfl, j5, rfl⟩
        clear e0 e1 e2 q0 q1 q2
        go_wp2_with fail
        obtain ⟨rb, hrb⟩ : ∃ x, x = w4.heap.size := ⟨_, rfl⟩
        rw [← hrb] at HG4 ⊢
        have HO := Lib.hid (show Op6 w w.heap.size rb 0 0 (.slice none 0 0) [] false ((w4.alloc (.cells #[.int .u64 0, .int .u32 0, (.slice none 0 0)] 59)).drewN j5).drew from
          ⟨Below.drew (below_drewN HB4.out _), HX4.out, HG4.out, World.ownsRow_nil _ _ _ _, by have := HX4L.out; omega, Nat.le_refl _, fun k hk e => by cases hk⟩)
        clear HB4 HX4 HL4 HG4 hrb
        refine Reg.region_valsG (by kernel_rfl) [(41, .agg #[.int .u64 (0), .int .u32 (0), .slice none 0 0]), (42, .int .i64 4), (43, .bool false), (44, .bool false), (45, undef), (46, undef), (47, undef), (48, undef), (49, .bool false), (50, .bool false), (51, undef), (52, undef), (53, undef), (54, undef), (55, .bool false), (5, .bool false)] (fun lx wy => Op6 w w.heap.size rb (0) (0) (.slice none 0 0) ([]) (lx 15) wy) (by kernel_rfl) (by kernel_rfl) [4, 5, 6, 7, 10, 11, 12, 13] (by kernel_rfl) (HO.out) ⟨?_, ?_, ?_, ?_, ?_, ?_, ?_, ?_, ?_, ?_, ?_, ?_, ?_, ?_, ?_, ?_, ?_, trivial⟩ ?hend
        · skip
          intro aq wq lq hI hl hdone hlater hold hd ho
          have h9 : aq.tmps.getD 9 undef = .pointer (some ⟨rb, 0, none⟩) := ho 9 (by kernel_rfl)
          clear hd ho hdone hlater hold
          rw [Array.getD_eq_getD_getElem?] at h9
          have x0 := hI.rcd.cell 0
          have x1 := hI.rcd.cell 1
          have x2 := hI.rcd.cell 2
          simp only [List.getElem?_cons_zero, List.getElem?_cons_succ] at x0 x1 x2
          refine Reg.step2_val (.agg #[.int .u64 (0), .int .u32 (0), .slice none 0 0]) ?_ rfl hI trivial
          go_simp
        · skip
          intro aq wq lq hI hl hdone hlater hold hd ho
          have h8 : aq.tmps.getD 8 undef = .int .i64 4 := ho 8 (by kernel_rfl)
          clear hd ho hdone hlater hold
          exact Reg.step2_move (.tmp 8) rfl h8 hI trivial
        · skip
          intro aq wq lq hI hl hdone hlater hold hd ho
          have h42 : aq.tmps.getD 42 undef = .int .i64 4 := hd 42 (by kernel_rfl)
          clear hd ho hdone hlater hold
          rw [Array.getD_eq_getD_getElem?] at h42
          refine Reg.step2_val (.bool false) ?_ rfl hI trivial
          simp [execOp, Act.eval, h42]
          try go_simp
        · skip
          intro aq wq lq hI hl hdone hlater hold hd ho
          have h43 : aq.tmps.getD 43 undef = .bool false := hd 43 (by kernel_rfl)
          clear hd ho hdone hlater hold
          exact Reg.step2_move (.tmp 43) rfl h43 hI trivial
        · skip
          intro aq wq lq hI hl hdone hlater hold hd ho
          exact Reg.stepG_skip rfl hI trivial
        · skip
          intro aq wq lq hI hl hdone hlater hold hd ho
          exact Reg.stepG_skip rfl hI trivial
        · skip
          intro aq wq lq hI hl hdone hlater hold hd ho
          exact Reg.stepG_skip rfl hI trivial
        · skip
          intro aq wq lq hI hl hdone hlater hold hd ho
          exact Reg.stepG_skip rfl hI trivial
        · skip
          intro aq wq lq hI hl hdone hlater hold hd ho
          have h44 : aq.tmps.getD 44 undef = .bool false := hd 44 (by kernel_rfl)
          have h48 : aq.tmps.getD 48 undef = undef := hd 48 (by kernel_rfl)
          clear hd ho hdone hlater hold
          rw [Array.getD_eq_getD_getElem?] at h44 h48
          refine Reg.step2_val (.bool false) ?_ rfl hI trivial
          simp [execOp, Act.eval, h44, h48]
          try go_simp
        · skip
          intro aq wq lq hI hl hdone hlater hold hd ho
          have h49 : aq.tmps.getD 49 undef = .bool false := hd 49 (by kernel_rfl)
          clear hd ho hdone hlater hold
          exact Reg.step2_move (.tmp 49) rfl h49 hI trivial
        · skip
          intro aq wq lq hI hl hdone hlater hold hd ho
          exact Reg.stepG_skip rfl hI trivial
        · skip
          intro aq wq lq hI hl hdone hlater hold hd ho
          exact Reg.stepG_skip rfl hI trivial
        · skip
          intro aq wq lq hI hl hdone hlater hold hd ho
          exact Reg.stepG_skip rfl hI trivial
        · skip
          intro aq wq lq hI hl hdone hlater hold hd ho
          exact Reg.stepG_skip rfl hI trivial
        · skip
          intro aq wq lq hI hl hdone hlater hold hd ho
          have h50 : aq.tmps.getD 50 undef = .bool false := hd 50 (by kernel_rfl)
          have h54 : aq.tmps.getD 54 undef = undef := hd 54 (by kernel_rfl)
          clear hd ho hdone hlater hold
          rw [Array.getD_eq_getD_getElem?] at h50 h54
          refine Reg.step2_val (.bool false) ?_ rfl hI trivial
          simp [execOp, Act.eval, h50, h54]
          try go_simp
        · skip
          intro aq wq lq hI hl hdone hlater hold hd ho
          have h4 : aq.tmps.getD 4 undef = .pointer (some ⟨w.heap.size, 0, none⟩) := ho 4 (by kernel_rfl)
          have h41 : aq.tmps.getD 41 undef = .agg #[.int .u64 (0), .int .u32 (0), .slice none 0 0] := hd 41 (by kernel_rfl)
          clear hd ho hdone hlater hold
          rw [Array.getD_eq_getD_getElem?] at h4 h41
          have hJ := hI
          clear hI
          rw [show lq 15 = false from hl] at hJ
          have y0 := hJ.res.cell 0
          have y1 := hJ.res.cell 1
          have y2 := hJ.res.cell 2
          have z0 := hJ.res.frozen 0
          have z1 := hJ.res.frozen 1
          have z2 := hJ.res.frozen 2
          simp only [cond_false, List.getElem?_cons_zero, List.getElem?_cons_succ] at y0 y1 y2
          refine Reg.step2_skip (((wq.setCell ⟨w.heap.size, 0, none⟩ (.int .u64 (0))).setCell ⟨w.heap.size, 1, none⟩ (.int .u32 (0))).setCell ⟨w.heap.size, 2, none⟩ (.slice none 0 0)) rfl ?_ hJ.st trivial
          clear hJ
          simp [execOp]
          go_simp
        · skip
          intro aq wq lq hI hl hdone hlater hold hd ho
          have h55 : aq.tmps.getD 55 undef = .bool false := hd 55 (by kernel_rfl)
          clear hd ho hdone hlater hold
          exact Reg.step2_assign (.tmp 55) rfl h55 hI trivial
        case hend =>
        intro wz hI
        simp only [Reg.fill, List.foldl_cons, List.foldl_nil, List.setIfInBounds_toArray, List.set_cons_zero, List.set_cons_succ]
        have HI := Lib.hid (show Op6 w w.heap.size rb (0) (0) (.slice none 0 0) ([]) true wz from hI)
        have x0 := HI.out.res.cell 0
        have x1 := HI.out.res.cell 1
        have x2 := HI.out.res.cell 2
        simp only [cond_true, List.getElem?_cons_zero, List.getElem?_cons_succ] at x0 x1 x2
        clear hI
        go_wp2
        refine bodyPost_ret (v := .tuple #[.agg #[.int .u64 (0), .int .u32 (0), .slice none 0 0], .bool false]) (by simp [results, Tryz.results60, go_sem, x0, x1, x2]) rfl (OpnP.no _ _ _ _ _ (by rw [← HTT.out]; exact HNOT.out) rfl HI.out.bel)
    · have HNM := Lib.hid hm
      refine Reg.region_vals (by kernel_rfl) [(22, .int .i64 0), (23, .bool false), (24, .bool false), (25, .agg #[.int .u8 K, .int .i64 A, .int .u64 G]), (26, .pointer (some ⟨lb, 0, none⟩)), (27, hdV B (n + k)), (28, .bool true), (29, .bool true)] (fun _ wy => Below w2.heap.size w2 wy) (by kernel_rfl) (by kernel_rfl) (by kernel_rfl) ((Env.below_dr (Below.refl _ w2))) ⟨?_, ?_, ?_, ?_, ?_, ?_, ?_, ?_, trivial⟩ ?hend
      · skip
        intro aq wq lq hI hl hdone hlater hold hd ho
        have h8 : aq.tmps.getD 8 undef = .int .i64 0 := ho 8 (by kernel_rfl)
        clear hd ho hdone hlater hold
        exact Reg.step2_move (.tmp 8) rfl h8 hI trivial
      · skip
        intro aq wq lq hI hl hdone hlater hold hd ho
        have h22 : aq.tmps.getD 22 undef = .int .i64 0 := hd 22 (by kernel_rfl)
        clear hd ho hdone hlater hold
        rw [Array.getD_eq_getD_getElem?] at h22
        refine Reg.step2_val (.bool false) ?_ rfl hI trivial
        simp [execOp, Act.eval, h22]
        try go_simp
      · skip
        intro aq wq lq hI hl hdone hlater hold hd ho
        have h23 : aq.tmps.getD 23 undef = .bool false := hd 23 (by kernel_rfl)
        clear hd ho hdone hlater hold
        exact Reg.step2_move (.tmp 23) rfl h23 hI trivial
      · skip
        intro aq wq lq hI hl hdone hlater hold hd ho
        have h6 : aq.tmps.getD 6 undef = .pointer (some ⟨hb, 0, none⟩) := ho 6 (by kernel_rfl)
        clear hd ho hdone hlater hold
        rw [Array.getD_eq_getD_getElem?] at h6
        have hx := HH2.out.below hI HH2.out.lt
        have x0 := hx.cell 0
        have x1 := hx.cell 1
        have x2 := hx.cell 2
        simp only [List.getElem?_cons_zero, List.getElem?_cons_succ] at x0 x1 x2
        clear hx
        refine Reg.step2_val (.agg #[.int .u8 K, .int .i64 A, .int .u64 G]) ?_ rfl hI trivial
        go_simp
      · skip
        intro aq wq lq hI hl hdone hlater hold hd ho
        have h0 : aq.tmps.getD 0 undef = .pointer (some ⟨lb, 0, none⟩) := ho 0 (by kernel_rfl)
        clear hd ho hdone hlater hold
        exact Reg.step2_move (.tmp 0) rfl h0 hI trivial
      · skip
        intro aq wq lq hI hl hdone hlater hold hd ho
        have h26 : aq.tmps.getD 26 undef = .pointer (some ⟨lb, 0, none⟩) := hd 26 (by kernel_rfl)
        clear hd ho hdone hlater hold
        rw [Array.getD_eq_getD_getElem?] at h26
        refine Reg.step2_call 42 #[.pointer (some ⟨lb, 0, none⟩)] ?_ ((head_l (HL2.out.later hI)).mono ?_)
        · clear hI
          simp [execOp]
          go_simp
        · rintro e w3 ⟨rfl, hb⟩
          rw [← HBB.out]
          exact ⟨_, rfl, rfl, hI.trans (hb.mono hI.size), trivial⟩
      · skip
        intro aq wq lq hI hl hdone hlater hold hd ho
        have h25 : aq.tmps.getD 25 undef = .agg #[.int .u8 K, .int .i64 A, .int .u64 G] := hd 25 (by kernel_rfl)
        have h27 : aq.tmps.getD 27 undef = hdV B (n + k) := hd 27 (by kernel_rfl)
        clear hd ho hdone hlater hold
        rw [Array.getD_eq_getD_getElem?] at h25 h27
        refine Reg.step2_val (.bool true) ?_ rfl hI trivial
        simp [execOp, Act.eval, h25, h27]
        try go_simp
        exact fun a b c => HNM.out ⟨a, b, c⟩
      · skip
        intro aq wq lq hI hl hdone hlater hold hd ho
        have h24 : aq.tmps.getD 24 undef = .bool false := hd 24 (by kernel_rfl)
        have h28 : aq.tmps.getD 28 undef = .bool true := hd 28 (by kernel_rfl)
        clear hd ho hdone hlater hold
        rw [Array.getD_eq_getD_getElem?] at h24 h28
        refine Reg.step2_val (.bool true) ?_ rfl hI trivial
        simp [execOp, Act.eval, h24, h28]
        try go_simp
      case hend =>
      intro wz hI
      simp only [Reg.fill, List.foldl_cons, List.foldl_nil, List.setIfInBounds_toArray, List.set_cons_zero, List.set_cons_succ]
      have HB3 := Lib.hid (below_on HB2.out hI)
      have hx := HX2.out.below hI HX2.out.lt
      have x0 := hx.cell 0
      have x1 := hx.cell 1
      have x2 := hx.cell 2
      have z0 := hx.frozen 0
      have z1 := hx.frozen 1
      have z2 := hx.frozen 2
      simp only [List.getElem?_cons_zero, List.getElem?_cons_succ] at x0 x1 x2
      have HNO := Lib.hid (show rcO B (n + k) ch tt = none from by rw [HRC.out, if_neg HNM.out])
      clear hx hI HX2 HL2 HH2 HB2 HRC HNM hm
      go_wp2_with fail
      refine bodyPost_ret (v := .tuple #[.agg #[.int .u64 0, .int .u32 0, .slice none 0 0], .bool false]) (by simp [results, Tryz.results60, go_sem, x0, x1, x2]) rfl (OpnP.no 0 0 _ _ _ (by rw [← HTT.out]; exact HNO.out) rfl ?_)
      exact bel_res (bel_res (bel_res HB3.out _ _) _ _) _ _
  · obtain ⟨E, hEE⟩ : ∃ x, x = Env.opE tt := ⟨_, rfl⟩
    have hv : Env.open3V tt = .tuple #[.agg #[.int .u8 0, .int .i64 0, .int .u64 0], .string ⟨#[]⟩, .int .i64 E] := by
      simp [Env.open3V, Env.oK, Env.oA, Env.oG, Env.oP, hE, hEE]
    rw [hv]
    have HNOT := Lib.hid (show rcO B (n + k) ch tt = none from by unfold rcO; rw [if_neg (fun h => hE h.1)])
    have hne : (E == 0) = false := by rw [hEE]; simpa using hE
    have hne2 : ¬ E = 0 := by rw [hEE]; exact hE
    clear hv hE hEE
    go_upto_region 2 with fail
    have HB2 := Lib.hid (below_nw HB1.out (.cells #[.int .u8 0, .int .i64 0, .int .u64 0] 113))
    have HX2 := Lib.hid (HX1.out.alloc (.cells #[.int .u8 0, .int .i64 0, .int .u64 0] 113))
    obtain ⟨w2, hw2⟩ : ∃ x, x = w1.alloc (.cells #[.int .u8 0, .int .i64 0, .int .u64 0] 113) := ⟨_, rfl⟩
    obtain ⟨hb, hhb⟩ : ∃ x, x = w1.heap.size := ⟨_, rfl⟩
    rw [show w1.alloc (.cells #[.int .u8 0, .int .i64 0, .int .u64 0] 113) = w2 from hw2.symm] at HB2 HX2 ⊢
    rw [← hhb]
    clear hw2 hhb e0 e1 e2 q0 q1 q2 HX1 HL1 HB1
    refine Reg.region_valsG (by kernel_rfl) [(22, .int .i64 E), (23, .bool true), (24, .bool true), (25, undef), (26, undef), (27, undef), (28, undef), (29, .bool true)] (fun _ wy => Below w2.heap.size w2 wy) (by kernel_rfl) (by kernel_rfl) [3, 4, 5, 6] (by kernel_rfl) ((Env.below_dr (Below.refl _ w2))) ⟨?_, ?_, ?_, ?_, ?_, ?_, ?_, ?_, trivial⟩ ?hend
    · skip
      intro aq wq lq hI hl hdone hlater hold hd ho
      have h8 : aq.tmps.getD 8 undef = .int .i64 E := ho 8 (by kernel_rfl)
      clear hd ho hdone hlater hold
      exact Reg.step2_move (.tmp 8) rfl h8 hI trivial
    · skip
      intro aq wq lq hI hl hdone hlater hold hd ho
      have h22 : aq.tmps.getD 22 undef = .int .i64 E := hd 22 (by kernel_rfl)
      clear hd ho hdone hlater hold
      rw [Array.getD_eq_getD_getElem?] at h22
      refine Reg.step2_val (.bool true) ?_ rfl hI trivial
      simp [execOp, Act.eval, h22]
      try go_simp
    · skip
      intro aq wq lq hI hl hdone hlater hold hd ho
      have h23 : aq.tmps.getD 23 undef = .bool true := hd 23 (by kernel_rfl)
      clear hd ho hdone hlater hold
      exact Reg.step2_move (.tmp 23) rfl h23 hI trivial
    · skip
      intro aq wq lq hI hl hdone hlater hold hd ho
      exact Reg.stepG_skip rfl hI trivial
    · skip
      intro aq wq lq hI hl hdone hlater hold hd ho
      exact Reg.stepG_skip rfl hI trivial
    · skip
      intro aq wq lq hI hl hdone hlater hold hd ho
      exact Reg.stepG_skip rfl hI trivial
    · skip
      intro aq wq lq hI hl hdone hlater hold hd ho
      exact Reg.stepG_skip rfl hI trivial
    · skip
      intro aq wq lq hI hl hdone hlater hold hd ho
      have h24 : aq.tmps.getD 24 undef = .bool true := hd 24 (by kernel_rfl)
      have h28 : aq.tmps.getD 28 undef = undef := hd 28 (by kernel_rfl)
      clear hd ho hdone hlater hold
      rw [Array.getD_eq_getD_getElem?] at h24 h28
      refine Reg.step2_val (.bool true) ?_ rfl hI trivial
      simp [execOp, Act.eval, h24, h28]
      try go_simp
    case hend =>
    intro wz hI
    simp only [Reg.fill, List.foldl_cons, List.foldl_nil, List.setIfInBounds_toArray, List.set_cons_zero, List.set_cons_succ]
    have HB3 := Lib.hid (below_on HB2.out hI)
    have hx := HX2.out.below hI HX2.out.lt
    have x0 := hx.cell 0
    have x1 := hx.cell 1
    have x2 := hx.cell 2
    have z0 := hx.frozen 0
    have z1 := hx.frozen 1
    have z2 := hx.frozen 2
    simp only [List.getElem?_cons_zero, List.getElem?_cons_succ] at x0 x1 x2
    clear hx hI HX2 HB2
    go_wp2_with fail
    refine bodyPost_ret (v := .tuple #[.agg #[.int .u64 0, .int .u32 0, .slice none 0 0], .bool false]) (by simp [results, Tryz.results60, go_sem, x0, x1, x2]) rfl (OpnP.no 0 0 _ _ _ (by rw [← HTT.out]; exact HNOT.out) rfl ?_)
    exact bel_res (bel_res (bel_res HB3.out _ _) _ _) _ _
end
end Go.Proofs.YtflanjcfkdjpjaaGreatDoor.Wal


/- Layer 13 (wal): add, find. -/
namespace Go.Proofs.YtflanjcfkdjpjaaGreatDoor.Wal
open Go Go.RowKit Go.Proofs.YtflanjcfkdjpjaaGreatDoor Dev Tab Rem Go.Maps Go.WideMaps Mir Rec
set_option linter.unusedVariables false
section
variable {w0 w w' : World} {X Y Z : List Nat} {q c mm tb bb R s b lb tl : Nat} {pd : Nat → Nat} {S S' : Nat → Sd} {F C n ch : Int} {k : Nat}
/-- the log's cells, and the record that is added at g -/
structure Ad (w : World) (lb mm tl g : Nat) (F C n : Int) (k : Nat) (ch x : Int) (v : Value) (b : Bool) (wy : World) : Prop where
  chg : Chg (fun j => j = lb) w wy
  row : Has wy lb 92 (lrow mm tl F C n k (bif b then x else ch))
  rcd : Has wy g 59 [.int .u64 (n + k), .int .u32 ch, v]
  tab : Sum.IsTab wy tl
  ne : g ≠ lb
  nt : tl ≠ lb
theorem Ad.later {g : Nat} {x : Int} {v : Value} {b : Bool} {wy wz : World} (h : Ad w lb mm tl g F C n k ch x v b wy) (hb : Below wy.heap.size wy wz) : Ad w lb mm tl g F C n k ch x v b wz :=
  ⟨h.chg.trans (Chg.of_below hb (Nat.le_refl _)) (fun _ _ e => e), h.row.below hb h.row.lt, h.rcd.below hb h.rcd.lt, h.tab.below hb (Nat.le_refl _), h.ne, h.nt⟩
theorem Ad.st {g : Nat} {x : Int} {v : Value} {wy : World} (h : Ad w lb mm tl g F C n k ch x v false wy) : Ad w lb mm tl g F C n k ch x v true (wy.setCell ⟨lb, 6, none⟩ (.int .u32 x)) := by
  obtain ⟨h1, h2, h3, h4, h5, h6⟩ := h
  refine ⟨h1.setCell (fun _ => rfl) _, ?_, h3.setOther (fun e => h5 e.symm) _, Mir.tab_same h4 (Below.heap_setCell _ _ _ _ h6), h5, h6⟩
  have := h2.set 6 (.int .u32 x)
  simpa [lrow] using this
theorem Ad.st5 {g : Nat} {x : Int} {v : Value} {wy : World} (h : Ad w lb mm tl g F C n k ch x v true wy) : Chg (fun j => j = lb) w (wy.setCell ⟨lb, 5, none⟩ (.int .i64 (k + 1))) ∧ Has (wy.setCell ⟨lb, 5, none⟩ (.int .i64 (k + 1))) lb 92 (lrow mm tl F C n (k + 1) x) := by
  obtain ⟨h1, h2, h3, h4, h5, h6⟩ := h
  refine ⟨h1.setCell (fun _ => rfl) _, ?_⟩
  have := h2.set 5 (.int .i64 (k + 1))
  simpa [lrow] using this
theorem Lg.nt (h : Lg w0 Y lb tl mm tb bb q pd S c R F C n k ch w) : tl ≠ lb := fun e => by
  have h1 := h.row
  have h2 := h.tab 0 (by omega)
  rw [e, h1.cell] at h2
  cases h2
/-- updates whose cells aren't of block lb -/
def URn (lb : Nat) (w : World) (v : Value) (l : List Up) : Prop := ∀ w', Chg (fun j => j = lb) w w' → UR w' v l
theorem URn.of_ra {base : Nat} {v : Value} {l : List Up} (h : RA w base v l) (hn : ∀ j, v.ownBlock = some j → j ≠ lb) : URn lb w v l := fun w' hc =>
  UR.of_own (owns_same h fun j hj => hc.block j (h.lt j hj).2 (hn j hj))
theorem URn.of_ur {v : Value} {l : List Up} (h : UR w v l) (hn : ∀ j, v.ownBlock = some j → j ≠ lb) : URn lb w v l := fun w' hc => by
  obtain ⟨a, cap, rfl, hx⟩ := h.form
  refine ⟨a, cap, rfl, fun h0 => ?_⟩
  obtain ⟨g, off, rfl, hcl⟩ := hx h0
  refine ⟨g, off, rfl, fun i hi j hj => ?_⟩
  have h1 := hcl i hi j hj
  have h2 : (encU l[i])[j]? = some ((encU l[i])[j]'(by simpa [encU] using hj)) := List.getElem?_eq_getElem _
  rw [← h1]
  rw [h2] at h1
  exact Mir.cell_same (hc.block g (World.block_lt_of_cell? _ _ h1) (hn g rfl))
set_option maxHeartbeats 4000000 in
set_option maxRecDepth 100000 in
theorem add_l {v : Value} {l : List Up} (h : Lg w0 Y lb tl mm tb bb q pd S c R F C n k ch w) (hu : URn lb w v l) (hl : l.length ≤ 1000) (hwf : ∀ u ∈ l, WfU u) (hk : (k : Int) < C) :
    Calls Tryz.prog 45 #[.pointer (some ⟨lb, 0, none⟩), .agg #[.int .u64 (n + k), .int .u32 ch, v]] w fun e w' => e = .returned (.tuple #[]) ∧ Lg w0 Y lb tl mm tb bb q pd S c R F C n (k + 1) (lkN (n + k) ch l : Nat) w' ∧ Chg (fun j => j = lb) w w' := by
  obtain ⟨va, vc, rfl⟩ := (hu w (Chg.refl _ w)).slice
  obtain ⟨ln, hln⟩ : ∃ x, x = l.length := ⟨_, rfl⟩
  have HLN := Lib.hid hln
  rw [← hln] at hu hl ⊢
  clear hln
  have hrg := h.rg
  have HF := Lib.hid (show Wf3 (n + k) ch l.length from by
    have := hrg.n0; have := hrg.n1; have := hrg.ch0; have := hrg.ch1; have := hrg.k1; have := hrg.cm
    exact ⟨by omega, by omega, by omega, by omega, by rw [← HLN.out]; omega⟩)
  have HG := Lib.hid (show Rg F C n (k + 1) (lkN (n + k) ch l : Nat) from ⟨hrg.f0, hrg.c2, hrg.cm, hrg.fc, hrg.n0, hrg.n1, by omega, by omega, by have := lkN_bd (n + k) ch l; omega⟩)
  have hk256 := hrg.kb
  clear hrg
  have HL := Lib.hid h
  have HU := Lib.hid hu
  have HW := Lib.hid hwf
  obtain ⟨x, hx⟩ : ∃ x, x = lkN (n + k) ch l := ⟨_, rfl⟩
  have HX := Lib.hid hx
  rw [← hx] at HG ⊢
  clear hu hwf hl hk hx
  have hlt := h.lt
  have hnt := h.nt
  have HO := Lib.hid (show Ad w lb mm tl w.heap.size F C n k ch x (.slice va ln vc) false (w.alloc (.cells #[.int .u64 (n + k), .int .u32 ch, .slice va ln vc] 59)).drew from
    ⟨((Chg.refl _ w).alloc _).drew, h.row.alloc _, Has.new w [.int .u64 (n + k), .int .u32 ch, .slice va ln vc] 59, (Sum.IsTab.new h.tab _), by omega, hnt⟩)
  clear h hlt hnt
  go_enter Tryz.func45, Tryz.ntmps45
  go_wp2_with fail
  obtain ⟨g, hg⟩ : ∃ x, x = w.heap.size := ⟨_, rfl⟩
  rw [← hg] at HO ⊢
  clear hg
  refine Reg.region_vals (by kernel_rfl) [(5, .pointer (some ⟨lb, 0, none⟩)), (6, .agg #[.int .u64 (n + k), .int .u32 ch, .slice va ln vc]), (7, .pointer (some ⟨lb, 0, none⟩)), (8, .pointer (some ⟨lb, 0, none⟩)), (9, .pointer (some ⟨lb, 1, none⟩)), (10, .pointer (some ⟨tl, 0, none⟩)), (11, .tuple #[.int .u32 x, .int .i64 (errL l)]), (4, .tuple #[.int .u32 x, .int .i64 (errL l)]), (12, .int .u32 x), (13, .int .i64 (errL l)), (14, .pointer (some ⟨lb, 0, none⟩)), (15, .pointer (some ⟨lb, 6, none⟩))] (fun lx wy => Ad w lb mm tl g F C n k ch x (.slice va ln vc) (lx 12) wy) (by kernel_rfl) (by kernel_rfl) (by kernel_rfl) (HO.out) ⟨?_, ?_, ?_, ?_, ?_, ?_, ?_, ?_, ?_, ?_, ?_, ?_, ?_, trivial⟩ ?hend
  · skip
    intro aq wq lq hI hl hdone hlater hold hd ho
    have h0 : aq.tmps.getD 0 undef = .pointer (some ⟨lb, 0, none⟩) := ho 0 (by kernel_rfl)
    clear hd ho hdone hlater hold
    exact Reg.step2_move (.tmp 0) rfl h0 hI trivial
  · skip
    intro aq wq lq hI hl hdone hlater hold hd ho
    have h3 : aq.tmps.getD 3 undef = .pointer (some ⟨g, 0, none⟩) := ho 3 (by kernel_rfl)
    clear hd ho hdone hlater hold
    rw [Array.getD_eq_getD_getElem?] at h3
    have x0 := hI.rcd.cell 0
    have x1 := hI.rcd.cell 1
    have x2 := hI.rcd.cell 2
    simp only [List.getElem?_cons_zero, List.getElem?_cons_succ] at x0 x1 x2
    refine Reg.step2_val (.agg #[.int .u64 (n + k), .int .u32 ch, .slice va ln vc]) ?_ rfl hI trivial
    go_simp
  · skip
    intro aq wq lq hI hl hdone hlater hold hd ho
    have h0 : aq.tmps.getD 0 undef = .pointer (some ⟨lb, 0, none⟩) := ho 0 (by kernel_rfl)
    clear hd ho hdone hlater hold
    exact Reg.step2_move (.tmp 0) rfl h0 hI trivial
  · skip
    intro aq wq lq hI hl hdone hlater hold hd ho
    have h7 : aq.tmps.getD 7 undef = .pointer (some ⟨lb, 0, none⟩) := hd 7 (by kernel_rfl)
    clear hd ho hdone hlater hold
    rw [Array.getD_eq_getD_getElem?] at h7
    refine Reg.step2_val (.pointer (some ⟨lb, 0, none⟩)) ?_ rfl hI trivial
    go_simp
  · skip
    intro aq wq lq hI hl hdone hlater hold hd ho
    have h8 : aq.tmps.getD 8 undef = .pointer (some ⟨lb, 0, none⟩) := hd 8 (by kernel_rfl)
    clear hd ho hdone hlater hold
    rw [Array.getD_eq_getD_getElem?] at h8
    refine Reg.step2_val (.pointer (some ⟨lb, 1, none⟩)) ?_ rfl hI trivial
    go_simp
  · skip
    intro aq wq lq hI hl hdone hlater hold hd ho
    have h9 : aq.tmps.getD 9 undef = .pointer (some ⟨lb, 1, none⟩) := hd 9 (by kernel_rfl)
    clear hd ho hdone hlater hold
    rw [Array.getD_eq_getD_getElem?] at h9
    have x1 : wq.cell? ⟨lb, 1, none⟩ = some (.pointer (some ⟨tl, 0, none⟩)) := hI.row.cell 1
    refine Reg.step2_val (.pointer (some ⟨tl, 0, none⟩)) ?_ rfl hI trivial
    go_simp
  · skip
    intro aq wq lq hI hl hdone hlater hold hd ho
    have h6 : aq.tmps.getD 6 undef = .agg #[.int .u64 (n + k), .int .u32 ch, .slice va ln vc] := hd 6 (by kernel_rfl)
    have h10 : aq.tmps.getD 10 undef = .pointer (some ⟨tl, 0, none⟩) := hd 10 (by kernel_rfl)
    clear hd ho hdone hlater hold
    rw [Array.getD_eq_getD_getElem?] at h6 h10
    refine Reg.step2_call 19 #[.agg #[.int .u64 (n + k), .int .u32 ch, .slice va ln vc], .pointer (some ⟨tl, 0, none⟩)] ?_ ((Link_any (n + k) ch tl (HU.out wq hI.chg) HF.out HW.out hI.tab).mono ?_)
    · clear hI
      simp [execOp]
      go_simp
    · rintro e w3 ⟨rfl, hb⟩
      rw [← HX.out]
      exact ⟨_, rfl, rfl, hI.later hb, trivial⟩
  · skip
    intro aq wq lq hI hl hdone hlater hold hd ho
    have h11 : aq.tmps.getD 11 undef = .tuple #[.int .u32 x, .int .i64 (errL l)] := hd 11 (by kernel_rfl)
    clear hd ho hdone hlater hold
    exact Reg.step2_move (.tmp 11) rfl h11 hI trivial
  · skip
    intro aq wq lq hI hl hdone hlater hold hd ho
    have h4 : aq.tmps.getD 4 undef = .tuple #[.int .u32 x, .int .i64 (errL l)] := hd 4 (by kernel_rfl)
    clear hd ho hdone hlater hold
    rw [Array.getD_eq_getD_getElem?] at h4
    refine Reg.step2_val (.int .u32 x) ?_ rfl hI trivial
    simp [execOp, Act.eval, h4]
    try go_simp
  · skip
    intro aq wq lq hI hl hdone hlater hold hd ho
    have h4 : aq.tmps.getD 4 undef = .tuple #[.int .u32 x, .int .i64 (errL l)] := hd 4 (by kernel_rfl)
    clear hd ho hdone hlater hold
    rw [Array.getD_eq_getD_getElem?] at h4
    refine Reg.step2_val (.int .i64 (errL l)) ?_ rfl hI trivial
    simp [execOp, Act.eval, h4]
    try go_simp
  · skip
    intro aq wq lq hI hl hdone hlater hold hd ho
    have h5 : aq.tmps.getD 5 undef = .pointer (some ⟨lb, 0, none⟩) := hd 5 (by kernel_rfl)
    clear hd ho hdone hlater hold
    rw [Array.getD_eq_getD_getElem?] at h5
    refine Reg.step2_val (.pointer (some ⟨lb, 0, none⟩)) ?_ rfl hI trivial
    go_simp
  · skip
    intro aq wq lq hI hl hdone hlater hold hd ho
    have h14 : aq.tmps.getD 14 undef = .pointer (some ⟨lb, 0, none⟩) := hd 14 (by kernel_rfl)
    clear hd ho hdone hlater hold
    rw [Array.getD_eq_getD_getElem?] at h14
    refine Reg.step2_val (.pointer (some ⟨lb, 6, none⟩)) ?_ rfl hI trivial
    go_simp
  · skip
    intro aq wq lq hI hl hdone hlater hold hd ho
    have h15 : aq.tmps.getD 15 undef = .pointer (some ⟨lb, 6, none⟩) := hd 15 (by kernel_rfl)
    have h12 : aq.tmps.getD 12 undef = .int .u32 x := hd 12 (by kernel_rfl)
    clear hd ho hdone hlater hold
    rw [Array.getD_eq_getD_getElem?] at h15 h12
    have hJ := hI
    clear hI
    rw [show lq 12 = false from hl] at hJ
    have y0 : wq.cell? ⟨lb, 6, none⟩ = some (.int .u32 ch) := hJ.row.cell 6
    have z0 := hJ.row.frozen 6
    refine Reg.step2_skip (wq.setCell ⟨lb, 6, none⟩ (.int .u32 x)) rfl ?_ hJ.st trivial
    clear hJ
    simp [execOp]
    go_simp
  case hend =>
  intro wz hI
  simp only [Reg.fill, List.foldl_cons, List.foldl_nil, List.setIfInBounds_toArray, List.set_cons_zero, List.set_cons_succ]
  have HI := Lib.hid (show Ad w lb mm tl g F C n k ch x (.slice va ln vc) true wz from hI)
  have y5 : wz.cell? ⟨lb, 5, none⟩ = some (.int .i64 k) := HI.out.row.cell 5
  have z5 := HI.out.row.frozen 5
  clear hI
  have hw : IntKind.i64.wrap ((k : Int) + 1) = (k : Int) + 1 := IntWalk.i64_in _ (by omega)
  go_wp2
  refine bodyPost_end (results_none rfl _ _ _) rfl ?_
  exact ⟨rfl, HL.out.turn HI.out.st5.1 HI.out.st5.2 HG.out, HI.out.st5.1⟩
theorem parN_all : ∀ (m : Nat) (s : List UInt8) (l : List Up), parN m s = some l → ∀ u ∈ l, WfU u ∧ chkU u = 0
  | m, [], l, h => by
    have : l = [] := by cases m <;> (unfold parN at h; injection h with h; exact h.symm)
    subst this; intro u hu; cases hu
  | 0, x :: s, l, h => by unfold parN at h; cases h
  | m + 1, x :: s, l, h => by
    rw [parN_cons _ _ (by simp)] at h
    cases e : par1 (x :: s) with
    | none => rw [e] at h; cases h
    | some p =>
      obtain ⟨u, r⟩ := p
      rw [e] at h
      simp only at h
      obtain ⟨_, h2, h3, h4, h5, h6⟩ := par1_some e
      cases e2 : parN m r with
      | none => rw [e2] at h; cases h
      | some y =>
        rw [e2] at h
        injection h with h
        subst h
        intro u' hu
        rcases List.mem_cons.1 hu with rfl | hu
        · exact ⟨⟨h3, h4, h5, h6⟩, h2⟩
        · exact parN_all m r y e2 u' hu
theorem rcO_all {b n ch : Int} {t : List UInt8} {l : List Up} (h : rcO b n ch t = some l) : l.length ≤ t.length ∧ (∀ u ∈ l, WfU u) ∧ ∀ u ∈ l, chkU u = 0 := by
  unfold rcO at h
  split at h
  · split at h
    · rename_i a d l' he
      split at h
      · injection h with h
        subst h
        unfold opR at he
        split at he
        · cases he
        · split at he
          · cases he
          · rename_i l2 hp
            split at he
            · injection he with he
              injection he with _ he
              injection he with _ he
              subst he
              have h1 := parL_le hp
              have h2 := parN_all _ _ _ hp
              refine ⟨?_, fun u hu => (h2 u hu).1, fun u hu => (h2 u hu).2⟩
              refine Nat.le_trans h1 ?_
              rw [List.length_drop]
              unfold Env.opP
              rw [List.length_take, List.length_drop]
              omega
            · cases he
      · cases h
    · cases h
  · cases h
theorem Lg.put {g : Nat} {x : Int} {cs : List Value} (h : Lg w0 Y lb tl mm tb bb q pd S c R F C n k ch w) (hg : g ∈ Y) (hh : Has w g 59 (.int .u64 x :: cs)) (hc : Chg (fun j => j = g) w w') : Lg w0 Y lb tl mm tb bb q pd S c R F C n k ch w' := by
  have h1 : lb ≠ g := fun e => h.ny (e ▸ hg)
  have h2 : tl ≠ g := fun e => h.nty (e ▸ hg)
  exact ⟨mg_chg h.mg (hc.mono fun j _ e => by rw [e]; simp [hg]), h.row.same (hc.block lb h.lt h1), Mir.tab_same h.tab (hc.block tl (isTab_lt h.tab) h2), h.ny, h.nty, h.rg⟩
theorem chg3 {g : Nat} (w : World) (a b c : Value) : Chg (fun j => j = g) w (((w.setCell ⟨g, 0, none⟩ a).setCell ⟨g, 1, none⟩ b).setCell ⟨g, 2, none⟩ c) :=
  (((Chg.refl (fun j => j = g) w).setCell (p := ⟨g, 0, none⟩) (fun _ => rfl) a).setCell (p := ⟨g, 1, none⟩) (fun _ => rfl) b).setCell (p := ⟨g, 2, none⟩) (fun _ => rfl) c
/-! ### find -/
/-- what 'find' tells -/
def FndP (w0 : World) (Y : List Nat) (lb tl mm tb bb q : Nat) (pd : Nat → Nat) (S : Nat → Sd) (c R : Nat) (F C n : Int) (k : Nat) (ch : Int) (w : World) (e : Ending) (w' : World) : Prop :=
  (∃ l t S' Z v, rc2 (fS S) (bk F C (n + k)) (n + k) ch = some (l, t) ∧ e = .returned (.tuple #[.agg #[.int .u64 (n + k), .int .u32 ch, v], .bool true, .int .i64 0]) ∧ RA w' 0 v l ∧ (∀ j, v.ownBlock = some j → j ∈ Z) ∧ (∀ j ∈ Z, j ∉ Y) ∧
    Lg w0 (Z ++ Y) lb tl mm tb bb q pd S' (c + 8) (R + rep (fS S) (bk F C (n + k)) t) F C n (k + 1) (lkN (n + k) ch l : Nat) w' ∧ Pl S' ∧ (∀ s, s < 2 → ∀ b : Nat, b < 16 → fS S' s b = heal (fS S) (bk F C (n + k)) t s b) ∧ Same Y w w') ∨
  (rc2 (fS S) (bk F C (n + k)) (n + k) ch = none ∧ e = .returned (.tuple #[.agg #[.int .u64 0, .int .u32 0, .slice none 0 0], .bool false, .int .i64 0]) ∧ Lg w0 Y lb tl mm tb bb q pd S c R F C n k ch w' ∧ Same Y w w')
set_option maxHeartbeats 4000000 in
set_option maxRecDepth 100000 in
theorem find_l (h : Lg w0 Y lb tl mm tb bb q pd S c R F C n k ch w) (hpl : Pl S) (hk : (k : Int) < C) (hc : c ≤ 600000) (hR : R ≤ 800000) :
    Calls Tryz.prog 33 #[.pointer (some ⟨lb, 0, none⟩)] w (FndP w0 Y lb tl mm tb bb q pd S c R F C n k ch w) := by
  have hx := Has.new w [.int .u64 0, .int .u32 0, .slice none 0 0] 59
  have HL := Lib.hid (h.fresh (below_new w (.cells #[.int .u64 0, .int .u32 0, .slice none 0 0] 59)) (Nat.le_refl _) (by simp))
  have HX := Lib.hid hx
  have HS0 := Lib.hid (show Same Y w (w.alloc (.cells #[.int .u64 0, .int .u32 0, .slice none 0 0] 59)) from fun j hj => Below.heap_alloc _ _ _ (h.y j hj).2)
  have HLY := Lib.hid (fun j (hj : j ∈ Y) => (h.y j hj).2)
  have HPL := Lib.hid hpl
  have HC := Lib.hid hc
  have HR := Lib.hid hR
  have HK := Lib.hid hk
  obtain ⟨B, hB, hB16⟩ := bk_at h.rg (n + k)
  have HB16 := Lib.hid hB16
  have c0 := (HL.out).c0
  have c0' : ((w.alloc (.cells #[.int .u64 0, .int .u32 0, .slice none 0 0] 59)).drew).cell? ⟨lb, 0, none⟩ = some (.pointer (some ⟨mm, 0, none⟩)) := c0
  unfold FndP
  rw [hB]
  have HBB := Lib.hid hB
  clear h hpl hk hc hR hx hB hB16
  obtain ⟨x0, hx0⟩ : ∃ x, x = fS S 0 (B : Int) := ⟨_, rfl⟩
  obtain ⟨x1, hx1⟩ : ∃ x, x = fS S 1 (B : Int) := ⟨_, rfl⟩
  have HX0 := Lib.hid hx0
  have HX1 := Lib.hid hx1
  clear hx0 hx1
  go_enter Tryz.func33, Tryz.ntmps33
  go_upto_region 1 with fail
  obtain ⟨g, hg⟩ : ∃ x, x = w.heap.size := ⟨_, rfl⟩
  rw [← hg] at HX HL
  go_cut [5, 6] (fun v5 v6 wx => v6 = .int .i64 0 ∧ ∃ z cap, v5 = .slice (some ⟨z, 0, none⟩) 2 cap ∧ wx.cell? ⟨z, 0, none⟩ = some (.string x0) ∧ wx.cell? ⟨z, 1, none⟩ = some (.string x1) ∧ z < wx.heap.size ∧ Lg w0 (g :: Y) lb tl mm tb bb q pd S c R F C n k ch wx ∧ Same (g :: Y) (w.alloc (.cells #[.int .u64 0, .int .u32 0, .slice none 0 0] 59)) wx)
  case first =>
    go_region_with (first
      | (go_at_call 44; refine (block_l HL.out.drew).mono ?_; rintro e w4 ⟨rfl, j4, rfl⟩; rw [HBB.out])
      | (go_at_call 59; refine (Images_m (HL.out.drewN _).mg HB16.out (Nat.le_trans HC.out (by decide)) (x0 := x0) (x1 := x1) (by rw [HX0.out]; exact fS_cont HPL.out (by omega) HB16.out) (by rw [HX1.out]; exact fS_cont HPL.out (by omega) HB16.out)).mono ?_; rintro e w5 ⟨z, cap, rfl, hz0, hz1, hz, hm, hsm⟩))
    all_goals (go_wp2; go_meet; exact ⟨rfl, z, cap, rfl, hz0, hz1, hz, (HL.out.drewN _).go hm hsm, fun j hj => hsm j (by simp at hj ⊢; rcases hj with rfl | hj <;> simp [*])⟩)
  case rest =>
    obtain ⟨rfl, z, cap, rfl, hz0, hz1, hz, hlg, hsm⟩ := hcut
    have HZ0 := Lib.hid hz0
    have HZ1 := Lib.hid hz1
    have HLG := Lib.hid hlg
    have HXC := Lib.hid (HX.out.same (hsm g (by simp)))
    have HSC := Lib.hid (show Same Y w wc from fun j hj => (hsm j (by simp [hj])).trans (HS0.out j hj))
    have HS := Lib.hid (show x0.size = 192 ∧ x1.size = 192 from ⟨cont_size hlg.mg.cg (s := 0) (by omega) HB16.out (by rw [HX0.out]; exact fS_cont HPL.out (by omega) HB16.out), cont_size hlg.mg.cg (s := 1) (by omega) HB16.out (by rw [HX1.out]; exact fS_cont HPL.out (by omega) HB16.out)⟩)
    clear hz0 hz1 hlg hsm c0 c0' HX HL HS0
    have HNG := Lib.hid (show ∀ j ∈ Y, j ≠ g from fun j hj e => by have := HLY.out j hj; omega)
    have HGL := Lib.hid HXC.out.lt
    go_wp2_with fail
    rw [← hg]
    clear hg
    go_loopw [29] (fun i wr => ∃ j : Nat, j ≤ 2 ∧ i = .int .i64 j ∧ Below wc.heap.size wc wr ∧ (0 < j → rcO B (n + k) ch x0.data.toList = none) ∧ (1 < j → rcO B (n + k) ch x1.data.toList = none)) (fun i _ => 2 - (intOf i).toNat)
    case atStart => exact ⟨0, Nat.zero_le _, rfl, Below.refl _ _, fun h => absurd h (by decide), fun h => absurd h (by decide)⟩
    case round =>
      obtain ⟨j, hj, rfl, hbw, hn0, hn1⟩ := hrel
      have HBW := Lib.hid hbw
      have HN0 := Lib.hid hn0
      have HN1 := Lib.hid hn1
      have HLr := Lib.hid (HLG.out.later hbw)
      clear hn0 hn1
      by_cases hlt : j < 2
      · obtain ⟨x, hx, hcx⟩ : ∃ x, x = (if j = 0 then x0 else x1) ∧ wr.cell? ⟨z, j, none⟩ = some (.string x) := by
          rcases (show j = 0 ∨ j = 1 by omega) with rfl | rfl
          · exact ⟨x0, rfl, (hbw.cell hz).trans HZ0.out⟩
          · exact ⟨x1, rfl, (hbw.cell hz).trans HZ1.out⟩
        have HXX := Lib.hid hx
        have HXS := Lib.hid (show x.size = 192 by rw [hx]; split; exact HS.out.1; exact HS.out.2)
        clear hx hbw
        go_wp2_with fail
        refine (open_l x HLr.out (by rw [HXS.out]; decide)).mono ?_
        intro e w4 hop
        rw [HBB.out] at hop
        rcases hop with ⟨l, v, hrc, rfl, hra, hb⟩ | ⟨hrc, ⟨xa, ya, aa, la, ca, rfl⟩, hb⟩
        · obtain ⟨va, vc, rfl⟩ := (UR.of_own hra).slice
          obtain ⟨ln, hln⟩ : ∃ y, y = l.length := ⟨_, rfl⟩
          rw [← hln] at hra ⊢
          have HLN := Lib.hid hln
          obtain ⟨ha1, ha2, _⟩ := rcO_all hrc
          have HLL := Lib.hid (show l.length ≤ 1000 from Nat.le_trans ha1 (by have := HXS.out; simp; omega))
          have HWF := Lib.hid ha2
          have HRC := Lib.hid (show rc2 (fS S) (B : Int) (n + k) ch = some (l, x) from by
            have hx := HXX.out
            unfold rc2
            rw [← HX0.out, ← HX1.out]
            rcases (show j = 0 ∨ j = 1 by omega) with rfl | rfl
            · rw [hx] at hrc ⊢; simp only [if_pos] at hrc ⊢; rw [hrc]
            · rw [hx] at hrc ⊢; rw [if_neg (by omega)] at hrc ⊢; rw [HN0.out (by omega), hrc]; rfl)
          have HL6g := Lib.hid HLr.out.mg.good
          obtain ⟨Z, hZ, hZge, hlz⟩ := HLr.out.freshV (v := .slice va ln vc) hb (fun i hi => hra.lt i hi)
          have HZD := Lib.hid (show ∀ i ∈ Z, i ∉ Y from fun i hi hy => by have h1 := hZge i hi; have h2 := (HLG.out.y i (by simp [hy])).2; have := HBW.out.size; omega)
          clear hZge
          have HZ := Lib.hid hZ
          have HL5 := Lib.hid (hlz.fresh (below_new w4 (.cells #[.int .u64 (n + k), .int .u32 ch, .slice va ln vc] 59)) (Nat.le_refl _) (by simp))
          have HRA5 := Lib.hid (own_base (own_bel hra (below_new w4 (.cells #[.int .u64 (n + k), .int .u32 ch, .slice va ln vc] 59))) (Nat.zero_le _))
          have HXG5 := Lib.hid ((HXC.out.below HBW.out HXC.out.lt).below (below_nw hb (.cells #[.int .u64 (n + k), .int .u32 ch, .slice va ln vc] 59)) (Nat.lt_of_lt_of_le HXC.out.lt HBW.out.size))
          have HRB5 := Lib.hid (Has.new w4 [.int .u64 (n + k), .int .u32 ch, .slice va ln vc] 59)
          have HS5 := Lib.hid (show Same Y w (w4.alloc (.cells #[.int .u64 (n + k), .int .u32 ch, .slice va ln vc] 59)) from fun j hj => by
            have h1 := (HLG.out.y j (by simp [hj])).2
            rw [(below_nw hb _).block j (Nat.lt_of_lt_of_le h1 HBW.out.size), HBW.out.block j h1]
            exact HSC.out j hj)
          have HNV := Lib.hid (show ∀ i, (Value.slice va ln vc).ownBlock = some i → i ≠ g from fun i hi e => by have := (hra.lt i hi).1; have := HBW.out.size; have := HGL.out; omega)
          have HH := Has.new w4 [.int .u64 0, .int .u32 0, .slice none 0 0] 59
          have e0 := HH.cell 0
          have e1 := HH.cell 1
          have e2 := HH.cell 2
          have q0 := HH.frozen 0
          have q1 := HH.frozen 1
          have q2 := HH.frozen 2
          simp only [List.getElem?_cons_zero, List.getElem?_cons_succ] at e0 e1 e2
          obtain ⟨w5, hw5⟩ : ∃ y, y = w4.alloc (.cells #[.int .u64 (n + k), .int .u32 ch, .slice va ln vc] 59) := ⟨_, rfl⟩
          rw [show [Value.int .u64 (n + k), .int .u32 ch, .slice va ln vc].toArray = #[.int .u64 (n + k), .int .u32 ch, .slice va ln vc] from rfl] at HRB5
          obtain ⟨rb, hrb⟩ : ∃ y, y = w4.heap.size := ⟨_, rfl⟩
          rw [← hw5] at HL5 HRA5 HXG5 HRB5 HS5
          rw [← hrb] at HL5 HRB5
          clear HH hZ hlz hra hrc hb hcx ha1 ha2 hln
          go_upto_region 9 with fail
          rw [← hw5, ← hrb]
          clear e0 e1 e2 q0 q1 q2 hw5 hrb
          have m0 := HL5.out.c0
          have m0' : w5.drew.cell? ⟨lb, 0, none⟩ = some (.pointer (some ⟨mm, 0, none⟩)) := m0
          go_cut [12] (fun v12 wx => v12 = .int .i64 0 ∧ ∃ S', St S S' noG B x (fun t => t ∈ al noG ∧ cont S noG t B ≠ some x) ∧ Lg w0 (rb :: (Z ++ g :: Y)) lb tl mm tb bb q pd S' (c + 8) (R + hSum S noG B x (al noG)) F C n k ch wx ∧ Same (rb :: (Z ++ g :: Y)) w5 wx)
          case first =>
            go_region_with (first
              | (go_at_call 44; refine (block_l HL5.out.drew).mono ?_; rintro e w6 ⟨rfl, j6, rfl⟩; rw [HBB.out])
              | (go_at_call 61; refine (Heal_m (HL5.out.drewN _).mg HB16.out HXS.out (Nat.le_trans HC.out (by decide)) (Nat.le_trans HR.out (by decide))).mono ?_; rintro e w6 ⟨S', rfl, hst, hm, hsm⟩))
            all_goals (go_wp2; go_meet; exact ⟨rfl, S', hst, (HL5.out.drewN _).go hm hsm, fun i hi => hsm i (by simp at hi ⊢; rcases hi with rfl | hi | rfl | hi <;> simp [*])⟩)
          case rest =>
            obtain ⟨rfl, S', hst, hlg6, hsm6⟩ := hcut
            clear m0 m0'
            have HST := Lib.hid hst
            have HL6 := Lib.hid hlg6
            have HRA6 := Lib.hid (show RA wc 0 (.slice va ln vc) l from owns_same HRA5.out fun i hi => hsm6 i (by simp [HZ.out i hi]))
            have HRB6 := Lib.hid (HRB5.out.same (hsm6 rb (by simp)))
            have HXG6 := Lib.hid (HXG5.out.same (hsm6 g (by simp)))
            have HS6 := Lib.hid (show Same Y w wc from fun j hj => (hsm6 j (by simp [hj])).trans (HS5.out j hj))
            have HNL := Lib.hid (show ∀ i, (Value.slice va ln vc).ownBlock = some i → i ≠ lb from fun i hi e => hlg6.ny (by rw [← e]; simp [HZ.out i hi]))
            have b0 := HRB6.out.cell 0
            have b1 := HRB6.out.cell 1
            have b2 := HRB6.out.cell 2
            simp only [List.getElem?_cons_zero, List.getElem?_cons_succ] at b0 b1 b2
            clear hst hlg6 hsm6 HRA5 HRB5 HXG5 HS5 HL5
            go_wp2_with fail
            refine (add_l HL6.out (URn.of_ra HRA6.out HNL.out) HLL.out HWF.out HK.out).mono ?_
            rintro e w7 ⟨rfl, hlg7, hch7⟩
            have hn1 : rb ≠ lb := fun e => HL6.out.ny (by rw [← e]; simp)
            have hn2 : g ≠ lb := fun e => HL6.out.ny (by rw [← e]; simp)
            have hb7 := HRB6.out.same (hch7.block rb HRB6.out.lt hn1)
            have hg7 := HXG6.out.same (hch7.block g HXG6.out.lt hn2)
            have HRA7 := Lib.hid (show RA w7 0 (.slice va ln vc) l from owns_same HRA6.out fun i hi => hch7.block i (HRA6.out.lt i hi).2 (HNL.out i hi))
            have HS7 := Lib.hid (show Same Y w w7 from fun i hi => (hch7.block i (HL6.out.y i (by simp [hi])).2 (fun e => HL6.out.ny (by rw [← e]; simp [hi]))).trans (HS6.out i hi))
            have c0 := hb7.cell 0
            have c1 := hb7.cell 1
            have c2 := hb7.cell 2
            have y0 := hg7.cell 0
            have y1 := hg7.cell 1
            have y2 := hg7.cell 2
            have z0 := hg7.frozen 0
            have z1 := hg7.frozen 1
            have z2 := hg7.frozen 2
            simp only [List.getElem?_cons_zero, List.getElem?_cons_succ] at c0 c1 c2 y0 y1 y2
            have hr := ((hg7.set 0 (.int .u64 (n + k))).set 1 (.int .u32 ch)).set 2 (.slice va ln vc)
            have r0 := hr.cell 0
            have r1 := hr.cell 1
            have r2 := hr.cell 2
            simp only [List.set_cons_zero, List.set_cons_succ, List.getElem?_cons_zero, List.getElem?_cons_succ] at r0 r1 r2
            have hch := chg3 (g := g) w7 (.int .u64 (n + k)) (.int .u32 ch) (.slice va ln vc)
            have HF := Lib.hid (show FndP w0 Y lb tl mm tb bb q pd S c R F C n k ch w (.returned (.tuple #[.agg #[.int .u64 (n + k), .int .u32 ch, .slice va ln vc], .bool true, .int .i64 0])) (((w7.setCell ⟨g, 0, none⟩ (.int .u64 (n + k))).setCell ⟨g, 1, none⟩ (.int .u32 ch)).setCell ⟨g, 2, none⟩ (.slice va ln vc)) from by
              refine .inl ⟨l, x, S', Z, .slice va ln vc, by rw [HBB.out]; exact HRC.out, rfl, ?_, HZ.out, HZD.out, ?_, HPL.out.st HST.out, ?_, ?_⟩
              · exact owns_same HRA7.out fun i hi => hch.block i (HRA7.out.lt i hi).2 (HNV.out i hi)
              · have h1 := (hlg7.put (g := g) (by simp) hg7 hch).sub (Z := Z ++ Y) (fun i hi => by
                  rcases List.mem_append.1 hi with h | h <;> simp [h])
                rw [HBB.out, ← fS_rep HPL.out HL6g.out HB16.out]
                exact h1
              · rw [HBB.out]
                exact fun s hs b hb => fS_heal HPL.out HL6g.out HST.out HB16.out hs hb
              · exact fun i hi => (hch.block i (Nat.lt_of_lt_of_le (HL6.out.y i (by simp [hi])).2 hch7.size) (HNG.out i hi)).trans (HS7.out i hi))
            unfold FndP at HF
            rw [HBB.out] at HF
            clear hr hch hlg7 hch7 hb7 hg7 hn1 hn2 b0 b1 b2
            go_wp2
            exact bodyPost_ret (v := .tuple #[.agg #[.int .u64 (n + k), .int .u32 ch, .slice va ln vc], .bool true, .int .i64 0]) (by simp [results, Tryz.results33, go_sem, r0, r1, r2]) rfl HF.out
        · have HRC := Lib.hid hrc
          have HB4 := Lib.hid (below_nw (below_on HBW.out hb) (.cells #[.int .u64 xa, .int .u32 ya, .slice aa la ca] 59))
          have HH := Has.new w4 [.int .u64 0, .int .u32 0, .slice none 0 0] 59
          have e0 := HH.cell 0
          have e1 := HH.cell 1
          have e2 := HH.cell 2
          have q0 := HH.frozen 0
          have q1 := HH.frozen 1
          have q2 := HH.frozen 2
          simp only [List.getElem?_cons_zero, List.getElem?_cons_succ] at e0 e1 e2
          clear HH hrc hb hcx
          go_wp2_with fail
          go_roundw
          case rel =>
            refine ⟨j + 1, by omega, by go_num, HB4.out, fun _ => ?_, fun _ => ?_⟩
            · rcases (show j = 0 ∨ j = 1 by omega) with rfl | rfl
              · have := HRC.out; rw [HXX.out] at this; exact this
              · exact HN0.out (by omega)
            · rcases (show j = 0 ∨ j = 1 by omega) with rfl | rfl
              · omega
              · have := HRC.out; rw [HXX.out] at this; exact this
          case measure => simp [intOf]; omega
      · obtain rfl : j = 2 := by omega
        have hx2 := HXC.out.below hbw HXC.out.lt
        have y0 := hx2.cell 0
        have y1 := hx2.cell 1
        have y2 := hx2.cell 2
        have z0 := hx2.frozen 0
        have z1 := hx2.frozen 1
        have z2 := hx2.frozen 2
        simp only [List.getElem?_cons_zero, List.getElem?_cons_succ] at y0 y1 y2
        have hr := ((hx2.set 0 (.int .u64 0)).set 1 (.int .u32 0)).set 2 (.slice none 0 0)
        have r0 := hr.cell 0
        have r1 := hr.cell 1
        have r2 := hr.cell 2
        simp only [List.set_cons_zero, List.set_cons_succ, List.getElem?_cons_zero, List.getElem?_cons_succ] at r0 r1 r2
        have HLF := Lib.hid ((HLr.out.put (g := g) (by simp) hx2 (chg3 wr (.int .u64 0) (.int .u32 0) (.slice none 0 0))).sub (Z := Y) (fun j hj => by simp [hj]))
        have HSF := Lib.hid (show Same Y w (((wr.setCell ⟨g, 0, none⟩ (.int .u64 0)).setCell ⟨g, 1, none⟩ (.int .u32 0)).setCell ⟨g, 2, none⟩ (.slice none 0 0)) from fun j hj => by
          have h1 := (HLG.out.y j (by simp [hj])).2
          have h2 := HNG.out j hj
          rw [(chg3 wr (.int .u64 0) (.int .u32 0) (.slice none 0 0)).block j (Nat.lt_of_lt_of_le h1 hbw.size) h2, hbw.block j h1]
          exact HSC.out j hj)
        have HNN := Lib.hid (show rc2 (fS S) (B : Int) (n + k) ch = none from by
          unfold rc2
          rw [← HX0.out, ← HX1.out, HN0.out (by omega), HN1.out (by omega)]; rfl)
        clear hx2 hr hbw hj hlt
        rw [show ((2 : Nat) : Int) = 2 from rfl]
        go_wp2
        refine bodyPost_ret (v := .tuple #[.agg #[.int .u64 0, .int .u32 0, .slice none 0 0], .bool false, .int .i64 0]) (by simp [results, Tryz.results33, go_sem, r0, r1, r2]) rfl (.inr ⟨HNN.out, rfl, HLF.out, HSF.out⟩)
end
end Go.Proofs.YtflanjcfkdjpjaaGreatDoor.Wal


