/- Layer 15 (buf): the document's With. -/
import Derived.Test.YtiljcfmplbmooaaBufE
import Derived.Test.YtiljcfmplbmooaaUno
import Derived.Test.YtiljcfmplbmooaaMsgS
namespace Go.Proofs.Ytiljcfmplbmooaa.Buf
open Go Go.RowKit Go.Proofs.Ytiljcfmplbmooaa Go.Proofs.Ytiljcfmplbmooaa.Lend Go.Proofs.Ytiljcfmplbmooaa.Rec Go.Proofs.Ytiljcfmplbmooaa.Msg
set_option linter.unusedVariables false

theorem isU_ru : IsU 34 := by unfold IsU; kernel_rfl
theorem und_ru : Try.prog.underlying 26 = some (.slice 34) := Try.underlying26
/-- append(v, x), x an update -/
theorem app_one {T S : TypeId} (hS : Try.prog.underlying S = some (.slice T)) (hI : IsU T) (ty : TypeId) {w : World} {B : Nat} {v : Value} {la : List Up} (x : Up) (ha : RO T w B v la) (hB : B ≤ w.heap.size) (hn : la.length ≤ 1000000) :
    ∃ v' w', (Builtin.append_ #[S, S] ty #[v, .slice (some ⟨w.heap.size, 0, none⟩) 1 1]).run Try.prog (w.alloc (.cells #[.int .u8 x.kind, .string (Lend.strOf x.key), .string (Lend.strOf x.val), .int .u64 x.delta] T)) = .ok v' w' ∧ RO T w' B v' (la ++ [x]) ∧
      (∀ {B0 : Nat} {w0 : World}, B0 ≤ B → Below B0 w0 w → Below B0 w0 w') ∧
      (∀ {B2 : Nat} {T2 : TypeId} {v2 : Value} {l2 : List Up}, RO T2 w B2 v2 l2 → (∀ k, v.ownBlock = some k → v2.ownBlock ≠ some k) → RO T2 w' B2 v2 l2 ∧ ∀ k, v'.ownBlock = some k → v2.ownBlock ≠ some k) := by
  have hb := below_new w (.cells #[.int .u8 x.kind, .string (Lend.strOf x.key), .string (Lend.strOf x.val), .int .u64 x.delta] T)
  have hx : UR (w.alloc (.cells #[.int .u8 x.kind, .string (Lend.strOf x.key), .string (Lend.strOf x.val), .int .u64 x.delta] T)) (.slice (some ⟨w.heap.size, 0, none⟩) 1 1) [x] := by
    refine ⟨_, 1, rfl, fun _ => ⟨w.heap.size, 0, rfl, fun i hi j hj => ?_⟩⟩
    have : i = 0 := by simp at hi; exact hi
    subst this
    have hh := Has.new w (encU x) T
    rw [show 0 + 0 * 4 + j = j by omega]
    exact hh.cell j
  have ha2 : RO T (w.alloc (.cells #[.int .u8 x.kind, .string (Lend.strOf x.key), .string (Lend.strOf x.val), .int .u64 x.delta] T)) B v la := own_bel ha hb
  obtain ⟨v', w', hr, ho, hg, hp⟩ := app_own hS hI ty ha2 hx (by simp; omega) (by simp; omega)
  refine ⟨v', w', hr, ho, fun h0 hb0 => ?_, fun {B2 T2 v2 l2} h2 hne => ?_⟩
  · exact ((hb0.alloc (Nat.le_trans h0 hB) _)).grown hg (by simp; omega) (fun k hk => Nat.le_trans h0 (ha.lt k hk).1)
  · have h3 := own_bel h2 hb
    refine ⟨h3.kept hg ?_, fun k hk hk2 => ?_⟩
    · cases hv : v2.ownBlock with
      | none => exact .inl rfl
      | some k => exact .inr fun e => hne k e.symm hv
    · rcases hp k hk with h | ⟨h, _⟩
      · exact hne k h hk2
      · have := (h2.lt k hk2).2
        simp at h
        omega
/-- how far the document's With has come -/
def Ws (l : List Up) (u : Up) (k : Nat) (d : Bool) (o : List Up) : Prop := if d = true then plK l u.key < k ∧ o ++ l.drop k = withU l u else k ≤ plK l u.key ∧ o = l.take k
theorem ws_len {l : List Up} {u : Up} {k : Nat} {d : Bool} {o : List Up} (h : Ws l u k d o) : o.length ≤ l.length + 1 := by
  unfold Ws at h
  split at h
  · have := congrArg List.length h.2
    have h2 := with_len l u
    rw [List.length_append] at this
    omega
  · rw [h.2, List.length_take]; omega
theorem ws_join {l : List Up} {u : Up} {k : Nat} {d : Bool} {o : List Up} (hs : Srt l) (hk : k < l.length) (h : Ws l u k d o) (he : l[k].key = u.key) : d = false ∧ Ws l u (k + 1) true (o ++ [joU l[k] u]) := by
  obtain ⟨h1, h2⟩ := plK_self hs k hk
  rw [he] at h1 h2
  unfold Ws at h ⊢
  cases d with
  | true => rw [if_pos rfl] at h; omega
  | false =>
    rw [if_neg (by simp)] at h
    refine ⟨rfl, ?_⟩
    rw [if_pos rfl]
    refine ⟨by omega, ?_⟩
    rw [with_yes hs h2, h.2]
    subst h1
    simp
theorem ws_here {l : List Up} {u : Up} {k : Nat} {o : List Up} (hs : Srt l) (hk : k < l.length) (h : Ws l u k false o) (he : l[k].key ≠ u.key) (hg : kLt l[k].key u.key = false) : Ws l u (k + 1) true ((o ++ [u]) ++ [l[k]]) := by
  unfold Ws at h ⊢
  rw [if_neg (by simp)] at h
  rw [if_pos rfl]
  have hp := plK_get (k := u.key) hs k hk
  rw [hg] at hp
  have hp : ¬ k < plK l u.key := by simpa using hp.symm
  have e : plK l u.key = k := by omega
  have ht : thK l u.key = false := by
    cases ht : thK l u.key with
    | false => rfl
    | true =>
      obtain ⟨h3, h4⟩ := thK_yes ht
      simp only [e] at h4
      exact absurd h4 he
  refine ⟨by omega, ?_⟩
  rw [with_no hs ht, e, h.2]
  rw [List.append_assoc, List.append_assoc]
  congr 1
  rw [List.drop_eq_getElem_cons hk]; rfl
theorem ws_on {l : List Up} {u : Up} {k : Nat} {o : List Up} (hs : Srt l) (hk : k < l.length) (h : Ws l u k false o) (hg : kLt l[k].key u.key = true) : Ws l u (k + 1) false (o ++ [l[k]]) := by
  unfold Ws at h ⊢
  rw [if_neg (by simp)] at h ⊢
  have hp := plK_get (k := u.key) hs k hk
  rw [hg] at hp
  have hp : k < plK l u.key := by simpa using hp.symm
  exact ⟨by omega, by rw [h.2, List.take_succ_eq_append_getElem hk]⟩
theorem ws_past {l : List Up} {u : Up} {k : Nat} {o : List Up} (hk : k < l.length) (h : Ws l u k true o) : Ws l u (k + 1) true (o ++ [l[k]]) := by
  unfold Ws at h ⊢
  rw [if_pos rfl] at h ⊢
  refine ⟨by omega, ?_⟩
  rw [← h.2, List.append_assoc]
  congr 1
  rw [List.drop_eq_getElem_cons hk]; rfl
theorem ws_end {l : List Up} {u : Up} {d : Bool} {o : List Up} (hs : Srt l) (h : Ws l u l.length d o) : withU l u = if d = true then o else o ++ [u] := by
  unfold Ws at h
  cases d with
  | true => rw [if_pos rfl] at h; rw [← h.2]; simp
  | false =>
    rw [if_neg (by simp)] at h
    have hp := plK_le l u.key
    have e : plK l u.key = l.length := by omega
    have ht : thK l u.key = false := by
      unfold thK
      rw [e, List.getElem?_eq_none (Nat.le_refl _)]
    rw [with_no hs ht, e, h.2]
    simp
end Go.Proofs.Ytiljcfmplbmooaa.Buf
/- Layer 15 (buf): the document's With, walked. -/
namespace Go.Proofs.Ytiljcfmplbmooaa.Buf
open Go Go.RowKit Go.Proofs.Ytiljcfmplbmooaa Go.Proofs.Ytiljcfmplbmooaa.Lend Go.Proofs.Ytiljcfmplbmooaa.Rec Go.Proofs.Ytiljcfmplbmooaa.Msg
set_option linter.unusedVariables false

theorem kst {w w' : World} {B : Nat} {p : Addr} {x : Value} (h : w.cell? p = some x) (hb : Below B w w') (hB : w.heap.size ≤ B) : w'.cell? p = some x := by rw [hb.cell (Nat.lt_of_lt_of_le (World.block_lt_of_cell? _ _ h) hB)]; exact h
set_option maxRecDepth 100000 in
set_option maxHeartbeats 8000000 in
theorem refwith_any {w : World} {v : Value} {l : List Up} {u : Up} (h : UR w v l) (hs : Srt l) (hl : l.length ≤ 100000) (ht : ∀ x ∈ l, Tm x) (hu : Tm u) :
    Calls Try.prog 9 #[v, agU u] w fun e w' => ∃ v', e = .returned v' ∧ RU w' w.heap.size v' (withU l u) ∧ Below w.heap.size w w' := by
  obtain ⟨a, cap, rfl⟩ := h.slice
  obtain ⟨w1, hw1⟩ : ∃ x, x = w.alloc (.cells #[.int .u8 u.kind, .string (Lend.strOf u.key), .string (Lend.strOf u.val), .int .u64 u.delta] 34) := ⟨_, rfl⟩
  have HX := Lib.hid (show Has w1 w.heap.size 34 (encU u) by rw [hw1]; exact Has.new w (encU u) _)
  have HB1 := Lib.hid (show Below w.heap.size w w1 by rw [hw1]; exact below_new w _)
  have HS1 := Lib.hid (show w1.heap.size = w.heap.size + 1 by rw [hw1]; simp)
  have HU := Lib.hid (h.below HB1.out)
  have HS := Lib.hid hs
  have HT := Lib.hid ht
  have HTU := Lib.hid hu
  have HUE : Hid (encU u = [.int .u8 u.kind, .string (Lend.strOf u.key), .string (Lend.strOf u.val), .int .u64 u.delta]) := Lib.hid rfl
  obtain ⟨n, hn⟩ : ∃ n, n = l.length := ⟨_, rfl⟩
  have HN := Lib.hid hn
  rw [← hn] at hl HU ⊢
  unfold agU
  clear h hs ht hu hn
  go_enter Try.func9, Try.ntmps9
  go_wp2_with fail
  rw [← hw1]
  clear hw1
  go_loopw [5, 6, 7] (fun ov dv i wr => ∃ (k : Nat) (d : Bool) (o : List Up) (vv : Value), vv = ov ∧ dv = .bool d ∧ i = .int .i64 k ∧ k ≤ n ∧ RU wr w1.heap.size vv o ∧ Hid (Ws l u k d o) ∧ Below w1.heap.size w1 wr) (fun _ _ i _ => n - (intOf i).toNat)
  case atStart => exact ⟨0, false, [], _, rfl, rfl, rfl, Nat.zero_le _, World.ownsRow_nil _ _ _ _, Lib.hid (by unfold Ws; rw [if_neg (by simp)]; exact ⟨Nat.zero_le _, rfl⟩), Below.refl _ _⟩
  case round =>
    obtain ⟨k, d, o, vv, rfl, rfl, rfl, hk, hro, HWS, hb⟩ := hrel
    rename World => wr
    have HRO := Lib.hid hro
    have HB := Lib.hid hb
    have hol := ws_len HWS.out
    rw [← HN.out] at hol
    have e0 : wr.cell? ⟨w.heap.size, 0, none⟩ = some (.int .u8 u.kind) := kst (HX.out.cell 0) hb (Nat.le_refl _)
    have e1 : wr.cell? ⟨w.heap.size, 1, none⟩ = some (.string (Lend.strOf u.key)) := kst (HX.out.cell 1) hb (Nat.le_refl _)
    have e2 : wr.cell? ⟨w.heap.size, 2, none⟩ = some (.string (Lend.strOf u.val)) := kst (HX.out.cell 2) hb (Nat.le_refl _)
    have e3 : wr.cell? ⟨w.heap.size, 3, none⟩ = some (.int .u64 u.delta) := kst (HX.out.cell 3) hb (Nat.le_refl _)
    by_cases hlt : k < n
    · have hki : (k : Int) < (n : Int) := by omega
      have hkl : k < l.length := by rw [← HN.out]; exact hlt
      obtain ⟨g, off, rfl⟩ := ur_some HU.out (by omega)
      have HCX := Lib.hid (ur_cells HU.out k hkl)
      have HTX := Lib.hid (HT.out _ (List.getElem_mem hkl))
      have HJ := Lib.hid (ws_join (k := k) HS.out hkl HWS.out)
      have HON := Lib.hid (fun (h : d = false) (h2 : l[k].key ≠ u.key) => (show (kLt l[k].key u.key = false → Ws l u (k + 1) true ((o ++ [u]) ++ [l[k]])) ∧ (kLt l[k].key u.key = true → Ws l u (k + 1) false (o ++ [l[k]])) from by
        subst h
        exact ⟨ws_here HS.out hkl HWS.out h2, ws_on HS.out hkl HWS.out⟩))
      have HPA := Lib.hid (fun (h : d = true) => (show Ws l u (k + 1) true (o ++ [l[k]]) from by subst h; exact ws_past hkl HWS.out))
      have hbe := eq_str l[k].key u.key
      have hbl := bl_str l[k].key u.key
      obtain ⟨x, hx⟩ : ∃ x, x = l[k] := ⟨_, rfl⟩
      rw [← hx] at HCX HTX HJ HON HPA hbe hbl
      obtain ⟨c0, c1, c2, c3⟩ := HCX.out
      replace c0 := kst c0 hb (Nat.le_refl _)
      replace c1 := kst c1 hb (Nat.le_refl _)
      replace c2 := kst c2 hb (Nat.le_refl _)
      replace c3 := kst c3 hb (Nat.le_refl _)
      clear hx hro hb
      by_cases hkey : x.key = u.key
      · obtain ⟨rfl, hws⟩ := HJ.out hkey
        have HW2 := Lib.hid hws
        have hbe1 : ((Lend.strOf x.key).toList == (Lend.strOf u.key).toList) = true := by rw [hbe]; simpa using hkey
        clear hbe hbl hkey hws HJ HON HPA
        have HJO : Hid (∀ W, Calls Try.prog 26 #[.agg #[.int .u8 x.kind, .string (Lend.strOf x.key), .string (Lend.strOf x.val), .int .u64 x.delta], .agg #[.int .u8 u.kind, .string (Lend.strOf u.key), .string (Lend.strOf u.val), .int .u64 u.delta]] W fun e w' => e = .returned (.agg #[.int .u8 (joU x u).kind, .string (Lend.strOf (joU x u).key), .string (Lend.strOf (joU x u).val), .int .u64 (joU x u).delta]) ∧ Below W.heap.size W w') := Lib.hid (fun W => refjoin_any x u W HTX.out HTU.out)
        obtain ⟨y, hy⟩ : ∃ y, y = joU x u := ⟨_, rfl⟩
        rw [← hy] at HJO HW2
        clear hy
        obtain ⟨XK, hXK⟩ : ∃ z, z = Lend.strOf x.key := ⟨_, rfl⟩
        obtain ⟨UK, hUK⟩ : ∃ z, z = Lend.strOf u.key := ⟨_, rfl⟩
        rw [← hXK] at c1 hbe1 HJO
        rw [← hUK] at e1 hbe1 HJO
        have HXK := Lib.hid hXK
        have HUK := Lib.hid hUK
        clear hXK hUK
        go_wp2_with fail
        go_quiet (fail)
        obtain ⟨w2, hw2⟩ : ∃ z, z = wr.drewN nq := ⟨_, rfl⟩
        have HB2 := Lib.hid (show Below w1.heap.size w1 w2 by rw [hw2]; exact ⟨HB.out.os, HB.out.tape, HB.out.output, HB.out.size, HB.out.block⟩)
        have HRO2 := Lib.hid (show RU w2 w1.heap.size vv o by rw [hw2]; exact HRO.out)
        have HE2 := Lib.hid (show w2.cell? ⟨w.heap.size, 0, none⟩ = some (.int .u8 u.kind) ∧ w2.cell? ⟨w.heap.size, 1, none⟩ = some (.string UK) ∧ w2.cell? ⟨w.heap.size, 2, none⟩ = some (.string (Lend.strOf u.val)) ∧ w2.cell? ⟨w.heap.size, 3, none⟩ = some (.int .u64 u.delta) by rw [hw2]; exact ⟨e0, e1, e2, e3⟩)
        have HC2 := Lib.hid (show w2.cell? ⟨g, off + k * 4, none⟩ = some (.int .u8 x.kind) ∧ w2.cell? ⟨g, off + k * 4 + 1, none⟩ = some (.string XK) ∧ w2.cell? ⟨g, off + k * 4 + 2, none⟩ = some (.string (Lend.strOf x.val)) ∧ w2.cell? ⟨g, off + k * 4 + 3, none⟩ = some (.int .u64 x.delta) by rw [hw2]; exact ⟨c0, c1, c2, c3⟩)
        rw [← hw2]
        clear hw2 e0 e1 e2 e3 c0 c1 c2 c3
        go_wp2_with fail
        refine Reg.region_vals3 (by kernel_rfl) [(23, .slice (some ⟨g, off, none⟩) n cap), (24, .int .i64 (k : Nat)), (25, .pointer (some ⟨g, off + k * 4, none⟩)), (26, .agg #[.int .u8 x.kind, .string XK, .string (Lend.strOf x.val), .int .u64 x.delta]), (27, .agg #[.int .u8 u.kind, .string UK, .string (Lend.strOf u.val), .int .u64 u.delta]), (28, .agg #[.int .u8 y.kind, .string (Lend.strOf y.key), .string (Lend.strOf y.val), .int .u64 y.delta])] [8] (Uno w2 8 6 7 34 [.int .u8 0, .string ⟨#[]⟩, .string ⟨#[]⟩, .int .u64 0] [.int .u8 y.kind, .string (Lend.strOf y.key), .string (Lend.strOf y.val), .int .u64 y.delta]) ?a1 ?a2 ?a3 ?a4 ?a5 ?a6 ?a7 ?hend
        case a1 => kernel_rfl
        case a2 => kernel_rfl
        case a3 => kernel_rfl
        case a4 => kernel_rfl
        case a5 => kernel_rfl
        case a6 => exact Uno.start _
        case a7 =>
          refine ⟨?_, ?_, ?_, ?_, ?_, ?_, ?_, ?_, trivial⟩
          · -- 0: 23 := Op.move t0
            intro aq wq lq hz hI hl hdone hlater hold hd ho
            have h0 : aq.tmps.getD 0 undef = .slice (some ⟨g, off, none⟩) n cap := ho 0 (by kernel_rfl)
            clear hd ho hdone hlater hold
            have hc : 23 < aq.tmps.size := by have hz' : aq.tmps.size = 63 := hz; omega
            exact Reg.step3_move (.tmp 0) rfl h0 (hI.keep _ (Below.refl _ _) (by decide) (by decide) (by decide) hc) trivial
          · -- 1: 24 := Op.move t7
            intro aq wq lq hz hI hl hdone hlater hold hd ho
            have h7 : aq.tmps.getD 7 undef = .int .i64 (k : Nat) := ho 7 (by kernel_rfl)
            clear hd ho hdone hlater hold
            have hc : 24 < aq.tmps.size := by have hz' : aq.tmps.size = 63 := hz; omega
            exact Reg.step3_move (.tmp 7) rfl h7 (hI.keep _ (Below.refl _ _) (by decide) (by decide) (by decide) hc) trivial
          · -- 2: 25 := Op.indexAddr 26 t23 t24
            intro aq wq lq hz hI hl hdone hlater hold hd ho
            have h23 : aq.tmps.getD 23 undef = .slice (some ⟨g, off, none⟩) n cap := hd 23 (by kernel_rfl)
            have h24 : aq.tmps.getD 24 undef = .int .i64 (k : Nat) := hd 24 (by kernel_rfl)
            clear hd ho hdone hlater hold
            rw [Array.getD_eq_getD_getElem?] at h23 h24
            have hc : 25 < aq.tmps.size := by have hz' : aq.tmps.size = 63 := hz; omega
            refine Reg.step3_val (.pointer (some ⟨g, off + k * 4, none⟩)) ?_ rfl (hI.keep _ (Below.refl _ _) (by decide) (by decide) (by decide) hc) trivial
            clear hz hc hI
            go_simp
          · -- 3: 26 := Op.load 34 t25
            intro aq wq lq hz hI hl hdone hlater hold hd ho
            have h25 : aq.tmps.getD 25 undef = .pointer (some ⟨g, off + k * 4, none⟩) := hd 25 (by kernel_rfl)
            clear hd ho hdone hlater hold
            rw [Array.getD_eq_getD_getElem?] at h25
            have hc : 26 < aq.tmps.size := by have hz' : aq.tmps.size = 63 := hz; omega
            obtain ⟨d0, d1, d2, d3⟩ := HC2.out
            have d0 := keep1 d0 hI.1
            have d1 := keep1 d1 hI.1
            have d2 := keep1 d2 hI.1
            have d3 := keep1 d3 hI.1
            refine Reg.step3_val (.agg #[.int .u8 x.kind, .string XK, .string (Lend.strOf x.val), .int .u64 x.delta]) ?_ rfl (hI.keep _ (Below.refl _ _) (by decide) (by decide) (by decide) hc) trivial
            clear hz hc hI
            go_simp
          · -- 4: 27 := Op.load 34 t3
            intro aq wq lq hz hI hl hdone hlater hold hd ho
            have h3 : aq.tmps.getD 3 undef = .pointer (some ⟨w.heap.size, 0, none⟩) := ho 3 (by kernel_rfl)
            clear hd ho hdone hlater hold
            rw [Array.getD_eq_getD_getElem?] at h3
            have hc : 27 < aq.tmps.size := by have hz' : aq.tmps.size = 63 := hz; omega
            obtain ⟨d0, d1, d2, d3⟩ := HE2.out
            have d0 := keep1 d0 hI.1
            have d1 := keep1 d1 hI.1
            have d2 := keep1 d2 hI.1
            have d3 := keep1 d3 hI.1
            refine Reg.step3_val (.agg #[.int .u8 u.kind, .string UK, .string (Lend.strOf u.val), .int .u64 u.delta]) ?_ rfl (hI.keep _ (Below.refl _ _) (by decide) (by decide) (by decide) hc) trivial
            clear hz hc hI
            go_simp
          · -- 5: 28 := Op.call  value (Operand.func 26), args := #t26, t27, argT
            intro aq wq lq hz hI hl hdone hlater hold hd ho
            have h26 : aq.tmps.getD 26 undef = .agg #[.int .u8 x.kind, .string XK, .string (Lend.strOf x.val), .int .u64 x.delta] := hd 26 (by kernel_rfl)
            have h27 : aq.tmps.getD 27 undef = .agg #[.int .u8 u.kind, .string UK, .string (Lend.strOf u.val), .int .u64 u.delta] := hd 27 (by kernel_rfl)
            clear hd ho hdone hlater hold
            rw [Array.getD_eq_getD_getElem?] at h26 h27
            have hc : 28 < aq.tmps.size := by have hz' : aq.tmps.size = 63 := hz; omega
            refine Reg.step3_call 26 #[.agg #[.int .u8 x.kind, .string XK, .string (Lend.strOf x.val), .int .u64 x.delta], .agg #[.int .u8 u.kind, .string UK, .string (Lend.strOf u.val), .int .u64 u.delta]] ?_ ((HJO.out wq).mono ?_)
            · clear hz hc hI
              simp [execOp]
              go_simp
            · rintro e w' ⟨rfl, hb⟩
              refine ⟨_, rfl, ?_, (hI.keep _ hb (by decide) (by decide) (by decide) hc), trivial⟩
              rfl
          · -- 6: 8 := Op.alloc 34
            intro aq wq lq hz hI hl hdone hlater hold hd ho
            have hst : lq 7 = false := hlater 7 (by kernel_rfl)
            clear hd ho hdone hlater hold
            have hc : 8 < aq.tmps.size := by have hz' : aq.tmps.size = 63 := hz; omega
            refine Reg.step3_do (.pointer (some ⟨wq.heap.size, 0, none⟩)) (wq.alloc (.cells #[.int .u8 0, .string ⟨#[]⟩, .string ⟨#[]⟩, .int .u64 0] 34)) ?_ trivial (Uno.mk hI hst (by decide) hc) trivial
            clear hz hc hI
            simp [execOp]
            go_simp
          · -- 7: None := Op.store 34 t8 t28
            intro aq wq lq hz hI hl hdone hlater hold hd ho
            have h28 : aq.tmps.getD 28 undef = .agg #[.int .u8 y.kind, .string (Lend.strOf y.key), .string (Lend.strOf y.val), .int .u64 y.delta] := hd 28 (by kernel_rfl)
            have hia : lq 6 = true := hdone 6 (by kernel_rfl)
            clear hd ho hdone hlater hold
            rw [Array.getD_eq_getD_getElem?] at h28
            obtain ⟨gq, hgp, hge, hH, hBx, hU⟩ := hI.st hia hl (by decide)
            rw [Array.getD_eq_getD_getElem?] at hgp
            have e0 : wq.cell? ⟨gq, 0, none⟩ = some (.int .u8 0) := hH.cell 0
            have e1 : wq.cell? ⟨gq, 1, none⟩ = some (.string ⟨#[]⟩) := hH.cell 1
            have e2 : wq.cell? ⟨gq, 2, none⟩ = some (.string ⟨#[]⟩) := hH.cell 2
            have e3 : wq.cell? ⟨gq, 3, none⟩ = some (.int .u64 0) := hH.cell 3
            have fz := hH.frozen
            refine Reg.step3_skip ((((wq.setCell ⟨gq, 0, none⟩ (.int .u8 y.kind)).setCell ⟨gq, 1, none⟩ (.string (Lend.strOf y.key))).setCell ⟨gq, 2, none⟩ (.string (Lend.strOf y.val))).setCell ⟨gq, 3, none⟩ (.int .u64 y.delta)) rfl ?_ (hU _ (Has.set (Has.set (Has.set (Has.set hH 0 (.int .u8 y.kind)) 1 (.string (Lend.strOf y.key))) 2 (.string (Lend.strOf y.val))) 3 (.int .u64 y.delta)) (Below.setCell (Below.setCell (Below.setCell (Below.setCell hBx (by exact hge) _) (by exact hge) _) (by exact hge) _) (by exact hge) _)) trivial
            clear hU hH hBx hI hz
            simp [execOp]
            go_simp
        case hend =>
          intro wx v aq hv hI
          obtain ⟨gq, hgp, hge, hH, hBx⟩ := Uno.done hI (by decide) (by decide)
          rw [hv 8 (by decide)] at hgp
          clear hv hI
          simp only [Reg.fill, List.map_cons, List.map_nil, List.foldl_cons, List.foldl_nil, List.setIfInBounds_toArray, List.set_cons_zero, List.set_cons_succ]
          rw [hgp]
          clear hgp
          have HB3 := Lib.hid (HB2.out.trans (hBx.mono HB2.out.size))
          have HRO3 := Lib.hid (own_bel HRO2.out hBx)
          have d0 := hH.cell 0
          have d1 := hH.cell 1
          have d2 := hH.cell 2
          have d3 := hH.cell 3
          simp only [List.getElem?_cons_zero, List.getElem?_cons_succ] at d0 d1 d2 d3
          obtain ⟨v', w', hap, hro4, hb4, _⟩ := app_one und_ru isU_ru 26 y HRO3.out HB3.out.size (by omega)
          have HA := Lib.hid hap
          have HRO4 := Lib.hid hro4
          have HB4 := Lib.hid (hb4 (Nat.le_refl _) HB3.out)
          clear hap hro4 hb4 hge hH hBx
          go_wp2_with (at_builtin; refine wpList_append_run rfl _ _ _ _ rfl _ _ _ rfl rfl HA.out ?_)
          go_roundw
          case rel => exact ⟨k + 1, true, _, _, rfl, rfl, by go_num, by omega, HRO4.out, HW2, HB4.out⟩
          case measure => simp [intOf]; omega
      · have hbe1 : ((Lend.strOf x.key).toList == (Lend.strOf u.key).toList) = false := by rw [hbe]; simpa using hkey
        have HKEY := Lib.hid hkey
        clear hbe hkey HJ c0 c1 c2 c3 e0 e1 e2 e3
        obtain ⟨XK, hXK⟩ : ∃ z, z = Lend.strOf x.key := ⟨_, rfl⟩
        obtain ⟨UK, hUK⟩ : ∃ z, z = Lend.strOf u.key := ⟨_, rfl⟩
        rw [← hXK, ← hUK] at hbe1 hbl
        have HXK := Lib.hid hXK
        have HUK := Lib.hid hUK
        clear hXK hUK
        have e0 : wr.cell? ⟨w.heap.size, 0, none⟩ = some (.int .u8 u.kind) := kst (HX.out.cell 0) HB.out (Nat.le_refl _)
        have e1 : wr.cell? ⟨w.heap.size, 1, none⟩ = some (.string UK) := by rw [HUK.out]; exact kst (HX.out.cell 1) HB.out (Nat.le_refl _)
        have e2 : wr.cell? ⟨w.heap.size, 2, none⟩ = some (.string (Lend.strOf u.val)) := kst (HX.out.cell 2) HB.out (Nat.le_refl _)
        have e3 : wr.cell? ⟨w.heap.size, 3, none⟩ = some (.int .u64 u.delta) := kst (HX.out.cell 3) HB.out (Nat.le_refl _)
        have c0 : wr.cell? ⟨g, off + k * 4, none⟩ = some (.int .u8 x.kind) := kst HCX.out.1 HB.out (Nat.le_refl _)
        have c1 : wr.cell? ⟨g, off + k * 4 + 1, none⟩ = some (.string XK) := by rw [HXK.out]; exact kst HCX.out.2.1 HB.out (Nat.le_refl _)
        have c2 : wr.cell? ⟨g, off + k * 4 + 2, none⟩ = some (.string (Lend.strOf x.val)) := kst HCX.out.2.2.1 HB.out (Nat.le_refl _)
        have c3 : wr.cell? ⟨g, off + k * 4 + 3, none⟩ = some (.int .u64 x.delta) := kst HCX.out.2.2.2 HB.out (Nat.le_refl _)
        cases d with
        | true =>
          have HW2 := Lib.hid (HPA.out rfl)
          clear hbl HON HPA
          go_wp2_with fail
          go_quiet (fail)
          obtain ⟨w2, hw2⟩ : ∃ z, z = wr.drewN nq := ⟨_, rfl⟩
          have HB2 := Lib.hid (show Below w1.heap.size w1 w2 by rw [hw2]; exact ⟨HB.out.os, HB.out.tape, HB.out.output, HB.out.size, HB.out.block⟩)
          have HRO2 := Lib.hid (show RU w2 w1.heap.size vv o by rw [hw2]; exact HRO.out)
          rw [← hw2]
          clear hw2 e0 e1 e2 e3 c0 c1 c2 c3
          have e0 : w2.cell? ⟨w.heap.size, 0, none⟩ = some (.int .u8 u.kind) := kst (HX.out.cell 0) HB2.out (Nat.le_refl _)
          have e1 : w2.cell? ⟨w.heap.size, 1, none⟩ = some (.string UK) := by rw [HUK.out]; exact kst (HX.out.cell 1) HB2.out (Nat.le_refl _)
          have e2 : w2.cell? ⟨w.heap.size, 2, none⟩ = some (.string (Lend.strOf u.val)) := kst (HX.out.cell 2) HB2.out (Nat.le_refl _)
          have e3 : w2.cell? ⟨w.heap.size, 3, none⟩ = some (.int .u64 u.delta) := kst (HX.out.cell 3) HB2.out (Nat.le_refl _)
          have c0 : w2.cell? ⟨g, off + k * 4, none⟩ = some (.int .u8 x.kind) := kst HCX.out.1 HB2.out (Nat.le_refl _)
          have c1 : w2.cell? ⟨g, off + k * 4 + 1, none⟩ = some (.string XK) := by rw [HXK.out]; exact kst HCX.out.2.1 HB2.out (Nat.le_refl _)
          have c2 : w2.cell? ⟨g, off + k * 4 + 2, none⟩ = some (.string (Lend.strOf x.val)) := kst HCX.out.2.2.1 HB2.out (Nat.le_refl _)
          have c3 : w2.cell? ⟨g, off + k * 4 + 3, none⟩ = some (.int .u64 x.delta) := kst HCX.out.2.2.2 HB2.out (Nat.le_refl _)
          go_wp2_with fail
          go_quiet (fail)
          obtain ⟨w3, hw3⟩ : ∃ z, z = w2.drewN nq := ⟨_, rfl⟩
          have HB3 := Lib.hid (show Below w1.heap.size w1 w3 by rw [hw3]; exact ⟨HB2.out.os, HB2.out.tape, HB2.out.output, HB2.out.size, HB2.out.block⟩)
          have HRO3 := Lib.hid (show RU w3 w1.heap.size vv o by rw [hw3]; exact HRO2.out)
          rw [← hw3]
          clear hw3 e0 e1 e2 e3 c0 c1 c2 c3
          have e0 : w3.cell? ⟨w.heap.size, 0, none⟩ = some (.int .u8 u.kind) := kst (HX.out.cell 0) HB3.out (Nat.le_refl _)
          have e1 : w3.cell? ⟨w.heap.size, 1, none⟩ = some (.string UK) := by rw [HUK.out]; exact kst (HX.out.cell 1) HB3.out (Nat.le_refl _)
          have e2 : w3.cell? ⟨w.heap.size, 2, none⟩ = some (.string (Lend.strOf u.val)) := kst (HX.out.cell 2) HB3.out (Nat.le_refl _)
          have e3 : w3.cell? ⟨w.heap.size, 3, none⟩ = some (.int .u64 u.delta) := kst (HX.out.cell 3) HB3.out (Nat.le_refl _)
          have c0 : w3.cell? ⟨g, off + k * 4, none⟩ = some (.int .u8 x.kind) := kst HCX.out.1 HB3.out (Nat.le_refl _)
          have c1 : w3.cell? ⟨g, off + k * 4 + 1, none⟩ = some (.string XK) := by rw [HXK.out]; exact kst HCX.out.2.1 HB3.out (Nat.le_refl _)
          have c2 : w3.cell? ⟨g, off + k * 4 + 2, none⟩ = some (.string (Lend.strOf x.val)) := kst HCX.out.2.2.1 HB3.out (Nat.le_refl _)
          have c3 : w3.cell? ⟨g, off + k * 4 + 3, none⟩ = some (.int .u64 x.delta) := kst HCX.out.2.2.2 HB3.out (Nat.le_refl _)
          obtain ⟨v5, wa5, hap, hro4, hb4, _⟩ := app_one und_ru isU_ru 26 x HRO3.out HB3.out.size (by omega)
          rw [← HXK.out] at hap
          have HA5 := Lib.hid hap
          have HR5 := Lib.hid hro4
          have HB5 := Lib.hid (hb4 (Nat.le_refl _) HB3.out)
          clear hap hro4 hb4
          go_wp2_with (at_builtin; refine wpList_append_run rfl _ _ _ _ rfl _ _ _ rfl rfl HA5.out ?_)
          go_roundw
          case rel => exact ⟨k + 1, true, _, _, rfl, rfl, by go_num, by omega, HR5.out, HW2, HB5.out⟩
          case measure => simp [intOf]; omega
        | false =>
          have hon := HON.out rfl HKEY.out
          cases hkl2 : kLt x.key u.key with
          | true =>
            have HW2 := Lib.hid (hon.2 hkl2)
            rw [hkl2] at hbl
            clear hon HON HPA hkl2
            go_wp2_with fail
            go_quiet (fail)
            obtain ⟨w2, hw2⟩ : ∃ z, z = wr.drewN nq := ⟨_, rfl⟩
            have HB2 := Lib.hid (show Below w1.heap.size w1 w2 by rw [hw2]; exact ⟨HB.out.os, HB.out.tape, HB.out.output, HB.out.size, HB.out.block⟩)
            have HRO2 := Lib.hid (show RU w2 w1.heap.size vv o by rw [hw2]; exact HRO.out)
            rw [← hw2]
            clear hw2 e0 e1 e2 e3 c0 c1 c2 c3
            have e0 : w2.cell? ⟨w.heap.size, 0, none⟩ = some (.int .u8 u.kind) := kst (HX.out.cell 0) HB2.out (Nat.le_refl _)
            have e1 : w2.cell? ⟨w.heap.size, 1, none⟩ = some (.string UK) := by rw [HUK.out]; exact kst (HX.out.cell 1) HB2.out (Nat.le_refl _)
            have e2 : w2.cell? ⟨w.heap.size, 2, none⟩ = some (.string (Lend.strOf u.val)) := kst (HX.out.cell 2) HB2.out (Nat.le_refl _)
            have e3 : w2.cell? ⟨w.heap.size, 3, none⟩ = some (.int .u64 u.delta) := kst (HX.out.cell 3) HB2.out (Nat.le_refl _)
            have c0 : w2.cell? ⟨g, off + k * 4, none⟩ = some (.int .u8 x.kind) := kst HCX.out.1 HB2.out (Nat.le_refl _)
            have c1 : w2.cell? ⟨g, off + k * 4 + 1, none⟩ = some (.string XK) := by rw [HXK.out]; exact kst HCX.out.2.1 HB2.out (Nat.le_refl _)
            have c2 : w2.cell? ⟨g, off + k * 4 + 2, none⟩ = some (.string (Lend.strOf x.val)) := kst HCX.out.2.2.1 HB2.out (Nat.le_refl _)
            have c3 : w2.cell? ⟨g, off + k * 4 + 3, none⟩ = some (.int .u64 x.delta) := kst HCX.out.2.2.2 HB2.out (Nat.le_refl _)
            go_wp2_with fail
            go_quiet (fail)
            obtain ⟨w3, hw3⟩ : ∃ z, z = w2.drewN nq := ⟨_, rfl⟩
            have HB3 := Lib.hid (show Below w1.heap.size w1 w3 by rw [hw3]; exact ⟨HB2.out.os, HB2.out.tape, HB2.out.output, HB2.out.size, HB2.out.block⟩)
            have HRO3 := Lib.hid (show RU w3 w1.heap.size vv o by rw [hw3]; exact HRO2.out)
            rw [← hw3]
            clear hw3 e0 e1 e2 e3 c0 c1 c2 c3
            have e0 : w3.cell? ⟨w.heap.size, 0, none⟩ = some (.int .u8 u.kind) := kst (HX.out.cell 0) HB3.out (Nat.le_refl _)
            have e1 : w3.cell? ⟨w.heap.size, 1, none⟩ = some (.string UK) := by rw [HUK.out]; exact kst (HX.out.cell 1) HB3.out (Nat.le_refl _)
            have e2 : w3.cell? ⟨w.heap.size, 2, none⟩ = some (.string (Lend.strOf u.val)) := kst (HX.out.cell 2) HB3.out (Nat.le_refl _)
            have e3 : w3.cell? ⟨w.heap.size, 3, none⟩ = some (.int .u64 u.delta) := kst (HX.out.cell 3) HB3.out (Nat.le_refl _)
            have c0 : w3.cell? ⟨g, off + k * 4, none⟩ = some (.int .u8 x.kind) := kst HCX.out.1 HB3.out (Nat.le_refl _)
            have c1 : w3.cell? ⟨g, off + k * 4 + 1, none⟩ = some (.string XK) := by rw [HXK.out]; exact kst HCX.out.2.1 HB3.out (Nat.le_refl _)
            have c2 : w3.cell? ⟨g, off + k * 4 + 2, none⟩ = some (.string (Lend.strOf x.val)) := kst HCX.out.2.2.1 HB3.out (Nat.le_refl _)
            have c3 : w3.cell? ⟨g, off + k * 4 + 3, none⟩ = some (.int .u64 x.delta) := kst HCX.out.2.2.2 HB3.out (Nat.le_refl _)
            obtain ⟨v5, wa5, hap, hro4, hb4, _⟩ := app_one und_ru isU_ru 26 x HRO3.out HB3.out.size (by omega)
            rw [← HXK.out] at hap
            have HA5 := Lib.hid hap
            have HR5 := Lib.hid hro4
            have HB5 := Lib.hid (hb4 (Nat.le_refl _) HB3.out)
            clear hap hro4 hb4
            go_wp2_with (at_builtin; refine wpList_append_run rfl _ _ _ _ rfl _ _ _ rfl rfl HA5.out ?_)
            go_roundw
            case rel => exact ⟨k + 1, false, _, _, rfl, rfl, by go_num, by omega, HR5.out, HW2, HB5.out⟩
            case measure => simp [intOf]; omega
          | false =>
            have HW2 := Lib.hid (hon.1 hkl2)
            rw [hkl2] at hbl
            clear hon HON HPA hkl2
            go_wp2_with fail
            go_quiet (fail)
            obtain ⟨w2, hw2⟩ : ∃ z, z = wr.drewN nq := ⟨_, rfl⟩
            have HB2 := Lib.hid (show Below w1.heap.size w1 w2 by rw [hw2]; exact ⟨HB.out.os, HB.out.tape, HB.out.output, HB.out.size, HB.out.block⟩)
            have HRO2 := Lib.hid (show RU w2 w1.heap.size vv o by rw [hw2]; exact HRO.out)
            rw [← hw2]
            clear hw2 e0 e1 e2 e3 c0 c1 c2 c3
            have e0 : w2.cell? ⟨w.heap.size, 0, none⟩ = some (.int .u8 u.kind) := kst (HX.out.cell 0) HB2.out (Nat.le_refl _)
            have e1 : w2.cell? ⟨w.heap.size, 1, none⟩ = some (.string UK) := by rw [HUK.out]; exact kst (HX.out.cell 1) HB2.out (Nat.le_refl _)
            have e2 : w2.cell? ⟨w.heap.size, 2, none⟩ = some (.string (Lend.strOf u.val)) := kst (HX.out.cell 2) HB2.out (Nat.le_refl _)
            have e3 : w2.cell? ⟨w.heap.size, 3, none⟩ = some (.int .u64 u.delta) := kst (HX.out.cell 3) HB2.out (Nat.le_refl _)
            have c0 : w2.cell? ⟨g, off + k * 4, none⟩ = some (.int .u8 x.kind) := kst HCX.out.1 HB2.out (Nat.le_refl _)
            have c1 : w2.cell? ⟨g, off + k * 4 + 1, none⟩ = some (.string XK) := by rw [HXK.out]; exact kst HCX.out.2.1 HB2.out (Nat.le_refl _)
            have c2 : w2.cell? ⟨g, off + k * 4 + 2, none⟩ = some (.string (Lend.strOf x.val)) := kst HCX.out.2.2.1 HB2.out (Nat.le_refl _)
            have c3 : w2.cell? ⟨g, off + k * 4 + 3, none⟩ = some (.int .u64 x.delta) := kst HCX.out.2.2.2 HB2.out (Nat.le_refl _)
            go_wp2_with fail
            go_quiet (fail)
            obtain ⟨w3, hw3⟩ : ∃ z, z = w2.drewN nq := ⟨_, rfl⟩
            have HB3 := Lib.hid (show Below w1.heap.size w1 w3 by rw [hw3]; exact ⟨HB2.out.os, HB2.out.tape, HB2.out.output, HB2.out.size, HB2.out.block⟩)
            have HRO3 := Lib.hid (show RU w3 w1.heap.size vv o by rw [hw3]; exact HRO2.out)
            rw [← hw3]
            clear hw3 e0 e1 e2 e3 c0 c1 c2 c3
            have e0 : w3.cell? ⟨w.heap.size, 0, none⟩ = some (.int .u8 u.kind) := kst (HX.out.cell 0) HB3.out (Nat.le_refl _)
            have e1 : w3.cell? ⟨w.heap.size, 1, none⟩ = some (.string UK) := by rw [HUK.out]; exact kst (HX.out.cell 1) HB3.out (Nat.le_refl _)
            have e2 : w3.cell? ⟨w.heap.size, 2, none⟩ = some (.string (Lend.strOf u.val)) := kst (HX.out.cell 2) HB3.out (Nat.le_refl _)
            have e3 : w3.cell? ⟨w.heap.size, 3, none⟩ = some (.int .u64 u.delta) := kst (HX.out.cell 3) HB3.out (Nat.le_refl _)
            have c0 : w3.cell? ⟨g, off + k * 4, none⟩ = some (.int .u8 x.kind) := kst HCX.out.1 HB3.out (Nat.le_refl _)
            have c1 : w3.cell? ⟨g, off + k * 4 + 1, none⟩ = some (.string XK) := by rw [HXK.out]; exact kst HCX.out.2.1 HB3.out (Nat.le_refl _)
            have c2 : w3.cell? ⟨g, off + k * 4 + 2, none⟩ = some (.string (Lend.strOf x.val)) := kst HCX.out.2.2.1 HB3.out (Nat.le_refl _)
            have c3 : w3.cell? ⟨g, off + k * 4 + 3, none⟩ = some (.int .u64 x.delta) := kst HCX.out.2.2.2 HB3.out (Nat.le_refl _)
            obtain ⟨v5, wa5, hap, hro4, hb4, _⟩ := app_one und_ru isU_ru 26 u HRO3.out HB3.out.size (by omega)
            rw [← HUK.out] at hap
            have HA5 := Lib.hid hap
            have HR5 := Lib.hid hro4
            have HB5 := Lib.hid (hb4 (Nat.le_refl _) HB3.out)
            clear hap hro4 hb4
            obtain ⟨v6, wa6, hap, hro4, hb4, _⟩ := app_one und_ru isU_ru 26 x HR5.out HB5.out.size (by rw [List.length_append]; simp only [List.length_cons, List.length_nil]; omega)
            rw [← HXK.out] at hap
            have HA6 := Lib.hid hap
            have HR6 := Lib.hid hro4
            have HB6 := Lib.hid (hb4 (Nat.le_refl _) HB5.out)
            clear hap hro4 hb4
            clear c0 c1 c2 c3
            have c0 : wa5.cell? ⟨g, off + k * 4, none⟩ = some (.int .u8 x.kind) := kst HCX.out.1 HB5.out (Nat.le_refl _)
            have c1 : wa5.cell? ⟨g, off + k * 4 + 1, none⟩ = some (.string XK) := by rw [HXK.out]; exact kst HCX.out.2.1 HB5.out (Nat.le_refl _)
            have c2 : wa5.cell? ⟨g, off + k * 4 + 2, none⟩ = some (.string (Lend.strOf x.val)) := kst HCX.out.2.2.1 HB5.out (Nat.le_refl _)
            have c3 : wa5.cell? ⟨g, off + k * 4 + 3, none⟩ = some (.int .u64 x.delta) := kst HCX.out.2.2.2 HB5.out (Nat.le_refl _)
            go_wp2_with (at_builtin; first | (refine wpList_append_run rfl _ _ _ _ rfl _ _ _ rfl rfl HA5.out ?_) | (refine wpList_append_run rfl _ _ _ _ rfl _ _ _ rfl rfl HA6.out ?_))
            go_roundw
            case rel => exact ⟨k + 1, true, _, _, rfl, rfl, by go_num, by omega, HR6.out, HW2, HB6.out⟩
            case measure => simp [intOf]; omega
    · obtain rfl : k = n := by omega
      have hki : ¬ ((k : Int) < (k : Int)) := by omega
      have HE := Lib.hid (ws_end (u := u) (d := d) (o := o) HS.out (by rw [← HN.out]; exact HWS.out))
      obtain ⟨UK, hUK⟩ : ∃ z, z = Lend.strOf u.key := ⟨_, rfl⟩
      have HUK := Lib.hid hUK
      clear hUK e0 e1 e2 e3 hb hro
      have e0 : wr.cell? ⟨w.heap.size, 0, none⟩ = some (.int .u8 u.kind) := kst (HX.out.cell 0) HB.out (Nat.le_refl _)
      have e1 : wr.cell? ⟨w.heap.size, 1, none⟩ = some (.string UK) := by rw [HUK.out]; exact kst (HX.out.cell 1) HB.out (Nat.le_refl _)
      have e2 : wr.cell? ⟨w.heap.size, 2, none⟩ = some (.string (Lend.strOf u.val)) := kst (HX.out.cell 2) HB.out (Nat.le_refl _)
      have e3 : wr.cell? ⟨w.heap.size, 3, none⟩ = some (.int .u64 u.delta) := kst (HX.out.cell 3) HB.out (Nat.le_refl _)
      cases d with
      | true =>
        rw [if_pos rfl] at HE
        go_wp2_with fail
        exact bodyPost_ret (v := vv) (by simp [results, Try.results9, go_sem]) rfl ⟨_, rfl, by rw [HE.out]; exact own_base HRO.out HB1.out.size, HB1.out.trans (HB.out.mono HB1.out.size)⟩
      | false =>
        rw [if_neg (by simp)] at HE
        obtain ⟨v5, wa5, hap, hro4, hb4, _⟩ := app_one und_ru isU_ru 26 u HRO.out HB.out.size (by omega)
        rw [← HUK.out] at hap
        have HA5 := Lib.hid hap
        have HR5 := Lib.hid hro4
        have HB5 := Lib.hid (hb4 (Nat.le_refl _) HB.out)
        clear hap hro4 hb4
        go_wp2_with (at_builtin; refine wpList_append_run rfl _ _ _ _ rfl _ _ _ rfl rfl HA5.out ?_)
        go_ret
        exact ⟨_, rfl, by rw [HE.out]; exact own_base HR5.out HB1.out.size, HB1.out.trans (HB5.out.mono HB1.out.size)⟩
end Go.Proofs.Ytiljcfmplbmooaa.Buf
/- Layer 15 (buf): the document's Within, Cut. -/
namespace Go.Proofs.Ytiljcfmplbmooaa.Buf
open Go Go.RowKit Go.Proofs.Ytiljcfmplbmooaa Go.Proofs.Ytiljcfmplbmooaa.Lend Go.Proofs.Ytiljcfmplbmooaa.Rec Go.Proofs.Ytiljcfmplbmooaa.Msg
set_option linter.unusedVariables false

set_option maxRecDepth 100000 in
set_option maxHeartbeats 4000000 in
theorem refwithin_any (key low high : List UInt8) (w : World) : Calls Try.prog 32 #[.string (Lend.strOf key), .string (Lend.strOf low), .string (Lend.strOf high)] w fun e w' => e = .returned (.bool (inB low high key)) ∧ w = w' := by
  have h1 := bl_str key low
  have h2 := bl_str key high
  have HI : Hid (inB low high key = (!kLt key low && (high == [] || kLt key high))) := Lib.hid rfl
  rw [HI.out]
  by_cases hh : high = []
  · have hk1 : (Lend.strOf high).toList = [] := by rw [hh, ByteArray.toList_eq]; rfl
    have hk2 : (Lend.strOf high).toList.isEmpty = true := by rw [hk1]; rfl
    rw [show (high == []) = true by simpa using hh]
    generalize Lend.strOf key = K at *
    generalize Lend.strOf low = L at *
    generalize Lend.strOf high = H at *
    generalize kLt key low = b1 at *
    generalize kLt key high = b2 at *
    clear HI hh
    cases b1 <;> (go_enter Try.func32, Try.ntmps32; go_wp2_with fail; go_ret; exact ⟨rfl, rfl⟩)
  · have hk1 : ¬ (Lend.strOf high).toList = [] := str_ne hh
    have hk2 : (Lend.strOf high).toList.isEmpty = false := by rw [List.isEmpty_eq_false_iff]; exact hk1
    rw [show (high == []) = false by simpa using hh]
    generalize Lend.strOf key = K at *
    generalize Lend.strOf low = L at *
    generalize Lend.strOf high = H at *
    generalize kLt key low = b1 at *
    generalize kLt key high = b2 at *
    clear HI hh
    cases b1 <;> cases b2 <;> (go_enter Try.func32, Try.ntmps32; go_wp2_with fail; go_ret; exact ⟨rfl, rfl⟩)
theorem cutI_snoc (low high : List UInt8) (o : List Up) (x : Up) : cutI low high (o ++ [x]) = if inB low high x.key = true then cutI low high o ++ [x] else cutI low high o := by
  unfold cutI
  rw [List.filter_append]
  by_cases h : inB low high x.key = true
  · rw [if_pos h, List.filter_cons_of_pos (by exact h)]; rfl
  · rw [if_neg h, List.filter_cons_of_neg (by exact h), List.filter_nil, List.append_nil]
theorem cutO_snoc (low high : List UInt8) (o : List Up) (x : Up) : cutO low high (o ++ [x]) = if inB low high x.key = true then cutO low high o else cutO low high o ++ [x] := by
  unfold cutO
  rw [List.filter_append]
  by_cases h : inB low high x.key = true
  · rw [if_pos h, List.filter_cons_of_neg (by simp [h]), List.filter_nil, List.append_nil]
  · rw [if_neg h, List.filter_cons_of_pos (by simpa using h)]; rfl
/-- what the document's Cut answers -/
def CuQ (w : World) (l : List Up) (low high : List UInt8) (e : Ending) (w' : World) : Prop :=
  ∃ v1 v2, e = .returned (.tuple #[v1, v2]) ∧ RU w' w.heap.size v1 (cutI low high l) ∧ RU w' w.heap.size v2 (cutO low high l) ∧ Below w.heap.size w w'
def Apt (v1 v2 : Value) : Prop := ∀ k, v1.ownBlock = some k → v2.ownBlock ≠ some k
theorem Apt.symm {v1 v2 : Value} (h : Apt v1 v2) : Apt v2 v1 := fun k h2 h1 => h k h1 h2
set_option maxRecDepth 100000 in
set_option maxHeartbeats 4000000 in
theorem refcut_any {w : World} {v : Value} {l : List Up} (low high : List UInt8) (h : UR w v l) (hl : l.length ≤ 100000) :
    Calls Try.prog 13 #[v, .string (Lend.strOf low), .string (Lend.strOf high)] w (CuQ w l low high) := by
  obtain ⟨a, cap, rfl⟩ := h.slice
  have HU := Lib.hid h
  have HWI := Lib.hid (fun (k : List UInt8) (W : World) => refwithin_any k low high W)
  obtain ⟨n, hn⟩ : ∃ n, n = l.length := ⟨_, rfl⟩
  have HN := Lib.hid hn
  rw [← hn] at hl HU ⊢
  clear h hn
  obtain ⟨L, hL⟩ : ∃ x, x = Lend.strOf low := ⟨_, rfl⟩
  obtain ⟨H, hH⟩ : ∃ x, x = Lend.strOf high := ⟨_, rfl⟩
  rw [← hL, ← hH] at HWI ⊢
  clear hL hH
  go_enter Try.func13, Try.ntmps13
  go_wp2_with fail
  go_loopw [8, 9, 10] (fun av bv i wr => ∃ (k : Nat) (va vb : Value), va = av ∧ vb = bv ∧ i = .int .i64 k ∧ k ≤ n ∧ RU wr w.heap.size va (cutI low high (l.take k)) ∧ RU wr w.heap.size vb (cutO low high (l.take k)) ∧ Apt va vb ∧ Below w.heap.size w wr) (fun _ _ i _ => n - (intOf i).toNat)
  case atStart => exact ⟨0, _, _, rfl, rfl, rfl, Nat.zero_le _, World.ownsRow_nil _ _ _ _, World.ownsRow_nil _ _ _ _, (fun k h => by cases h), Below.refl _ _⟩
  case round =>
    obtain ⟨k, va, vb, rfl, rfl, rfl, hk, hra, hrb, hap, hb⟩ := hrel
    rename World => wr
    have HRA := Lib.hid hra
    have HRB := Lib.hid hrb
    have HAP := Lib.hid hap
    have HB := Lib.hid hb
    by_cases hlt : k < n
    · have hki : (k : Int) < (n : Int) := by omega
      have hkl : k < l.length := by rw [← HN.out]; exact hlt
      obtain ⟨g, off, rfl⟩ := ur_some HU.out (by omega)
      obtain ⟨c0, c1, c2, c3⟩ := ur_cells HU.out k hkl
      have HSI := Lib.hid (show cutI low high (l.take (k + 1)) = _ by rw [List.take_succ_eq_append_getElem hkl, cutI_snoc])
      have HSO := Lib.hid (show cutO low high (l.take (k + 1)) = _ by rw [List.take_succ_eq_append_getElem hkl, cutO_snoc])
      have hli := cutI_len low high (l.take k)
      have hlo := cutO_len low high (l.take k)
      have hlk : (l.take k).length ≤ 100000 := by rw [List.length_take]; omega
      obtain ⟨x, hx⟩ : ∃ x, x = l[k] := ⟨_, rfl⟩
      rw [← hx] at c0 c1 c2 c3 HSI HSO
      replace c0 := kst c0 hb (Nat.le_refl _)
      replace c1 := kst c1 hb (Nat.le_refl _)
      replace c2 := kst c2 hb (Nat.le_refl _)
      replace c3 := kst c3 hb (Nat.le_refl _)
      have HW := Lib.hid (fun W => HWI.out x.key W)
      clear hx hb hra hrb hap
      cases hin : inB low high x.key with
      | true =>
        rw [hin] at HW
        rw [hin, if_pos rfl] at HSI HSO
        obtain ⟨v5, w5, hp, hr5, hb5, hk5⟩ := app_one und_ru isU_ru 26 x HRA.out HB.out.size (by omega)
        obtain ⟨hrb5, hap5⟩ := hk5 HRB.out HAP.out
        have HA := Lib.hid hp
        have HR5 := Lib.hid hr5
        have HB5 := Lib.hid (hb5 (Nat.le_refl _) HB.out)
        have HRB5 := Lib.hid hrb5
        have HAP5 := Lib.hid (show Apt v5 vb from hap5)
        clear hp hr5 hb5 hk5 hrb5 hap5 hin
        go_wp2_with fail
        refine (HW.out _).mono ?_
        rintro e w4 ⟨rfl, rfl⟩
        go_wp2_with (at_builtin; refine wpList_append_run rfl _ _ _ _ rfl _ _ _ rfl rfl HA.out ?_)
        go_roundw
        case rel => exact ⟨k + 1, _, _, rfl, rfl, by go_num, by omega, by rw [HSI.out]; exact HR5.out, by rw [HSO.out]; exact HRB5.out, HAP5.out, HB5.out⟩
        case measure => simp [intOf]; omega
      | false =>
        rw [hin] at HW
        rw [hin, if_neg (by simp)] at HSI HSO
        obtain ⟨v5, w5, hp, hr5, hb5, hk5⟩ := app_one und_ru isU_ru 26 x HRB.out HB.out.size (by omega)
        obtain ⟨hra5, hap5⟩ := hk5 HRA.out HAP.out.symm
        have HA := Lib.hid hp
        have HR5 := Lib.hid hr5
        have HB5 := Lib.hid (hb5 (Nat.le_refl _) HB.out)
        have HRA5 := Lib.hid hra5
        have HAP5 := Lib.hid (Apt.symm (show Apt v5 va from hap5))
        clear hp hr5 hb5 hk5 hra5 hap5 hin
        go_wp2_with fail
        refine (HW.out _).mono ?_
        rintro e w4 ⟨rfl, rfl⟩
        go_wp2_with (at_builtin; refine wpList_append_run rfl _ _ _ _ rfl _ _ _ rfl rfl HA.out ?_)
        go_roundw
        case rel => exact ⟨k + 1, _, _, rfl, rfl, by go_num, by omega, by rw [HSI.out]; exact HRA5.out, by rw [HSO.out]; exact HR5.out, HAP5.out, HB5.out⟩
        case measure => simp [intOf]; omega
    · obtain rfl : k = n := by omega
      have hki : ¬ ((k : Int) < (k : Int)) := by omega
      have HT := Lib.hid (show l.take k = l from List.take_of_length_le (by rw [HN.out]; exact Nat.le_refl _))
      rw [HT.out] at HRA HRB
      clear hb hra hrb hap
      go_wp2_with fail
      go_ret2
      exact ⟨_, _, rfl, HRA.out, HRB.out, HB.out⟩
end Go.Proofs.Ytiljcfmplbmooaa.Buf
