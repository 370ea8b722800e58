/- Layer 16 (leaf): apply, On. -/
import Derived.Test.YtfmbjepjmjcgeaaLeB
import Derived.Test.YtfmbjepjmjcgeaaRecA
import Derived.Test.YtfmbjepjmjcgeaaMsgB
namespace Go.Proofs.Ytfmbjepjmjcgeaa.Leaf
open Go Go.RowKit Go.Proofs.Ytfmbjepjmjcgeaa Go.Proofs.Ytfmbjepjmjcgeaa.Lend Go.Proofs.Ytfmbjepjmjcgeaa.Rec Go.Proofs.Ytfmbjepjmjcgeaa.Msg Go.Proofs.Ytfmbjepjmjcgeaa.Buf
set_option linter.unusedVariables false

theorem ea_of {T : TypeId} {w : World} {B n : Nat} {v : Value} {L : List Up} (hn : n = L.length) (h : w.ownsRow B T 2 v n (flatE L)) : EO T w B v L := by subst hn; exact h
theorem gby_bel {w w' : World} (h : Below w.heap.size w w') (r : Option Nat) : w.grownBy w' r := ⟨h.os, h.tape, h.output, h.size, fun k hk _ => h.block k hk⟩
theorem flatE_set : ∀ (L : List Up) (p : Nat) (hp : p < L.length) (y : Up), y.key = L[p].key → flatE (L.set p y) = (flatE L).set (p * 2 + 1) (.string (Lend.strOf y.val))
  | x :: L, 0, _, y, h => by
    simp only [List.getElem_cons_zero] at h
    rw [List.set_cons_zero, flatE_cons, flatE_cons]
    simp [encE, h]
  | x :: L, p + 1, hp, y, h => by
    rw [List.set_cons_succ, flatE_cons, flatE_cons, flatE_set L p (by simpa using hp) y (by simpa using h), show (p + 1) * 2 + 1 = (p * 2 + 1) + 1 + 1 by omega]
    simp [encE]
theorem eo_set {T : TypeId} {w : World} {B g n cap : Nat} {L : List Up} (h : EO T w B (.slice (some ⟨g, 0, none⟩) n cap) L) (p : Nat) (hp : p < L.length) (y : Up) (hk : y.key = L[p].key) :
    EO T (w.setCell ⟨g, p * 2 + 1, none⟩ (.string (Lend.strOf y.val))) B (.slice (some ⟨g, 0, none⟩) n cap) (L.set p y) := by
  rcases eo_cases h with ⟨hv, _⟩ | ⟨g', cap', cs, hv, hBg, hh, hn, hm, hs, ht⟩
  · cases hv
  · simp at hv
    obtain ⟨rfl, rfl, rfl⟩ := hv
    have h2 := hh.set (p * 2 + 1) (.string (Lend.strOf y.val))
    have := eo_mk (l := L.set p y) hBg h2 (by rw [List.length_set]; exact hn) hm (by rw [List.length_set]; exact hs) (by
      rw [List.length_set, List.take_set, ht, flatE_set L p hp y hk])
    rwa [List.length_set] at this
theorem gby_set (w : World) (g i : Nat) (v : Value) : w.grownBy (w.setCell ⟨g, i, none⟩ v) (some g) :=
  ⟨rfl, rfl, rfl, by simp, fun k hk hn => Below.heap_setCell _ _ _ _ (fun e => hn (by rw [e]))⟩
set_option maxRecDepth 100000 in
set_option maxHeartbeats 4000000 in
theorem apply_any {w : World} {B : Nat} {v : Value} {L : List Up} {u : Up} (h : EA w B v L) (hB : B ≤ w.heap.size) (hs : Srt L) (hl : L.length ≤ 100000) (hu : WfU u) (hv : (svK L u.key).1.length ≤ 1000) :
    Calls Try.prog 35 #[v, agU u] w (InP w B v.ownBlock (putE L u)) := by
  obtain ⟨w0, hw0⟩ : ∃ x, x = w.alloc (.cells #[.int .u8 u.kind, .string (Lend.strOf u.key), .string (Lend.strOf u.val), .int .u64 u.delta] 34) := ⟨_, rfl⟩
  have HB0 := Lib.hid (show Below w.heap.size w w0 by rw [hw0]; exact below_new _ _)
  have HX := Lib.hid (show Has w0 w.heap.size 34 (encU u) by rw [hw0]; exact Has.new w (encU u) _)
  have HE := Lib.hid (own_bel h HB0.out)
  have HPL := Lib.hid (place_any u.key (ER.of_own HE.out) hs (by omega))
  have HON := Lib.hid (fun W => on_any (svK L u.key) u W (by omega) hu)
  have HS := Lib.hid (show B ≤ w.heap.size ∧ L.length ≤ 100000 from ⟨hB, hl⟩)
  have HH := Lib.hid h
  cases ht : thK L u.key with
  | true =>
    have hp := (thK_yes ht).1
    have hkk := (thK_yes ht).2
    obtain ⟨g, cap, rfl, hnc, hBg⟩ := own_some h (by omega)
    have HC := Lib.hid (er_val (ER.of_own HE.out) (plK L u.key) hp)
    rw [svK_yes ht] at HON
    unfold rtS at HON
    have HPE := Lib.hid (show (onU (svK L u.key) u).2 = true → putE L u = L.set (plK L u.key) (enU u.key (onU (svK L u.key) u).1) from putE_set ht)
    have HPD := Lib.hid (show (onU (svK L u.key) u).2 = false → putE L u = L.take (plK L u.key) ++ L.drop (plK L u.key + 1) from putE_del ht)
    rw [svK_yes ht] at HPE HPD
    obtain ⟨o, ho⟩ : ∃ o, o = (L[plK L u.key]'hp).val := ⟨_, rfl⟩
    rw [← ho] at HON HPE HPD HC
    obtain ⟨p, hpe⟩ : ∃ p, p = plK L u.key := ⟨_, rfl⟩
    obtain ⟨n, hn⟩ : ∃ n, n = L.length := ⟨_, rfl⟩
    rw [ht] at HPL
    rw [← hpe] at HPL HPE HPD HC
    have HKK := Lib.hid (show ∀ h : p < L.length, u.key = (L[p]'h).key from fun h => by subst hpe; exact hkk.symm)
    have HN := Lib.hid hn
    have hpn : p < n := by omega
    rw [← hn] at HPL HE HH hnc hl ⊢
    have hpi : (p : Int) < (n : Int) := by omega
    have hw1' : IntKind.i64.wrap ((p : Int) + 1) = (p : Int) + 1 := by rw [IntKind.wrap_i64]; omega
    rw [Nat.zero_add] at HC
    have y0 : w0.cell? ⟨w.heap.size, 0, none⟩ = some (.int .u8 u.kind) := HX.out.cell 0
    have y1 : w0.cell? ⟨w.heap.size, 1, none⟩ = some (.string (Lend.strOf u.key)) := HX.out.cell 1
    have y2 : w0.cell? ⟨w.heap.size, 2, none⟩ = some (.string (Lend.strOf u.val)) := HX.out.cell 2
    have y3 : w0.cell? ⟨w.heap.size, 3, none⟩ = some (.int .u64 u.delta) := HX.out.cell 3
    unfold agU at HON ⊢
    clear h hB hs hu hv hp hkk hpe ht ho hn hnc hl
    cases hst : (onU (o, true) u).2 with
    | true =>
      have HPE := Lib.hid (HPE.out hst)
      rw [hst] at HON
      generalize hX : (onU (o, true) u).1 = X at *
      clear hst hX HPD
      go_enter Try.func35, Try.ntmps35
      go_wp2_with fail
      rw [← hw0]
      clear hw0
      go_wp2_with fail
      refine HPL.out.mono ?_
      rintro e w1 ⟨rfl, hb1⟩
      have c0 := keep1 HC.out hb1
      have y0 := keep1 y0 hb1
      have y1 := keep1 y1 hb1
      have y2 := keep1 y2 hb1
      have y3 := keep1 y3 hb1
      have HB1 := Lib.hid (below_on HB0.out hb1)
      have HE1 := Lib.hid (own_bel HE.out hb1)
      clear hb1
      go_wp2_with fail
      refine (HON.out w1).mono ?_
      rintro e w2 ⟨rfl, hb2⟩
      have HB2 := Lib.hid (below_on HB1.out hb2)
      have HE2 := Lib.hid (own_bel HE1.out hb2)
      have c0 := keep1 c0 hb2
      have f0 : w2.frozen? ⟨g, p * 2 + 1, none⟩ = false := by
        rcases eo_cases (by have := HE2.out; rw [HN.out] at this; exact this) with ⟨hv, _⟩ | ⟨g', cap', cs, hv, _, hh, _⟩
        · cases hv
        · simp at hv
          obtain ⟨rfl, rfl⟩ := hv
          exact hh.frozen _
      clear hb2 y0 y1 y2 y3
      go_wp2_with fail
      go_ret
      refine ⟨_, rfl, ?_, gby_trans (gby_bel HB2.out _) (gby_set _ _ _ _)⟩
      rw [HPE.out]
      have := eo_set (T := 53) (w := w2) (B := B) (g := g) (n := n) (cap := cap) (L := L) (ea_of HN.out HE2.out) p (by rw [← HN.out]; exact hpn) (enU u.key X) (HKK.out _)
      exact this
    | false =>
      have HPD := Lib.hid (HPD.out hst)
      rw [hst] at HON
      generalize hX : (onU (o, true) u).1 = X at *
      clear hst hX HPE
      go_enter Try.func35, Try.ntmps35
      go_wp2_with fail
      rw [← hw0]
      clear hw0
      go_wp2_with fail
      refine HPL.out.mono ?_
      rintro e w1 ⟨rfl, hb1⟩
      have c0 := keep1 HC.out hb1
      have y0 := keep1 y0 hb1
      have y1 := keep1 y1 hb1
      have y2 := keep1 y2 hb1
      have y3 := keep1 y3 hb1
      have HB1 := Lib.hid (below_on HB0.out hb1)
      have HE1 := Lib.hid (own_bel HE.out hb1)
      clear hb1
      go_wp2_with fail
      refine (HON.out w1).mono ?_
      rintro e w2 ⟨rfl, hb2⟩
      have HB2 := Lib.hid (below_on HB1.out hb2)
      have hdel := delete_any (w := w2) (B := B) (l := L) (ea_of HN.out (own_bel HE1.out hb2)) p (by rw [← HN.out]; exact hpn) (by have := HS.out.2; omega)
      clear hb2 y0 y1 y2 y3 c0
      go_wp2_with fail
      refine hdel.mono ?_
      clear hdel
      rintro e w3 ⟨v3, rfl, hv3, hg3⟩
      have HV := Lib.hid (show EA w3 B v3 (putE L u) by rw [HPD.out]; exact hv3)
      have HG := Lib.hid (gby_trans (gby_bel HB2.out _) hg3)
      clear hv3 hg3
      go_wp2_with fail
      go_ret
      exact ⟨_, rfl, HV.out, HG.out⟩
  | false =>
    obtain ⟨ao, cap, rfl, hnc⟩ := own_shape h
    rw [svK_no ht] at HON
    unfold rtS at HON
    have HPI := Lib.hid (show (onU (svK L u.key) u).2 = true → putE L u = L.take (plK L u.key) ++ enU u.key (onU (svK L u.key) u).1 :: L.drop (plK L u.key) from putE_ins ht)
    have HPS := Lib.hid (show (onU (svK L u.key) u).2 = false → putE L u = L from putE_same ht)
    rw [svK_no ht] at HPI HPS
    have hpl := plK_le L u.key
    obtain ⟨p, hpe⟩ : ∃ p, p = plK L u.key := ⟨_, rfl⟩
    obtain ⟨n, hn⟩ : ∃ n, n = L.length := ⟨_, rfl⟩
    rw [ht] at HPL
    rw [← hpe] at HPL HPI hpl
    have HN := Lib.hid hn
    rw [← hn] at HPL HE HH hnc hl hpl ⊢
    have y0 : w0.cell? ⟨w.heap.size, 0, none⟩ = some (.int .u8 u.kind) := HX.out.cell 0
    have y1 : w0.cell? ⟨w.heap.size, 1, none⟩ = some (.string (Lend.strOf u.key)) := HX.out.cell 1
    have y2 : w0.cell? ⟨w.heap.size, 2, none⟩ = some (.string (Lend.strOf u.val)) := HX.out.cell 2
    have y3 : w0.cell? ⟨w.heap.size, 3, none⟩ = some (.int .u64 u.delta) := HX.out.cell 3
    have e0 : Lend.strOf ([], false).1 = ⟨#[]⟩ := rfl
    unfold agU at HON ⊢
    rw [e0] at HON
    clear h hB hs hu hv hpe ht e0 hn hnc hl
    cases hst : (onU ([], false) u).2 with
    | true =>
      have HPI := Lib.hid (HPI.out hst)
      rw [hst] at HON
      generalize hX : (onU ([], false) u).1 = X at *
      clear hst hX HPS
      go_enter Try.func35, Try.ntmps35
      go_wp2_with fail
      rw [← hw0]
      clear hw0
      go_wp2_with fail
      refine HPL.out.mono ?_
      rintro e w1 ⟨rfl, hb1⟩
      have y0 := keep1 y0 hb1
      have y1 := keep1 y1 hb1
      have y2 := keep1 y2 hb1
      have y3 := keep1 y3 hb1
      have HB1 := Lib.hid (below_on HB0.out hb1)
      have HE1 := Lib.hid (own_bel HE.out hb1)
      clear hb1
      go_wp2_with fail
      refine (HON.out w1).mono ?_
      rintro e w2 ⟨rfl, hb2⟩
      have y1 := keep1 y1 hb2
      have HB2 := Lib.hid (below_on HB1.out hb2)
      have HE2 := Lib.hid (own_bel HE1.out hb2)
      obtain ⟨w3, hw3⟩ : ∃ z, z = w2.alloc (.cells #[.string (Lend.strOf u.key), .string (Lend.strOf X)] 53) := ⟨_, rfl⟩
      have hb3 : Below w2.heap.size w2 w3 := by rw [hw3]; exact below_new _ _
      have hx3 : Has w3 w2.heap.size 53 (encE (enU u.key X)) := by rw [hw3]; exact Has.new w2 (encE (enU u.key X)) _
      have HB3 := Lib.hid (below_on HB2.out hb3)
      have hins := insert_any (w := w3) (B := B) (l := L) (ea_of HN.out (own_bel HE2.out hb3)) (Nat.le_trans HS.out.1 (HB3.out.size)) p (by rw [← HN.out]; exact hpl) (by have := HS.out.2; omega) hx3 (fun k hk e => by have := (HE2.out.lt k hk).2; omega)
      have HI := Lib.hid hins
      clear hb2 hb3 hx3 hins y0 y2 y3
      go_wp2_with fail
      rw [← hw3]
      clear hw3
      refine HI.out.mono ?_
      rintro e w4 ⟨v4, rfl, hv4, hg4⟩
      have HV := Lib.hid (show EA w4 B v4 (putE L u) by rw [HPI.out]; exact hv4)
      have HG := Lib.hid (gby_trans (gby_bel HB3.out _) hg4)
      clear hv4 hg4
      go_wp2_with fail
      go_ret
      exact ⟨_, rfl, HV.out, HG.out⟩
    | false =>
      have HPS := Lib.hid (HPS.out hst)
      rw [hst] at HON
      generalize hX : (onU ([], false) u).1 = X at *
      clear hst hX HPI
      go_enter Try.func35, Try.ntmps35
      go_wp2_with fail
      rw [← hw0]
      clear hw0
      go_wp2_with fail
      refine HPL.out.mono ?_
      rintro e w1 ⟨rfl, hb1⟩
      have y0 := keep1 y0 hb1
      have y1 := keep1 y1 hb1
      have y2 := keep1 y2 hb1
      have y3 := keep1 y3 hb1
      have HB1 := Lib.hid (below_on HB0.out hb1)
      have HE1 := Lib.hid (own_bel HE.out hb1)
      clear hb1
      go_wp2_with fail
      refine (HON.out w1).mono ?_
      rintro e w2 ⟨rfl, hb2⟩
      have HB2 := Lib.hid (below_on HB1.out hb2)
      have HE2 := Lib.hid (own_bel HE1.out hb2)
      clear hb2 y0 y1 y2 y3
      go_wp2_with fail
      go_ret
      exact ⟨_, rfl, by rw [HPS.out]; exact ea_of HN.out HE2.out, gby_bel HB2.out _⟩
end Go.Proofs.Ytfmbjepjmjcgeaa.Leaf
/- Layer 16 (leaf): On. -/
namespace Go.Proofs.Ytfmbjepjmjcgeaa.Leaf
open Go Go.RowKit Go.Proofs.Ytfmbjepjmjcgeaa Go.Proofs.Ytfmbjepjmjcgeaa.Lend Go.Proofs.Ytfmbjepjmjcgeaa.Rec Go.Proofs.Ytfmbjepjmjcgeaa.Msg Go.Proofs.Ytfmbjepjmjcgeaa.Buf
set_option linter.unusedVariables false

theorem ro_far {T : TypeId} {w : World} {base B : Nat} {v : Value} {l : List Up} (h : EO T w base v l) (hB : B < base) (x : Value) : EO T (w.setCell ⟨B, 0, none⟩ x) base v l :=
  owns_same h fun k e => Below.heap_setCell _ _ _ _ (fun e' => by have := (h.lt k e).1; simp at e'; omega)
theorem bel_1 {w w' : World} {i : Nat} {v : Value} (h : Below w.heap.size w w') : Below w.heap.size w (w'.setCell ⟨w.heap.size + 1, i, none⟩ v) := h.setCell (show w.heap.size ≤ w.heap.size + 1 by omega) v
theorem ur_cells {w : World} {a : Option Addr} {m c : Nat} {l : List Up} (h : UR w (.slice a m c) l) (i : Nat) (hi : i < l.length) : ∃ g off, a = some ⟨g, off, none⟩ ∧
    w.cell? ⟨g, off + i * 4, none⟩ = some (.int .u8 l[i].kind) ∧ w.cell? ⟨g, off + i * 4 + 1, none⟩ = some (.string (Lend.strOf l[i].key)) ∧ w.cell? ⟨g, off + i * 4 + 2, none⟩ = some (.string (Lend.strOf l[i].val)) ∧ w.cell? ⟨g, off + i * 4 + 3, none⟩ = some (.int .u64 l[i].delta) := by
  obtain ⟨g', off', he, hc⟩ := UR.at_ h (by omega)
  exact ⟨g', off', he, hc i hi 0 (by omega), hc i hi 1 (by omega), hc i hi 2 (by omega), hc i hi 3 (by omega)⟩
/-- what stands while On goes -/
structure Ont (w : World) (L : List Up) (v : Value) (wr : World) : Prop where
  ea : EA wr (w.heap.size + 2) v L
  bel : Below w.heap.size w wr
  r : Has wr (w.heap.size + 1) 25 [.slice none 0 0]
theorem Ont.on {w wr w' : World} {L : List Up} {v : Value} (h : Ont w L v wr) (hb : Below wr.heap.size wr w') : Ont w L v w' := ⟨own_bel h.ea hb, below_on h.bel hb, h.r.below hb h.r.lt⟩
theorem Ont.grow {w wr w' : World} {L L' : List Up} {v v' : Value} (h : Ont w L v wr) (ha : EA w' (w.heap.size + 2) v' L') (hg : wr.grownBy w' v.ownBlock) : Ont w L' v' w' :=
  ⟨ha, h.bel.grown hg h.bel.size (fun k hk => by have := (h.ea.lt k hk).1; omega), h.r.same (hg.block _ h.r.lt (fun e => by have := (h.ea.lt _ e.symm).1; omega))⟩
set_option maxRecDepth 100000 in
set_option maxHeartbeats 4000000 in
theorem leafon_any {w : World} {v0 uv : Value} {L us : List Up} {m : Nat} (h : ER w v0 L) (hg : Ge L m) (hm : m ≤ 1000) (hu : UR w uv us) (hq : ∀ u ∈ us, WfU u) (hn : us.length ≤ 1000) :
    Calls Try.prog 11 #[.agg #[v0], uv] w fun e w' => ∃ v', e = .returned (.agg #[v']) ∧ EA w' w.heap.size v' (onL L us) ∧ Below w.heap.size w w' := by
  obtain ⟨w1, hw1⟩ : ∃ x, x = (w.alloc (.cells #[v0] 25)).alloc (.cells #[.slice none 0 0] 25) := ⟨_, rfl⟩
  have h1 := Has.new w [v0] 25
  have h2 := Has.new (w.alloc (.cells #[v0] 25)) [.slice none 0 0] 25
  simp only [World.size_alloc] at h2
  have HV := Lib.hid (show Has w1 w.heap.size 25 [v0] by rw [hw1]; exact h1.alloc _)
  have HR := Lib.hid (show Has w1 (w.heap.size + 1) 25 [.slice none 0 0] by rw [hw1]; exact h2)
  have HB := Lib.hid (show Below w.heap.size w w1 by rw [hw1]; exact below_nw (below_new w _) _)
  have HS := Lib.hid (show w1.heap.size = w.heap.size + 2 by rw [hw1]; simp)
  have HLI := Lib.hid (elist_any (h.below HB.out) (by have := hg.len; omega))
  have HU := Lib.hid hu
  have HQ := Lib.hid hq
  have HGE := Lib.hid hg
  have HM := Lib.hid hm
  obtain ⟨ua, uc, rfl⟩ := hu.slice
  obtain ⟨n, hnn⟩ : ∃ n, n = us.length := ⟨_, rfl⟩
  have HN := Lib.hid hnn
  rw [← hnn] at hn ⊢
  rw [← hnn] at HU
  have cb : w1.cell? ⟨w.heap.size, 0, none⟩ = some v0 := HV.out.cell 0
  clear h hg hu hq hnn h1 h2 hm
  go_enter Try.func11, Try.ntmps11
  go_wp2_with fail
  rw [← hw1]
  clear hw1
  go_wp2_with fail
  refine HLI.out.mono ?_
  rintro e w2 ⟨v2, rfl, hv2, hb2⟩
  have HO2 := Lib.hid (show Ont w L v2 w2 from ⟨by have := hv2; rw [HS.out] at this; exact this, below_on HB.out hb2, HR.out.below hb2 HR.out.lt⟩)
  clear hv2 hb2 cb
  go_wp2_with fail
  go_loopw [5, 12] (fun ev i wr => ∃ (k : Nat) (v : Value), v = ev ∧ k ≤ n ∧ i = .int .i64 k ∧ Ont w (onL L (us.take k)) v wr) (fun _ i _ => n - (intOf i).toNat)
  case atStart => exact ⟨0, _, rfl, Nat.zero_le _, rfl, HO2.out⟩
  case round =>
    obtain ⟨k, v, rfl, hk, rfl, hont⟩ := hrel
    rename World => wr
    have HO := Lib.hid hont
    clear hont
    by_cases hlt : k < n
    · have hki : (k : Int) < (n : Int) := by omega
      have hke : k < us.length := by rw [← HN.out]; exact hlt
      obtain ⟨g, off, rfl, c0, c1, c2, c3⟩ := ur_cells (HU.out.below HO.out.bel) k hke
      have hqu := HQ.out _ (List.getElem_mem hke)
      have HSN := Lib.hid (show onL L (us.take (k + 1)) = upE (onL L (us.take k)) us[k] by rw [List.take_succ_eq_append_getElem hke, onL_snoc])
      have hge := HGE.out.on (us.take k)
      obtain ⟨u, hue⟩ : ∃ u, u = us[k] := ⟨_, rfl⟩
      rw [← hue] at c0 c1 c2 c3 hqu HSN
      obtain ⟨M, hM⟩ : ∃ M, M = onL L (us.take k) := ⟨_, rfl⟩
      rw [← hM] at HSN HO hge
      have HG := Lib.hid (show Ge M 2000 from ⟨hge.srt, hge.ok, by have h1 := hge.len; have h2 := HM.out; rw [List.length_take] at h1; omega⟩)
      have HW := Lib.hid hqu
      obtain ⟨w3, hw3⟩ : ∃ z, z = wr.alloc (.cells #[.int .u8 u.kind, .string (Lend.strOf u.key), .string (Lend.strOf u.val), .int .u64 u.delta] 34) := ⟨_, rfl⟩
      have hb3 : Below wr.heap.size wr w3 := by rw [hw3]; exact below_new _ _
      have HO3 := Lib.hid (HO.out.on hb3)
      have HX := Lib.hid (show Has w3 wr.heap.size 34 (encU u) by rw [hw3]; exact Has.new wr (encU u) _)
      have y0 : w3.cell? ⟨wr.heap.size, 0, none⟩ = some (.int .u8 u.kind) := HX.out.cell 0
      have y1 : w3.cell? ⟨wr.heap.size, 1, none⟩ = some (.string (Lend.strOf u.key)) := HX.out.cell 1
      have y2 : w3.cell? ⟨wr.heap.size, 2, none⟩ = some (.string (Lend.strOf u.val)) := HX.out.cell 2
      have y3 : w3.cell? ⟨wr.heap.size, 3, none⟩ = some (.int .u64 u.delta) := HX.out.cell 3
      have HCK := Lib.hid (check_any u w3 hqu.1 hqu.2.1)
      clear hqu hue hM hge hke hb3
      by_cases hc : chkU u = 0
      · rw [hc] at HCK
        have HUE := Lib.hid (upE_yes (L := M) hc)
        clear hc
        go_wp2_with fail
        rw [← hw3]
        clear hw3 c0 c1 c2 c3
        go_wp2_with fail
        refine HCK.out.mono ?_
        rintro e w4 ⟨rfl, hb4⟩
        have HO4 := Lib.hid (HO3.out.on hb4)
        have y0 := keep1 y0 hb4
        have y1 := keep1 y1 hb4
        have y2 := keep1 y2 hb4
        have y3 := keep1 y3 hb4
        clear hb4
        have hap := apply_any (w := w4) HO4.out.ea (show w.heap.size + 2 ≤ w4.heap.size from HO4.out.r.lt) HG.out.srt (by have := HG.out.len; omega) HW.out (by have := svK_len HG.out u.key; omega)
        unfold agU at hap
        go_wp2_with fail
        refine hap.mono ?_
        clear hap y0 y1 y2 y3
        rintro e w5 ⟨v5, rfl, hv5, hg5⟩
        have HO5 := Lib.hid (HO4.out.grow hv5 hg5)
        clear hv5 hg5
        go_wp2_with fail
        go_roundw
        case rel => exact ⟨k + 1, _, rfl, by omega, by go_num, by rw [HSN.out, HUE.out]; exact HO5.out⟩
        case measure => simp [intOf]; omega
      · have hci : ¬ chkU u = 0 := hc
        have HUE := Lib.hid (upE_no (L := M) hc)
        generalize chkU u = C at *
        go_wp2_with fail
        rw [← hw3]
        clear hw3 c0 c1 c2 c3
        go_wp2_with fail
        refine HCK.out.mono ?_
        rintro e w4 ⟨rfl, hb4⟩
        have HO4 := Lib.hid (HO3.out.on hb4)
        clear hb4 y0 y1 y2 y3
        go_wp2_with fail
        go_roundw
        case rel => exact ⟨k + 1, _, rfl, by omega, by go_num, by rw [HSN.out, HUE.out]; exact HO4.out⟩
        case measure => simp [intOf]; omega
    · obtain rfl : k = n := by omega
      have hki : ¬ ((k : Int) < (k : Int)) := by omega
      have HE := Lib.hid (show EA wr (w.heap.size + 2) v (onL L us) by
        have := HO.out.ea
        rwa [List.take_of_length_le (by rw [← HN.out]; exact Nat.le_refl _)] at this)
      have e0 := HO.out.r.cell 0
      have f0 := HO.out.r.frozen 0
      simp only [List.getElem?_cons_zero] at e0
      obtain ⟨ao, cp, rfl, _⟩ := own_shape HE.out
      go_wp2_with fail
      exact bodyPost_ret (v := .agg #[.slice ao (onL L us).length cp]) (by simp [results, Try.results11, go_sem, e0]) rfl ⟨_, rfl, own_base (ro_far HE.out (show w.heap.size + 1 < w.heap.size + 2 by omega) _) (by omega), bel_1 HO.out.bel⟩
end Go.Proofs.Ytfmbjepjmjcgeaa.Leaf
