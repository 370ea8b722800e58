/- Layer 16 (leaf): the document's Get and On. -/
import Derived.Test.YtfmbjepjmjcgeaaLeC
import Derived.Test.YtfmbjepjmjcgeaaRefRec
import Derived.Test.YtfmbjepjmjcgeaaMsgR
namespace Go.Proofs.Ytfmbjepjmjcgeaa.Leaf
open Go Go.RowKit Go.Proofs.Ytfmbjepjmjcgeaa Go.Proofs.Ytfmbjepjmjcgeaa.Lend Go.Proofs.Ytfmbjepjmjcgeaa.Rec Go.Proofs.Ytfmbjepjmjcgeaa.Msg Go.Proofs.Ytfmbjepjmjcgeaa.Buf
set_option linter.unusedVariables false

/-- append(v, x), x an entry -/
theorem eapp_one {T S : TypeId} (hS : Try.prog.underlying S = some (.slice T)) (hI : IsE T) (ty : TypeId) {w : World} {B : Nat} {v : Value} {la : List Up} (x : Up) (ha : EO T w B v la) (hB : B ≤ w.heap.size) (hn : la.length ≤ 1000000) :
    ∃ v' w', (Builtin.append_ #[S, S] ty #[v, .slice (some ⟨w.heap.size, 0, none⟩) 1 1]).run Try.prog (w.alloc (.cells #[.string (Lend.strOf x.key), .string (Lend.strOf x.val)] T)) = .ok v' w' ∧ EO T w' B v' (la ++ [x]) ∧ (∀ {B0 : Nat} {w0 : World}, B0 ≤ B → Below B0 w0 w → Below B0 w0 w') := by
  have hb := below_new w (.cells #[.string (Lend.strOf x.key), .string (Lend.strOf x.val)] T)
  have hx : Has (w.alloc (.cells #[.string (Lend.strOf x.key), .string (Lend.strOf x.val)] T)) w.heap.size T (encE x) := Has.new w (encE x) T
  obtain ⟨v', w', hr, ho, hg, _⟩ := eapp_own hS hI ty (own_bel ha hb) (er_one hx) (by simp; omega) (by simp; omega)
  exact ⟨v', w', hr, ho, fun h0 hb0 => (hb0.alloc (Nat.le_trans h0 hB) _).grown hg (by simp; omega) (fun k hk => Nat.le_trans h0 (ha.lt k hk).1)⟩
/-- none of the first ones is of a key -/
def NoK (L : List Up) (k : List UInt8) (j : Nat) : Prop := ∀ i (hi : i < L.length), i < j → L[i].key ≠ k
set_option maxRecDepth 100000 in
set_option maxHeartbeats 4000000 in
theorem refget_e {w : World} {v : Value} {L : List Up} (key : List UInt8) (h : ER w v L) (hs : Srt L) (hl : L.length ≤ 1000000) :
    Calls Try.prog 15 #[v, .string (Lend.strOf key)] w fun e w' => e = gvE (svK L key) ∧ Below w.heap.size w w' := by
  obtain ⟨a, cap, rfl⟩ := h.slice
  have HU := Lib.hid h
  have HS := Lib.hid hs
  obtain ⟨n, hn⟩ : ∃ n, n = L.length := ⟨_, rfl⟩
  have HN := Lib.hid hn
  rw [← hn] at hl ⊢
  clear h hs hn
  go_enter Try.func15, Try.ntmps15
  go_wp2_with fail
  go_loopw [6] (fun i wr => ∃ k : Nat, i = .int .i64 k ∧ k ≤ n ∧ Hid (NoK L key k) ∧ Below w.heap.size w wr) (fun i _ => n - (intOf i).toNat)
  case atStart => exact ⟨0, rfl, Nat.zero_le _, Lib.hid (fun i _ h => by omega), Below.refl _ _⟩
  case round =>
    obtain ⟨k, rfl, hk, HNK, hb⟩ := hrel
    rename World => wr
    have HB := Lib.hid hb
    clear hb
    by_cases hlt : k < n
    · have hki : (k : Int) < (n : Int) := by omega
      have hke : k < L.length := by rw [← HN.out]; exact hlt
      obtain ⟨g, off, rfl⟩ := er_some HU.out (by omega)
      have c0 := er_key (HU.out.below HB.out) k hke
      have c1 := er_val (HU.out.below HB.out) k hke
      have he := eq_str L[k].key key
      by_cases hq : L[k].key = key
      · have e : svK L key = (L[k].val, true) := by
          obtain ⟨h1, h2⟩ := plK_self HS.out k hke
          rw [hq] at h1 h2
          rw [svK_yes h2]
          simp only [h1]
        have HE := Lib.hid (show gvE (svK L key) = .returned (.tuple #[.string (Lend.strOf L[k].val), .bool true]) by rw [e]; rfl)
        rw [hq, show (key == key) = true by simp] at he
        rw [hq] at c0
        generalize Lend.strOf L[k].val = V0 at *
        generalize Lend.strOf key = K1 at *
        clear hq e
        go_wp2_with fail
        go_ret2
        exact ⟨HE.out.symm, HB.out⟩
      · rw [show (L[k].key == key) = false by simpa using hq] at he
        have HNK2 := Lib.hid (show NoK L key (k + 1) from fun i hi hij => by
          by_cases e : i = k
          · subst e; exact hq
          · exact HNK.out i hi (by omega))
        generalize Lend.strOf L[k].key = K0 at *
        generalize Lend.strOf L[k].val = V0 at *
        generalize Lend.strOf key = K1 at *
        clear hq
        go_wp2_with fail
        go_roundw
        case rel => exact ⟨k + 1, by go_num, by omega, HNK2, HB.out⟩
        case measure => simp [intOf]; omega
    · obtain rfl : k = n := by omega
      have hki : ¬ ((k : Int) < (k : Int)) := by omega
      have e : svK L key = ([], false) := svK_no (by
        cases ht : thK L key with
        | false => rfl
        | true =>
          obtain ⟨hp, hk⟩ := thK_yes ht
          exact absurd hk (HNK.out _ hp (by rw [HN.out]; exact hp)))
      have HE := Lib.hid (show gvE (svK L key) = .returned (.tuple #[.string ⟨#[]⟩, .bool false]) by rw [e]; rfl)
      clear e
      go_wp2_with fail
      go_ret2
      exact ⟨HE.out.symm, HB.out⟩
/-- what stands while the document's On goes -/
structure Rnt (w w1 : World) (B : Nat) (p : Nat) (u : Up) (o : List Up) (v : Value) (wr : World) : Prop where
  ed : ED wr w1.heap.size v o
  bel : Below w1.heap.size w1 wr
  x : Has wr p 35 (encU u)
theorem Rnt.grow {w w1 wr w' : World} {B p : Nat} {u : Up} {o o' : List Up} {v v' : Value} (h : Rnt w w1 B p u o v wr) (hp : p < w1.heap.size) (ha : ED w' w1.heap.size v' o') (hb : ∀ {B0 : Nat} {w0 : World}, B0 ≤ w1.heap.size → Below B0 w0 wr → Below B0 w0 w') : Rnt w w1 B p u o' v' w' :=
  ⟨ha, hb (Nat.le_refl _) h.bel, h.x.same ((hb (Nat.le_refl _) (Below.refl w1.heap.size wr)).block p hp)⟩
theorem Rnt.drewN {w w1 wr : World} {B p : Nat} {u : Up} {o : List Up} {v : Value} (h : Rnt w w1 B p u o v wr) (q : Nat) : Rnt w w1 B p u o v (wr.drewN q) :=
  ⟨h.ed, ⟨h.bel.os, h.bel.tape, h.bel.output, h.bel.size, h.bel.block⟩, h.x⟩
theorem dapp {w w1 wr : World} {B p : Nat} {u : Up} {o : List Up} {v : Value} (h : Rnt w w1 B p u o v wr) (hp : p < w1.heap.size) (hn : o.length ≤ 1000000) (x : Up) :
    ∃ v' w', (Builtin.append_ #[26, 26] 26 #[v, .slice (some ⟨wr.heap.size, 0, none⟩) 1 1]).run Try.prog (wr.alloc (.cells #[.string (Lend.strOf x.key), .string (Lend.strOf x.val)] 52)) = .ok v' w' ∧ Rnt w w1 B p u (o ++ [x]) v' w' := by
  obtain ⟨v', w', hr, ho, hb⟩ := eapp_one und_d isE_d 26 x h.ed h.bel.size hn
  exact ⟨v', w', hr, h.grow hp ho hb⟩
set_option maxRecDepth 100000 in
set_option maxHeartbeats 8000000 in
theorem refon_e {w : World} {B : Nat} {v : Value} {L : List Up} {u : Up} (h : ED w B v L) (hB : B ≤ w.heap.size) (hs : Srt L) (hl : L.length ≤ 10000) (hu : WfU u) (hv : (svK L u.key).1.length ≤ 1000) :
    Calls Try.prog 10 #[v, agU u] w fun e w' => ∃ v', e = .returned v' ∧ ED w' B v' (upE L u) ∧ Below w.heap.size w w' := by
  obtain ⟨w1, hw1⟩ : ∃ x, x = w.alloc (.cells #[.int .u8 u.kind, .string (Lend.strOf u.key), .string (Lend.strOf u.val), .int .u64 u.delta] 35) := ⟨_, rfl⟩
  have HB1 := Lib.hid (show Below w.heap.size w w1 by rw [hw1]; exact below_new _ _)
  have HX1 := Lib.hid (show Has w1 w.heap.size 35 (encU u) by rw [hw1]; exact Has.new w (encU u) _)
  have HH := Lib.hid h
  have HS := Lib.hid hs
  have HK := Lib.hid (show B ≤ w.heap.size ∧ L.length ≤ 10000 from ⟨hB, hl⟩)
  obtain ⟨a, cap, rfl, _⟩ := own_shape h
  have HCK := Lib.hid (refcheck_any u w1 hu.1 hu.2.1)
  have HON := Lib.hid (fun W => refon_any (svK L u.key) u W (by omega) hu)
  have HGT := Lib.hid (fun (W : World) (hb : Below w.heap.size w W) => refget_e (w := W) u.key (ER.of_own (own_bel h hb)) hs (by omega))
  unfold gvE at HGT
  unfold rtS at HON
  have y0 : w1.cell? ⟨w.heap.size, 0, none⟩ = some (.int .u8 u.kind) := HX1.out.cell 0
  have y1 : w1.cell? ⟨w.heap.size, 1, none⟩ = some (.string (Lend.strOf u.key)) := HX1.out.cell 1
  have y2 : w1.cell? ⟨w.heap.size, 2, none⟩ = some (.string (Lend.strOf u.val)) := HX1.out.cell 2
  have y3 : w1.cell? ⟨w.heap.size, 3, none⟩ = some (.int .u64 u.delta) := HX1.out.cell 3
  unfold agU at HON ⊢
  by_cases hc : chkU u = 0
  · have HUE := Lib.hid (upE_yes (L := L) hc)
    rw [hc] at HCK
    obtain ⟨n, hn⟩ : ∃ n, n = L.length := ⟨_, rfl⟩
    have HN := Lib.hid hn
    rw [← hn] at hl HH HGT ⊢
    obtain ⟨so, hso⟩ : ∃ s, s = svK L u.key := ⟨_, rfl⟩
    rw [← hso] at HON HGT
    obtain ⟨sn, hsn⟩ : ∃ s, s = onU so u := ⟨_, rfl⟩
    rw [← hsn] at HON
    have HSN := Lib.hid (show onU (svK L u.key) u = sn by rw [hsn, hso])
    clear h hs hB hu hv hc hn hso hsn
    go_enter Try.func10, Try.ntmps10
    go_wp2_with fail
    rw [← hw1]
    clear hw1
    go_wp2_with fail
    refine HCK.out.mono ?_
    rintro e w2 ⟨rfl, hb2⟩
    have HB2 := Lib.hid (below_on HB1.out hb2)
    have HC2 := Lib.hid hb2
    have y1 := keep1 y1 hb2
    have HGT2 := Lib.hid (HGT.out w2 HB2.out)
    clear hb2 y0 y2 y3
    go_wp2_with fail
    refine HGT2.out.mono ?_
    rintro e w3 ⟨rfl, hb3⟩
    have HC3 := Lib.hid (below_on HC2.out hb3)
    have HX3 := Lib.hid (HX1.out.below HC3.out HX1.out.lt)
    have y0 : w3.cell? ⟨w.heap.size, 0, none⟩ = some (.int .u8 u.kind) := HX3.out.cell 0
    have y1 : w3.cell? ⟨w.heap.size, 1, none⟩ = some (.string (Lend.strOf u.key)) := HX3.out.cell 1
    have y2 : w3.cell? ⟨w.heap.size, 2, none⟩ = some (.string (Lend.strOf u.val)) := HX3.out.cell 2
    have y3 : w3.cell? ⟨w.heap.size, 3, none⟩ = some (.int .u64 u.delta) := HX3.out.cell 3
    clear hb3
    go_wp2_with fail
    refine (HON.out w3).mono ?_
    rintro e w4 ⟨rfl, hb4⟩
    have HC4 := Lib.hid (below_on HC3.out hb4)
    have HX4 := Lib.hid (HX3.out.below hb4 HX3.out.lt)
    have HWO := Lib.hid (wo_start L u)
    have HLT := Lib.hid (show w.heap.size < w1.heap.size from HX1.out.lt)
    rw [HSN.out] at HWO
    have HNW := Lib.hid (show enU u.key (onU (svK L u.key) u).1 = enU u.key sn.1 by rw [HSN.out])
    obtain ⟨nk, nv⟩ : ∃ x y : List UInt8, True := ⟨[], [], trivial⟩
    clear hb4 y0 y1 y2 y3 nk nv
    obtain ⟨s1, s2⟩ := sn
    simp only at HWO HNW ⊢
    go_wp2_with fail
    go_loopw [10, 11, 12] (fun ov dv i wr => ∃ (k : Nat) (d : Bool) (o : List Up) (v : Value), v = ov ∧ dv = .bool d ∧ i = .int .i64 k ∧ k ≤ n ∧ Hid (Wo L u k d o) ∧ Rnt w w1 B w.heap.size u o v wr) (fun _ _ i _ => n - (intOf i).toNat)
    case atStart => exact ⟨0, _, [], _, rfl, rfl, rfl, Nat.zero_le _, HWO, ⟨World.ownsRow_nil _ _ _ _, HC4.out, HX4.out⟩⟩
    case round =>
      obtain ⟨k, d, o, v, rfl, rfl, rfl, hk, HW, hrn⟩ := hrel
      rename World => wr
      have HR := Lib.hid hrn
      have z1 : wr.cell? ⟨w.heap.size, 1, none⟩ = some (.string (Lend.strOf u.key)) := HR.out.x.cell 1
      have HOL := Lib.hid (show o.length ≤ 10001 by have := wo_len HW.out; have := HK.out.2; omega)
      clear hrn
      by_cases hlt : k < n
      · have hki : (k : Int) < (n : Int) := by omega
        have hke : k < L.length := by rw [← HN.out]; exact hlt
        have her : ER wr (.slice a n cap) L := by
          have h1 := ER.of_own (own_bel HH.out HB1.out)
          exact h1.below HR.out.bel
        obtain ⟨g, off, rfl⟩ := er_some her (by omega)
        have c0 := er_key her k hke
        have c1 := er_val her k hke
        have hb := bl_str L[k].key u.key
        have he := eq_str L[k].key u.key
        obtain ⟨y, hy⟩ : ∃ y, y = L[k]'hke := ⟨_, rfl⟩
        rw [← hy] at c0 c1 hb he
        have HL1 := Lib.hid (fun (h : kLt y.key u.key = true) => by rw [hy] at h; have := wo_lo HS.out hke HW.out h; rw [← hy] at this; exact this)
        have HOB := Lib.hid hlt
        cases hg : kLt y.key u.key with
        | true =>
          obtain ⟨hne, hw'⟩ := HL1.out hg
          have HW' := Lib.hid hw'
          rw [hg] at hb
          rw [show (y.key == u.key) = false by simpa using hne] at he
          obtain ⟨K0, hK0⟩ : ∃ z, z = Lend.strOf y.key := ⟨_, rfl⟩
          obtain ⟨V0, hV0⟩ : ∃ z, z = Lend.strOf y.val := ⟨_, rfl⟩
          rw [← hK0] at c0 hb he
          rw [← hV0] at c1
          have HY0 := Lib.hid hK0.symm
          have HY1 := Lib.hid hV0.symm
          have HC0 := Lib.hid (fun (q : Nat) (W : World) (h : wr.drewN q = W) => (show W.cell? ⟨g, off + k * 2, none⟩ = some (.string K0) by rw [← h]; exact c0))
          have HC1 := Lib.hid (fun (q : Nat) (W : World) (h : wr.drewN q = W) => (show W.cell? ⟨g, off + k * 2 + 1, none⟩ = some (.string V0) by rw [← h]; exact c1))
          have HRQ := Lib.hid (fun (q : Nat) (W : World) (h : wr.drewN q = W) => (show Rnt w w1 B w.heap.size u o v W by rw [← h]; exact HR.out.drewN q))
          generalize Lend.strOf u.key = K1 at *
          clear hg hne hw' her hke hy hK0 hV0
          cases d with
          | true =>
            go_wp2_with fail
            go_quiet (fail)
            go_wp2_with fail
            go_quiet (fail)
            try simp only [World.drewN_drewN]
            generalize hwq : wr.drewN _ = wq
            have hrq := HRQ.out _ _ hwq
            obtain ⟨v5, w5, hr5, hrn5⟩ := dapp hrq HLT.out (by have := HOL.out; omega) y
            rw [HY0.out, HY1.out] at hr5
            have HO5 := Lib.hid hrn5
            have c0 := HC0.out _ _ hwq
            have c1 := HC1.out _ _ hwq
            obtain ⟨ao, cp, rfl, _⟩ := own_shape hrq.ed
            clear hwq hrq hrn5
            go_wp2_with (at_builtin; refine wpList_append_run rfl _ _ _ _ rfl _ _ _ rfl rfl hr5 ?_)
            go_roundw
            case rel => exact ⟨k + 1, true, _, _, rfl, rfl, by go_num, by omega, HW', HO5.out⟩
            case measure => simp [intOf]; omega
          | false =>
            go_wp2_with fail
            go_quiet (fail)
            go_wp2_with fail
            go_quiet (fail)
            try simp only [World.drewN_drewN]
            generalize hwq : wr.drewN _ = wq
            have hrq := HRQ.out _ _ hwq
            obtain ⟨v5, w5, hr5, hrn5⟩ := dapp hrq HLT.out (by have := HOL.out; omega) y
            rw [HY0.out, HY1.out] at hr5
            have HO5 := Lib.hid hrn5
            have c0 := HC0.out _ _ hwq
            have c1 := HC1.out _ _ hwq
            obtain ⟨ao, cp, rfl, _⟩ := own_shape hrq.ed
            clear hwq hrq hrn5
            go_wp2_with (at_builtin; refine wpList_append_run rfl _ _ _ _ rfl _ _ _ rfl rfl hr5 ?_)
            go_roundw
            case rel => exact ⟨k + 1, false, _, _, rfl, rfl, by go_num, by omega, HW', HO5.out⟩
            case measure => simp [intOf]; omega
        | false =>
          rw [hg] at hb
          cases d with
          | false =>
            obtain ⟨_, hwe, hwn⟩ := wo_at HS.out hke HW.out (by rw [← hy]; exact hg)
            rw [HNW.out, ← hy] at hwe hwn
            have HWE := Lib.hid hwe
            have HWN := Lib.hid hwn
            clear hwe hwn
            obtain ⟨K0, hK0⟩ : ∃ z, z = Lend.strOf y.key := ⟨_, rfl⟩
            obtain ⟨V0, hV0⟩ : ∃ z, z = Lend.strOf y.val := ⟨_, rfl⟩
            rw [← hK0] at c0 hb he
            rw [← hV0] at c1
            have HY0 := Lib.hid hK0.symm
            have HY1 := Lib.hid hV0.symm
            have HCC := Lib.hid (fun (W : World) (h : Below w1.heap.size w1 W) => (show W.cell? ⟨g, off + k * 2, none⟩ = some (.string K0) ∧ W.cell? ⟨g, off + k * 2 + 1, none⟩ = some (.string V0) from by
              have h1 := ER.of_own (own_bel HH.out HB1.out)
              have h2 := er_key (h1.below h) k hke
              have h3 := er_val (h1.below h) k hke
              rw [← hy, ← hK0] at h2
              rw [← hy, ← hV0] at h3
              exact ⟨h2, h3⟩))
            have HRQ := Lib.hid (fun (q : Nat) (W : World) (h : wr.drewN q = W) => (show Rnt w w1 B w.heap.size u o v W by rw [← h]; exact HR.out.drewN q))
            have HK1 := Lib.hid (show Lend.strOf (enU u.key s1).key = Lend.strOf u.key from rfl)
            generalize Lend.strOf u.key = K1 at *
            clear her hke hK0 hV0 hy hg
            by_cases hq : y.key = u.key
            · rw [show (y.key == u.key) = true by simpa using hq] at he
              have HW' := Lib.hid (HWE.out hq)
              clear hq
              go_wp2_with fail
              go_quiet (fail)
              generalize hwq : wr.drewN _ = wq
              have hrq := HRQ.out _ _ hwq
              have z1 := hrq.x.cell 1
              simp only [encU, List.getElem?_cons_succ, List.getElem?_cons_zero] at z1
              rw [show Lend.strOf u.key = K1 from HK1.out] at z1
              obtain ⟨v5, w5, hr5, hrn5⟩ := dapp hrq HLT.out (by have := HOL.out; omega) (enU u.key s1)
              rw [HK1.out] at hr5
              replace hr5 : (Builtin.append_ #[26, 26] 26 #[v, .slice (some ⟨wq.heap.size, 0, none⟩) 1 1]).run Try.prog (wq.alloc (.cells #[.string K1, .string (Lend.strOf s1)] 52)) = .ok v5 w5 := hr5
              have HO5 := Lib.hid hrn5
              obtain ⟨c0, c1⟩ := HCC.out w5 hrn5.bel
              have x1 := hrn5.x.cell 1
              simp only [encU, List.getElem?_cons_succ, List.getElem?_cons_zero] at x1
              rw [show Lend.strOf u.key = K1 from HK1.out] at x1
              obtain ⟨ao, cp, rfl, _⟩ := own_shape hrq.ed
              clear hwq hrq hrn5
              go_wp2_with (at_builtin; refine wpList_append_run rfl _ _ _ _ rfl _ _ _ rfl rfl hr5 ?_)
              go_quiet (fail)
              generalize hwq : w5.drewN _ = wx
              have hrx := HO5.out.drewN
              have HOX := Lib.hid (show Rnt w w1 B w.heap.size u (o ++ [enU u.key s1]) v5 wx by rw [← hwq]; exact hrx _)
              clear hwq hrx
              go_wp2_with fail
              go_roundw
              case rel => exact ⟨k + 1, true, _, _, rfl, rfl, by go_num, by omega, HW', HOX.out⟩
              case measure => simp [intOf]; omega
            · rw [show (y.key == u.key) = false by simpa using hq] at he
              have HW' := Lib.hid (HWN.out hq)
              clear hq
              go_wp2_with fail
              go_quiet (fail)
              generalize hwq : wr.drewN _ = wq
              have hrq := HRQ.out _ _ hwq
              have z1 := hrq.x.cell 1
              simp only [encU, List.getElem?_cons_succ, List.getElem?_cons_zero] at z1
              rw [show Lend.strOf u.key = K1 from HK1.out] at z1
              obtain ⟨v5, w5, hr5, hrn5⟩ := dapp hrq HLT.out (by have := HOL.out; omega) (enU u.key s1)
              rw [HK1.out] at hr5
              replace hr5 : (Builtin.append_ #[26, 26] 26 #[v, .slice (some ⟨wq.heap.size, 0, none⟩) 1 1]).run Try.prog (wq.alloc (.cells #[.string K1, .string (Lend.strOf s1)] 52)) = .ok v5 w5 := hr5
              have HO5 := Lib.hid hrn5
              obtain ⟨c0, c1⟩ := HCC.out w5 hrn5.bel
              have x1 := hrn5.x.cell 1
              simp only [encU, List.getElem?_cons_succ, List.getElem?_cons_zero] at x1
              rw [show Lend.strOf u.key = K1 from HK1.out] at x1
              obtain ⟨ao, cp, rfl, _⟩ := own_shape hrq.ed
              clear hwq hrq hrn5
              go_wp2_with (at_builtin; refine wpList_append_run rfl _ _ _ _ rfl _ _ _ rfl rfl hr5 ?_)
              go_quiet (fail)
              have HRX := Lib.hid (fun (q : Nat) (W : World) (h : w5.drewN q = W) => (show Rnt w w1 B w.heap.size u (o ++ [enU u.key s1]) v5 W by rw [← h]; exact HO5.out.drewN q))
              try simp only [World.drewN_drewN]
              generalize hwq : w5.drewN _ = wx
              have hrq := HRX.out _ _ hwq
              obtain ⟨v6, w6, hr6, hrn6⟩ := dapp hrq HLT.out (by have := HOL.out; simp; omega) y
              rw [HY0.out, HY1.out] at hr6
              have HO6 := Lib.hid hrn6
              obtain ⟨c0, c1⟩ := HCC.out wx hrq.bel
              obtain ⟨ao2, cp2, rfl, _⟩ := own_shape hrq.ed
              clear hwq hrq hrn6
              go_wp2_with (at_builtin; refine wpList_append_run rfl _ _ _ _ rfl _ _ _ rfl rfl hr6 ?_)
              go_roundw
              case rel => exact ⟨k + 1, true, _, _, rfl, rfl, by go_num, by omega, HW', HO6.out⟩
              case measure => simp [intOf]; omega
          | true =>
            obtain ⟨hwe, hwn⟩ := wo_hi HS.out hke HW.out (by rw [← hy]; exact hg)
            rw [← hy] at hwe hwn
            have HWE := Lib.hid hwe
            have HWN := Lib.hid hwn
            clear hwe hwn
            obtain ⟨K0, hK0⟩ : ∃ z, z = Lend.strOf y.key := ⟨_, rfl⟩
            obtain ⟨V0, hV0⟩ : ∃ z, z = Lend.strOf y.val := ⟨_, rfl⟩
            rw [← hK0] at c0 hb he
            rw [← hV0] at c1
            have HY0 := Lib.hid hK0.symm
            have HY1 := Lib.hid hV0.symm
            have HCC := Lib.hid (fun (W : World) (h : Below w1.heap.size w1 W) => (show W.cell? ⟨g, off + k * 2, none⟩ = some (.string K0) ∧ W.cell? ⟨g, off + k * 2 + 1, none⟩ = some (.string V0) from by
              have h1 := ER.of_own (own_bel HH.out HB1.out)
              have h2 := er_key (h1.below h) k hke
              have h3 := er_val (h1.below h) k hke
              rw [← hy, ← hK0] at h2
              rw [← hy, ← hV0] at h3
              exact ⟨h2, h3⟩))
            have HRQ := Lib.hid (fun (q : Nat) (W : World) (h : wr.drewN q = W) => (show Rnt w w1 B w.heap.size u o v W by rw [← h]; exact HR.out.drewN q))
            have HK1 := Lib.hid (show Lend.strOf (enU u.key s1).key = Lend.strOf u.key from rfl)
            generalize Lend.strOf u.key = K1 at *
            clear her hke hK0 hV0 hy hg
            by_cases hq : y.key = u.key
            · rw [show (y.key == u.key) = true by simpa using hq] at he
              have HW' := Lib.hid (HWE.out hq)
              clear hq
              go_wp2_with fail
              go_quiet (fail)
              go_wp2_with fail
              go_quiet (fail)
              try simp only [World.drewN_drewN]
              generalize hwq : wr.drewN _ = wx
              have HOX := Lib.hid (HRQ.out _ _ hwq)
              clear hwq
              go_wp2_with fail
              go_roundw
              case rel => exact ⟨k + 1, true, _, _, rfl, rfl, by go_num, by omega, HW', HOX.out⟩
              case measure => simp [intOf]; omega
            · rw [show (y.key == u.key) = false by simpa using hq] at he
              have HW' := Lib.hid (HWN.out hq)
              clear hq
              go_wp2_with fail
              go_quiet (fail)
              go_wp2_with fail
              go_quiet (fail)
              try simp only [World.drewN_drewN]
              generalize hwq : wr.drewN _ = wx
              have hrq := HRQ.out _ _ hwq
              obtain ⟨v6, w6, hr6, hrn6⟩ := dapp hrq HLT.out (by have := HOL.out; omega) y
              rw [HY0.out, HY1.out] at hr6
              have HO6 := Lib.hid hrn6
              obtain ⟨c0, c1⟩ := HCC.out wx hrq.bel
              obtain ⟨ao2, cp2, rfl, _⟩ := own_shape hrq.ed
              clear hwq hrq hrn6
              go_wp2_with (at_builtin; refine wpList_append_run rfl _ _ _ _ rfl _ _ _ rfl rfl hr6 ?_)
              go_roundw
              case rel => exact ⟨k + 1, true, _, _, rfl, rfl, by go_num, by omega, HW', HO6.out⟩
              case measure => simp [intOf]; omega
      · obtain rfl : k = n := by omega
        have hki : ¬ ((k : Int) < (k : Int)) := by omega
        have hwe := wo_end (L := L) (u := u) (d := d) (o := o) (by rw [← HN.out]; exact HW.out)
        rw [HNW.out] at hwe
        have HWE := Lib.hid hwe
        have HBB := Lib.hid (below_on HB1.out HR.out.bel)
        cases d with
        | true =>
          rw [if_pos rfl] at HWE
          clear hwe
          go_wp2_with fail
          go_ret
          exact ⟨_, rfl, by rw [HUE.out, HWE.out]; exact own_base HR.out.ed (Nat.le_trans HK.out.1 (HB1.out.size)), HBB.out⟩
        | false =>
          rw [if_neg (by simp)] at HWE
          have HK1 := Lib.hid (show Lend.strOf (enU u.key s1).key = Lend.strOf u.key from rfl)
          obtain ⟨v5, w5, hr5, hrn5⟩ := dapp HR.out HLT.out (by have := HOL.out; omega) (enU u.key s1)
          replace hr5 : (Builtin.append_ #[26, 26] 26 #[v, .slice (some ⟨wr.heap.size, 0, none⟩) 1 1]).run Try.prog (wr.alloc (.cells #[.string (Lend.strOf u.key), .string (Lend.strOf s1)] 52)) = .ok v5 w5 := hr5
          have HO5 := Lib.hid hrn5
          obtain ⟨ao, cp, rfl, _⟩ := own_shape HR.out.ed
          clear hwe hrn5
          go_wp2_with (at_builtin; refine wpList_append_run rfl _ _ _ _ rfl _ _ _ rfl rfl hr5 ?_)
          go_ret
          exact ⟨_, rfl, by rw [HUE.out, HWE.out]; exact own_base HO5.out.ed (Nat.le_trans HK.out.1 (HB1.out.size)), below_on HB1.out HO5.out.bel⟩
  · have hci : ¬ chkU u = 0 := hc
    have HUE := Lib.hid (upE_no (L := L) hc)
    obtain ⟨n, hn⟩ : ∃ n, n = L.length := ⟨_, rfl⟩
    rw [← hn] at HH HGT ⊢
    generalize chkU u = C at *
    clear h hs hB hu hv hc hn
    go_enter Try.func10, Try.ntmps10
    go_wp2_with fail
    rw [← hw1]
    clear hw1
    go_wp2_with fail
    refine HCK.out.mono ?_
    rintro e w2 ⟨rfl, hb2⟩
    have HB2 := Lib.hid (below_on HB1.out hb2)
    clear hb2 y0 y1 y2 y3
    go_wp2_with fail
    go_ret
    exact ⟨_, rfl, by rw [HUE.out]; exact own_bel HH.out HB2.out, HB2.out⟩
end Go.Proofs.Ytfmbjepjmjcgeaa.Leaf
