/- Layers' contracts, bundled: RemQ, RemL, TabMo, TabL, Arr, TabM, RemM, RemK. -/
import Derived.Test.YtpdickpipdaphaaGreatDoorK11
import Derived.Test.YtpdickpipdaphaaGreatDoorK03
import Derived.Outline
import Derived.Deep.DeepCutAuto
import Derived.Test.YtpdickpipdaphaaGreatDoorK06
import Derived.Sort.OwnSortedInts
import Derived.Lib.RowBridge
import Derived.Test.YtpdickpipdaphaaGreatDoorK07
import Derived.OpenShut
import Derived.ChangeOld
import Derived.Below
import Derived.Deep.Fields
import Derived.Test.YtpdickpipdaphaaGreatDoorK02
import Derived.Maps.Views
import Derived.Maps.OwnSet
import Derived.LaidEqlPtr
import Derived.WideKeyPair
import Derived.Maps.RangeWalk
import Derived.Maps.StringElems
/- Layer 7 (remap): Write, Stick, Kill, Alive, Replace, and what is refused, of a pair of devices without faults but bad sectors. -/
namespace Go.Proofs.YtpdickpipdaphaaGreatDoor.Rem
open Go Go.RowKit Go.Proofs.YtpdickpipdaphaaGreatDoor Dev Tab
set_option linter.unusedVariables false

section
variable {w0 w w' : World} {X : List Nat} {q c : Nat} {pd : Nat → Nat} {S : Nat → Sd} {s : Nat}
/-- a write of a block to a device -/
theorem dwr_c (h : CP w0 X q pd S c w) (hs : s < 2) {i : Nat} (hi4 : 4 ≤ i) (hi : i < 20) {t : ByteArray} (ht : t.size = 128) (hc : c ≤ 1000000) (v : Int) (hv : v = i) (p : Nat) (hp : p = pd s) :
    Calls Tryz.prog 52 #[.pointer (some ⟨p, 0, none⟩), .int .i64 v, .string t] w fun e w' => e = .returned (.int .i64 (if (S s).B i then 7 else 0)) ∧ CP w0 X q pd (setS S s (if (S s).B i then (S s).V else upd (S s).V i t) (S s).B) (if (S s).B i then c else c + 1) w' ∧ Same (q :: X) w w' := by
  subst hv
  obtain ⟨D, h1, h2⟩ := h.both
  refine (dwrite_e h1 hs (by have := (h2.cd s hs).cache; omega) i t (by omega) p hp).mono ?_
  rintro e w' ⟨rfl, hc', hsm⟩
  have hrd : ∀ V', (∀ j, j < 4 → V' j = (S s).V j) → Slots (setS S s V' (S s).B) := fun V' hV => by
    have hr : ∀ t, t < 2 → ∀ k, k < 2 → ∀ j, j < 2 → rdS (setS S s V' (S s).B) t k j = rdS S t k j := fun t ht k hk j hj => by
      unfold rdS
      by_cases e : (if k = 0 then t else 1 - t) = s
      · rw [e, setS_same]; exact hV _ (by omega)
      · rw [setS_ne _ _ _ e]
    refine ⟨fun t ht => by rw [setS_m]; exact h.slots.1 t ht, fun t ht j hj => ?_, fun t ht => ?_⟩
    · by_cases e : t = s
      · subst e; rw [setS_same]; exact h.slots.2.1 t ht j hj
      · rw [setS_ne _ _ _ e]; exact h.slots.2.1 t ht j hj
    · obtain ⟨r1, r2⟩ := h.slots.2.2 t ht
      refine ⟨fun k hk => ?_, fun k hk j hj m' h' => ?_⟩
      · rw [setS_m, hr t ht k hk _ (Nat.mod_lt _ (by omega))]; exact r1 k hk
      · rw [setS_m]; rw [hr t ht k hk j hj] at h'; exact r2 k hk j hj m' h'
  cases hb : (S s).B i with
  | false =>
    obtain ⟨r1, r2⟩ := (h2.cd s hs).write hi ht hb
    exact ⟨by rw [r1]; rfl, ⟨by simpa using hc'.set h2.cd r2 (Nat.le_succ c), hrd _ fun j hj => by simp; exact upd_ne _ _ (by omega)⟩, hsm⟩
  | true =>
    obtain ⟨r1, r2⟩ := (h2.cd s hs).write_bad hi ht hb
    exact ⟨by rw [r1]; rfl, ⟨by simpa using hc'.set h2.cd r2 (Nat.le_refl c), hrd _ fun j hj => by simp⟩, hsm⟩
/-- in the middle of Write -/
def Mid (S S1 : Nat → Sd) (s b : Nat) : Prop := S1 = S ∨ (Moved S S1 s b ∧ (S s).B (pl (S s) b) = true ∧ (S s).m.length < 4)
theorem pl_push' {x y : Sd} {b : Nat} (h : y.m = x.m ++ [(b : Int)]) : pl y b = 16 + x.m.length := by
  unfold pl; rw [h, plc_snoc, if_pos rfl]; omega
/-- a sector that is bad: nothing was moved yet -/
theorem Mid.start {S1 : Nat → Sd} {b : Nat} (h : Mid S S1 s b) (hf : Spare (S s)) (hb : (S1 s).B (pl (S1 s) b) = true) : S1 = S := by
  rcases h with h | ⟨h1, h2, h3⟩
  · exact h
  · rw [pl_push' h1.2.2.2, h1.2.1] at hb
    have := hf (S s).m.length (Nat.le_refl _) h3
    rw [this] at hb; cases hb
theorem Mid.done {S1 : Nat → Sd} {b : Nat} {d : ByteArray} (h : Mid S S1 s b) (hb : (S1 s).B (pl (S1 s) b) = false) : wrE (S s) b = 0 ∧ Wr S (setS S1 s (upd (S1 s).V (pl (S1 s) b) d) (S1 s).B) s b d := by
  have hpl : pl (setS S1 s (upd (S1 s).V (pl (S1 s) b) d) (S1 s).B s) b = pl (S1 s) b := by unfold pl; rw [setS_m]
  rcases h with rfl | ⟨h1, h2, h3⟩
  · refine ⟨by unfold wrE; rw [if_neg (by rw [hb]; simp)], fun t ht hne => ?_, by rw [setS_same], ?_, fun _ => ?_, fun i hi h => ?_⟩
    · rw [setS_ne _ _ _ hne]; exact ⟨rfl, rfl, fun _ _ => rfl⟩
    · rw [setS_m, if_neg (by rw [hb]; simp)]
    · rw [hpl, setS_same]; exact upd_same _ _ _
    · rw [hpl] at h
      rw [setS_same]
      rcases h with h | h
      · exact upd_ne _ _ h
      · exact absurd (by unfold wrE; rw [if_neg (by rw [hb]; simp)]) h
  · obtain ⟨m1, m2, m3, m4⟩ := h1
    refine ⟨by unfold wrE; rw [if_neg (by omega)], fun t ht hne => ?_, by rw [setS_same]; exact m2, ?_, fun _ => ?_, fun i hi h => ?_⟩
    · rw [setS_ne _ _ _ hne]; exact m1 t ht hne
    · rw [setS_m, if_pos ⟨h2, h3⟩]; exact m4
    · rw [hpl, setS_same]; exact upd_same _ _ _
    · rw [hpl] at h
      rw [setS_same]
      rcases h with h | h
      · show upd _ _ _ _ = _; rw [upd_ne _ _ h]; exact m3 i hi
      · exact absurd (by unfold wrE; rw [if_neg (by omega)]) h
theorem tl_cnt (l : List Int) : (tl 12 4 l)[2]? = some (.int .i64 l.length) := rfl
set_option maxHeartbeats 1000000 in
set_option maxRecDepth 100000 in
theorem write_c (h : CP w0 X q pd S c w) (hs : s < 2) {b : Nat} (hb : b < 12) {d : ByteArray} (hd : d.size = 128) (hc : c ≤ 900000) (hf : Spare (S s)) : Calls Tryz.prog 21 #[.pointer (some ⟨q, 0, none⟩), .int .i64 (s : Nat), .int .i64 (b : Nat), .string d] w fun e w' => ∃ S', e = .returned (.int .i64 (wrE (S s) b)) ∧ Wr S S' s b d ∧ CP w0 X q pd S' (c + 4) w' ∧ Same X w w' := by
  have HC0 := Lib.hid h
  have HF := Lib.hid hf
  have HS := Lib.hid hs
  have HBB := Lib.hid hb
  have HCC := Lib.hid hc
  have HDD := Lib.hid hd
  obtain ⟨p, hp⟩ : ∃ p, p = pd s := ⟨_, rfl⟩
  have HP := Lib.hid hp
  have hs0 : 0 ≤ (s : Int) := by omega
  have hs2 : (s : Int) < 2 := by omega
  clear h hf hc hp hb hs hd
  go_enter Tryz.func21, Tryz.ntmps21
  go_wp2_with fail
  go_loopw [11] (fun _ wr => ∃ S1, Mid S S1 s b ∧ CP w0 X q pd S1 c wr ∧ Same X w wr) (fun _ wr => 4 - (match wr.cell? ⟨q, 2 + 35 * s + 2, none⟩ with | some v => (intOf v).toNat | none => 0))
  case atStart => exact ⟨S, .inl rfl, HC0.out, Same.refl _ _⟩
  case round =>
    obtain ⟨S1, hmid, hcp, hsm⟩ := hrel
    clear HC0
    have HM := Lib.hid hmid
    have HC := Lib.hid hcp
    have HSM := Lib.hid hsm
    have hcnt := Lib.hid (hcp.pb.tab HS.out 2 _ (tl_cnt _))
    clear hmid hcp hsm
    have hg := HC.out.good HS.out
    have hat := at_yes (n := 12) (m := (S1 s).m) (b := (b : Int)) (by omega) (by have := HBB.out; omega)
    have HA := Lib.hid hat
    have hpb := pl_bd hg HBB.out
    have HPL := Lib.hid hpb
    obtain ⟨v, hv⟩ : ∃ v : Int, v = (pl (S1 s) b : Nat) := ⟨_, rfl⟩
    have HV := Lib.hid hv
    have hlen := hg.len
    have HLEN := Lib.hid hlen
    clear hg hat hpb hv hlen
    go_wp2_with fail
    refine (sector_e HC.out.pb HS.out (HC.out.good HS.out) b).mono ?_
    rintro e w1 ⟨rfl, hb1⟩
    rw [show atE 12 (b : Int) = 0 from HA.out.2.1, show 4 + atN 12 (mOf S1 s) (b : Int) = v from by rw [show atN 12 (mOf S1 s) (b : Int) = plc 12 (S1 s).m b from HA.out.2.2, HV.out]; exact HPL.out.2.2.symm]
    have HC1 := Lib.hid (HC.out.later hb1)
    have HS1 := Lib.hid (HSM.out.trans (Same.of_below HC.out hb1))
    have c1 := HC1.out.pb.dev HS.out
    rw [← HP.out] at c1
    clear hb1
    go_wp2_with fail
    clear c1
    refine (dwr_c HC1.out HS.out HPL.out.1 (by have := HPL.out.2.1; have := HLEN.out; omega) HDD.out (by have := HCC.out; omega) v HV.out p HP.out).mono ?_
    rintro e w2 ⟨rfl, hc2, hsm⟩
    cases hbad : (S1 s).B (pl (S1 s) b) with
    | false =>
      obtain ⟨d1, d2⟩ := HM.out.done (d := d) hbad
      rw [hbad] at hc2
      have HC2 := Lib.hid (show CP w0 X q pd (setS S1 s (upd (S1 s).V (pl (S1 s) b) d) (S1 s).B) (c + 1) w2 from hc2)
      have HD2 := Lib.hid d2
      have HE := Lib.hid d1
      have HS2 := Lib.hid (HS1.out.trans (fun j hj => hsm j (by simp [hj]) : Same X w1 w2))
      clear hc2 hsm hbad d1 d2 HC HC1
      go_wp2_with fail
      go_ret
      exact ⟨_, by rw [HE.out]; rfl, HD2.out, HC2.out.mono (by omega), HS2.out⟩
    | true =>
      obtain rfl := HM.out.start HF.out hbad
      rw [hbad] at hc2
      have hself : setS S1 s (if true = true then (S1 s).V else upd (S1 s).V (pl (S1 s) b) d) (S1 s).B = S1 := by rw [if_pos rfl]; exact setS_self S1 s
      rw [hself, if_pos rfl] at hc2
      have HC2 := Lib.hid hc2
      have HS2 := Lib.hid (HS1.out.trans (fun j hj => hsm j (by simp [hj]) : Same X w1 w2))
      have HBAD := Lib.hid hbad
      clear hc2 hsm hbad HC1
      go_wp2_with fail
      refine (move_c0 HC2.out HS.out HBB.out (by have := HCC.out; omega)).mono ?_
      rintro e w3 ⟨S3, rfl, m1, m2, hc3, hsm⟩
      have HS3 := Lib.hid (HS2.out.trans hsm)
      have HC3 := Lib.hid hc3
      by_cases hm : (S1 s).m.length < 4
      · rw [if_pos hm]
        have HMV := Lib.hid (m1 hm)
        have HLT := Lib.hid hm
        clear m1 m2 hc3 hsm hm HC HC2
        go_wp2_with fail
        go_roundw
        case rel => exact ⟨S3, .inr ⟨HMV.out, HBAD.out, HLT.out⟩, HC3.out, HS3.out⟩
        case measure =>
          have e1 := HC3.out.pb.tab HS.out 2 _ (tl_cnt _)
          have e0 := hcnt.out
          simp only [e0, e1, intOf, Int.toNat_natCast]
          have := HLT.out
          rw [show (mOf S3 s).length = (S1 s).m.length + 1 by show (S3 s).m.length = _; rw [HMV.out.2.2.2]; simp]
          rw [show (mOf S1 s).length = (S1 s).m.length from rfl]
          omega
      · rw [if_neg hm]
        have HEQ := Lib.hid (m2 hm)
        have HLT := Lib.hid hm
        clear m1 m2 hc3 hsm hm HC HC2
        go_wp2_with fail
        go_ret
        have hE : wrE (S1 s) b = 9 := by unfold wrE; rw [if_pos ⟨HBAD.out, by have := HLT.out; omega⟩]
        have h3 := HEQ.out
        subst h3
        refine ⟨S3, by rw [hE]; rfl, ⟨fun t ht hne => ⟨rfl, rfl, fun _ _ => rfl⟩, rfl, by rw [if_neg (fun h => HLT.out h.2)], (fun h => by rw [hE] at h; cases h), fun i _ _ => rfl⟩, HC3.out.mono (by omega), HS3.out⟩
/-! ### Stick -/
theorem dstick_e {m : Nat → List Int} {D : Nat → Dv} (h : CPe w0 X q pd m D w) (hs : s < 2) (hl : (D s).cache.length ≤ 1000000) (i : Int) : Calls Tryz.prog 16 #[.pointer (some ⟨pd s, 0, none⟩), .int .i64 i] w fun e w' => e = .returned (.tuple #[]) ∧ CPe w0 X q pd m (upd D s ((D s).stickD i)) w' ∧ Same (q :: X) w w' := by
  refine (h.dev (R := fun e => e = .returned (.tuple #[])) (G := fun E => E = (D s).stickD i) hs fun sb cv hd => (stick_any i w hd (by omega)).mono ?_).mono ?_
  · rintro e w' ⟨rfl, hn⟩
    exact ⟨rfl, _, rfl, hn⟩
  · rintro e w' ⟨rfl, E, rfl, hc, hsm⟩
    exact ⟨rfl, hc, hsm⟩
/-- a block's sector of a side is bad from now on -/
def Stk (S S' : Nat → Sd) (s i : Nat) : Prop := (∀ t, t ≠ s → S' t = S t) ∧ (S' s).m = (S s).m ∧ (S' s).B = upd (S s).B i true ∧ ∀ j, j ≠ i → (S' s).V j = (S s).V j
theorem stick_c (h : CP w0 X q pd S c w) (hs : s < 2) {i : Nat} (hi : 4 ≤ i) (hi2 : i < 20) (hc : c ≤ 1000000) (v : Int) (hv : v = i) : Calls Tryz.prog 16 #[.pointer (some ⟨pd s, 0, none⟩), .int .i64 v] w fun e w' => ∃ S', e = .returned (.tuple #[]) ∧ Stk S S' s i ∧ CP w0 X q pd S' c w' ∧ Same X w w' := by
  subst hv
  obtain ⟨D, h1, h2⟩ := h.both
  refine (dstick_e h1 hs (by have := (h2.cd s hs).cache; omega) i).mono ?_
  rintro e w' ⟨he, hc', hsm⟩
  have hcd := (h2.cd s hs).stick hi2
  obtain ⟨V', hVV⟩ : ∃ V', V' = upd (S s).V i (medG (D s) i) := ⟨_, rfl⟩
  rw [← hVV] at hcd
  have hV : ∀ j, j ≠ i → V' j = (S s).V j := fun j hj => by rw [hVV]; exact upd_ne _ _ hj
  have hrd : ∀ t, t < 2 → ∀ k, k < 2 → ∀ j, j < 2 → rdS (setS S s V' (upd (S s).B i true)) t k j = rdS S t k j := fun t ht k hk j hj => by
    unfold rdS
    by_cases e : (if k = 0 then t else 1 - t) = s
    · rw [e, setS_same]; exact hV _ (by omega)
    · rw [setS_ne _ _ _ e]
  refine ⟨setS S s V' (upd (S s).B i true), he, ⟨fun t ht => setS_ne _ _ _ ht, setS_m _ _ _ _ _, by rw [setS_same], fun j hj => by rw [setS_same]; exact hV j hj⟩, ⟨hc'.set h2.cd hcd (Nat.le_refl _), fun t ht => by rw [setS_m]; exact h.slots.1 t ht, fun t ht j hj => ?_, fun t ht => ?_⟩, fun k hk => hsm k (by simp [hk])⟩
  · by_cases e : t = s
    · subst e; rw [setS_same]; show upd _ _ _ _ = _; rw [upd_ne _ _ (by omega)]; exact h.slots.2.1 t ht j hj
    · rw [setS_ne _ _ _ e]; exact h.slots.2.1 t ht j hj
  · obtain ⟨r1, r2⟩ := h.slots.2.2 t ht
    refine ⟨fun k hk => ?_, fun k hk j hj m' h' => ?_⟩
    · rw [setS_m, hrd t ht k hk _ (Nat.mod_lt _ (by omega))]; exact r1 k hk
    · rw [setS_m]; rw [hrd t ht k hk j hj] at h'; exact r2 k hk j hj m' h'
/-! ### one device is gone -/
/-- the same, but side k's device is gone -/
def CPd (w0 : World) (X : List Nat) (q : Nat) (pd : Nat → Nat) (S : Nat → Sd) (k c : Nat) (w : World) : Prop :=
  ∃ D, CPe w0 X q pd (mOf S) D w ∧ (∀ s, s < 2 → s ≠ k → Cd (D s) 20 128 (S s).V (S s).B c) ∧ ((D k).dead = true ∧ (D k).n = 20 ∧ (D k).size = 128 ∧ (D k).cache.length ≤ c) ∧ Slots S
theorem CPd.later {k : Nat} (h : CPd w0 X q pd S k c w) (hb : Below w.heap.size w w') : CPd w0 X q pd S k c w' := by
  obtain ⟨D, h1, h2, h3, h4⟩ := h
  exact ⟨D, h1.later hb, h2, h3, h4⟩
theorem kill_c (h : CP w0 X q pd S c w) (hs : s < 2) : Calls Tryz.prog 33 #[.pointer (some ⟨pd s, 0, none⟩)] w fun e w' => e = .returned (.tuple #[]) ∧ CPd w0 X q pd S s c w' ∧ Same X w w' := by
  obtain ⟨D, h1, h2⟩ := h.both
  refine (h1.dev (R := fun e => e = .returned (.tuple #[])) (G := fun E => E = { D s with dead := true }) hs fun sb cv hd => (kill_any w hd).mono ?_).mono ?_
  · rintro e w' ⟨rfl, hc, hd⟩
    exact ⟨rfl, _, rfl, .same hc hd⟩
  · rintro e w' ⟨rfl, E, rfl, hc, hsm⟩
    refine ⟨rfl, ⟨_, hc, fun t ht hne => ?_, ?_, h.slots⟩, fun k hk => hsm k (by simp [hk])⟩
    · rw [upd_ne _ _ hne]; exact h2.cd t ht
    · rw [upd_same]; exact ⟨rfl, (h2.cd s hs).n, (h2.cd s hs).size, (h2.cd s hs).cache⟩
theorem alive_c (h : CP w0 X q pd S c w) (hs : s < 2) : Calls Tryz.prog 31 #[.pointer (some ⟨q, 0, none⟩), .int .i64 (s : Nat)] w fun e w' => e = .returned (.bool true) ∧ Below w.heap.size w w' := by
  obtain ⟨D, h1, h2⟩ := h.both
  refine (alive_e h1 hs).mono ?_
  rintro e w' ⟨rfl, rfl⟩
  exact ⟨by rw [(h2.cd s hs).dead]; rfl, Below.refl _ _⟩
theorem alive_d (h : CPd w0 X q pd S s c w) (hs : s < 2) : Calls Tryz.prog 31 #[.pointer (some ⟨q, 0, none⟩), .int .i64 (s : Nat)] w fun e w' => e = .returned (.bool false) ∧ Below w.heap.size w w' := by
  obtain ⟨D, h1, h2, h3, h4⟩ := h
  refine (alive_e h1 hs).mono ?_
  rintro e w' ⟨rfl, rfl⟩
  exact ⟨by rw [h3.1]; rfl, Below.refl _ _⟩
theorem replace_c {wa : World} {d sd : Nat} (h : CPd w0 X q pd S s c wa) (hs : s < 2) (hb : Below wa.heap.size wa w) (hd : DevAt w d sd (.slice none 0 0) (Dv.fresh 20 128)) (h1 : wa.heap.size ≤ d) (h2 : wa.heap.size ≤ sd) (hc : c ≤ 1000000) :
    Calls Tryz.prog 30 #[.pointer (some ⟨q, 0, none⟩), .int .i64 (s : Nat), .pointer (some ⟨d, 0, none⟩)] w fun e w' => ∃ S', e = .returned (.int .i64 0) ∧ Oth S S' s ∧ (S' s).m = (S s).m ∧ CP w0 X q (upd pd s d) S' (c + 4) w' := by
  obtain ⟨D, e1, e2, e3, e4⟩ := h
  obtain ⟨T, hT⟩ : ∃ T, T = setS S s (fun _ => noughts 128) (fun _ => false) := ⟨_, rfl⟩
  have hTm : ∀ t, (T t).m = (S t).m := fun t => by rw [hT]; exact setS_m _ _ _ _ t
  have hbo : Both (upd D s (Dv.fresh 20 128)) T c := by
    refine ⟨fun t ht => ?_, fun t ht => ?_, fun t ht i hi => ?_⟩
    · by_cases e : t = s
      · subst e; rw [upd_same, hT, setS_same]; exact fresh_cd.mono (Nat.zero_le _)
      · rw [upd_ne _ _ e, hT, setS_ne _ _ _ e]; exact e2 t ht e
    · by_cases e : t = s
      · subst e; rw [upd_same]; exact Dv.fresh_ok 20 128 (by omega) (by omega) (by omega) (by omega)
      · rw [upd_ne _ _ e]; exact e1.ok ht
    · by_cases e : t = s
      · subst e; rw [hT, setS_same]
      · rw [hT, setS_ne _ _ _ e]; exact e4.2.1 t ht i hi
  obtain ⟨k1, k2⟩ := hbo.keepBoth (m := mOf S) (fun t ht => e4.1 t ht)
  have hbel : ∀ t, t < 2 → Below_ T t (mOf S t) := fun t ht k hk i hi m' h' => by
    refine (e4.2.2 t ht).2 k hk i hi m' ?_
    unfold rdS at h' ⊢
    generalize (if k = 0 then t else 1 - t) = u at h' ⊢
    by_cases e : u = s
    · subst e; rw [hT, setS_same] at h'
      rw [opT_noughts] at h'; cases h'
    · rw [hT, setS_ne _ _ _ e] at h'; exact h'
  obtain ⟨s1, s2⟩ := slots2 (S := T) (m := mOf S) (fun t ht => e4.1 t ht) hbo.slot hbel
  have hsz : Sz D := fun t ht => by
    by_cases e : t = s
    · subst e; exact ⟨by rw [e3.2.1]; rfl, by rw [e3.2.2.1]; rfl, Nat.le_trans e3.2.2.2 hc⟩
    · exact ⟨by rw [(e2 t ht e).n]; rfl, by rw [(e2 t ht e).size]; rfl, Nat.le_trans (e2 t ht e).cache hc⟩
  refine (replace_e e1 hs hsz (fun t ht => e4.1 t ht) hb hd (fun k hk => ?_) ⟨rfl, rfl, Nat.zero_le _⟩ k1).mono ?_
  · rcases hk with rfl | rfl | h
    · exact h1
    · exact h2
    · cases h
  · rintro e w' ⟨rfl, hc', -⟩
    have hmm : ∀ t, t < 2 → mOf (kept (kept T 0 (mOf S 0)) 1 (mOf S 1)) t = mOf S t := s2
    refine ⟨kept (kept T 0 (mOf S 0)) 1 (mOf S 1), rfl, fun t ht hne => ?_, s2 s hs, (k2.cp (hc'.cong hmm fun _ _ => rfl) s1).mono (by omega)⟩
    obtain ⟨a1, b1, -⟩ := kept_far (S := T) (s := 0) (m := mOf S 0) (by omega) ht
    obtain ⟨a2, b2, -⟩ := kept_far (S := kept T 0 (mOf S 0)) (s := 1) (m := mOf S 1) (by omega) ht
    have hTt : T t = S t := by rw [hT]; exact setS_ne _ _ _ hne
    exact ⟨s2 t ht, by rw [b2, b1, hTt], fun i hi => by rw [a2 i hi, a1 i hi, hTt]⟩
/-! ### what is refused -/
theorem format_same_c (h : CP w0 X q pd S c w) : Calls Tryz.prog 28 #[.pointer (some ⟨pd 0, 0, none⟩), .pointer (some ⟨pd 0, 0, none⟩), .int .i64 4] w fun e w' => e = .returned (.tuple #[.pointer none, .int .i64 2]) ∧ Below w.heap.size w w' := by
  obtain ⟨D, h1, h2⟩ := h.both
  obtain ⟨sb, cv, hd, -, -⟩ := h1.some_
  exact format_same (hd 0 (by omega)) (by rw [(h2.cd 0 (by omega)).n]; rfl) (by rw [(h2.cd 0 (by omega)).size]; rfl)
theorem format_unlike_c {d sd : Nat} (h : CP w0 X q pd S c w) (hd : DevAt w d sd (.slice none 0 0) (Dv.fresh 21 128)) : Calls Tryz.prog 28 #[.pointer (some ⟨pd 0, 0, none⟩), .pointer (some ⟨d, 0, none⟩), .int .i64 4] w fun e w' => e = .returned (.tuple #[.pointer none, .int .i64 2]) ∧ Below w.heap.size w w' := by
  obtain ⟨D, h1, h2⟩ := h.both
  obtain ⟨sb, cv, hdv, -, -⟩ := h1.some_
  exact format_unlike (hdv 0 (by omega)) hd (by rw [(h2.cd 0 (by omega)).n]; rfl) (by rw [(h2.cd 0 (by omega)).size]; rfl) rfl rfl
theorem format_nil_c (v : Value) (w : World) (hv : ∃ a, v = .pointer a) : Calls Tryz.prog 28 #[.pointer none, v, .int .i64 4] w fun e w' => e = .returned (.tuple #[.pointer none, .int .i64 1]) ∧ Below w.heap.size w w' := by
  obtain ⟨a, rfl⟩ := hv
  refine (format_nil a w).mono ?_
  rintro e w' ⟨rfl, rfl⟩
  exact ⟨rfl, Below.refl _ _⟩
theorem open_new {wa : World} {u v : Nat} (h : Two wa u v w) : Calls Tryz.prog 19 #[.pointer (some ⟨u, 0, none⟩), .pointer (some ⟨v, 0, none⟩), .int .i64 4] w fun e w' => e = .returned (.tuple #[.pointer none, .int .i64 10]) ∧ Below wa.heap.size wa w' := by
  have hr : ∀ r, r < 4 → opn 0 (rdT (fun _ => Dv.fresh 20 128) 0 r) = none := fun r hr => by
    have := both00.rd (s := 0) (by omega) (k := r / 2) (i := r % 2) (by omega) (by omega)
    rw [show 2 * (r / 2) + r % 2 = r by omega] at this
    rw [this]
    unfold opn rdS S00
    exact opT_noughts 0
  have hb : bst (fun _ => Dv.fresh 20 128) 0 4 = none := by
    rw [bst_skip (hr 3 (by omega)), bst_skip (hr 2 (by omega)), bst_skip (hr 1 (by omega)), bst_skip (hr 0 (by omega))]; rfl
  have hE : opE2 (fun _ => Dv.fresh 20 128) = 10 := by unfold opE2; rw [if_neg]; rintro ⟨h, -⟩; rw [hb] at h; cases h
  refine (open_e h.dvs (both00.sz (by omega)) (fun s hs => rfl)).mono ?_
  rintro e w' ⟨q', E, m, rfl, -, -, -, hc, -⟩
  exact ⟨by rw [hE]; rfl, hc.below⟩
theorem replace_unlike_c {d sd : Nat} (h : CP w0 X q pd S c w) (hc : c ≤ 1000000) (hd : DevAt w d sd (.slice none 0 0) (Dv.fresh 21 128)) : Calls Tryz.prog 30 #[.pointer (some ⟨q, 0, none⟩), .int .i64 0, .pointer (some ⟨d, 0, none⟩)] w fun e w' => e = .returned (.int .i64 2) ∧ Below w.heap.size w w' := by
  obtain ⟨D, h1, h2⟩ := h.both
  exact replace_unlike h1 (h2.sz hc) hd rfl rfl
theorem replace_same_c (h : CP w0 X q pd S c w) (hc : c ≤ 1000000) : Calls Tryz.prog 30 #[.pointer (some ⟨q, 0, none⟩), .int .i64 0, .pointer (some ⟨pd 1, 0, none⟩)] w fun e w' => e = .returned (.int .i64 2) ∧ Below w.heap.size w w' := by
  obtain ⟨D, h1, h2⟩ := h.both
  exact replace_same h1 (h2.sz hc)
theorem replace_nil_c (h : CP w0 X q pd S c w) : Calls Tryz.prog 30 #[.pointer (some ⟨q, 0, none⟩), .int .i64 1, .pointer none] w fun e w' => e = .returned (.int .i64 1) ∧ Below w.heap.size w w' := by
  refine (replace_none q 1 w).mono ?_
  rintro e w' ⟨rfl, rfl⟩
  exact ⟨rfl, Below.refl _ _⟩
theorem n_read (s b : Int) (w : World) : Calls Tryz.prog 17 #[.pointer none, .int .i64 s, .int .i64 b] w fun e w' => e = .returned (.tuple #[.string ⟨#[]⟩, .int .i64 1]) ∧ Below w.heap.size w w' := read_nil s b w
theorem n_write (s b : Int) (t : ByteArray) (w : World) : Calls Tryz.prog 21 #[.pointer none, .int .i64 s, .int .i64 b, .string t] w fun e w' => e = .returned (.int .i64 1) ∧ Below w.heap.size w w' := write_nil s b t w
theorem refl_of {f : FuncId} {args : Array Value} {v : Value} (h : Calls Tryz.prog f args w fun e w' => e = .returned v ∧ w = w') : Calls Tryz.prog f args w fun e w' => e = .returned v ∧ Below w.heap.size w w' := h.mono fun e w' ⟨a, b⟩ => ⟨a, by rw [b]; exact Below.refl _ _⟩
theorem n_move (s b : Int) (w : World) : Calls Tryz.prog 13 #[.pointer none, .int .i64 s, .int .i64 b] w fun e w' => e = .returned (.int .i64 1) ∧ Below w.heap.size w w' := refl_of (move_nil s b w)
theorem n_flush (s : Int) (w : World) : Calls Tryz.prog 18 #[.pointer none, .int .i64 s] w fun e w' => e = .returned (.int .i64 1) ∧ Below w.heap.size w w' := refl_of (flush_nil s w)
theorem n_device (s : Int) (w : World) : Calls Tryz.prog 15 #[.pointer none, .int .i64 s] w fun e w' => e = .returned (.pointer none) ∧ Below w.heap.size w w' := refl_of (device_nil s w)
theorem n_alive (s : Int) (w : World) : Calls Tryz.prog 31 #[.pointer none, .int .i64 s] w fun e w' => e = .returned (.bool false) ∧ Below w.heap.size w w' := refl_of (alive_nil s w)
theorem n_table (s : Int) (w : World) : Calls Tryz.prog 11 #[.pointer none, .int .i64 s] w fun e w' => e = .returned (.agg (ta 0 0 [])) ∧ Below w.heap.size w w' := table_nil s w
theorem n_replace (s : Int) (d : Nat) (w : World) : Calls Tryz.prog 30 #[.pointer none, .int .i64 s, .pointer (some ⟨d, 0, none⟩)] w fun e w' => e = .returned (.int .i64 1) ∧ Below w.heap.size w w' := refl_of (replace_nil _ s w)
def wantE (s b : Int) : Int := if s < 0 ∨ 1 < s then 2 else if b < 0 ∨ 12 ≤ b then 3 else 0
theorem sector_w (s b : Int) (h : CP w0 X q pd S c w) (hw : wantE s b ≠ 0) : Calls Tryz.prog 44 #[.pointer (some ⟨q, 0, none⟩), .int .i64 s, .int .i64 b] w fun e w' => (∃ x, e = .returned (.tuple #[.int .i64 x, .int .i64 (wantE s b)])) ∧ Below w.heap.size w w' := by
  by_cases hs : s < 0 ∨ 1 < s
  · have hb : sideB s = false := by unfold sideB; simp; omega
    refine (sector_side s b w hb).mono ?_
    rintro e w' ⟨rfl, hb⟩
    exact ⟨⟨0, by unfold wantE; rw [if_pos hs]⟩, hb⟩
  · obtain ⟨n, rfl⟩ : ∃ n : Nat, s = n := ⟨s.toNat, by omega⟩
    have hn : n < 2 := by omega
    by_cases hbb : b < 0 ∨ 12 ≤ b
    · refine (sector_e h.pb hn (h.good hn) b).mono ?_
      rintro e w' ⟨rfl, hb⟩
      exact ⟨⟨_, by rw [(at_no (m := []) hbb).2.1]; unfold wantE; rw [if_neg hs, if_pos hbb]⟩, hb⟩
    · exact absurd (by unfold wantE; rw [if_neg hs, if_neg hbb]) hw
theorem read_w (s b : Int) (h : CP w0 X q pd S c w) (hw : wantE s b ≠ 0) : Calls Tryz.prog 17 #[.pointer (some ⟨q, 0, none⟩), .int .i64 s, .int .i64 b] w fun e w' => e = .returned (.tuple #[.string ⟨#[]⟩, .int .i64 (wantE s b)]) ∧ Below w.heap.size w w' := by
  obtain ⟨D, h1, h2⟩ := h.both
  exact read_no h1 s b _ hw (sector_w s b h hw)
theorem write_w (s b : Int) (t : ByteArray) (h : CP w0 X q pd S c w) (hw : wantE s b ≠ 0) : Calls Tryz.prog 21 #[.pointer (some ⟨q, 0, none⟩), .int .i64 s, .int .i64 b, .string t] w fun e w' => e = .returned (.int .i64 (wantE s b)) ∧ Below w.heap.size w w' := by
  obtain ⟨D, h1, h2⟩ := h.both
  exact write_no h1 s b t _ hw (sector_w s b h hw)
theorem device_w (s : Int) (h : CP w0 X q pd S c w) (hs : s < 0 ∨ 1 < s) : Calls Tryz.prog 15 #[.pointer (some ⟨q, 0, none⟩), .int .i64 s] w fun e w' => e = .returned (.pointer none) ∧ Below w.heap.size w w' := refl_of (device_no q s w hs)
theorem alive_w (s : Int) (h : CP w0 X q pd S c w) (hs : s < 0 ∨ 1 < s) : Calls Tryz.prog 31 #[.pointer (some ⟨q, 0, none⟩), .int .i64 s] w fun e w' => e = .returned (.bool false) ∧ Below w.heap.size w w' := refl_of (alive_no q s w hs)
end
end Go.Proofs.YtpdickpipdaphaaGreatDoor.Rem

/- Layer 7's laws: full, devices, fresh, wakes. -/
namespace Go.Proofs.YtpdickpipdaphaaGreatDoor.Rem
open Go.RowKit Go.Proofs.YtpdickpipdaphaaGreatDoor Dev Tab
set_option linter.unusedVariables false

theorem full7_any (s : ByteArray) (w : World) (hs : s.size ≤ 1000000) :
    Calls Tryz.prog 10 #[.string s] w fun e w' => e = .returned (.string (fullN s)) ∧ Below w.heap.size w w' := by
  have HF := Lib.hid (show fullN s = (s ++ stars).extract 0 128 from rfl)
  have HS := Lib.hid (show (⟨(Lib.repeatL (⟨#[42]⟩ : ByteArray).data.toList 128).toArray⟩ : ByteArray) = stars from rfl)
  have h1 := stars_size
  have h2 : (s ++ stars).size = s.size + 128 := by rw [ByteArray.size_append, h1]
  have h3 : ¬ 9223372036854775807 < s.size + 128 := by omega
  have h4 : (128 : Int) ≤ (s.size : Int) + 128 := by omega
  have h5 : 128 ≤ s.size + 128 := by omega
  go_enter Tryz.func10, Tryz.ntmps10
  go_wp2_with fail
  refine (Tryz.strings_Repeat _ 128 _ (by omega) (show 1 * 128 ≤ _ by omega)).mono ?_
  rintro e w1 ⟨rfl, hb⟩
  rw [HS.out]
  have HB := Lib.hid hb
  clear hb
  go_wp2
  go_ret
  exact ⟨by rw [HF.out]; rfl, HB.out⟩

theorem devices_any (w : World) : Calls Tryz.prog 29 #[] w fun e w' => ∃ pa pb, e = .returned (.tuple #[.pointer (some ⟨pa, 0, none⟩), .pointer (some ⟨pb, 0, none⟩)]) ∧ Two w pa pb w' := by
  go_enter Tryz.func29, Tryz.ntmps29
  go_wp2_with fail
  refine (new_yes 20 128 w rfl).mono ?_
  rintro e w1 ⟨pa, sa, hpa, hsa, rfl, hd, hb⟩
  have HD := Lib.hid hd
  have HB := Lib.hid hb
  clear hd hb
  go_wp2_with fail
  refine (new_yes 20 128 w1 rfl).mono ?_
  rintro e w2 ⟨pb, sb, hpb, hsb, rfl, hd, hb⟩
  have HT := Lib.hid (show Two w pa pb w2 from by
    refine ⟨sa, sb, HD.out.below hb (Nat.le_refl _), hd, ?_, ?_, HB.out.trans (hb.mono HB.out.size)⟩
    · intro k hk
      have hlt := HD.out.lt k hk
      refine ⟨?_, ?_⟩
      · rcases hk with rfl | rfl | h
        · exact hpa
        · exact hsa
        · cases h
      · rintro (rfl | rfl | h)
        · omega
        · omega
        · cases h
    · have := HB.out.size
      rintro k (rfl | rfl | h)
      · omega
      · omega
      · cases h)
  clear hd hb
  go_wp2_with fail
  go_ret2
  exact ⟨_, _, rfl, HT.out⟩

theorem fresh_any (w : World) : Calls Tryz.prog 8 #[] w fun e w' => ∃ pa pb q S, e = .returned (.tuple #[.pointer (some ⟨pa, 0, none⟩), .pointer (some ⟨pb, 0, none⟩), .pointer (some ⟨q, 0, none⟩), .bool true]) ∧ CP w [] q (pdOf pa pb) S 4 w' ∧ New (S 0) ∧ New (S 1) := by
  go_enter Tryz.func8, Tryz.ntmps8
  go_wp2_with fail
  refine (devices_any w).mono ?_
  rintro e w1 ⟨pa, pb, rfl, ht⟩
  have HT := Lib.hid ht
  clear ht
  go_wp2_with fail
  refine (format_c HT.out).mono ?_
  rintro e w2 ⟨q, S, rfl, hc, h0, h1⟩
  have HC := Lib.hid hc
  have H0 := Lib.hid h0
  have H1 := Lib.hid h1
  clear hc h0 h1 HT
  go_wp2_with fail
  refine bodyPost_ret (v := .tuple #[.pointer (some ⟨pa, 0, none⟩), .pointer (some ⟨pb, 0, none⟩), .pointer (some ⟨q, 0, none⟩), .bool true]) (by simp [results, Tryz.results8, go_sem]) rfl ⟨_, _, _, _, rfl, HC.out, H0.out, H1.out⟩

set_option maxHeartbeats 1000000 in
set_option maxRecDepth 100000 in
theorem wakes_any (w : World) : Calls Tryz.prog 9 #[] w fun e w' => e = .returned (.bool true) ∧ Below w.heap.size w w' := by
  obtain ⟨tx, htx⟩ : ∃ t, t = fullN ⟨#[120]⟩ := ⟨_, rfl⟩
  have hts : tx.size = 128 := by rw [htx]; exact fullN_size _
  have HTX := Lib.hid htx
  have HTS := Lib.hid hts
  clear htx hts
  go_enter Tryz.func9, Tryz.ntmps9
  go_wp2_with fail
  refine (fresh_any w).mono ?_
  rintro e w1 ⟨pa, pb, q, S, rfl, hc, h0, h1⟩
  have HC := Lib.hid hc
  have H0 := Lib.hid h0
  clear hc h0 h1
  go_wp2_with fail
  refine (stick_c HC.out (s := 0) (by omega) (i := 7) (by omega) (by omega) (by omega) 7 rfl).mono ?_
  rintro e w2 ⟨S2, rfl, hk, hc, _⟩
  have HC2 := Lib.hid hc
  have HK := Lib.hid hk
  clear hc hk HC
  have hm0 : (S2 0).m = [] := by rw [HK.out.2.1]; exact H0.out.1
  have hp0 : pl (S2 0) 3 = 7 := by unfold pl; rw [hm0]; rfl
  have hb7 : (S2 0).B 7 = true := by rw [HK.out.2.2.1, upd_same]
  have hE : wrE (S2 0) 3 = 0 := by unfold wrE; rw [hm0]; simp
  have hsp : Spare (S2 0) := fun j _ hj => by rw [HK.out.2.2.1, upd_ne _ _ (by omega)]; exact (H0.out.2 (16 + j) (by omega) (by omega)).2
  have HE := Lib.hid hE
  have HP := Lib.hid (And.intro hm0 (And.intro hp0 hb7))
  have HSP := Lib.hid hsp
  clear hm0 hp0 hb7 hE hsp
  go_wp2_with fail
  refine (full7_any _ _ (by decide)).mono ?_
  rintro e w3 ⟨rfl, hb⟩
  rw [← HTX.out]
  have HC3 := Lib.hid (HC2.out.later hb)
  clear hb HC2
  go_wp2_with fail
  refine (write_c HC3.out (s := 0) (by omega) (b := 3) (by omega) HTS.out (by omega) HSP.out).mono ?_
  rintro e w4 ⟨S4, rfl, hw, hc, _⟩
  rw [HE.out]
  have HC4 := Lib.hid hc
  have hm4 : (S4 0).m = [3] := by rw [hw.m, HP.out.1, HP.out.2.1, HP.out.2.2]; rfl
  have hp4 : pl (S4 0) 3 = 16 := by unfold pl; rw [hm4]; rfl
  have hv4 : (S4 0).V 16 = tx := by have := hw.at_ HE.out; rwa [hp4] at this
  have hb4 : (S4 0).B 16 = false := by rw [hw.bad]; exact HSP.out 0 (by rw [HP.out.1]; exact Nat.le_refl _) (by omega)
  have H4 := Lib.hid (And.intro hm4 (And.intro hp4 (And.intro hv4 hb4)))
  clear hc hw hm4 hp4 hv4 hb4 HC3
  go_wp2_with fail
  refine (flush_c HC4.out (s := 0) (by omega) (by omega)).mono ?_
  rintro e w5 ⟨rfl, hc, _⟩
  have HC5 := Lib.hid hc
  clear hc HC4
  go_wp2_with fail
  refine (open_c HC5.out (by omega)).mono ?_
  rintro e w6 ⟨q', P, rfl, hc, _, _⟩
  have HC6 := Lib.hid hc
  clear hc HC5
  go_wp2_with fail
  refine (read_c HC6.out (s := 0) (by omega) (b := 3) (by omega) (by omega)).mono ?_
  rintro e w7 ⟨rfl, hc, _⟩
  rw [H4.out.2.1, H4.out.2.2.1, H4.out.2.2.2]
  have HC7 := Lib.hid hc
  clear hc HC6
  go_wp2_with fail
  refine (table_c HC7.out (s := 0) (by omega)).mono ?_
  rintro e w8 ⟨rfl, hb⟩
  have HC8 := Lib.hid (HC7.out.later hb)
  clear hb HC7
  rw [H4.out.1]
  go_wp2_with fail
  refine (Tab.at_any 12 4 3 [3] _ (by have := HC8.out.good (s := 0) (by omega); rwa [H4.out.1] at this)).mono ?_
  rintro e w9 ⟨rfl, hb⟩
  rw [show atN 12 [3] 3 = 12 from rfl, show atE 12 3 = 0 from rfl]
  have HC9 := Lib.hid (HC8.out.later hb)
  clear hb HC8
  go_wp2_with fail
  refine (full7_any _ _ (by decide)).mono ?_
  rintro e w10 ⟨rfl, hb⟩
  rw [← HTX.out]
  have HC10 := Lib.hid (HC9.out.later hb)
  clear hb HC9
  go_wp2_with fail
  refine (blocks_c 64 128 4 _).mono ?_
  rintro e w11 ⟨rfl, hb⟩
  rw [if_pos (by decide)]
  have HB := Lib.hid (HC10.out.later hb).below
  clear hb HC10
  go_wp2_with fail
  go_ret
  exact ⟨rfl, HB.out⟩
end Go.Proofs.YtpdickpipdaphaaGreatDoor.Rem

/- Contracts of layer 6 (table): Moved: slices.Clone, slices.Sort, slices.Compact. -/
namespace Go.Proofs.YtpdickpipdaphaaGreatDoor.Tab
open Go.RowKit Go.Sort Go.Lib Go.Proofs.YtpdickpipdaphaaGreatDoor Go.Proofs.YtpdickpipdaphaaGreatDoor.Lend
set_option linter.unusedVariables false

/-- two rising rows of the same numbers are one row -/
theorem strict_ext : ∀ (a b : List Int), a.Pairwise (· < ·) → b.Pairwise (· < ·) → (∀ x, x ∈ a ↔ x ∈ b) → a = b
  | [], [], _, _, _ => rfl
  | [], y :: b, _, _, h => absurd ((h y).2 (by simp)) (by simp)
  | x :: a, [], _, _, h => absurd ((h x).1 (by simp)) (by simp)
  | x :: a, y :: b, ha, hb, h => by
    rw [List.pairwise_cons] at ha hb
    have h1 := (h x).1 (by simp)
    have h2 := (h y).2 (by simp)
    have hxy : x = y := by
      rcases List.mem_cons.1 h1 with h1 | h1
      · exact h1
      · rcases List.mem_cons.1 h2 with h2 | h2
        · exact h2.symm
        · have := hb.1 x h1; have := ha.1 y h2; omega
    subst hxy
    congr 1
    refine strict_ext a b ha.2 hb.2 fun z => ⟨fun hz => ?_, fun hz => ?_⟩
    · rcases List.mem_cons.1 ((h z).1 (List.mem_cons_of_mem _ hz)) with e | e
      · have := ha.1 z hz; omega
      · exact e
    · rcases List.mem_cons.1 ((h z).2 (List.mem_cons_of_mem _ hz)) with e | e
      · have := hb.1 z hz; omega
      · exact e
theorem mvd_strict (j : Nat) (m : List Int) : (mvd j m).Pairwise (· < ·) := by
  unfold mvd
  rw [List.pairwise_map]
  refine List.Pairwise.imp ?_ (List.Pairwise.filter _ List.pairwise_lt_range)
  intro a b h; omega
theorem compactUpTo_sorted (d : Array Int) (hd : ∀ i j, i ≤ j → j < d.size → d[i]! ≤ d[j]!) : ∀ c, c ≤ d.size → (compactUpTo d c).Pairwise (· < ·) ∧ ∀ x, x ∈ compactUpTo d c ↔ ∃ i, i < c ∧ d[i]! = x := by
  intro c
  induction c with
  | zero => intro _; exact ⟨by simp [compactUpTo], fun x => by simp [compactUpTo]⟩
  | succ c ih =>
    intro hc
    obtain ⟨h1, h2⟩ := ih (by omega)
    rw [compactUpTo_succ]
    by_cases hk : keeps d c = true
    · rw [if_pos hk]
      refine ⟨?_, fun x => ?_⟩
      · rw [List.pairwise_append]
        refine ⟨h1, by simp, fun a ha b hb => ?_⟩
        obtain ⟨i, hi, rfl⟩ := (h2 a).1 ha
        have hb' : b = d[c]! := by simpa using hb
        subst hb'
        have hne : c = 0 ∨ d[c]! ≠ d[c - 1]! := by simpa [keeps] using hk
        have e1 := hd i (c - 1) (by omega) (by omega)
        have e2 := hd (c - 1) c (by omega) (by omega)
        rcases hne with e | e <;> omega
      · rw [List.mem_append, h2]
        constructor
        · rintro (⟨i, hi, e⟩ | e)
          · exact ⟨i, by omega, e⟩
          · exact ⟨c, by omega, by rw [List.mem_singleton.1 e]⟩
        · rintro ⟨i, hi, e⟩
          by_cases hic : i = c
          · subst hic; exact .inr (by simpa using e.symm)
          · exact .inl ⟨i, by omega, e⟩
    · rw [if_neg hk, List.append_nil]
      refine ⟨h1, fun x => ?_⟩
      rw [h2]
      have hne : ¬ (c = 0 ∨ d[c]! ≠ d[c - 1]!) := by simpa [keeps] using hk
      have h0 : c ≠ 0 := fun e => hne (.inl e)
      have he : d[c]! = d[c - 1]! := by
        by_cases e : d[c]! = d[c - 1]!
        · exact e
        · exact absurd (.inr e) hne
      constructor
      · rintro ⟨i, hi, e⟩; exact ⟨i, by omega, e⟩
      · rintro ⟨i, hi, e⟩
        by_cases hic : i = c
        · subst hic; exact ⟨i - 1, by omega, by rw [← he]; exact e⟩
        · exact ⟨i, by omega, e⟩
def sorted (m : List Int) : List Int := m.mergeSort fun x y => decide (x ≤ y)
theorem sorted_length (m : List Int) : (sorted m).length = m.length := List.length_mergeSort m
theorem compact_sorted {n k : Int} {m : List Int} (h : Good n k m) : compact (sorted m) = mvd n.toNat m := by
  have hs : (sorted m).Pairwise fun a b => decide (a ≤ b) = true := List.pairwise_mergeSort (fun a b c h1 h2 => by simp at *; omega) (fun a b => by simp; omega) m
  have hd : ∀ i j, i ≤ j → j < (sorted m).toArray.size → (sorted m).toArray[i]! ≤ (sorted m).toArray[j]! := by
    intro i j hij hj
    have hj' : j < (sorted m).length := by simpa using hj
    rw [getElem!_pos _ i (by simp; omega), getElem!_pos _ j (by simpa using hj)]
    by_cases e : i = j
    · subst e; exact Int.le_refl _
    · have := List.pairwise_iff_getElem.1 hs i j (by omega) hj' (by omega)
      simpa using this
  obtain ⟨h1, h2⟩ := compactUpTo_sorted (sorted m).toArray hd (sorted m).length (by simp)
  refine strict_ext _ _ h1 (mvd_strict _ _) fun x => ?_
  have hb := h.bd
  rw [show compact (sorted m) = compactUpTo (sorted m).toArray (sorted m).length from rfl, h2, mvd_mem]
  have hmem : (∃ i, i < (sorted m).length ∧ (sorted m).toArray[i]! = x) ↔ x ∈ sorted m := by
    rw [List.mem_iff_getElem]
    constructor
    · rintro ⟨i, hi, e⟩
      rw [getElem!_pos _ i (by simpa using hi)] at e
      exact ⟨i, hi, by simpa using e⟩
    · rintro ⟨i, hi, e⟩
      exact ⟨i, hi, by rw [getElem!_pos _ i (by simpa using hi)]; simpa using e⟩
  rw [hmem, show (x ∈ sorted m ↔ x ∈ m) from List.mem_mergeSort]
  constructor
  · intro hx; have := h.mem x hx; exact ⟨this.1, by omega, hx⟩
  · intro hx; exact hx.2.2

set_option maxRecDepth 100000 in
theorem moved_any (n k : Int) (m : List Int) (w : World) (hg : Good n k m) : Calls Tryz.prog 35 #[.agg (ta n k m)] w fun e w' => ∃ ao' len' cap', e = .returned (.slice ao' len' cap') ∧ Ints w' ao' len' cap' (mvd n.toNat m) ∧ NewA w.heap.size ao' ∧ Below w.heap.size w w' := by
  obtain ⟨g1, g2, g3, g4, g5⟩ := hg.bd
  have HG := Lib.hid hg
  have hT := Lib.hid (TAt.made w n k m)
  have hB := Lib.hid (b_new w (.cells (ta n k m) 35))
  have hsz : (w.alloc (.cells (ta n k m) 35)).heap.size = w.heap.size + 1 := by simp
  have e2 := hT.out.c2
  have hsl := slice_sp w.heap.size m.length g5
  obtain ⟨u, hu⟩ : ∃ u, u = m.length := ⟨_, rfl⟩
  have HU := Lib.hid hu
  have hu5 : u ≤ 32 := by omega
  rw [← hu] at e2 hsl
  clear hg hu g5
  go_enter Tryz.func35, Tryz.ntmps35
  go_wp2_with fail
  refine (Tryz.slices_Clone_int w.heap.size 3 u 32 m _ (by rw [HU.out]; exact Nat.le_refl _) (by omega) (fun j hj => hT.out.cm j (by rw [← HU.out] at hj; omega))).mono ?_
  rintro e w2 ⟨v', rfl, hown, hne, hb⟩
  rw [hsz] at hown
  obtain ⟨hx, hown⟩ := hown
  rcases hown with ⟨hv, _⟩ | ⟨g, cap, cur, rfl, hgB, hgg, h1, h2, h3, h4⟩
  · exact absurd hv hne
  have hB2 := Lib.hid (b_on hB.out hb)
  rw [HU.out, List.take_length, Nat.mul_one] at h4
  have hH := Lib.hid (holds_of_blockI hgg h4)
  have hlt : g < w2.heap.size := (Array.getElem?_eq_some_iff.1 hgg).1
  have HGG := Lib.hid hgg
  have H3 := Lib.hid h3
  clear hx hne hgg h3 h4 hb e2 hsl hB hT hsz
  go_wp2_with fail
  have hc1 := Tryz.slices_Sort_int g 0 cap m w2 hH.out hlt (by rw [← HU.out]; omega)
  rw [← HU.out] at hc1
  refine hc1.mono ?_
  clear hc1
  rintro e w3 ⟨rfl, q1, os, hw3⟩
  have hgg3 := heap_sortedI (n := q1) (os := os) (sorted m).toArray HGG.out
  have hgr3 := grownBy_sortedI (w := w2) (g := g) (n := q1) (os := os) (sorted m).toArray
  rw [show (grow (putRow (Value.int .i64) (Sort.ahead w2 q1) g 0 (sorted m).toArray) os) = w3 from hw3.symm] at hgg3 hgr3
  have hB3 := Lib.hid (hB2.out.grown hgr3 hB2.out.size (fun k hk => by cases hk; omega))
  have hsl : (sorted m).length = u := by rw [sorted_length, HU.out]
  have htk := take_putCellsI cur (sorted m) (by rw [hsl, H3.out]; omega)
  have hH3 := Lib.hid (holds_of_blockI hgg3 htk)
  have hlt3 : g < w3.heap.size := (Array.getElem?_eq_some_iff.1 hgg3).1
  have HG3 := Lib.hid hgg3
  have HSL := Lib.hid hsl
  clear hw3 hgg3 hgr3 htk hB2 hsl
  go_wp2_with fail
  have hc2 := Tryz.slices_Compact_int g 0 cap (sorted m) w3 hH3.out (by rw [HSL.out]; omega) (by rw [HSL.out]; exact h1)
  rw [HSL.out] at hc2
  refine hc2.mono ?_
  clear hc2
  rintro e w4 ⟨rfl, q2, hw4⟩
  have hle := compact_length_le (sorted m)
  rw [HSL.out] at hle
  have hown4 := ownsRow_sortedI (base := w.heap.size) (w := w3) (g := g) (cap := cap) (n := q2) (os := #[]) (ss := sorted m) (ts := compact (sorted m) ++ List.replicate (u - (compact (sorted m)).length) 0) (by simp [HSL.out]; omega) (by omega) HG3.out (by rw [HSL.out]; exact h1) h2 (by rw [show (putCells (Value.int .i64) 0 (sorted m).toArray cur).size = cur.size by simp [putCells]]; exact H3.out)
  have hgr4 := grownBy_sortedI (w := w3) (g := g) (n := q2) (os := #[]) (compact (sorted m) ++ List.replicate (u - (compact (sorted m)).length) 0).toArray
  rw [grow_empty, ← hw4] at hown4 hgr4
  have hB4 := Lib.hid (hB3.out.grown hgr4 hB3.out.size (fun k hk => by cases hk; omega))
  have hrow := (Row.own hown4).take (compact (sorted m)).length (by rw [HSL.out]; exact hle)
  rw [List.take_left, compact_sorted HG.out] at hrow
  have HI := Lib.hid (Ints.mk (cap := cap) hrow (by rw [← compact_sorted HG.out]; omega) (fun e => by cases e))
  rw [compact_sorted HG.out]
  clear hown4 hgr4 hrow hw4
  go_wp2_with fail
  go_ret
  exact ⟨_, _, _, rfl, HI.out, (fun a ha => by cases ha; show w.heap.size ≤ g; omega), hB4.out⟩
end Go.Proofs.YtpdickpipdaphaaGreatDoor.Tab

/- Layer 6's laws: wakes, same. -/
namespace Go.Proofs.YtpdickpipdaphaaGreatDoor.Tab
open Go.RowKit Go.Proofs.YtpdickpipdaphaaGreatDoor Go.Proofs.YtpdickpipdaphaaGreatDoor.Lend
set_option linter.unusedVariables false

theorem Ints.row_set {w : World} {ao : Option Addr} {len cap q : Nat} {m : List Int} (h : Ints w ao len cap m) (hq : ∀ a, ao = some a → a.block ≠ q) (cs : Array Value) : Ints (w.setRow q cs) ao len cap m := ⟨Row.setRow h.row hq cs, h.le, h.nil⟩
theorem cells_on {w w1 : World} {p : Addr} {v : Value} (h : w.cell? p = some v) (hb : Below w.heap.size w w1) : w1.cell? p = some v := (hb.cell (World.block_lt_of_cell? w _ h)).trans h

theorem mvd_step_no {m : List Int} {j : Nat} (h : ¬ (j : Int) ∈ m) : (mvd (j + 1) m).length = (mvd j m).length := by rw [mvd_succ, if_neg h]
theorem mvd_step_yes {m : List Int} {j : Nat} (h : (j : Int) ∈ m) : (mvd (j + 1) m).length = (mvd j m).length + 1 := by rw [mvd_succ, if_pos h]; simp
end Go.Proofs.YtpdickpipdaphaaGreatDoor.Tab

/- An array that came in, opened into its elements. -/
namespace Go.Proofs.YtpdickpipdaphaaGreatDoor
open Go.ChangeShapes Go.WideShapes Go.RowKit Go.Deep
theorem open_arr {H : Type} {enc : TypeId × Value → H} {P : Program} {w W : World} {r : Reach} {base b0 : Nat} {sp : Nat → Bool} {held : Bool} {t e : TypeId} {n : Nat} {v : Value} {d : DataW H} {ps : List MemPlace}
    (ht : P.underlying t = some (.array n e)) (hct : P.cellsOf t = n) (hce : P.cellsOf e = 1) (hval : Value.okWide P W r b0 t v) (hd : DataW.Trod enc P w base sp held t v d ps) :
    ∃ cs : List Value, v = .agg cs.toArray ∧ cs.length = n ∧ ∀ (i : Nat) (c : Value), cs[i]? = some c → ∃ m y, DataW.trod enc P w base sp held m e [c] = some y := by
  unfold Value.okWide at hval
  rw [ht] at hval
  obtain ⟨cs, rfl, hsz, _⟩ := hval
  obtain ⟨fuel, hf⟩ := hd
  obtain ⟨xs, m, _, _, hl, hx, hi⟩ := DataW.trod_array ht hf
  have hn : cs.toList.length = n := by rw [Array.length_toList, hsz, hct]
  refine ⟨cs.toList, by simp, hn, fun i c hc => ?_⟩
  have hin : i < n := by rw [← hn]; exact (List.getElem?_eq_some_iff.1 hc).1
  have := hi i hin
  rw [hce, Nat.mul_one] at this
  have hc' : (Value.agg cs).cells.toList = cs.toList := by simp [Value.cells]
  rw [hc'] at this
  have e1 : (cs.toList.drop i).take 1 = [c] := by
    obtain ⟨h1, h2⟩ := List.getElem?_eq_some_iff.1 hc
    rw [List.drop_eq_getElem_cons h1, h2]; rfl
  rw [e1] at this
  have hxl : i < xs.length := by omega
  exact ⟨m, xs[i], by rw [this, List.getElem?_eq_getElem hxl]⟩
theorem open_str_cell {H : Type} {enc : TypeId × Value → H} {P : Program} {w : World} {base : Nat} {sp : Nat → Bool} {held : Bool} {e : TypeId} {c : Value} (he : P.underlying e = some .string) (h : ∃ m y, DataW.trod enc P w base sp held m e [c] = some y) : ∃ s : ByteArray, c = .string s ∧ s.size ≤ maxLen := by
  obtain ⟨m, y, h⟩ := h
  obtain ⟨s, hs, _, hw⟩ := DataW.trod_string he h
  exact ⟨s, by simpa using hs, hw⟩
theorem open_int_cell {H : Type} {enc : TypeId × Value → H} {P : Program} {w : World} {base : Nat} {sp : Nat → Bool} {held : Bool} {e : TypeId} {c : Value} {k : IntKind} (he : P.underlying e = some (.int k)) (h : ∃ m y, DataW.trod enc P w base sp held m e [c] = some y) : ∃ n : Int, c = .int k n ∧ (Lit.int k n).wf = true := by
  obtain ⟨m, y, h⟩ := h
  obtain ⟨n, hn, _, hw⟩ := DataW.trod_int he h
  exact ⟨n, by simpa using hn, hw⟩
/-- a struct of one-cell fields that came in by value -/
theorem open_struct_cells {H : Type} {enc : TypeId × Value → H} {P : Program} {w W : World} {r : Reach} {base b0 : Nat} {sp : Nat → Bool} {held : Bool} {t : TypeId} {fs : Array Field} {v : Value} {d : DataW H} {ps : List MemPlace}
    (hs : P.underlying t = some (.struct fs)) (hone : oneCellFields P fs = true) (hC : P.cellsOf t = fs.size) (hval : Value.okWide P W r b0 t v) (hd : DataW.Trod enc P w base sp held t v d ps) :
    ∃ cs : List Value, v = .agg cs.toArray ∧ cs.length = fs.size ∧ ∀ (j : Nat) (f : Field) (c : Value), fs[j]? = some f → cs[j]? = some c → ∃ m y, DataW.trod enc P w base sp held m f.type [c] = some y := by
  obtain ⟨cs, rfl, hsz⟩ := okWide_struct hs hval
  obtain ⟨fuel, hf⟩ := hd
  obtain ⟨xs, n, _, hx, _, hlen, hg⟩ := DataW.trod_struct hs hf
  have hn : cs.toList.length = fs.size := by rw [Array.length_toList, hsz, hC]
  refine ⟨cs.toList, by simp, hn, fun j f c hj hc => ?_⟩
  obtain ⟨ho, hk⟩ := hone_of hone j f hj
  have h1 := hg j f hj
  rw [ho, hk] at h1
  have hc' : (Value.agg cs).cells.toList = cs.toList := by simp [Value.cells]
  rw [hc'] at h1
  have e1 : (cs.toList.drop j).take 1 = [c] := by
    obtain ⟨h2, h3⟩ := List.getElem?_eq_some_iff.1 hc
    rw [List.drop_eq_getElem_cons h2, h3]; rfl
  rw [e1] at h1
  have hjl : j < fs.size := (Array.getElem?_eq_some_iff.1 hj).1
  exact ⟨n, _, h1.trans (List.getElem?_eq_getElem (show j < xs.length by omega))⟩
/-- a slice of numbers in a cell -/
theorem open_ints_cell {H : Type} {enc : TypeId × Value → H} {P : Program} {w : World} {held : Bool} {t e : TypeId} {k : IntKind} {c : Value} (ht : P.underlying t = some (.slice e)) (he : P.underlying e = some (.int k)) (hc1 : P.cellsOf e = 1)
    (h : ∃ m y, DataW.trod enc P w 0 (fun _ => true) held m t [c] = some y) : ∃ a len cap zs, c = .slice a len cap ∧ Row k w a len zs ∧ len ≤ cap ∧ cap ≤ maxLen ∧ ∀ n ∈ zs, (Lit.int k n).wf = true := by
  obtain ⟨m, y, h⟩ := h
  rcases open_ints ht he hc1 h with ⟨hcs, _⟩ | ⟨x, l, cap, zs, hcs, _, hl, hm, hz, _, hcell, hwz⟩
  · simp at hcs
    exact ⟨none, 0, 0, [], hcs, ⟨rfl, fun h => absurd h (by decide)⟩, Nat.le_refl _, by unfold maxLen; omega, by simp⟩
  · simp at hcs
    refine ⟨some x, l, cap, zs.take l, hcs, ⟨by simp at hz; simp; omega, fun hpos => ?_⟩, hl, hm, fun n hn => hwz n (List.mem_of_mem_take hn)⟩
    obtain ⟨b, off, spot⟩ := x
    have hzl : zs.length = cap := by simpa using hz
    have h0 := hcell 0 (by omega)
    have hs : spot = none := by simpa [Addr.add] using World.cell?_spot h0
    subst hs
    refine ⟨b, off, rfl, fun i hi => ?_⟩
    have := hcell i (by omega)
    rw [Addr.add_lit] at this
    rw [this]
    simp [List.getD, hi]
end Go.Proofs.YtpdickpipdaphaaGreatDoor

/- Layer 6's laws: the maps that they make. -/
namespace Go.Proofs.YtpdickpipdaphaaGreatDoor.Tab
open Go Go.RowKit Go.Proofs.YtpdickpipdaphaaGreatDoor Go.Proofs.YtpdickpipdaphaaGreatDoor.Lend Go.Maps
set_option linter.unusedVariables false

theorem zero_bool (w : World) : (zeroValue 4).run Tryz.prog w = .ok (.bool false) w := by kernel_rfl
theorem zero_int (w : World) : (zeroValue 3).run Tryz.prog w = .ok (.int .i64 0) w := by kernel_rfl
theorem owns_map_same {w w' : World} {P : Program} {k : TypeId} {R : Value → Option (DataW Unit × List MemPlace)} {b n : Nat} {D : DataW Unit} (h : w.ownsMap P k R b n D) (hk : w'.heap[b]? = w.heap[b]?) : w'.ownsMap P k R b n D := by
  obtain ⟨es, clock, hb, F, hs, hD⟩ := h
  exact ⟨es, clock, hk.trans hb, F, hs, hD⟩
theorem owns_map_lt {w : World} {P : Program} {k : TypeId} {R : Value → Option (DataW Unit × List MemPlace)} {b n : Nat} {D : DataW Unit} (h : w.ownsMap P k R b n D) : b < w.heap.size := by
  obtain ⟨es, clock, hb, _⟩ := h
  exact (Array.getElem?_eq_some_iff.1 hb).1
theorem owns_map_on {w w' : World} {P : Program} {k : TypeId} {R : Value → Option (DataW Unit × List MemPlace)} {b n : Nat} {D : DataW Unit} (h : w.ownsMap P k R b n D) (hb : Below w.heap.size w w') : w'.ownsMap P k R b n D := owns_map_same h (hb.block _ (owns_map_lt h))
theorem plainElem_bool_inv {P : Program} {e : TypeId} (he : P.underlying e = some .bool) {v : Value} {z : DataW Unit × List MemPlace} (h : plainElem P e v = some z) : ∃ x, v = .bool x ∧ z = (.lit (.bool x), []) := by
  unfold plainElem at h
  rw [he] at h
  cases v <;> simp at h
  subst h
  exact ⟨_, rfl, rfl⟩
/-- 'm[k]' at bools -/
theorem lookup_bool {P : Program} {w : World} {t k e : TypeId} {b n : Nat} {D : DataW Unit} (h : w.ownsMap P k (plainElem P e) b n D) (K : Keyed P k) (ht : P.underlying t = some (.map k e)) (he : P.underlying e = some .bool) (hz : (zeroValue e).run P w = .ok (.bool false) w)
    {key : Value} {kl : Lit} (hkey : keyOf P k key = some kl) : ∃ c : Bool, (Instr.lookup t (.map (some b)) key false).run P w = .ok (.bool c) w ∧ D.atKey kl (.lit (.bool false)) = .lit (.bool c) := by
  obtain ⟨v, ps, hrun, hv⟩ := h.lookup K ht hz (plainElem_bool he false) hkey
  obtain ⟨c, rfl, hc⟩ := plainElem_bool_inv he hv
  simp only [Prod.mk.injEq] at hc
  exact ⟨c, hrun, hc.1⟩
theorem int_wf {x : Int} (h0 : -9223372036854775808 ≤ x) (h1 : x ≤ 9223372036854775807) : (Lit.int .i64 x).wf = true := by
  simp only [Lit.wf, Bool.and_eq_true, decide_eq_true_eq, show IntKind.i64.min = -9223372036854775808 from rfl, show IntKind.i64.max = 9223372036854775807 from rfl]
  omega
theorem map_ne {w : World} {P : Program} {k : TypeId} {R : Value → Option (DataW Unit × List MemPlace)} {mb n : Nat} {D : DataW Unit} (h : w.ownsMap P k R mb n D) {a : Addr} {v : Value} (hc : w.cell? a = some v) : a.block ≠ mb := by
  obtain ⟨es, clock, hb, _⟩ := h
  intro e
  unfold World.cell? at hc
  rw [e, hb] at hc
  cases hc
theorem Ints.map {w w' : World} {P : Program} {k : TypeId} {R : Value → Option (DataW Unit × List MemPlace)} {mb n : Nat} {D : DataW Unit} {ao : Option Addr} {len cap : Nat} {m : List Int} (h : Ints w ao len cap m) (hm : w.ownsMap P k R mb n D) (hg : w.grownBy w' (some mb)) : Ints w' ao len cap m := by
  refine ⟨⟨h.row.len_eq, fun hl => ?_⟩, h.le, h.nil⟩
  obtain ⟨b, off, hb, hc⟩ := h.row.at_ hl
  refine ⟨b, off, hb, fun i hi => ?_⟩
  have h1 := hc i hi
  have h2 := map_ne hm h1
  have h3 := World.block_lt_of_cell? w _ h1
  have h4 : w'.heap[b]? = w.heap[b]? := hg.block b h3 (fun e => h2 (Option.some.inj e))
  rw [← h1]
  unfold World.cell?
  simp only [h4]
theorem TAt.map {w w' : World} {P : Program} {k : TypeId} {R : Value → Option (DataW Unit × List MemPlace)} {mb n : Nat} {D : DataW Unit} {p : Nat} {N K : Int} {m : List Int} (h : TAt w p N K m) (hm : w.ownsMap P k R mb n D) (hg : w.grownBy w' (some mb)) : TAt w' p N K m := by
  refine Has.same h (hg.block p h.lt (fun e => ?_))
  exact map_ne hm h.c0 (Option.some.inj e)
theorem owns_map_row {w : World} {P : Program} {k : TypeId} {R : Value → Option (DataW Unit × List MemPlace)} {mb n : Nat} {D : DataW Unit} (h : w.ownsMap P k R mb n D) {p : Nat} (hp : mb ≠ p) (cs : Array Value) : (w.setRow p cs).ownsMap P k R mb n D := owns_map_same h (setRow_other _ _ _ _ hp)
/-- which places were seen -/
def Seen (M : List Int) (c : Nat) (D : DataW Unit) : Prop := IsMap D ∧ ∀ x : Int, has D (.int .i64 x) = true → ∃ j : Nat, j < c ∧ plc 15 M j = x
theorem Seen.start (M : List Int) : Seen M 0 (.map []) := ⟨isMap_empty, fun x h => by cases h⟩
theorem Seen.no {M : List Int} {c : Nat} {D : DataW Unit} (h : Seen M c D) (hc : c < 15) : has D (.int .i64 (plc 15 M c)) = false := by
  cases e : has D (.int .i64 (plc 15 M c)) with
  | false => rfl
  | true =>
    obtain ⟨j, hj, hp⟩ := h.2 _ e
    have := plc_inj (n := 15) (m := M) (b := (j : Int)) (c := (c : Int)) (by omega) (by omega) hp
    omega
theorem Seen.look {M : List Int} {c : Nat} {D : DataW Unit} (h : Seen M c D) (hc : c < 15) {b : Bool} (hb : D.atKey (.int .i64 (plc 15 M c)) (.lit (.bool false)) = .lit (.bool b)) : b = false := by
  rw [atKey_of_not_has (h.no hc)] at hb
  simpa using hb.symm
theorem Seen.push {M : List Int} {c : Nat} {D : DataW Unit} (h : Seen M c D) : Seen M (c + 1) (D.put (.int .i64 (plc 15 M c)) (.lit (.bool true))) := by
  refine ⟨h.1.put _ _, fun x hx => ?_⟩
  by_cases e : x = plc 15 M c
  · exact ⟨c, by omega, e.symm⟩
  · rw [has_put_other (by intro h; injection h with _ h; exact e h)] at hx
    obtain ⟨j, hj, hp⟩ := h.2 x hx
    exact ⟨j, by omega, hp⟩
/-- where the blocks are -/
structure Last (M : List Int) (D : DataW Unit) : Prop where
  map : IsMap D
  has : ∀ x : Int, has D (.int .i64 x) = decide (x ∈ M)
  at_ : ∀ x : Int, x ∈ M → D.atKey (.int .i64 x) (.lit (.int .i64 0)) = .lit (.int .i64 (plc 20 M x))
theorem Last.start : Last [] (.map []) := ⟨isMap_empty, fun x => by simp [has_eq], fun x h => by cases h⟩
theorem Last.push {M : List Int} {D : DataW Unit} (h : Last M D) (x : Int) : Last (M ++ [x]) (D.put (.int .i64 x) (.lit (.int .i64 (20 + M.length)))) := by
  refine ⟨h.map.put _ _, fun y => ?_, fun y hy => ?_⟩
  · by_cases e : y = x
    · rw [e, has_put_same h.map (show WideAt.IsKeyLit (.int .i64 x) from trivial)]; simp
    · rw [has_put_other (by intro h; injection h with _ h; exact e h), h.has]; simp [e]
  · rw [plc_snoc]
    by_cases e : y = x
    · rw [e, if_pos rfl, atKey_put_same h.map (show WideAt.IsKeyLit (.int .i64 x) from trivial)]
    · rw [if_neg (fun h => e h.symm), atKey_put_other (by intro h; injection h with _ h; exact e h)]
      exact h.at_ y (by simpa [e] using hy)
theorem mvd_push (x : Nat) (m : List Int) : ∀ j, (mvd j (m ++ [(x : Int)])).length = (mvd j m).length + (if x < j ∧ ¬ (x : Int) ∈ m then 1 else 0)
  | 0 => by simp [mvd]
  | j + 1 => by
    have ih := mvd_push x m j
    rw [mvd_succ, mvd_succ]
    by_cases hj : j = x
    · subst hj
      rw [if_pos (by simp)]
      by_cases hm : (j : Int) ∈ m
      · rw [if_pos hm]
        simp only [hm, not_true, and_false, if_false, List.length_append, List.length_cons, List.length_nil] at ih ⊢
        omega
      · rw [if_neg hm]
        simp only [hm, not_false_iff, and_true, Nat.lt_irrefl, if_false, List.length_append, List.length_cons, List.length_nil, Nat.lt_succ_self, if_true] at ih ⊢
        omega
    · have e1 : (j : Int) ∈ m ++ [(x : Int)] ↔ (j : Int) ∈ m := by
        simp only [List.mem_append, List.mem_cons, List.mem_nil_iff, or_false]
        constructor
        · rintro (h | h)
          · exact h
          · omega
        · exact Or.inl
      have e2 : (x < j + 1 ∧ ¬ (x : Int) ∈ m) ↔ (x < j ∧ ¬ (x : Int) ∈ m) := by
        constructor <;> rintro ⟨h1, h2⟩ <;> exact ⟨by omega, h2⟩
      simp only [e1, e2]
      by_cases hm : (j : Int) ∈ m
      · rw [if_pos hm, if_pos hm, List.length_append, List.length_append, ih]; simp; omega
      · rw [if_neg hm, if_neg hm, ih]
/-- how many of them there are -/
def Cnt (M : List Int) (D : DataW Unit) : Prop := Maps.size D = (mvd 20 M).length
theorem Cnt.start : Cnt [] (.map []) := by
  have : mvd 20 [] = [] := by unfold mvd; rw [List.filter_eq_nil_iff.2 (by simp)]; rfl
  unfold Cnt; rw [this]; rfl
theorem Cnt.push {M : List Int} {D : DataW Unit} (h : Cnt M D) (hl : Last M D) (ht : Tidy D) (x : Nat) (hx : x < 20) : Cnt (M ++ [(x : Int)]) (D.put (.int .i64 x) (.lit (.int .i64 (20 + M.length)))) := by
  unfold Cnt at h ⊢
  rw [size_put ht, hl.has, mvd_push, h]
  by_cases hm : (x : Int) ∈ M
  · simp [hm]
  · simp [hm, hx]
end Go.Proofs.YtpdickpipdaphaaGreatDoor.Tab

/- Layer 7's laws: the maps that they make. -/
namespace Go.Proofs.YtpdickpipdaphaaGreatDoor.Rem
open Go Go.RowKit Go.Proofs.YtpdickpipdaphaaGreatDoor Dev Tab Go.Maps
set_option linter.unusedVariables false

/-- the map's keys are the blocks that were moved -/
structure Mk (M : List Int) (D : DataW Unit) : Prop where
  map : IsMap D
  has : ∀ x : Int, Maps.has D (.int .i64 x) = decide (x ∈ M)
  size : Maps.size D = (mvd 12 M).length
theorem Mk.start : Mk [] (.map []) := ⟨isMap_empty, fun x => by simp [has_eq], by
  have : mvd 12 [] = [] := by unfold mvd; rw [List.filter_eq_nil_iff.2 (by simp)]; rfl
  rw [this]; rfl⟩
theorem Mk.push {M : List Int} {D : DataW Unit} (h : Mk M D) (ht : Tidy D) (x : Nat) (hx : x < 12) : Mk (M ++ [(x : Int)]) (D.put (.int .i64 x) (.lit (.bool true))) := by
  refine ⟨h.map.put _ _, fun y => ?_, ?_⟩
  · by_cases e : y = x
    · rw [e, has_put_same h.map (show WideAt.IsKeyLit (.int .i64 x) from trivial)]; simp
    · rw [has_put_other (by intro h; injection h with _ h; exact e h), h.has]; simp [e]
  · rw [size_put ht, h.has, mvd_push, h.size]
    by_cases hm : (x : Int) ∈ M
    · simp [hm]
    · simp [hm, hx]
theorem CP.map {w0 w w' : World} {X : List Nat} {q c : Nat} {pd : Nat → Nat} {S : Nat → Sd} {mb : Nat} (h : CP w0 X q pd S c w) (hx : mb ∈ X) (hg : w.grownBy w' (some mb)) : CP w0 X q pd S c w' :=
  h.chg ((Chg.refl _ w).grown hg (fun k _ hk => by cases hk; exact hx))
theorem owns_map_keep {w w' : World} {X : List Nat} {P : Program} {k : TypeId} {R : Value → Option (DataW Unit × List MemPlace)} {b n : Nat} {D : DataW Unit} (h : w.ownsMap P k R b n D) (hs : Same X w w') (hx : b ∈ X) : w'.ownsMap P k R b n D := owns_map_same h (hs b hx)
theorem neq_same (w : World) (a : Addr) : (binOp .neq 23 (.pointer (some a)) (.pointer (some a))).run Tryz.prog w = .ok (.bool false) w := by
  obtain ⟨j, hte, -⟩ := info_dev
  have h : ∀ d : Nat, (Op.equalIn (d + 1) 23 (.pointer (some a)) (.pointer (some a))).run Tryz.prog w = .ok true w := fun d => by
    simp [Op.equalIn, run_underlying Tryz.underlying23, sizeOf, typeInfo, hte, run_sameAddr_same]
  simp only [binOp]
  simp [Op.equal, Op.maxDepth, h 9999]
end Go.Proofs.YtpdickpipdaphaaGreatDoor.Rem

/- Layer 7's law RemapKeeps: what is known of each block, in a map keyed by side and block. -/
namespace Go.Proofs.YtpdickpipdaphaaGreatDoor.Rem
open Go Go.RowKit Go.Proofs.YtpdickpipdaphaaGreatDoor Dev Tab Go.Maps Go.WideMaps
set_option linter.unusedVariables false

theorem arrK : ArrKey Tryz.prog 32 3 2 := ⟨Tryz.underlying32, by kernel_rfl, by kernel_rfl, by kernel_rfl⟩
theorem keyed2 : Keyed Tryz.prog 32 := Keyed.of_law arrK.law
def kl (s b : Nat) : Lit := .string (keyBytes [.int .i64 s, .int .i64 b])
theorem key2 {s b : Nat} (hs : s < 2) (hb : b < 12) : keyOf Tryz.prog 32 (.agg #[.int .i64 s, .int .i64 b]) = some (kl s b) :=
  keyOf_pair arrK Tryz.underlying3 (by
    have : ((Tryz.prog).types.size - 1) + 1 = (Tryz.prog).types.size := by kernel_rfl
    exact ⟨_, this.symm⟩) (Tab.int_wf (by omega) (by omega)) (Tab.int_wf (by omega) (by omega))
theorem kl_inj {s b s' b' : Nat} (hs : s < 2) (hb : b < 12) (hs' : s' < 2) (hb' : b' < 12) (h : kl s b = kl s' b') : s = s' ∧ b = b' := by
  have h1 := key2 hs hb
  have h2 := key2 hs' hb'
  rw [← h] at h2
  have := keyed2.inj h1 h2
  simp at this
  omega
theorem kl_key (s b : Nat) : WideAt.IsKeyLit (kl s b) := trivial

theorem Has.keep {w w' : World} {X : List Nat} {b : Nat} {t : TypeId} {cs : List Value} (h : Has w b t cs) (hs : Same X w w') (hx : b ∈ X) : Has w' b t cs := h.same (hs b hx)
/-- an iterator was laid -/
theorem CP.ranged {w0 w w' : World} {X : List Nat} {q c : Nat} {pd : Nat → Nat} {S : Nat → Sd} (h : CP w0 X q pd S c w) (hg : w.grownBy w' none) (hs : w'.heap.size = w.heap.size + 1) : CP w0 (w.heap.size :: X) q pd S c w' :=
  (h.new (.map #[] 0)).chg ⟨hg.os, hg.tape, hg.output, by rw [hs]; simp, fun k hk hn => by
    have hk' : k < w.heap.size := by
      have hne : k ≠ w.heap.size := fun e => hn (by rw [e]; exact List.mem_cons_self ..)
      simp at hk
      omega
    rw [hg.block k hk' (by simp), Below.heap_alloc _ _ _ hk']⟩
theorem ranges_same {w w' : World} {P : Program} {k : TypeId} {R : Value → Option (DataW Unit × List MemPlace)} {b r n cnt : Nat} {D : DataW Unit} {left : Lit → Bool} (h : w.ranges P k R b r n D left cnt) (hb : w'.heap[b]? = w.heap[b]?) (hr : w'.heap[r]? = w.heap[r]?) : w'.ranges P k R b r n D left cnt := by
  obtain ⟨es, clock, since, seen, c0, h1, h2, h3, h4, h5, h6⟩ := h
  exact ⟨es, clock, since, seen, c0, hb.trans h1, h2, h3, h4, hr.trans h5, h6⟩
theorem ranges_keep {w w' : World} {X : List Nat} {P : Program} {k : TypeId} {R : Value → Option (DataW Unit × List MemPlace)} {b r n cnt : Nat} {D : DataW Unit} {left : Lit → Bool} (h : w.ranges P k R b r n D left cnt) (hs : Same X w w') (hb : b ∈ X) (hr : r ∈ X) : w'.ranges P k R b r n D left cnt := ranges_same h (hs b hb) (hs r hr)
theorem ranges_on {w w' : World} {P : Program} {k : TypeId} {R : Value → Option (DataW Unit × List MemPlace)} {b r n cnt : Nat} {D : DataW Unit} {left : Lit → Bool} (h : w.ranges P k R b r n D left cnt) (hb : Below w.heap.size w w') : w'.ranges P k R b r n D left cnt := ranges_same h (hb.block _ (Tab.owns_map_lt h.owns)) (hb.block _ h.lt)
/-- each block that is known reads so, and isn't bad -/
structure Kn (S : Nat → Sd) (D : DataW Unit) : Prop where
  map : IsMap D
  at_ : ∀ z, Maps.has D z = true → ∃ s b t, s < 2 ∧ b < 12 ∧ z = kl s b ∧ (∀ zd, D.atKey z zd = .lit (.string t.data.toList)) ∧ (S s).B (pl (S s) b) = false ∧ (S s).V (pl (S s) b) = t
theorem Kn.start (S : Nat → Sd) : Kn S (.map []) := ⟨isMap_empty, fun z h => by cases h⟩
section
variable {S S' : Nat → Sd} {D : DataW Unit} {s b : Nat}
/-- what isn't touched stays known -/
theorem Kn.go (h : Kn S D) (hS : ∀ s' b', s' < 2 → b' < 12 → Maps.has D (kl s' b') = true → (S s').B (pl (S s') b') = false → (S' s').B (pl (S' s') b') = false ∧ (S' s').V (pl (S' s') b') = (S s').V (pl (S s') b')) : Kn S' D := by
  refine ⟨h.map, fun z hz => ?_⟩
  obtain ⟨s', b', t, h1, h2, rfl, h4, h5, h6⟩ := h.at_ z hz
  obtain ⟨r1, r2⟩ := hS s' b' h1 h2 hz h5
  exact ⟨s', b', t, h1, h2, rfl, h4, r1, r2.trans h6⟩
theorem Kn.del (h : Kn S D) (hs : s < 2) (hb : b < 12) (hS : ∀ s' b', s' < 2 → b' < 12 → ¬ (s' = s ∧ b' = b) → (S s').B (pl (S s') b') = false → (S' s').B (pl (S' s') b') = false ∧ (S' s').V (pl (S' s') b') = (S s').V (pl (S s') b')) : Kn S' (D.del (kl s b)) := by
  refine ⟨h.map.del _, fun z hz => ?_⟩
  by_cases e : z = kl s b
  · rw [e, has_del_same] at hz; cases hz
  · rw [has_del_other e] at hz
    obtain ⟨s', b', t, h1, h2, rfl, h4, h5, h6⟩ := h.at_ z hz
    obtain ⟨r1, r2⟩ := hS s' b' h1 h2 (fun ⟨e1, e2⟩ => e (by rw [e1, e2])) h5
    exact ⟨s', b', t, h1, h2, rfl, fun zd => by rw [atKey_del_other e]; exact h4 zd, r1, r2.trans h6⟩
theorem Kn.put (h : Kn S D) (hs : s < 2) (hb : b < 12) (t : ByteArray) (h1 : (S' s).B (pl (S' s) b) = false) (h2 : (S' s).V (pl (S' s) b) = t)
    (hS : ∀ s' b', s' < 2 → b' < 12 → ¬ (s' = s ∧ b' = b) → (S s').B (pl (S s') b') = false → (S' s').B (pl (S' s') b') = false ∧ (S' s').V (pl (S' s') b') = (S s').V (pl (S s') b')) : Kn S' (D.put (kl s b) (.lit (.string t.data.toList))) := by
  refine ⟨h.map.put _ _, fun z hz => ?_⟩
  by_cases e : z = kl s b
  · exact ⟨s, b, t, hs, hb, e, fun zd => by rw [e]; exact atKey_put_same h.map (kl_key s b) _ _, h1, h2⟩
  · rw [has_put_other e] at hz
    obtain ⟨s', b', t', k1, k2, rfl, k4, k5, k6⟩ := h.at_ z hz
    obtain ⟨r1, r2⟩ := hS s' b' k1 k2 (fun ⟨e1, e2⟩ => e (by rw [e1, e2])) k5
    exact ⟨s', b', t', k1, k2, rfl, fun zd => by rw [atKey_put_other e]; exact k4 zd, r1, r2.trans k6⟩
theorem pl_congr {x y : Sd} (h : x.m = y.m) (b : Nat) : pl x b = pl y b := by unfold pl; rw [h]
theorem pl_ge {x : Sd} (hg : Tab.Good 12 4 x.m) {b : Nat} (hb : b < 12) : 4 ≤ pl x b := (pl_bd hg hb).1
theorem pl_inj {x : Sd} (hg : Tab.Good 12 4 x.m) {b c : Nat} (hb : b < 12) (hc : c < 12) (h : pl x b = pl x c) : b = c := by
  have h1 := (pl_bd hg hb).2.2
  have h2 := (pl_bd hg hc).2.2
  have : plc 12 x.m b = plc 12 x.m c := by omega
  have := plc_inj (n := 12) (m := x.m) (b := (b : Int)) (c := (c : Int)) (by omega) (by omega) this
  omega
/-- a block that isn't the one that is moved stays where it is -/
theorem pl_push {x y : Sd} {b c : Nat} (h : y.m = x.m ++ [(b : Int)]) (hc : c ≠ b) : pl y c = pl x c := by
  unfold pl; rw [h, plc_snoc, if_neg (by omega)]
theorem pl_pushed {x y : Sd} {b : Nat} (h : y.m = x.m ++ [(b : Int)]) : pl y b = 16 + x.m.length := by
  unfold pl; rw [h, plc_snoc, if_pos rfl]; omega
theorem Oth.keep (h : Oth S S' s) (hg : ∀ t, t < 2 → Tab.Good 12 4 (S t).m) {s' b' : Nat} (h1 : s' < 2) (h2 : b' < 12) (hne : s' ≠ s) : (S' s').B (pl (S' s') b') = (S s').B (pl (S s') b') ∧ (S' s').V (pl (S' s') b') = (S s').V (pl (S s') b') := by
  obtain ⟨r1, r2, r3⟩ := h s' h1 hne
  rw [pl_congr r1 b', r2]
  exact ⟨rfl, r3 _ (pl_ge (hg s' h1) h2)⟩
theorem Wr.keep {d : ByteArray} (h : Wr S S' s b d) (hg : ∀ t, t < 2 → Tab.Good 12 4 (S t).m) (hg' : ∀ t, t < 2 → Tab.Good 12 4 (S' t).m) (hb : b < 12) {s' b' : Nat} (h1 : s' < 2) (h2 : b' < 12) (hne : ¬ (s' = s ∧ b' = b)) : (S' s').B (pl (S' s') b') = (S s').B (pl (S s') b') ∧ (S' s').V (pl (S' s') b') = (S s').V (pl (S s') b') := by
  by_cases e : s' = s
  · subst e
    have hb' : b' ≠ b := fun e => hne ⟨rfl, e⟩
    have hp : pl (S' s') b' = pl (S s') b' := by
      have := h.m
      split at this
      · exact pl_push this hb'
      · exact pl_congr this b'
    rw [hp, h.bad]
    refine ⟨rfl, h.rest _ (pl_ge (hg s' h1) h2) (.inl fun e2 => hb' ?_)⟩
    rw [← hp] at e2
    exact pl_inj (hg' s' h1) h2 hb e2
  · exact h.oth.keep hg h1 h2 e
theorem Wr.good {d : ByteArray} (h : Wr S S' s b d) (hE : wrE (S s) b = 0) (hsp : Spare (S s)) : (S' s).B (pl (S' s) b) = false := by
  rw [h.bad]
  have hm := h.m
  by_cases hB : (S s).B (pl (S s) b) = true
  · have hl : (S s).m.length < 4 := by
      by_cases hl : (S s).m.length < 4
      · exact hl
      · unfold wrE at hE; rw [if_pos ⟨hB, by omega⟩] at hE; cases hE
    rw [if_pos ⟨hB, hl⟩] at hm
    rw [pl_pushed hm]
    exact hsp _ (Nat.le_refl _) hl
  · rw [if_neg (fun h => hB h.1)] at hm
    rw [pl_congr hm b]
    simpa using hB
theorem Wr.spare {d : ByteArray} (h : Wr S S' s b d) (hs : s < 2) (hsp : ∀ t, t < 2 → Spare (S t)) : ∀ t, t < 2 → Spare (S' t) := fun t ht j h1 h2 => by
  by_cases e : t = s
  · subst e
    rw [h.bad]
    refine hsp t ht j ?_ h2
    have := h.m
    split at this
    · rw [this, List.length_append] at h1; simp at h1; omega
    · rw [this] at h1; exact h1
  · obtain ⟨r1, r2, _⟩ := h.oth t ht e
    rw [r2]; exact hsp t ht j (by rw [← r1]; exact h1) h2
theorem Kn.wrote {d : ByteArray} (h : Kn S D) (hw : Wr S S' s b d) (hs : s < 2) (hb : b < 12) (hg : ∀ t, t < 2 → Tab.Good 12 4 (S t).m) (hg' : ∀ t, t < 2 → Tab.Good 12 4 (S' t).m) (hE : wrE (S s) b = 0) (hsp : Spare (S s)) : Kn S' (D.put (kl s b) (.lit (.string d.data.toList))) :=
  h.put hs hb d (hw.good hE hsp) (hw.at_ hE) fun s' b' h1 h2 hne hB => by
    obtain ⟨r1, r2⟩ := hw.keep hg hg' hb h1 h2 hne
    exact ⟨by rw [r1]; exact hB, r2⟩
/-- a write that is refused: no spare is left -/
theorem Kn.refused {d : ByteArray} (h : Kn S D) (hw : Wr S S' s b d) (hs : s < 2) (hb : b < 12) (hg : ∀ t, t < 2 → Tab.Good 12 4 (S t).m) (hE : wrE (S s) b ≠ 0) : Kn S' D :=
  h.go fun s' b' h1 h2 _ hB => by
    by_cases e : s' = s
    · subst e
      have hm : (S' s').m = (S s').m := by
        have := hw.m
        rw [if_neg (fun hh => hE (by unfold wrE; rw [if_neg (by omega)]))] at this
        exact this
      rw [pl_congr hm b', hw.bad]
      exact ⟨hB, hw.rest _ (pl_ge (hg s' h1) h2) (.inr hE)⟩
    · obtain ⟨r1, r2⟩ := hw.oth.keep hg h1 h2 e
      exact ⟨by rw [r1]; exact hB, r2⟩
theorem Kn.moved (h : Kn S D) (hm : Moved S S' s b) (hs : s < 2) (hb : b < 12) (hg : ∀ t, t < 2 → Tab.Good 12 4 (S t).m) : Kn S' (D.del (kl s b)) :=
  h.del hs hb fun s' b' h1 h2 hne hB => by
    by_cases e : s' = s
    · subst e
      have hp := pl_push (x := S s') (y := S' s') hm.2.2.2 (c := b') (fun e => hne ⟨rfl, e⟩)
      rw [hp, hm.2.1]
      exact ⟨hB, hm.2.2.1 _ (pl_ge (hg s' h1) h2)⟩
    · obtain ⟨r1, r2⟩ := hm.1.keep hg h1 h2 e
      exact ⟨by rw [r1]; exact hB, r2⟩
theorem Moved.spare (h : Moved S S' s b) (hsp : ∀ t, t < 2 → Spare (S t)) : ∀ t, t < 2 → Spare (S' t) := fun t ht j h1 h2 => by
  by_cases e : t = s
  · subst e
    rw [h.2.1]
    exact hsp t ht j (by rw [h.2.2.2, List.length_append] at h1; simp at h1; omega) h2
  · obtain ⟨r1, r2, _⟩ := h.1 t ht e
    rw [r2]; exact hsp t ht j (by rw [← r1]; exact h1) h2
theorem Kn.stuck (h : Kn S D) (hk : Stk S S' s (pl (S s) b)) (hs : s < 2) (hb : b < 12) (hg : ∀ t, t < 2 → Tab.Good 12 4 (S t).m) : Kn S' (D.del (kl s b)) :=
  h.del hs hb fun s' b' h1 h2 hne hB => by
    by_cases e : s' = s
    · subst e
      have hp := pl_congr (x := S' s') (y := S s') hk.2.1 b'
      have hn : pl (S s') b' ≠ pl (S s') b := fun e => hne ⟨rfl, pl_inj (hg s' h1) h2 hb e⟩
      rw [hp, hk.2.2.1, upd_ne _ _ hn]
      exact ⟨hB, hk.2.2.2 _ hn⟩
    · rw [hk.1 s' e]; exact ⟨hB, rfl⟩
theorem Stk.spare (h : Stk S S' s (pl (S s) b)) (hs : s < 2) (hb : b < 12) (hg : Tab.Good 12 4 (S s).m) (hsp : ∀ t, t < 2 → Spare (S t)) : ∀ t, t < 2 → Spare (S' t) := fun t ht j h1 h2 => by
  by_cases e : t = s
  · subst e
    rw [h.2.1] at h1
    have := (pl_bd hg hb).2.1
    rw [h.2.2.1, upd_ne _ _ (by omega)]
    exact hsp t ht j h1 h2
  · rw [h.1 t e] at h1 ⊢; exact hsp t ht j h1 h2
end
/-- an entry that comes is a block that is known -/
theorem Kn.entry {S : Nat → Sd} {D : DataW Unit} {kl' : Lit} {x : Value} {c : ByteArray} {y : DataW Unit × List MemPlace} (h : Kn S D) (hh : Maps.has D kl' = true) (hx : keyOf Tryz.prog 32 x = some kl') (hc : plainElem (H := Unit) Tryz.prog 9 (.string c) = some y) (hat : ∀ zd, D.atKey kl' zd = y.1) : ∃ s b : Nat, s < 2 ∧ b < 12 ∧ x = .agg #[.int .i64 s, .int .i64 b] ∧ (S s).B (pl (S s) b) = false ∧ (S s).V (pl (S s) b) = c := by
  obtain ⟨s, b, t, h1, h2, rfl, h4, h5, h6⟩ := h.at_ _ hh
  refine ⟨s, b, h1, h2, keyed2.inj hx (key2 h1 h2), h5, h6.trans ?_⟩
  obtain ⟨c', e1, e2, _⟩ := plainElem_string_inv Tryz.underlying9 hc
  have := (h4 (.lit (.bool true))).symm.trans (hat (.lit (.bool true)))
  rw [e2] at this
  have ec := Value.string.inj e1
  rw [← ec] at this
  exact ByteArray.ext (Array.ext' (Lit.string.inj (DataW.lit.inj this)))
theorem plainElem_str (t : ByteArray) (h : t.size ≤ maxLen) : plainElem (H := Unit) Tryz.prog 9 (.string t) = some (.lit (.string t.data.toList), []) := by
  unfold plainElem
  rw [Tryz.underlying9]
  simp [h]
/-- an entry has come: it is a block that is known, and the pair stands beside it -/
theorem entered {w wr w6 : World} {S : Nat → Sd} {D : DataW Unit} {kl' : Lit} {x : Value} {c1 : ByteArray} {y : DataW Unit × List MemPlace} {left : Lit → Bool} {r0 mb n1 cnt1 q cc : Nat} {pd : Nat → Nat} (h : Kn S D) (hh : Maps.has D kl' = true) (hx : keyOf Tryz.prog 32 x = some kl') (hc : plainElem (H := Unit) Tryz.prog 9 (.string c1) = some y) (hat : ∀ zd, D.atKey kl' zd = y.1)
    (hrg : w6.ranges Tryz.prog 32 (plainElem (H := Unit) Tryz.prog 9) mb r0 n1 D left cnt1) (hg : wr.grownBy w6 (some r0)) (HC : CP w [r0, mb] q pd S cc wr) :
    ∃ (s b b23 : Nat) (V : World), s < 2 ∧ b < 12 ∧ x = .agg #[.int .i64 s, .int .i64 b] ∧ b23 = w6.heap.size ∧ V = w6.alloc (.cells #[.int .i64 s, .int .i64 b] 32) ∧ ((S s).B (pl (S s) b) = false ∧ (S s).V (pl (S s) b) = c1) ∧ CP w [b23, r0, mb] q pd S cc V ∧
      V.ranges Tryz.prog 32 (plainElem (H := Unit) Tryz.prog 9) mb r0 n1 D left cnt1 ∧ V.cell? ⟨b23, 0, none⟩ = some (.int .i64 s) ∧ V.cell? ⟨b23, 1, none⟩ = some (.int .i64 b) := by
  obtain ⟨s, b, hs, hb, rfl, hB, hV⟩ := h.entry hh hx hc hat
  have h23 := Has.new w6 [.int .i64 s, .int .i64 b] 32
  exact ⟨s, b, _, _, hs, hb, rfl, rfl, rfl, ⟨hB, hV⟩, (HC.map (by simp) hg).new _, ranges_on hrg (Tab.b_new w6 _), h23.cell 0, h23.cell 1⟩
end Go.Proofs.YtpdickpipdaphaaGreatDoor.Rem

