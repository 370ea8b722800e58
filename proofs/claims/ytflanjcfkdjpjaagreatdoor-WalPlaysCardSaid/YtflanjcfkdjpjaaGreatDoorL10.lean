/- Layers' contracts, bundled: DevG, DevW, DevO, RemQ, Bytes, DevTurn, RemS, DevT, DevGb, MirKey. -/
import Derived.Test.YtflanjcfkdjpjaaGreatDoorL02
import Derived.Test.YtflanjcfkdjpjaaGreatDoorL05
import Derived.Test.YtflanjcfkdjpjaaGreatDoorL04
import Derived.Test.YtflanjcfkdjpjaaGreatDoorL01
import Derived.Test.YtflanjcfkdjpjaaGreatDoorL09
import Derived.WalkKit
import Derived.WalkSmall
import Derived.OwnWalk
import Derived.Laws.OwnMore
import Derived.Lib.Hide
import Derived.Lib.ConvBytes
import Derived.Laws.BytesString
import Derived.Test.YtflanjcfkdjpjaaGreatDoorRows
import Derived.Deep.DeepCutAuto
import Derived.Deep.RegionWith
import Derived.Test.YtflanjcfkdjpjaaGreatDoorL07
import Derived.Test.YtflanjcfkdjpjaaGreatDoorProg
import Derived.WideKeyPair
import Derived.DeepKeys4
import Derived.Maps.Views
import Derived.Maps.OwnSet
/- Contracts of layer 3 (dev): Crash. -/
namespace Go.Proofs.YtflanjcfkdjpjaaGreatDoor.Dev
open Go.RowKit Go.Proofs.YtflanjcfkdjpjaaGreatDoor
set_option linter.unusedVariables false

theorem run_min2 (P : Program) (w : World) (t : TypeId) (ts : Array TypeId) (a b : Nat) : (Builtin.min_ ts t #[.int .i64 (a : Nat), .int .i64 (b : Nat)]).run P w = .ok (.int .i64 ((min a b : Nat) : Int)) w := by
  have e : ∀ a b : Nat, (if (b : Int) < a then (b : Int) else a) = ((min a b : Nat) : Int) := by intro a b; split <;> omega
  simp only [Builtin.min_, Builtin.min2, List.foldlM, Sem.run_bind, Sem.run_pure, Result.andThen]
  rw [e]

set_option maxRecDepth 100000 in
set_option maxHeartbeats 4000000 in
theorem crash_any {p sb : Nat} {cv : Value} {D : Dv} (fa : Option Addr) (fl fc : Nat) (fs : List Int) (w : World) (h : DevAt w p sb cv D) (hl : D.cache.length ≤ 1000000000) (hfl : fl ≤ 1000000000)
    (hrow : Row .i64 w fa fl fs) (hap : ∀ a, fa = some a → ¬ foot p sb cv a.block) (hfb : ∀ f ∈ fs, f ≤ 9223372036854775807) :
    Calls Tryz.prog 25 #[.pointer (some ⟨p, 0, none⟩), .slice fa fl fc] w fun e w' => e = .returned (.tuple #[]) ∧ Now p sb cv w (D.crashD fs) w' := by
  obtain ⟨sa, cap, hcv, hsa⟩ := h.cv_slice
  subst hcv
  obtain ⟨n, hn⟩ : ∃ n, n = D.cache.length := ⟨_, rfl⟩
  rw [← hn] at h hl hsa hap ⊢
  have HN := Lib.hid hn
  have HFL := Lib.hid hrow.len_eq
  have HAP := Lib.hid hap
  have HFB := Lib.hid hfb
  have HROW := Lib.hid hrow
  have h3 := h.c3
  have HD := Lib.hid h
  obtain ⟨m, hm⟩ : ∃ m, m = min fl n := ⟨_, rfl⟩
  have HM := Lib.hid hm
  have hml : m ≤ fl := by omega
  have hmn : m ≤ n := by omega
  have hmin : ∀ t ts, (Builtin.min_ ts t #[.int .i64 (fl : Nat), .int .i64 (n : Nat)]).run Tryz.prog w = .ok (.int .i64 (m : Int)) w := by
    intro t ts; rw [hm]; exact run_min2 _ _ _ _ _ _
  clear hn hap hrow hfb h hm
  go_enter Tryz.func25, Tryz.ntmps25
  go_wp2_with fail
  clear hmin
  go_loopw [4, 15] (fun j i wr => ∃ k : Nat, k ≤ m ∧ i = .int .i64 k ∧ Chg (foot p sb (.slice sa n cap)) w wr ∧ DevAt wr p sb (.slice sa n cap) (D.puts ((fated D fs).take k))) (fun _ i _ => m - (intOf i).toNat)
  case atStart => exact ⟨0, Nat.zero_le _, rfl, Chg.refl _ _, HD.out⟩
  case round =>
    obtain ⟨k, hk, rfl, hc, hd⟩ := hrel
    clear HD h3
    by_cases hlt : k < m
    · obtain ⟨g, rfl⟩ := hsa (by omega)
      obtain ⟨⟨si, st⟩, hx⟩ : ∃ x, D.cache[k]? = some x := ⟨_, List.getElem?_eq_getElem (by rw [← HN.out]; omega)⟩
      obtain ⟨f, hf⟩ : ∃ f, fs[k]? = some f := ⟨_, List.getElem?_eq_getElem (by rw [HFL.out]; omega)⟩
      obtain ⟨fb, fo, rfl, hcells⟩ := HROW.out.at_ (by omega)
      have hfcw := hcells k (by omega)
      have hfb := HFB.out f (List.mem_of_getElem? hf)
      have hfc : wr.cell? ⟨fb, fo + k, none⟩ = some (.int .i64 f) := by
        rw [World.cell?_of_block (hc.block fb (World.block_lt_of_cell? w _ hfcw) (HAP.out _ rfl)), hfcw, List.getD_eq_getElem?_getD, hf]; rfl
      have hcache : (D.puts ((fated D fs).take k)).cache = D.cache := Dv.puts_cache _ _
      have hkn : (k : Int) < (n : Int) := by omega
      have hkf : (k : Int) < (fl : Int) := by omega
      obtain ⟨hx0, hx1⟩ := hd.cw0x (by rw [hcache]; exact HN.out) k (by rw [hcache]; exact hx)
      simp only at hx0 hx1
      have hsize : (D.puts ((fated D fs).take k)).size = D.size := Dv.puts_size _ _
      have h1 := hd.c1
      have h3 := hd.c3
      rw [hsize] at h1
      have hok := hd.ok.text (si, st) (by rw [hcache]; exact List.mem_of_getElem? hx)
      have hse := hd.ok.sector (si, st) (by rw [hcache]; exact List.mem_of_getElem? hx)
      have hs1 := hd.ok.s128
      have hs2 := hd.ok.s1024
      rw [hsize] at hs1 hs2
      have HPUT := Lib.hid (show D.puts ((fated D fs).take (k + 1)) = (D.puts ((fated D fs).take k)).put si st (keptN f D.size) by rw [fated_take D fs k _ _ hx hf, Dv.puts_snoc])
      have HC := Lib.hid hc
      have HDD := Lib.hid hd
      have HOK := Lib.hid hok
      have HSE := Lib.hid hse
      have HSIZE := Lib.hid hsize
      clear hc hd hok hse hsize hcache hx hf hfcw hcells
      have HKN := Lib.hid (keptN_le f D.size)
      go_wp2
      refine Reg.still_tail 18 (by kernel_rfl) (by kernel_rfl) ?_
      simp only [List.take_succ_cons, List.take_zero, List.drop_succ_cons, List.drop_zero]
      repeat still_step
      try refine wpStill_nil ?_
      refine wpStill_step (fun K hK => ?_)
      go_simp
      refine ⟨_, (kept_any f D.size _ (by omega) hs2 hfb).mono fun e w' ⟨he, hw⟩ => ⟨he, hw.symm⟩, hK _ ?_⟩
      clear hK K
      refine wpStill_nil ?_
      go_wp2_with fail
      refine (lasts_any si (keptN f D.size) st _ HDD.out.drew HSE.out HOK.out (by rw [HSIZE.out]; exact HKN.out)).mono ?_
      rintro e w5 ⟨rfl, hc5, hd5⟩
      have HC6 := Lib.hid (HC.out.trans (((Chg.refl (foot p sb (.slice (some ⟨g, 0, none⟩) n cap)) wr).drew).trans hc5 (fun _ _ h => h)) (fun _ _ h => h))
      have HD6 := Lib.hid hd5
      clear hc5 hd5 hx0 hx1 h1 h3 hfc
      go_wp2_with fail
      go_roundw
      case rel => exact ⟨k + 1, by omega, by go_num, HC6.out, by rw [HPUT.out]; exact HD6.out⟩
      case measure => simp [intOf]; omega
    · obtain rfl : k = m := by omega
      have hwh : (fated D fs).take k = fated D fs := List.take_of_length_le (by unfold fated; rw [List.length_zipWith, ← HN.out, HFL.out, HM.out]; omega)
      rw [hwh] at hd
      have h3 := hd.c3
      have hf3 := hd.fz 3
      have he := hd.empty
      have h5 := he.c5
      have hf5 := he.fz 5
      have he2 := he.set 5 (.bool false) { (D.puts (fated D fs)).emptied with off := false } rfl rfl rfl ⟨he.ok.n8, he.ok.n4096, he.ok.s128, he.ok.s1024, he.ok.media, he.ok.text, he.ok.sector, he.ok.fuse, he.ok.lose, he.ok.stray⟩
      have h6 := he2.c6
      have hf6 := he2.fz 6
      have he3 := he2.set 6 (.int .i64 ((0 : Nat) : Int)) ((D.puts (fated D fs)).emptied.calm) rfl rfl rfl ⟨he.ok.n8, he.ok.n4096, he.ok.s128, he.ok.s1024, he.ok.media, he.ok.text, he.ok.sector, by simp [Dv.calm], he.ok.lose, he.ok.stray⟩
      have HE := Lib.hid he3
      have HC := Lib.hid (((hc.setCell (p := ⟨p, 3, none⟩) (fun _ => .inl rfl) (.slice none 0 0)).setCell (p := ⟨p, 5, none⟩) (fun _ => .inl rfl) (.bool false)).setCell (p := ⟨p, 6, none⟩) (fun _ => .inl rfl) (.int .i64 ((0 : Nat) : Int)))
      clear hc hd hwh he he2 he3
      go_wp2_with fail
      refine (set_any p 6 0 0 _ _ rfl h6 hf6).mono ?_
      rintro e w' ⟨rfl, rfl⟩
      go_wp2
      go_end0
      exact ⟨rfl, Now.empty HC.out HE.out⟩
end Go.Proofs.YtflanjcfkdjpjaaGreatDoor.Dev


/- Contracts for layer 3's laws: full, wakes. -/
namespace Go.Proofs.YtflanjcfkdjpjaaGreatDoor.Dev
open Go.RowKit Go.Proofs.YtflanjcfkdjpjaaGreatDoor
set_option linter.unusedVariables false

def stars : ByteArray := ⟨(Lib.repeatL [42] 128).toArray⟩
def fullN (s : ByteArray) : ByteArray := (s ++ stars).extract 0 128
/-- the device D is at p, all that it has lies from B on; below B nothing is another one -/
def Own9 (w0 : World) (p : Nat) (D : Dv) (w : World) : Prop := ∃ sb cv, DevAt w p sb cv D ∧ (∀ k, foot p sb cv k → w0.heap.size ≤ k) ∧ Below w0.heap.size w0 w
theorem Own9.later {w0 w w' : World} {p : Nat} {D : Dv} (h : Own9 w0 p D w) (hb : Below w.heap.size w w') : Own9 w0 p D w' := by
  obtain ⟨sb, cv, hd, hf, hbb⟩ := h
  exact ⟨sb, cv, hd.below hb (Nat.le_refl _), hf, hbb.trans (hb.mono hbb.size)⟩
theorem Own9.below {w0 w : World} {p : Nat} {D : Dv} (h : Own9 w0 p D w) : Below w0.heap.size w0 w := by obtain ⟨_, _, _, _, hb⟩ := h; exact hb
def txtA : ByteArray := fullN ⟨#[97]⟩
def D1 : Dv := (Dv.fresh 9 128).counted.push ((2 : Nat) : Int) txtA
def D2 : Dv := { D1 with nr := bump 0 }
end Go.Proofs.YtflanjcfkdjpjaaGreatDoor.Dev


/- Contracts for layer 3's laws: the calls of a device that the law itself made. -/
namespace Go.Proofs.YtflanjcfkdjpjaaGreatDoor.Dev
open Go.RowKit Go.Proofs.YtflanjcfkdjpjaaGreatDoor
set_option linter.unusedVariables false
theorem Own9.drewN {w0 w : World} {p : Nat} {D : Dv} (h : Own9 w0 p D w) (n : Nat) : Own9 w0 p D (w.drewN n) := by
  obtain ⟨sb, cv, hd, hf, hb⟩ := h
  exact ⟨sb, cv, hd.drewN n, hf, ⟨hb.os, hb.tape, hb.output, hb.size, hb.block⟩⟩
end Go.Proofs.YtflanjcfkdjpjaaGreatDoor.Dev


/- Layer 7 (remap): Write, Stick, Kill, Alive, Replace, and what is refused, of a pair of devices without faults but bad sectors. -/
namespace Go.Proofs.YtflanjcfkdjpjaaGreatDoor.Rem
open Go Go.RowKit Go.Proofs.YtflanjcfkdjpjaaGreatDoor Dev Tab
set_option linter.unusedVariables false

section
variable {w0 w w' : World} {X : List Nat} {q c : Nat} {pd : Nat → Nat} {S : Nat → Sd} {s : Nat}
/-- a write of a block to a device -/
theorem dwr_c (h : CP w0 X q pd S c w) (hs : s < 2) {i : Nat} (hi4 : 4 ≤ i) (hi : i < 24) {t : ByteArray} (ht : t.size = 192) (hc : c ≤ 1000000) (v : Int) (hv : v = i) (p : Nat) (hp : p = pd s) :
    Calls Tryz.prog 132 #[.pointer (some ⟨p, 0, none⟩), .int .i64 v, .string t] w fun e w' => e = .returned (.int .i64 (if (S s).B i then 7 else 0)) ∧ CP w0 X q pd (setS S s (if (S s).B i then (S s).V else upd (S s).V i t) (S s).B) (if (S s).B i then c else c + 1) w' ∧ Same (q :: X) w w' := by
  subst hv
  obtain ⟨D, h1, h2⟩ := h.both
  refine (dwrite_e h1 hs (by have := (h2.cd s hs).cache; omega) i t (by omega) p hp).mono ?_
  rintro e w' ⟨rfl, hc', hsm⟩
  have hrd : ∀ V', (∀ j, j < 4 → V' j = (S s).V j) → Slots (setS S s V' (S s).B) := fun V' hV => by
    have hr : ∀ t, t < 2 → ∀ k, k < 2 → ∀ j, j < 2 → rdS (setS S s V' (S s).B) t k j = rdS S t k j := fun t ht k hk j hj => by
      unfold rdS
      by_cases e : (if k = 0 then t else 1 - t) = s
      · rw [e, setS_same]; exact hV _ (by omega)
      · rw [setS_ne _ _ _ e]
    refine ⟨fun t ht => by rw [setS_m]; exact h.slots.1 t ht, fun t ht j hj => ?_, fun t ht => ?_⟩
    · by_cases e : t = s
      · subst e; rw [setS_same]; exact h.slots.2.1 t ht j hj
      · rw [setS_ne _ _ _ e]; exact h.slots.2.1 t ht j hj
    · obtain ⟨r1, r2⟩ := h.slots.2.2 t ht
      refine ⟨fun k hk => ?_, fun k hk j hj m' h' => ?_⟩
      · rw [setS_m, hr t ht k hk _ (Nat.mod_lt _ (by omega))]; exact r1 k hk
      · rw [setS_m]; rw [hr t ht k hk j hj] at h'; exact r2 k hk j hj m' h'
  cases hb : (S s).B i with
  | false =>
    obtain ⟨r1, r2⟩ := (h2.cd s hs).write hi ht hb
    exact ⟨by rw [r1]; rfl, ⟨by simpa using hc'.set h2.cd r2 (Nat.le_succ c), hrd _ fun j hj => by simp; exact upd_ne _ _ (by omega)⟩, hsm⟩
  | true =>
    obtain ⟨r1, r2⟩ := (h2.cd s hs).write_bad hi ht hb
    exact ⟨by rw [r1]; rfl, ⟨by simpa using hc'.set h2.cd r2 (Nat.le_refl c), hrd _ fun j hj => by simp⟩, hsm⟩
/-- in the middle of Write -/
def Mid (S S1 : Nat → Sd) (s b : Nat) : Prop := S1 = S ∨ (Moved S S1 s b ∧ (S s).B (pl (S s) b) = true ∧ (S s).m.length < 4)
theorem pl_push' {x y : Sd} {b : Nat} (h : y.m = x.m ++ [(b : Int)]) : pl y b = 20 + x.m.length := by
  unfold pl; rw [h, plc_snoc, if_pos rfl]; omega
/-- a sector that is bad: nothing was moved yet -/
theorem Mid.start {S1 : Nat → Sd} {b : Nat} (h : Mid S S1 s b) (hf : Spare (S s)) (hb : (S1 s).B (pl (S1 s) b) = true) : S1 = S := by
  rcases h with h | ⟨h1, h2, h3⟩
  · exact h
  · rw [pl_push' h1.2.2.2, h1.2.1] at hb
    have := hf (S s).m.length (Nat.le_refl _) h3
    rw [this] at hb; cases hb
theorem Mid.done {S1 : Nat → Sd} {b : Nat} {d : ByteArray} (h : Mid S S1 s b) (hb : (S1 s).B (pl (S1 s) b) = false) : wrE (S s) b = 0 ∧ Wr S (setS S1 s (upd (S1 s).V (pl (S1 s) b) d) (S1 s).B) s b d := by
  have hpl : pl (setS S1 s (upd (S1 s).V (pl (S1 s) b) d) (S1 s).B s) b = pl (S1 s) b := by unfold pl; rw [setS_m]
  rcases h with rfl | ⟨h1, h2, h3⟩
  · refine ⟨by unfold wrE; rw [if_neg (by rw [hb]; simp)], fun t ht hne => ?_, by rw [setS_same], ?_, fun _ => ?_, fun i hi h => ?_⟩
    · rw [setS_ne _ _ _ hne]; exact ⟨rfl, rfl, fun _ _ => rfl⟩
    · rw [setS_m, if_neg (by rw [hb]; simp)]
    · rw [hpl, setS_same]; exact upd_same _ _ _
    · rw [hpl] at h
      rw [setS_same]
      rcases h with h | h
      · exact upd_ne _ _ h
      · exact absurd (by unfold wrE; rw [if_neg (by rw [hb]; simp)]) h
  · obtain ⟨m1, m2, m3, m4⟩ := h1
    refine ⟨by unfold wrE; rw [if_neg (by omega)], fun t ht hne => ?_, by rw [setS_same]; exact m2, ?_, fun _ => ?_, fun i hi h => ?_⟩
    · rw [setS_ne _ _ _ hne]; exact m1 t ht hne
    · rw [setS_m, if_pos ⟨h2, h3⟩]; exact m4
    · rw [hpl, setS_same]; exact upd_same _ _ _
    · rw [hpl] at h
      rw [setS_same]
      rcases h with h | h
      · show upd _ _ _ _ = _; rw [upd_ne _ _ h]; exact m3 i hi
      · exact absurd (by unfold wrE; rw [if_neg (by omega)]) h
theorem tl_cnt (l : List Int) : (tl 16 4 l)[2]? = some (.int .i64 l.length) := rfl
set_option maxHeartbeats 1000000 in
set_option maxRecDepth 100000 in
theorem write_c (h : CP w0 X q pd S c w) (hs : s < 2) {b : Nat} (hb : b < 16) {d : ByteArray} (hd : d.size = 192) (hc : c ≤ 900000) (hf : Spare (S s)) : Calls Tryz.prog 110 #[.pointer (some ⟨q, 0, none⟩), .int .i64 (s : Nat), .int .i64 (b : Nat), .string d] w fun e w' => ∃ S', e = .returned (.int .i64 (wrE (S s) b)) ∧ Wr S S' s b d ∧ CP w0 X q pd S' (c + 4) w' ∧ Same X w w' := by
  have HC0 := Lib.hid h
  have HF := Lib.hid hf
  have HS := Lib.hid hs
  have HBB := Lib.hid hb
  have HCC := Lib.hid hc
  have HDD := Lib.hid hd
  obtain ⟨p, hp⟩ : ∃ p, p = pd s := ⟨_, rfl⟩
  have HP := Lib.hid hp
  have hs0 : 0 ≤ (s : Int) := by omega
  have hs2 : (s : Int) < 2 := by omega
  clear h hf hc hp hb hs hd
  go_enter Tryz.func110, Tryz.ntmps110
  go_wp2_with fail
  go_loopw [11] (fun _ wr => ∃ S1, Mid S S1 s b ∧ CP w0 X q pd S1 c wr ∧ Same X w wr) (fun _ wr => 4 - (match wr.cell? ⟨q, 2 + 35 * s + 2, none⟩ with | some v => (intOf v).toNat | none => 0))
  case atStart => exact ⟨S, .inl rfl, HC0.out, Same.refl _ _⟩
  case round =>
    obtain ⟨S1, hmid, hcp, hsm⟩ := hrel
    clear HC0
    have HM := Lib.hid hmid
    have HC := Lib.hid hcp
    have HSM := Lib.hid hsm
    have hcnt := Lib.hid (hcp.pb.tab HS.out 2 _ (tl_cnt _))
    clear hmid hcp hsm
    have hg := HC.out.good HS.out
    have hat := at_yes (n := 16) (m := (S1 s).m) (b := (b : Int)) (by omega) (by have := HBB.out; omega)
    have HA := Lib.hid hat
    have hpb := pl_bd hg HBB.out
    have HPL := Lib.hid hpb
    obtain ⟨v, hv⟩ : ∃ v : Int, v = (pl (S1 s) b : Nat) := ⟨_, rfl⟩
    have HV := Lib.hid hv
    have hlen := hg.len
    have HLEN := Lib.hid hlen
    clear hg hat hpb hv hlen
    go_wp2_with fail
    refine (sector_e HC.out.pb HS.out (HC.out.good HS.out) b).mono ?_
    rintro e w1 ⟨rfl, hb1⟩
    rw [show atE 16 (b : Int) = 0 from HA.out.2.1, show 4 + atN 16 (mOf S1 s) (b : Int) = v from by rw [show atN 16 (mOf S1 s) (b : Int) = plc 16 (S1 s).m b from HA.out.2.2, HV.out]; exact HPL.out.2.2.symm]
    have HC1 := Lib.hid (HC.out.later hb1)
    have HS1 := Lib.hid (HSM.out.trans (Same.of_below HC.out hb1))
    have c1 := HC1.out.pb.dev HS.out
    rw [← HP.out] at c1
    clear hb1
    go_wp2_with fail
    clear c1
    refine (dwr_c HC1.out HS.out HPL.out.1 (by have := HPL.out.2.1; have := HLEN.out; omega) HDD.out (by have := HCC.out; omega) v HV.out p HP.out).mono ?_
    rintro e w2 ⟨rfl, hc2, hsm⟩
    cases hbad : (S1 s).B (pl (S1 s) b) with
    | false =>
      obtain ⟨d1, d2⟩ := HM.out.done (d := d) hbad
      rw [hbad] at hc2
      have HC2 := Lib.hid (show CP w0 X q pd (setS S1 s (upd (S1 s).V (pl (S1 s) b) d) (S1 s).B) (c + 1) w2 from hc2)
      have HD2 := Lib.hid d2
      have HE := Lib.hid d1
      have HS2 := Lib.hid (HS1.out.trans (fun j hj => hsm j (by simp [hj]) : Same X w1 w2))
      clear hc2 hsm hbad d1 d2 HC HC1
      go_wp2_with fail
      go_ret
      exact ⟨_, by rw [HE.out]; rfl, HD2.out, HC2.out.mono (by omega), HS2.out⟩
    | true =>
      obtain rfl := HM.out.start HF.out hbad
      rw [hbad] at hc2
      have hself : setS S1 s (if true = true then (S1 s).V else upd (S1 s).V (pl (S1 s) b) d) (S1 s).B = S1 := by rw [if_pos rfl]; exact setS_self S1 s
      rw [hself, if_pos rfl] at hc2
      have HC2 := Lib.hid hc2
      have HS2 := Lib.hid (HS1.out.trans (fun j hj => hsm j (by simp [hj]) : Same X w1 w2))
      have HBAD := Lib.hid hbad
      clear hc2 hsm hbad HC1
      go_wp2_with fail
      refine (move_c0 HC2.out HS.out HBB.out (by have := HCC.out; omega)).mono ?_
      rintro e w3 ⟨S3, rfl, m1, m2, hc3, hsm⟩
      have HS3 := Lib.hid (HS2.out.trans hsm)
      have HC3 := Lib.hid hc3
      by_cases hm : (S1 s).m.length < 4
      · rw [if_pos hm]
        have HMV := Lib.hid (m1 hm)
        have HLT := Lib.hid hm
        clear m1 m2 hc3 hsm hm HC HC2
        go_wp2_with fail
        go_roundw
        case rel => exact ⟨S3, .inr ⟨HMV.out, HBAD.out, HLT.out⟩, HC3.out, HS3.out⟩
        case measure =>
          have e1 := HC3.out.pb.tab HS.out 2 _ (tl_cnt _)
          have e0 := hcnt.out
          simp only [e0, e1, intOf, Int.toNat_natCast]
          have := HLT.out
          rw [show (mOf S3 s).length = (S1 s).m.length + 1 by show (S3 s).m.length = _; rw [HMV.out.2.2.2]; simp]
          rw [show (mOf S1 s).length = (S1 s).m.length from rfl]
          omega
      · rw [if_neg hm]
        have HEQ := Lib.hid (m2 hm)
        have HLT := Lib.hid hm
        clear m1 m2 hc3 hsm hm HC HC2
        go_wp2_with fail
        go_ret
        have hE : wrE (S1 s) b = 9 := by unfold wrE; rw [if_pos ⟨HBAD.out, by have := HLT.out; omega⟩]
        have h3 := HEQ.out
        subst h3
        refine ⟨S3, by rw [hE]; rfl, ⟨fun t ht hne => ⟨rfl, rfl, fun _ _ => rfl⟩, rfl, by rw [if_neg (fun h => HLT.out h.2)], (fun h => by rw [hE] at h; cases h), fun i _ _ => rfl⟩, HC3.out.mono (by omega), HS3.out⟩
/-! ### Stick -/
/-! ### one device is gone -/
/-- the same, but side k's device is gone -/
def CPd (w0 : World) (X : List Nat) (q : Nat) (pd : Nat → Nat) (S : Nat → Sd) (k c : Nat) (w : World) : Prop :=
  ∃ D, CPe w0 X q pd (mOf S) D w ∧ (∀ s, s < 2 → s ≠ k → Cd (D s) 24 192 (S s).V (S s).B c) ∧ ((D k).dead = true ∧ (D k).n = 24 ∧ (D k).size = 192 ∧ (D k).cache.length ≤ c) ∧ Slots S
theorem CPd.later {k : Nat} (h : CPd w0 X q pd S k c w) (hb : Below w.heap.size w w') : CPd w0 X q pd S k c w' := by
  obtain ⟨D, h1, h2, h3, h4⟩ := h
  exact ⟨D, h1.later hb, h2, h3, h4⟩
/-! ### what is refused -/
end
end Go.Proofs.YtflanjcfkdjpjaaGreatDoor.Rem


/- Rows of bytes that the call made: how they read, how they are stored into, how they become a text, and how a text becomes one. -/
namespace Go.Proofs.YtflanjcfkdjpjaaGreatDoor
open Go.RowKit
set_option linter.unusedVariables false

def strOf (l : List UInt8) : ByteArray := ⟨l.toArray⟩
theorem strOf_data (l : List UInt8) : (strOf l).data.toList = l := rfl
theorem strOf_size (l : List UInt8) : (strOf l).size = l.length := rfl
theorem foldl_push (l : List Int) : ∀ s : ByteArray, l.foldl (fun r n => r.push (UInt8.ofNat n.toNat)) s = ⟨s.data ++ (l.map fun n => UInt8.ofNat n.toNat).toArray⟩ := by
  induction l with
  | nil => intro s; simp
  | cons x l ih => intro s; rw [List.foldl_cons, ih]; simp [ByteArray.push]
def u8V (b : UInt8) : Value := .int .u8 b.toNat

/-- Block g holds, from its beginning on, the bytes xs, and may be written there. -/
structure BRow (w : World) (g : Nat) (xs : List UInt8) : Prop where
  at_ : ∀ j, j < xs.length → w.cell? ⟨g, j, none⟩ = some (.int .u8 (xs.getD j 0).toNat)
  froz : ∀ j, j < xs.length → w.frozen? ⟨g, j, none⟩ = false
theorem BRow.below {w w' : World} {g B : Nat} {xs : List UInt8} (h : BRow w g xs) (hb : Below B w w') (hB : g < B) : BRow w' g xs :=
  ⟨fun j hj => by rw [hb.cell hB]; exact h.at_ j hj, fun j hj => by rw [hb.frozen hB]; exact h.froz j hj⟩
theorem BRow.drewN {w : World} {g : Nat} {xs : List UInt8} (h : BRow w g xs) (n : Nat) : BRow (w.drewN n) g xs := ⟨h.at_, h.froz⟩
theorem BRow.own {w : World} {B : Nat} {g n cap : Nat} {xs : List UInt8} (h : w.ownsRow B 5 1 (.slice (some ⟨g, 0, none⟩) n cap) n (xs.map u8V)) : BRow w g xs := by
  have hl : xs.length = n := by have := h.1; simpa using this
  refine ⟨fun j hj => ?_, fun j hj => h.frozenAt j⟩
  rw [h.cellAt j (by omega), List.getElem?_map, List.getElem?_eq_getElem hj, List.getD_eq_getElem?_getD, List.getElem?_eq_getElem hj]; rfl
theorem BRow.set {w : World} {g : Nat} {xs : List UInt8} (h : BRow w g xs) (j : Nat) (hj : j < xs.length) (b : UInt8) : BRow (w.setCell ⟨g, j, none⟩ (.int .u8 b.toNat)) g (xs.set j b) := by
  refine ⟨fun k hk => ?_, fun k hk => ?_⟩
  · rw [List.length_set] at hk
    by_cases e : j = k
    · subst e
      rw [World.cell?_setCell_same w _ _ (h.at_ j hj), List.getD_eq_getElem?_getD, List.getElem?_set_self hj]; rfl
    · rw [World.cell?_setCell_other w _ _ _ (by intro h'; simp only [Addr.mk.injEq] at h'; exact e h'.2.1), h.at_ k hk]
      rw [List.getD_eq_getElem?_getD, List.getD_eq_getElem?_getD, List.getElem?_set_ne e]
  · rw [List.length_set] at hk
    rw [World.frozen?_setCell]
    exact h.froz k hk
/-- 'string(b)'. -/
theorem run_string_brow (w : World) (g cap n : Nat) (xs : List UInt8) (h : BRow w g xs) (hn : n = xs.length) :
    (convert 44 9 (.slice (some ⟨g, 0, none⟩) n cap)).run Tryz.prog w = .ok (.string (strOf xs)) w := by
  subst hn
  rw [run_convert_bytes_string w _ _ _ _ _ _ Tryz.underlying44 Tryz.underlying5 Tryz.underlying9]
  have hc := run_loadCells_list (P := Tryz.prog) (w := w) ⟨g, 0, none⟩ (xs.map u8V) (by
    intro j u hu
    have hj : j < xs.length := by have := (List.getElem?_eq_some_iff.1 hu).1; simpa using this
    rw [Addr.add_lit, Nat.zero_add, h.at_ j hj]
    rw [List.getElem?_map, List.getElem?_eq_getElem hj] at hu
    rw [List.getD_eq_getElem?_getD, List.getElem?_eq_getElem hj]
    exact hu)
  rw [List.length_map] at hc
  have e : xs.map u8V = (xs.map fun b => (b.toNat : Int)).map (Value.int .u8) := by simp [u8V]
  rw [e] at hc
  rw [run_bytesToString w _ _ _ _ hc, foldl_push]
  have ef : ((fun n : Int => UInt8.ofNat n.toNat) ∘ fun b : UInt8 => (b.toNat : Int)) = id := by funext b; simp
  simp [strOf, ByteArray.empty, ByteArray.emptyWithCapacity, ef]
  rfl
theorem BRow.one (w : World) (b : UInt8) (e : TypeId) : BRow (w.alloc (.cells #[.int .u8 b.toNat] e)) w.heap.size [b] := by
  refine ⟨fun j hj => ?_, fun j hj => ?_⟩
  · match j, hj with
    | 0, _ => simp
  · simp
/-- '[]byte(s)'. -/
theorem run_bytes_brow (w : World) (s : ByteArray) :
    (convert 9 44 (.string s)).run Tryz.prog w = .ok (.slice (some ⟨w.heap.size, 0, none⟩) s.size (grownCap w s.size 0 5)) (Lib.bytesWorld w 5 s) :=
  Lib.run_convert_string_bytes w _ _ _ s Tryz.underlying9 Tryz.underlying44 Tryz.underlying5
theorem below_bytesWorld (w : World) (e : TypeId) (s : ByteArray) : Below w.heap.size w (Lib.bytesWorld w e s) :=
  ⟨rfl, rfl, rfl, by rw [Lib.bytesWorld_size]; omega, fun k hk => Lib.bytesWorld_at_old w e s k hk⟩
theorem brow_bytesWorld (w : World) (s : ByteArray) (e : TypeId) : BRow (Lib.bytesWorld w e s) w.heap.size s.data.toList := by
  refine ⟨fun j hj => Lib.bytesWorld_cell w e s j (by simpa using hj), fun j hj => ?_⟩
  have hj' : j < s.size := by simpa using hj
  have h : j < (Lib.bytesCells w e s).size := by simp [Lib.bytesCells]; omega
  simp only [World.frozen?, Lib.bytesWorld_at_new]
  simp
  omega
theorem info_u8 : (Tryz.prog.info? 5).map (fun i => (i.zero, i.size, i.bytes)) = some (some (.int .u8 0), 1, 1) := by kernel_rfl
end Go.Proofs.YtflanjcfkdjpjaaGreatDoor


/- Layer 3: a garbled byte, as plain data and in memory. -/
namespace Go.Proofs.YtflanjcfkdjpjaaGreatDoor.Dev
open Go Go.RowKit Go.Proofs.YtflanjcfkdjpjaaGreatDoor
set_option linter.unusedVariables false

def turnB (s : ByteArray) (j : Nat) (b : UInt8) : ByteArray := strOf (s.data.toList.set j (s.data.toList.getD j 0 ^^^ b))
theorem turnB_size (s : ByteArray) (j : Nat) (b : UInt8) : (turnB s j b).size = s.size := by
  unfold turnB; rw [strOf_size, List.length_set]; simp
def gF (i a : Nat) (b : UInt8) (x : Nat × ByteArray) : Nat × ByteArray := if x.1 = i then (x.1, turnB x.2 a b) else x
def Dv.turnM (D : Dv) (i a : Nat) (b : UInt8) : Dv := match D.secs[i]? with | some s => { D with secs := D.secs.set i (turnB s.1 a b, s.2) } | none => D
def Dv.turnC (D : Dv) (i a : Nat) (b : UInt8) (k : Nat) : Dv := { D with cache := (D.cache.take k).map (gF i a b) ++ D.cache.drop k }
def Dv.garbleD (D : Dv) (i at' : Int) (b : UInt8) : Dv := if hasB D i = false ∨ at' < 0 then D else (D.turnM i.toNat (at'.toNat % D.size) b).turnC i.toNat (at'.toNat % D.size) b D.cache.length
theorem Dv.turnM_eq (D : Dv) (i a : Nat) (b : UInt8) (hi : i < D.n) : D.turnM i a b = { D with secs := D.secs.set i (turnB (D.secs[i]'hi).1 a b, (D.secs[i]'hi).2) } := by
  unfold Dv.turnM; rw [List.getElem?_eq_getElem hi]
theorem Dv.turnM_ok (D : Dv) (i a : Nat) (b : UInt8) (hi : i < D.n) (ok : D.Ok) : (D.turnM i a b).Ok := by
  rw [D.turnM_eq i a b hi]
  have hn : (D.secs.set i (turnB (D.secs[i]'hi).1 a b, (D.secs[i]'hi).2)).length = D.n := by rw [List.length_set]; rfl
  have hm := ok.media _ (List.getElem_mem hi)
  refine ⟨?_, ?_, ok.s128, ok.s1024, ?_, ok.text, ?_, ok.fuse, ok.lose, ok.stray⟩
  · show 8 ≤ List.length _; rw [hn]; exact ok.n8
  · show List.length _ ≤ 4096; rw [hn]; exact ok.n4096
  · intro x hx
    rcases List.mem_or_eq_of_mem_set hx with hx | hx
    · exact ok.media x hx
    · subst hx; simp only; rw [turnB_size, hm]
  · intro x hx; show x.1 < List.length _; rw [hn]; exact ok.sector x hx
theorem Dv.turnC_zero (D : Dv) (i a : Nat) (b : UInt8) : D.turnC i a b 0 = D := by unfold Dv.turnC; rw [List.take_zero, List.drop_zero]; rfl
theorem Dv.turnC_len (D : Dv) (i a : Nat) (b : UInt8) (k : Nat) (hk : k ≤ D.cache.length) : (D.turnC i a b k).cache.length = D.cache.length := by
  show ((D.cache.take k).map (gF i a b) ++ D.cache.drop k).length = _
  rw [List.length_append, List.length_map, List.length_take, List.length_drop]; omega
theorem Dv.turnC_get (D : Dv) (i a : Nat) (b : UInt8) (k : Nat) (hk : k ≤ D.cache.length) : (D.turnC i a b k).cache[k]? = D.cache[k]? := by
  show ((D.cache.take k).map (gF i a b) ++ D.cache.drop k)[k]? = _
  rw [List.getElem?_append_right (by rw [List.length_map, List.length_take]; omega), List.length_map, List.length_take, List.getElem?_drop, show k + (k - min k D.cache.length) = k by omega]
theorem Dv.turnC_next (D : Dv) (i a : Nat) (b : UInt8) (k : Nat) (x : Nat × ByteArray) (hx : D.cache[k]? = some x) : D.turnC i a b (k + 1) = { D.turnC i a b k with cache := (D.turnC i a b k).cache.set k (gF i a b x) } := by
  have hk : k < D.cache.length := by
    rcases Nat.lt_or_ge k D.cache.length with h | h
    · exact h
    · rw [List.getElem?_eq_none h] at hx; cases hx
  have hxe : D.cache[k] = x := by rw [List.getElem?_eq_getElem hk] at hx; exact Option.some.inj hx
  unfold Dv.turnC
  simp only
  rw [List.set_append_right _ _ (by rw [List.length_map, List.length_take]; omega), List.length_map, List.length_take, show k - min k D.cache.length = 0 by omega, take_snoc' _ _ hk, List.map_append, hxe, List.append_assoc, List.drop_eq_getElem_cons hk]
  rfl
theorem Dv.turnC_same (D : Dv) (i a : Nat) (b : UInt8) (k : Nat) (x : Nat × ByteArray) (hx : D.cache[k]? = some x) (hi : ¬ x.1 = i) : D.turnC i a b (k + 1) = D.turnC i a b k := by
  have hk : k < D.cache.length := by
    rcases Nat.lt_or_ge k D.cache.length with h | h
    · exact h
    · rw [List.getElem?_eq_none h] at hx; cases hx
  rw [D.turnC_next i a b k x hx]
  have e : (D.turnC i a b k).cache.set k (gF i a b x) = (D.turnC i a b k).cache := by
    apply List.ext_getElem?
    intro j
    by_cases e : k = j
    · subst e
      rw [List.getElem?_set_self (by rw [D.turnC_len i a b k (by omega)]; exact hk), D.turnC_get i a b k (by omega), hx]
      unfold gF; rw [if_neg hi]
    · rw [List.getElem?_set_ne e]
  rw [e]
theorem Dv.retext_ok (D : Dv) (k : Nat) (x : Nat × ByteArray) (hx : D.cache[k]? = some x) (t : ByteArray) (ht : t.size = D.size) (ok : D.Ok) : ({ D with cache := D.cache.set k (x.1, t) } : Dv).Ok := by
  refine ⟨ok.n8, ok.n4096, ok.s128, ok.s1024, ok.media, ?_, ?_, ok.fuse, ok.lose, ok.stray⟩
  · intro y hy
    rcases List.mem_or_eq_of_mem_set hy with hy | hy
    · exact ok.text y hy
    · subst hy; exact ht
  · intro y hy
    rcases List.mem_or_eq_of_mem_set hy with hy | hy
    · exact ok.sector y hy
    · subst hy; exact ok.sector x (List.mem_of_getElem? hx)
theorem flatW_retext (l : List (Nat × ByteArray)) (k : Nat) (x : Nat × ByteArray) (hx : l[k]? = some x) (t : ByteArray) : (flatW l).set (k * 2 + 1) (.string t) = flatW (l.set k (x.1, t)) := by
  have hk : k < l.length := by
    rcases Nat.lt_or_ge k l.length with h | h
    · exact h
    · rw [List.getElem?_eq_none h] at hx; cases hx
  unfold flatW
  apply flat2_ext
  · rw [List.length_set, List.length_set, flat2_len]
  · intro j hj
    rw [List.length_set] at hj
    rw [List.getElem?_set_ne (by omega), flat2_get0]
    by_cases e : k = j
    · subst e; rw [List.getElem?_set_self hk, hx]; rfl
    · rw [List.getElem?_set_ne e]
  · intro j hj
    rw [List.length_set] at hj
    by_cases e : k = j
    · subst e; rw [List.getElem?_set_self (by rw [flat2_len]; omega), List.getElem?_set_self hk]; rfl
    · rw [List.getElem?_set_ne (by omega), List.getElem?_set_ne e, flat2_get1]
section
variable {w : World} {p sb g cap n : Nat} {D : Dv}
theorem DevAt.retext (h : DevAt w p sb (.slice (some ⟨g, 0, none⟩) n cap) D) (hn : n = D.cache.length) (k : Nat) (x : Nat × ByteArray) (hx : D.cache[k]? = some x) (t : ByteArray) (ht : t.size = D.size) :
    DevAt (w.setCell ⟨g, k * 2 + 1, none⟩ (.string t)) p sb (.slice (some ⟨g, 0, none⟩) n cap) { D with cache := D.cache.set k (x.1, t) } := by
  have hlen : (D.cache.set k (x.1, t)).length = D.cache.length := List.length_set
  have hc := h.cache
  rw [← hn] at hc
  have hst := (hc.stored (k * 2 + 1) (.string t)).1
  rw [flatW_retext _ k x hx] at hst
  refine ⟨h.main.setOther (a := ⟨g, k * 2 + 1, none⟩) (fun e => h.cp (congrArg some e)) _, h.secs.setOther (a := ⟨g, k * 2 + 1, none⟩) (fun e => h.cs (congrArg some e)) _, ?_, h.ps, h.cp, h.cs, D.retext_ok k x hx t ht h.ok⟩
  show World.ownsRow _ _ _ _ _ (List.length _) _
  rw [hlen, ← hn]; exact hst
theorem DevAt.ctfz (h : DevAt w p sb (.slice (some ⟨g, 0, none⟩) n cap) D) (hn : n = D.cache.length) (k : Nat) : w.frozen? ⟨g, k, none⟩ = false := by
  have hc := h.cache
  rw [← hn] at hc
  exact hc.frozenAt k
end
end Go.Proofs.YtflanjcfkdjpjaaGreatDoor.Dev


/- Layer 7 (remap), as layer 8 asks of it: garbled bytes, and sides that are gone. -/
namespace Go.Proofs.YtflanjcfkdjpjaaGreatDoor.Rem
open Go Go.RowKit Go.Proofs.YtflanjcfkdjpjaaGreatDoor Dev Tab
set_option linter.unusedVariables false

/-! ### one byte is another one -/
theorem medG_turn (D : Dv) (i a : Nat) (b : UInt8) (j : Nat) (hi : i < D.n) : medG (D.turnM i a b) j = if j = i then turnB (medG D i) a b else medG D j := by
  rw [D.turnM_eq i a b hi]
  unfold medG
  by_cases e : j = i
  · subst e
    rw [if_pos rfl]
    simp only [List.getElem?_set_self hi, List.getElem?_eq_getElem hi, Option.map_some, Option.getD_some]
  · rw [if_neg e]
    simp only [List.getElem?_set_ne (fun h => e h.symm)]
theorem find_gF (l : List (Nat × ByteArray)) (i a : Nat) (b : UInt8) (j : Nat) : ((l.map (gF i a b)).find? fun x => x.1 == j) = (l.find? fun x => x.1 == j).map (gF i a b) := by
  rw [List.find?_map]
  congr 1
  congr 1
  funext x
  show ((gF i a b x).1 == j) = _
  unfold gF; split <;> rfl
theorem reads_garble (D : Dv) (i a : Nat) (b : UInt8) (j : Nat) (hi : i < D.n) (hh : hasB D (i : Nat) = true) : (D.garbleD (i : Nat) (a : Nat) b).reads j = if j = i then turnB (D.reads i) (a % D.size) b else D.reads j := by
  have e : D.garbleD (i : Nat) (a : Nat) b = (D.turnM i (a % D.size) b).turnC i (a % D.size) b D.cache.length := by
    unfold Dv.garbleD; rw [if_neg (by rintro (h | h); · { rw [hh] at h; cases h }; · omega), Int.toNat_natCast, Int.toNat_natCast]
  rw [e, reads_med]
  have hc : ((D.turnM i (a % D.size) b).turnC i (a % D.size) b D.cache.length).cache = D.cache.map (gF i (a % D.size) b) := by
    rw [D.turnM_eq i _ b hi]
    show (D.cache.take D.cache.length).map _ ++ D.cache.drop D.cache.length = _
    rw [List.take_length, List.drop_length, List.append_nil]
  have hm : medG ((D.turnM i (a % D.size) b).turnC i (a % D.size) b D.cache.length) j = medG (D.turnM i (a % D.size) b) j := rfl
  rw [hc, hm, medG_turn D i _ b j hi, ← List.map_reverse, find_gF, reads_med D j]
  by_cases ej : j = i
  · subst ej
    rw [if_pos rfl, if_pos rfl, reads_med D j]
    cases hf : D.cache.reverse.find? fun x => x.1 == j with
    | none => rfl
    | some x =>
      have := List.find?_some hf
      have hx : x.1 = j := by simpa using this
      show (gF j _ b x).2 = turnB x.2 _ b
      unfold gF; rw [if_pos hx]
  · rw [if_neg ej, if_neg ej]
    cases hf : D.cache.reverse.find? fun x => x.1 == j with
    | none => rfl
    | some x =>
      have := List.find?_some hf
      have hx : x.1 = j := by simpa using this
      show (gF i _ b x).2 = x.2
      unfold gF; rw [if_neg (by omega)]
section
variable {D : Dv} {N Z c : Nat} {V : Nat → ByteArray} {B : Nat → Bool}
theorem Cd.garble (h : Cd D N Z V B c) {i : Nat} (hi : i < N) (a : Nat) (b : UInt8) : Cd (D.garbleD (i : Nat) (a : Nat) b) N Z (upd V i (turnB (V i) (a % Z) b)) B c := by
  have hk : i < D.n := by rw [h.n]; exact hi
  have e : D.garbleD (i : Nat) (a : Nat) b = (D.turnM i (a % D.size) b).turnC i (a % D.size) b D.cache.length := by
    unfold Dv.garbleD; rw [if_neg (by rintro (hx | hx); · { rw [h.has hi] at hx; cases hx }; · omega), Int.toNat_natCast, Int.toNat_natCast]
  have hvis := reads_garble D i a b
  rw [e] at hvis ⊢
  rw [D.turnM_eq i _ b hk] at hvis ⊢
  refine ⟨h.dead, h.off, h.fuse, h.lose, h.stray, ?_, h.size, fun j hj => ?_, fun j hj => ?_, ?_⟩
  · show (D.secs.set i _).length = N; rw [List.length_set]; exact h.n
  · rw [hvis j hk (h.has hi)]
    by_cases ej : j = i
    · subst ej; rw [if_pos rfl, upd_same, h.vis j hj, h.size]
    · rw [if_neg ej, upd_ne _ _ ej, h.vis j hj]
  · rw [← h.bad j hj]
    show ((((D.secs.set i _))[(j : Int).toNat]?).map (·.2)).getD false = ((D.secs[(j : Int).toNat]?).map (·.2)).getD false
    rw [Int.toNat_natCast]
    by_cases ej : j = i
    · subst ej; rw [List.getElem?_set_self hk, List.getElem?_eq_getElem hk]; rfl
    · rw [List.getElem?_set_ne (fun hx => ej hx.symm)]
  · show ((D.cache.take D.cache.length).map _ ++ D.cache.drop D.cache.length).length ≤ c
    rw [List.take_length, List.drop_length, List.append_nil, List.length_map]; exact h.cache
end
/-! ### a write that needs no spare, whatever the devices are -/
section
variable {w0 w w' : World} {X : List Nat} {q c : Nat} {pd : Nat → Nat} {m : Nat → List Int} {D : Nat → Dv} {s : Nat}
set_option maxRecDepth 100000 in
theorem write1_e (h : CPe w0 X q pd m D w) (hs : s < 2) (hg : Tab.Good 16 4 (m s)) (hl : (D s).cache.length ≤ 1000000) {b : Nat} (hb : b < 16) {t : ByteArray} (ht : t.size ≤ 1000000) (hE : (D s).writeE (sec m s b) t ≠ 7) :
    Calls Tryz.prog 110 #[.pointer (some ⟨q, 0, none⟩), .int .i64 (s : Nat), .int .i64 (b : Nat), .string t] w fun e w' => e = .returned (.int .i64 ((D s).writeE (sec m s b) t)) ∧ CPe w0 X q pd m (upd D s ((D s).writeD (sec m s b) t)) w' ∧ Same (q :: X) w w' := by
  have HC := Lib.hid h
  have HG := Lib.hid hg
  have HL := Lib.hid hl
  have HT := Lib.hid ht
  obtain ⟨p, hp⟩ : ∃ p, p = pd s := ⟨_, rfl⟩
  have HP := Lib.hid hp
  have hat := at_yes (n := 16) (m := m s) (b := (b : Int)) (by omega) (by omega)
  have HA := Lib.hid hat
  obtain ⟨v, hv⟩ : ∃ v, v = sec m s b := ⟨_, rfl⟩
  have HV := Lib.hid hv
  rw [← hv] at hE ⊢
  obtain ⟨e0, he⟩ : ∃ e, e = (D s).writeE v t := ⟨_, rfl⟩
  have HE := Lib.hid he
  rw [← he] at hE ⊢
  have hs0 : 0 ≤ (s : Int) := by omega
  have hs2 : (s : Int) < 2 := by omega
  clear h hg hl hat hv hp ht he
  go_enter Tryz.func110, Tryz.ntmps110
  go_wp2_with fail
  go_loopw [11] (fun _ wr => wr = w) (fun _ _ => 0)
  case atStart => rfl
  case round =>
    subst hrel
    go_wp2_with fail
    refine (sector_e HC.out.pb hs HG.out b).mono ?_
    rintro e w1 ⟨rfl, hb1⟩
    rw [HA.out.2.1, HA.out.2.2, show 4 + plc 16 (m s) (b : Int) = v from HV.out.symm]
    have HC1 := Lib.hid (HC.out.later hb1)
    have HS1 := Lib.hid (same_below HC.out hb1)
    have c1 := HC1.out.pb.dev hs
    rw [← HP.out] at c1
    clear hb1 HC
    go_wp2_with fail
    clear c1
    refine (dwrite_e HC1.out hs HL.out v t HT.out p HP.out).mono ?_
    rintro e w2 ⟨rfl, hc, hsm⟩
    rw [← HE.out]
    have HC2 := Lib.hid hc
    have HS2 := Lib.hid (HS1.out.trans hsm)
    clear hc hsm
    go_wp2
    go_ret
    exact ⟨rfl, HC2.out, HS2.out⟩
end
/-! ### a pair, of which sides may be gone -/
/-- a side: gone, or without faults but bad sectors -/
def SideG (D : Dv) (x : Sd) (g : Bool) (c : Nat) : Prop := if g = true then D.dead = true ∧ D.off = false ∧ D.n = 24 ∧ D.size = 192 ∧ D.cache.length ≤ c else Cd D 24 192 x.V x.B c
theorem SideG.mono {D : Dv} {x : Sd} {g : Bool} {c d : Nat} (h : SideG D x g c) (hd : c ≤ d) : SideG D x g d := by
  unfold SideG at h ⊢
  cases g
  · exact Cd.mono h hd
  · exact ⟨h.1, h.2.1, h.2.2.1, h.2.2.2.1, Nat.le_trans h.2.2.2.2 hd⟩
theorem SideG.cache {D : Dv} {x : Sd} {g : Bool} {c : Nat} (h : SideG D x g c) : D.cache.length ≤ c := by
  unfold SideG at h
  cases g
  · exact Cd.cache h
  · exact h.2.2.2.2
theorem SideG.size {D : Dv} {x : Sd} {g : Bool} {c : Nat} (h : SideG D x g c) : D.size = 192 := by
  unfold SideG at h
  cases g
  · exact Cd.size h
  · exact h.2.2.2.1
theorem SideG.refuse {D : Dv} {x : Sd} {c : Nat} (h : SideG D x true c) : refuse D = 8 := by
  have h : D.dead = true ∧ D.off = false ∧ _ := h
  unfold Dev.refuse; rw [h.2.1, h.1]; rfl
theorem SideG.dead {D : Dv} {x : Sd} {g : Bool} {c : Nat} (h : SideG D x g c) : D.dead = g := by
  unfold SideG at h
  cases g
  · exact Cd.dead h
  · exact h.1
theorem SideG.n {D : Dv} {x : Sd} {g : Bool} {c : Nat} (h : SideG D x g c) : D.n = 24 := by
  unfold SideG at h
  cases g
  · exact Cd.n h
  · exact h.2.2.1
theorem Slots.setS {S : Nat → Sd} {s : Nat} (h : Slots S) {V : Nat → ByteArray} {B : Nat → Bool} (hV : ∀ j, j < 4 → V j = (S s).V j) (hB : ∀ j, j < 4 → B j = false) : Slots (setS S s V B) := by
  have hr : ∀ t, t < 2 → ∀ k, k < 2 → ∀ j, j < 2 → rdS (Rem.setS S s V B) t k j = rdS S t k j := fun t ht k hk j hj => by
    unfold rdS
    by_cases e : (if k = 0 then t else 1 - t) = s
    · rw [e, setS_same]; exact hV _ (by omega)
    · rw [setS_ne _ _ _ e]
  refine ⟨fun t ht => by rw [setS_m]; exact h.1 t ht, fun t ht j hj => ?_, fun t ht => ?_⟩
  · by_cases e : t = s
    · subst e; rw [setS_same]; exact hB j hj
    · rw [setS_ne _ _ _ e]; exact h.2.1 t ht j hj
  · obtain ⟨r1, r2⟩ := h.2.2 t ht
    refine ⟨fun k hk => ?_, fun k hk j hj m' h' => ?_⟩
    · rw [setS_m, hr t ht k hk _ (Nat.mod_lt _ (by omega))]; exact r1 k hk
    · rw [setS_m]; rw [hr t ht k hk j hj] at h'; exact r2 k hk j hj m' h'
/-- the pair at q, of which the sides that G tells are gone; else as CP -/
structure CG (w0 : World) (X : List Nat) (q : Nat) (pd : Nat → Nat) (S : Nat → Sd) (G : Nat → Bool) (c : Nat) (w : World) : Prop where
  raw : ∃ D, CPe w0 X q pd (mOf S) D w ∧ ∀ s, s < 2 → SideG (D s) (S s) (G s) c
  slots : Slots S
section
variable {w0 w w' : World} {X Y : List Nat} {q c : Nat} {pd : Nat → Nat} {S : Nat → Sd} {G : Nat → Bool} {s : Nat}
theorem CP.cg (h : CP w0 X q pd S c w) : CG w0 X q pd S (fun _ => false) c w := by
  obtain ⟨⟨D, h1, h2⟩, h3⟩ := h; exact ⟨⟨D, h1, h2⟩, h3⟩
theorem CG.cp (h : CG w0 X q pd S G c w) (h0 : G 0 = false) (h1 : G 1 = false) : CP w0 X q pd S c w := by
  obtain ⟨⟨D, e1, e2⟩, e3⟩ := h
  refine ⟨⟨D, e1, fun s hs => ?_⟩, e3⟩
  have := e2 s hs
  rcases (show s = 0 ∨ s = 1 by omega) with rfl | rfl
  · rw [h0] at this; exact this
  · rw [h1] at this; exact this
theorem CG.x (h : CG w0 X q pd S G c w) : ∀ k ∈ X, w0.heap.size ≤ k ∧ k < w.heap.size := by obtain ⟨D, h1, h2⟩ := h.raw; exact h1.x
theorem CG.below (h : CG w0 X q pd S G c w) : Below w0.heap.size w0 w := by obtain ⟨D, h1, h2⟩ := h.raw; exact h1.below
theorem CG.pb (h : CG w0 X q pd S G c w) : PB w q pd (mOf S) := by obtain ⟨D, h1, h2⟩ := h.raw; exact h1.pb
theorem CG.good (h : CG w0 X q pd S G c w) {s : Nat} (hs : s < 2) : Tab.Good 16 4 (S s).m := h.slots.1 s hs
theorem CG.chg (h : CG w0 X q pd S G c w) (hc : Chg (fun k => k ∈ X) w w') : CG w0 X q pd S G c w' := by
  obtain ⟨⟨D, h1, h2⟩, h3⟩ := h; exact ⟨⟨D, h1.chg hc, h2⟩, h3⟩
theorem CG.later (h : CG w0 X q pd S G c w) (hb : Below w.heap.size w w') : CG w0 X q pd S G c w' := h.chg (Chg.of_below hb (Nat.le_refl _))
theorem CG.mono (h : CG w0 X q pd S G c w) {d : Nat} (hd : c ≤ d) : CG w0 X q pd S G d w := by
  obtain ⟨⟨D, h1, h2⟩, h3⟩ := h; exact ⟨⟨D, h1, fun s hs => (h2 s hs).mono hd⟩, h3⟩
theorem CG.new (h : CG w0 X q pd S G c w) (o : Obj) : CG w0 (w.heap.size :: X) q pd S G c (w.alloc o) := by
  obtain ⟨⟨D, h1, h2⟩, h3⟩ := h; exact ⟨⟨D, h1.new o, h2⟩, h3⟩
theorem CG.sub (h : CG w0 X q pd S G c w) (hY : ∀ k ∈ Y, k ∈ X) : CG w0 Y q pd S G c w := by
  obtain ⟨⟨D, h1, h2⟩, h3⟩ := h; exact ⟨⟨D, h1.sub hY, h2⟩, h3⟩
theorem Same.of_belowG (h : CG w0 X q pd S G c w) (hb : Below w.heap.size w w') : Same X w w' := fun k hk => hb.block k (h.x k hk).2
theorem CPe.setG {D : Nat → Dv} {E : Dv} {V : Nat → ByteArray} {B : Nat → Bool} {d : Nat} {g : Bool} (h1 : CPe w0 X q pd (mOf S) (upd D s E) w) (h2 : ∀ t, t < 2 → SideG (D t) (S t) (G t) c) (hE : SideG E ⟨V, B, (S s).m⟩ g d) (hd : c ≤ d) :
    ∃ D', CPe w0 X q pd (mOf (setS S s V B)) D' w ∧ ∀ t, t < 2 → SideG (D' t) (setS S s V B t) (upd G s g t) d := by
  refine ⟨upd D s E, by rw [mOf_setS]; exact h1, fun t ht => ?_⟩
  by_cases e : t = s
  · subst e; rw [upd_same, setS_same, upd_same]; exact hE
  · rw [upd_ne _ _ e, setS_ne _ _ _ e, upd_ne _ _ e]; exact (h2 t ht).mono hd
theorem upd_self {α : Type} (f : Nat → α) (i : Nat) : upd f i (f i) = f := by
  funext j; unfold upd; split
  · rename_i h; rw [h]
  · rfl
theorem alive_g (h : CG w0 X q pd S G c w) (hs : s < 2) : Calls Tryz.prog 97 #[.pointer (some ⟨q, 0, none⟩), .int .i64 (s : Nat)] w fun e w' => e = .returned (.bool (!(G s))) ∧ w = w' := by
  obtain ⟨⟨D, h1, h2⟩, h3⟩ := h
  refine (alive_e h1 hs).mono ?_
  rintro e w' ⟨rfl, rfl⟩
  exact ⟨by rw [(h2 s hs).dead], rfl⟩
/-- what Read answers -/
def rdGE (S : Nat → Sd) (G : Nat → Bool) (s b : Nat) : Int := if G s then 8 else if (S s).B (pl (S s) b) then 7 else 0
def rdGT (S : Nat → Sd) (G : Nat → Bool) (s b : Nat) : ByteArray := if rdGE S G s b = 0 then (S s).V (pl (S s) b) else ⟨#[]⟩
theorem read_g (h : CG w0 X q pd S G c w) (hs : s < 2) {b : Nat} (hb : b < 16) (hc : c ≤ 1000000) : Calls Tryz.prog 120 #[.pointer (some ⟨q, 0, none⟩), .int .i64 (s : Nat), .int .i64 (b : Nat)] w fun e w' => e = .returned (.tuple #[.string (rdGT S G s b), .int .i64 (rdGE S G s b)]) ∧ CG w0 X q pd S G c w' ∧ Same X w w' := by
  have hg := h.good hs
  obtain ⟨⟨D, h1, h2⟩, h3⟩ := h
  have hp := pl_bd hg hb
  have hD := h2 s hs
  refine (read_e h1 hs hg (by have := hD.cache; omega) hb).mono ?_
  rintro e w' ⟨rfl, hc', hsm⟩
  rw [sec_pl hg hb] at hc' ⊢
  cases hG : G s with
  | true =>
    rw [hG] at hD
    have hE : (D s).readE (pl (S s) b : Nat) = 8 := by unfold Dv.readE; rw [hD.refuse]; rfl
    have hR : (D s).readD (pl (S s) b : Nat) = D s := by unfold Dv.readD; rw [hE]; rfl
    have hT : (D s).readT (pl (S s) b : Nat) = ⟨#[]⟩ := by unfold Dv.readT; rw [hE]; rfl
    have hr : rdGE S G s b = 8 := by unfold rdGE; rw [hG]; rfl
    rw [hR, upd_self] at hc'
    refine ⟨?_, ⟨⟨D, hc', h2⟩, h3⟩, fun k hk => hsm k (by simp [hk])⟩
    unfold rdGT; rw [hE, hT, hr]; rfl
  | false =>
    rw [hG] at hD
    have hD : Cd (D s) 24 192 (S s).V (S s).B c := hD
    obtain ⟨r1, r2, r3, r4⟩ := hD.read (i := pl (S s) b) (by have := hg.len; omega)
    have hr : rdGE S G s b = if (S s).B (pl (S s) b) then 7 else 0 := by unfold rdGE; rw [hG]; rfl
    have := CPe.setG (g := false) hc' h2 (show SideG ((D s).readD (pl (S s) b : Nat)) ⟨(S s).V, (S s).B, (S s).m⟩ false c from r4) (Nat.le_refl _)
    rw [setS_self, show upd G s false = G from by rw [← hG]; exact upd_self _ _] at this
    refine ⟨?_, ⟨this, h3⟩, fun k hk => hsm k (by simp [hk])⟩
    unfold rdGT; rw [hr, r1]
    cases hb : (S s).B (pl (S s) b) with
    | false => rw [r2 hb]; simp
    | true => rw [r3 hb]; simp
/-- what a write leaves that needs no spare -/
def wrG (S : Nat → Sd) (G : Nat → Bool) (s b : Nat) (d : ByteArray) : Nat → Sd := if G s then S else setS S s (upd (S s).V (pl (S s) b) d) (S s).B
theorem write_g (h : CG w0 X q pd S G c w) (hs : s < 2) {b : Nat} (hb : b < 16) {d : ByteArray} (hd : d.size = 192) (hc : c ≤ 1000000) (hB : G s = false → (S s).B (pl (S s) b) = false) : Calls Tryz.prog 110 #[.pointer (some ⟨q, 0, none⟩), .int .i64 (s : Nat), .int .i64 (b : Nat), .string d] w fun e w' => e = .returned (.int .i64 (if G s then 8 else 0)) ∧ CG w0 X q pd (wrG S G s b d) G (c + 1) w' ∧ Same X w w' := by
  have hg := h.good hs
  obtain ⟨⟨D, h1, h2⟩, h3⟩ := h
  have hp := pl_bd hg hb
  have hD := h2 s hs
  cases hG : G s with
  | true =>
    rw [hG] at hD
    have hE : (D s).writeE (sec (mOf S) s b) d = 8 := by unfold Dv.writeE; rw [hD.refuse]; rfl
    have hR : (D s).writeD (sec (mOf S) s b) d = D s := by unfold Dv.writeD; rw [hD.refuse]; rfl
    refine (write1_e h1 hs hg (by have := hD.cache; omega) hb (by omega) (by rw [hE]; decide)).mono ?_
    rintro e w' ⟨rfl, hc', hsm⟩
    rw [hR, upd_self] at hc'
    refine ⟨by rw [hE]; rfl, ?_, fun k hk => hsm k (by simp [hk])⟩
    unfold wrG; rw [hG, if_pos rfl]
    exact ⟨⟨D, hc', fun t ht => (h2 t ht).mono (by omega)⟩, h3⟩
  | false =>
    rw [hG] at hD
    have hD : Cd (D s) 24 192 (S s).V (S s).B c := hD
    have hpl : pl (S s) b < 24 := by have := hg.len; omega
    obtain ⟨r1, r2⟩ := hD.write hpl hd (hB hG)
    rw [← sec_pl hg hb] at r1 r2
    refine (write1_e h1 hs hg (by have := hD.cache; omega) hb (by omega) (by rw [r1]; decide)).mono ?_
    rintro e w' ⟨rfl, hc', hsm⟩
    have := CPe.setG (g := false) hc' h2 (show SideG ((D s).writeD (sec (mOf S) s b) d) ⟨upd (S s).V (pl (S s) b) d, (S s).B, (S s).m⟩ false (c + 1) from r2) (Nat.le_succ c)
    rw [show upd G s false = G from by rw [← hG]; exact upd_self _ _] at this
    refine ⟨by rw [r1]; rfl, ?_, fun k hk => hsm k (by simp [hk])⟩
    unfold wrG; rw [hG, if_neg (by decide)]
    exact ⟨this, h3.setS (fun j hj => upd_ne _ _ (by omega)) (fun j hj => h3.2.1 s hs j hj)⟩
end
end Go.Proofs.YtflanjcfkdjpjaaGreatDoor.Rem


/- Contracts of layer 3 and its reference: a byte of a text is another one. -/
namespace Go.Proofs.YtflanjcfkdjpjaaGreatDoor.Dev
open Go Go.RowKit Go.Proofs.YtflanjcfkdjpjaaGreatDoor
set_option linter.unusedVariables false

theorem xor_u8 (x y : UInt8) : bits .xor .u8 (x.toNat : Int) (y.toNat : Int) = ((x ^^^ y).toNat : Int) := by
  rw [u8_xor_nat _ _ x.toNat_lt y.toNat_lt, UInt8.toNat_xor]
theorem garbled_any (s : ByteArray) (j : Nat) (b : UInt8) (w : World) (hj : j < s.size) (hs : s.size ≤ 1000000) :
    Calls Tryz.prog 48 #[.string s, .int .i64 (j : Nat), .int .u8 b.toNat] w fun e w' => e = .returned (.string (turnB s j b)) ∧ Below w.heap.size w w' := by
  have hcv := run_bytes_brow w s
  have hbr := brow_bytesWorld w s 5
  have hbl := below_bytesWorld w 5 s
  obtain ⟨wb, hwb⟩ : ∃ wb, wb = Lib.bytesWorld w 5 s := ⟨_, rfl⟩
  obtain ⟨cap, hcap⟩ : ∃ cap, cap = grownCap w s.size 0 5 := ⟨_, rfl⟩
  rw [← hwb] at hcv hbr hbl
  rw [← hcap] at hcv
  have hl : s.data.toList.length = s.size := by simp
  have hc := hbr.at_ j (by rw [hl]; exact hj)
  have hf := hbr.froz j (by rw [hl]; exact hj)
  have hji : (j : Int) < (s.size : Int) := by omega
  obtain ⟨x, hx⟩ : ∃ x, x = s.data.toList.getD j 0 := ⟨_, rfl⟩
  rw [← hx] at hc
  have hset := hbr.set j (by rw [hl]; exact hj) (x ^^^ b)
  have hcv2 := run_string_brow _ w.heap.size cap s.size _ hset (by rw [List.length_set, hl])
  rw [← xor_u8] at hcv2
  have HT := Lib.hid (show turnB s j b = strOf (s.data.toList.set j (x ^^^ b)) by rw [hx]; rfl)
  have HB := Lib.hid (show Below w.heap.size w (wb.setCell ⟨w.heap.size, j, none⟩ (.int .u8 (bits .xor .u8 (x.toNat : Int) (b.toNat : Int)))) from hbl.setCell (by simp) _)
  clear hbr hbl hwb hcap hset hx
  go_enter Tryz.func48, Tryz.ntmps48
  go_wp2_with fail
  go_ret
  exact ⟨by rw [HT.out]; rfl, HB.out⟩
end Go.Proofs.YtflanjcfkdjpjaaGreatDoor.Dev


/- Contracts of layer 3: Garble. -/
namespace Go.Proofs.YtflanjcfkdjpjaaGreatDoor.Dev
open Go Go.RowKit Go.Proofs.YtflanjcfkdjpjaaGreatDoor
set_option linter.unusedVariables false

/-- the device is one of two -/
def DTwo (w0 : World) (p sb : Nat) (cv : Value) (D D' : Dv) (b : Bool) (w : World) : Prop := DevAt w p sb cv (if b then D' else D) ∧ Chg (foot p sb cv) w0 w
section
variable {w0 w : World} {p sb : Nat} {cv : Value} {D D' : Dv} {b : Bool}
theorem DTwo.at (h : DTwo w0 p sb cv D D' b w) (hb : b = false) : DevAt w p sb cv D := by subst hb; exact h.1
theorem DTwo.c2 (h : DTwo w0 p sb cv D D' b w) (hn : D'.n = D.n) : w.cell? ⟨p, 2, none⟩ = some (.slice (some ⟨sb, 0, none⟩) D.n D.n) := by
  have := h.1.c2
  cases b
  · exact this
  · rw [← hn]; exact this
theorem DTwo.below {w' : World} (h : DTwo w0 p sb cv D D' b w) (hb : Below w.heap.size w w') : DTwo w0 p sb cv D D' b w' :=
  ⟨h.1.below hb (Nat.le_refl _), h.2.trans (Chg.of_below (R := fun _ => False) hb (Nat.le_refl _)) (fun _ _ h => h.elim)⟩
end

set_option maxRecDepth 100000 in
set_option maxHeartbeats 4000000 in
theorem garble_any {p sb : Nat} {cv : Value} {D : Dv} (i at' : Int) (b : UInt8) (w : World) (h : DevAt w p sb cv D) (hl : D.cache.length ≤ 1000000000) :
    Calls Tryz.prog 23 #[.pointer (some ⟨p, 0, none⟩), .int .i64 i, .int .i64 at', .int .u8 b.toNat] w fun e w' => e = .returned (.tuple #[]) ∧ Chg (foot p sb cv) w w' ∧ DevAt w' p sb cv (D.garbleD i at' b) := by
  have hn4 := h.ok.n4096
  have HD := Lib.hid h
  cases hh : hasB D i with
  | false =>
    have e3 : D.garbleD i at' b = D := by unfold Dv.garbleD; rw [if_pos (.inl hh)]
    rw [e3]
    have HH := Lib.hid hh
    clear h e3 hh
    go_enter Tryz.func23, Tryz.ntmps23
    go_wp2_with fail
    refine (has_any i _ HD.out).mono ?_
    rintro e w' ⟨rfl, rfl⟩
    rw [HH.out]
    go_wp2_with fail
    refine bodyPost_ret (results_none rfl _ _ _) rfl ?_
    exact ⟨rfl, Chg.refl _ _, HD.out⟩
  | true =>
    have hrr : 0 ≤ i ∧ i < D.n := by unfold hasB at hh; simpa using hh
    obtain ⟨q, rfl⟩ := Int.eq_ofNat_of_zero_le hrr.1
    have hq : q < D.n := by omega
    have hqi : (q : Int) < (D.n : Int) := by omega
    have HH := Lib.hid hh
    by_cases hat : at' < 0
    · have e3 : D.garbleD q at' b = D := by unfold Dv.garbleD; rw [if_pos (.inr hat)]
      rw [e3]
      clear h e3 hh hrr
      go_enter Tryz.func23, Tryz.ntmps23
      go_wp2_with fail
      refine (has_any q _ HD.out).mono ?_
      rintro e w' ⟨rfl, rfl⟩
      rw [HH.out]
      go_wp2_with fail
      refine bodyPost_ret (results_none rfl _ _ _) rfl ?_
      exact ⟨rfl, Chg.refl _ _, HD.out⟩
    · obtain ⟨a0, rfl⟩ := Int.eq_ofNat_of_zero_le (show 0 ≤ at' by omega)
      obtain ⟨sa, cap, hcv, hsa⟩ := h.cv_slice
      subst hcv
      obtain ⟨n, hn⟩ : ∃ n, n = D.cache.length := ⟨_, rfl⟩
      rw [← hn] at HD h hl hsa ⊢
      have HND := Lib.hid hn.symm
      have c1 := h.c1
      have hs1 := h.ok.s128
      have hs2 := h.ok.s1024
      obtain ⟨j, hj⟩ : ∃ j, j = a0 % D.size := ⟨_, rfl⟩
      have hjl : j < D.size := by rw [hj]; exact Nat.mod_lt _ (by omega)
      have hjr : Int.tmod (a0 : Int) (D.size : Int) = (j : Int) := by rw [hj]; rfl
      have hs0 : ¬ (D.size : Int) = 0 := by omega
      have HJ := Lib.hid hj
      have e3 : D.garbleD q a0 b = (D.turnM q j b).turnC q j b D.cache.length := by
        unfold Dv.garbleD; rw [if_neg (by rintro (h | h); · { rw [hh] at h; cases h }; · omega), Int.toNat_natCast, Int.toNat_natCast, ← hj]
      rw [e3]
      have hmz := h.ok.media _ (List.getElem_mem hq)
      obtain ⟨m, hm⟩ : ∃ m, m = (D.secs[q]'hq).1 := ⟨_, rfl⟩
      rw [← hm] at hmz
      have HNN := Lib.hid (show (D.turnM q j b).n = D.n by rw [D.turnM_eq q j b hq]; show List.length _ = _; rw [List.length_set]; rfl)
      have HM := Lib.hid (show ∀ X, DevAt X p sb (.slice sa n cap) D → DevAt (X.setCell ⟨sb, q * 2, none⟩ (.string (turnB m j b))) p sb (.slice sa n cap) (D.turnM q j b) from
        fun X hX => hX.setMedia q hq _ _ (by rw [hm]; exact D.turnM_eq q j b hq) (D.turnM_ok q j b hq h.ok))
      have HME := Lib.hid (show ∀ X, DevAt X p sb (.slice sa n cap) D → X.cell? ⟨sb, q * 2, none⟩ = some (.string m) from fun X hX => by rw [hm]; exact hX.media q hq)
      have HMZ := Lib.hid hmz
      have HJL := Lib.hid hjl
      clear h e3 hm hmz hj hjl hn hh hrr
      go_enter Tryz.func23, Tryz.ntmps23
      go_wp2_with fail
      refine (has_any q _ HD.out).mono ?_
      rintro e w' ⟨rfl, rfl⟩
      rw [HH.out]
      go_wp2_with fail
      have H0 := Lib.hid (show DTwo w p sb (.slice sa n cap) D (D.turnM q j b) false w.drew from ⟨HD.out.drew, (Chg.refl _ _).drew⟩)
      refine Reg.region_vals (by kernel_rfl) [(25, .pointer (some ⟨p, 0, none⟩)), (26, .pointer (some ⟨p, 0, none⟩)), (27, .pointer (some ⟨p, 2, none⟩)), (28, .slice (some ⟨sb, 0, none⟩) D.n D.n), (29, .int .i64 (q : Nat)), (30, .pointer (some ⟨p, 0, none⟩)), (31, .pointer (some ⟨p, 0, none⟩)), (32, .pointer (some ⟨p, 2, none⟩)), (33, .slice (some ⟨sb, 0, none⟩) D.n D.n), (34, .int .i64 (q : Nat)), (35, .pointer (some ⟨sb, q * 2, none⟩)), (36, .pointer (some ⟨sb, q * 2, none⟩)), (37, .string m), (38, .int .i64 (j : Nat)), (39, .int .u8 b.toNat), (40, .string (turnB m j b)), (41, .pointer (some ⟨sb, q * 2, none⟩)), (42, .pointer (some ⟨sb, q * 2, none⟩))] (fun l wx => DTwo w p sb (.slice sa n cap) D (D.turnM q j b) (l 18) wx ∧ (l 18 = true → l 15 = true) ∧ (l 15 = true → l 12 = true)) (by kernel_rfl) (by kernel_rfl) (by kernel_rfl) (⟨H0.out, fun h => h, fun h => h⟩) ⟨?_, ?_, ?_, ?_, ?_, ?_, ?_, ?_, ?_, ?_, ?_, ?_, ?_, ?_, ?_, ?_, ?_, ?_, ?_, trivial⟩ ?hend
      · skip
        intro aq wq lq hI hl hdone hlater hold hd ho
        have h0 : aq.tmps.getD 0 undef = .pointer (some ⟨p, 0, none⟩) := ho 0 (by kernel_rfl)
        clear hd ho hdone hlater hold
        exact Reg.step2_move (.tmp 0) rfl h0 hI trivial
      · skip
        intro aq wq lq hI hl hdone hlater hold hd ho
        have h25 : aq.tmps.getD 25 undef = .pointer (some ⟨p, 0, none⟩) := hd 25 (by kernel_rfl)
        clear hd ho hdone hlater hold
        rw [Array.getD_eq_getD_getElem?] at h25
        refine Reg.step2_val (.pointer (some ⟨p, 0, none⟩)) ?_ rfl hI trivial
        go_simp
      · skip
        intro aq wq lq hI hl hdone hlater hold hd ho
        have h26 : aq.tmps.getD 26 undef = .pointer (some ⟨p, 0, none⟩) := hd 26 (by kernel_rfl)
        clear hd ho hdone hlater hold
        rw [Array.getD_eq_getD_getElem?] at h26
        refine Reg.step2_val (.pointer (some ⟨p, 2, none⟩)) ?_ rfl hI trivial
        go_simp
      · skip
        intro aq wq lq hI hl hdone hlater hold hd ho
        have h27 : aq.tmps.getD 27 undef = .pointer (some ⟨p, 2, none⟩) := hd 27 (by kernel_rfl)
        clear hd ho hdone hlater hold
        rw [Array.getD_eq_getD_getElem?] at h27
        have e0 := hI.1.c2 HNN.out
        refine Reg.step2_val (.slice (some ⟨sb, 0, none⟩) D.n D.n) ?_ rfl hI trivial
        go_simp
      · skip
        intro aq wq lq hI hl hdone hlater hold hd ho
        have h1 : aq.tmps.getD 1 undef = .int .i64 (q : Nat) := ho 1 (by kernel_rfl)
        clear hd ho hdone hlater hold
        exact Reg.step2_move (.tmp 1) rfl h1 hI trivial
      · skip
        intro aq wq lq hI hl hdone hlater hold hd ho
        have h0 : aq.tmps.getD 0 undef = .pointer (some ⟨p, 0, none⟩) := ho 0 (by kernel_rfl)
        clear hd ho hdone hlater hold
        exact Reg.step2_move (.tmp 0) rfl h0 hI trivial
      · skip
        intro aq wq lq hI hl hdone hlater hold hd ho
        have h30 : aq.tmps.getD 30 undef = .pointer (some ⟨p, 0, none⟩) := hd 30 (by kernel_rfl)
        clear hd ho hdone hlater hold
        rw [Array.getD_eq_getD_getElem?] at h30
        refine Reg.step2_val (.pointer (some ⟨p, 0, none⟩)) ?_ rfl hI trivial
        go_simp
      · skip
        intro aq wq lq hI hl hdone hlater hold hd ho
        have h31 : aq.tmps.getD 31 undef = .pointer (some ⟨p, 0, none⟩) := hd 31 (by kernel_rfl)
        clear hd ho hdone hlater hold
        rw [Array.getD_eq_getD_getElem?] at h31
        refine Reg.step2_val (.pointer (some ⟨p, 2, none⟩)) ?_ rfl hI trivial
        go_simp
      · skip
        intro aq wq lq hI hl hdone hlater hold hd ho
        have h32 : aq.tmps.getD 32 undef = .pointer (some ⟨p, 2, none⟩) := hd 32 (by kernel_rfl)
        clear hd ho hdone hlater hold
        rw [Array.getD_eq_getD_getElem?] at h32
        have e0 := hI.1.c2 HNN.out
        refine Reg.step2_val (.slice (some ⟨sb, 0, none⟩) D.n D.n) ?_ rfl hI trivial
        go_simp
      · skip
        intro aq wq lq hI hl hdone hlater hold hd ho
        have h1 : aq.tmps.getD 1 undef = .int .i64 (q : Nat) := ho 1 (by kernel_rfl)
        clear hd ho hdone hlater hold
        exact Reg.step2_move (.tmp 1) rfl h1 hI trivial
      · skip
        intro aq wq lq hI hl hdone hlater hold hd ho
        have h33 : aq.tmps.getD 33 undef = .slice (some ⟨sb, 0, none⟩) D.n D.n := hd 33 (by kernel_rfl)
        have h34 : aq.tmps.getD 34 undef = .int .i64 (q : Nat) := hd 34 (by kernel_rfl)
        clear hd ho hdone hlater hold
        rw [Array.getD_eq_getD_getElem?] at h33 h34
        refine Reg.step2_val (.pointer (some ⟨sb, q * 2, none⟩)) ?_ rfl hI trivial
        go_simp
      · skip
        intro aq wq lq hI hl hdone hlater hold hd ho
        have h35 : aq.tmps.getD 35 undef = .pointer (some ⟨sb, q * 2, none⟩) := hd 35 (by kernel_rfl)
        clear hd ho hdone hlater hold
        rw [Array.getD_eq_getD_getElem?] at h35
        refine Reg.step2_val (.pointer (some ⟨sb, q * 2, none⟩)) ?_ rfl hI trivial
        go_simp
      · skip
        intro aq wq lq hI hl hdone hlater hold hd ho
        have h36 : aq.tmps.getD 36 undef = .pointer (some ⟨sb, q * 2, none⟩) := hd 36 (by kernel_rfl)
        clear hd ho hdone hlater hold
        rw [Array.getD_eq_getD_getElem?] at h36
        have g15 : lq 15 = false := by cases h : lq 15 with | false => rfl | true => have := hI.2.2 h; rw [hl] at this; cases this
        have g18 : lq 18 = false := by cases h : lq 18 with | false => rfl | true => have := hI.2.1 h; rw [g15] at this; cases this
        have e0 := HME.out _ (hI.1.at g18)
        refine Reg.step2_val (.string m) ?_ rfl ⟨hI.1, hI.2.1, fun _ => rfl⟩ trivial
        clear hI
        go_simp
      · skip
        intro aq wq lq hI hl hdone hlater hold hd ho
        have h2 : aq.tmps.getD 2 undef = .int .i64 (j : Nat) := ho 2 (by kernel_rfl)
        clear hd ho hdone hlater hold
        exact Reg.step2_move (.tmp 2) rfl h2 hI trivial
      · skip
        intro aq wq lq hI hl hdone hlater hold hd ho
        have h3 : aq.tmps.getD 3 undef = .int .u8 b.toNat := ho 3 (by kernel_rfl)
        clear hd ho hdone hlater hold
        exact Reg.step2_move (.tmp 3) rfl h3 hI trivial
      · skip
        intro aq wq lq hI hl hdone hlater hold hd ho
        have h37 : aq.tmps.getD 37 undef = .string m := hd 37 (by kernel_rfl)
        have h38 : aq.tmps.getD 38 undef = .int .i64 (j : Nat) := hd 38 (by kernel_rfl)
        have h39 : aq.tmps.getD 39 undef = .int .u8 b.toNat := hd 39 (by kernel_rfl)
        have gd12 : lq 12 = true := hdone 12 (by kernel_rfl)
        clear hd ho hdone hlater hold
        rw [Array.getD_eq_getD_getElem?] at h37 h38 h39
        refine Reg.step2_call 48 #[.string m, .int .i64 (j : Nat), .int .u8 b.toNat] ?_ ((garbled_any m j b wq (by rw [HMZ.out]; exact HJL.out) (by rw [HMZ.out]; omega)).mono ?_)
        · simp [execOp]
          go_simp
        · rintro e w' ⟨rfl, hb⟩
          exact ⟨_, rfl, rfl, ⟨hI.1.below hb, fun _ => rfl, fun _ => gd12⟩, trivial⟩
      · skip
        intro aq wq lq hI hl hdone hlater hold hd ho
        have h28 : aq.tmps.getD 28 undef = .slice (some ⟨sb, 0, none⟩) D.n D.n := hd 28 (by kernel_rfl)
        have h29 : aq.tmps.getD 29 undef = .int .i64 (q : Nat) := hd 29 (by kernel_rfl)
        clear hd ho hdone hlater hold
        rw [Array.getD_eq_getD_getElem?] at h28 h29
        refine Reg.step2_val (.pointer (some ⟨sb, q * 2, none⟩)) ?_ rfl hI trivial
        go_simp
      · skip
        intro aq wq lq hI hl hdone hlater hold hd ho
        have h41 : aq.tmps.getD 41 undef = .pointer (some ⟨sb, q * 2, none⟩) := hd 41 (by kernel_rfl)
        clear hd ho hdone hlater hold
        rw [Array.getD_eq_getD_getElem?] at h41
        refine Reg.step2_val (.pointer (some ⟨sb, q * 2, none⟩)) ?_ rfl hI trivial
        go_simp
      · skip
        intro aq wq lq hI hl hdone hlater hold hd ho
        have h42 : aq.tmps.getD 42 undef = .pointer (some ⟨sb, q * 2, none⟩) := hd 42 (by kernel_rfl)
        have h40 : aq.tmps.getD 40 undef = .string (turnB m j b) := hd 40 (by kernel_rfl)
        have gd15 : lq 15 = true := hdone 15 (by kernel_rfl)
        clear hd ho hdone hlater hold
        rw [Array.getD_eq_getD_getElem?] at h42 h40
        have hJ := hI.1
        have hK := hI.2.2
        clear hI
        rw [show lq 18 = false from hl] at hJ
        have e0 := HME.out _ hJ.1
        have f0 := DevAt.sfz hJ.1 (q * 2)
        refine Reg.step2_skip (wq.setCell ⟨sb, q * 2, none⟩ (.string (turnB m j b))) rfl ?_ ⟨⟨HM.out _ hJ.1, hJ.2.setCell (p := ⟨sb, q * 2, none⟩) (fun _ => .inr (.inl rfl)) _⟩, fun _ => gd15, hK⟩ trivial
        clear hJ hK
        simp [execOp]
        go_simp
      case hend =>
      intro wx hI
      simp only [Reg.fill, List.foldl_cons, List.foldl_nil, List.setIfInBounds_toArray, List.set_cons_zero, List.set_cons_succ]
      obtain ⟨hd1, hc1⟩ : DevAt wx p sb (.slice sa n cap) (D.turnM q j b) ∧ Chg (foot p sb (.slice sa n cap)) w wx := hI.1
      obtain ⟨E, hE⟩ : ∃ E, E = D.turnM q j b := ⟨_, rfl⟩
      have hEc : E.cache = D.cache := by rw [hE, D.turnM_eq q j b hq]
      have hEs : E.size = D.size := by rw [hE, D.turnM_eq q j b hq]
      rw [← hE] at hd1
      have HEE := Lib.hid hE
      have HN := Lib.hid (show n = E.cache.length by rw [hEc, HND.out])
      have h3 := hd1.c3
      have HD1 := Lib.hid hd1
      have HC1 := Lib.hid hc1
      clear hd1 hc1 hE hEc HD H0 HME HM hI
      go_wp2_with fail
      clear h3 c1
      go_loopw [48] (fun i wr => ∃ k : Nat, k ≤ n ∧ i = .int .i64 k ∧ Chg (foot p sb (.slice sa n cap)) w wr ∧ DevAt wr p sb (.slice sa n cap) (E.turnC q j b k)) (fun i _ => n - (intOf i).toNat)
      case atStart => exact ⟨0, Nat.zero_le _, rfl, HC1.out, by rw [Dv.turnC_zero]; exact HD1.out⟩
      case round =>
        obtain ⟨k, hk, rfl, hc, hd⟩ := hrel
        clear HC1 HD1
        by_cases hlt : k < n
        · have hkn : (k : Int) < (n : Int) := by omega
          obtain ⟨g, rfl⟩ := hsa (by omega)
          obtain ⟨⟨si, st⟩, hx⟩ : ∃ x, E.cache[k]? = some x := ⟨_, List.getElem?_eq_getElem (by rw [← HN.out]; omega)⟩
          have hlen : n = (E.turnC q j b k).cache.length := by rw [Dv.turnC_len _ _ _ _ _ (by rw [← HN.out]; exact hk), ← HN.out]
          have hxk : (E.turnC q j b k).cache[k]? = some (si, st) := by rw [Dv.turnC_get _ _ _ _ _ (by rw [← HN.out]; exact hk)]; exact hx
          obtain ⟨hx0, hx1⟩ := hd.cw0x hlen k hxk
          simp only at hx0 hx1
          have h3 := hd.c3
          have hst0 := hd.ok.text (si, st) (List.mem_of_getElem? hxk)
          have hst : st.size = D.size := by rw [← hEs]; exact hst0
          clear hst0
          have hgl : g < wr.heap.size := hd.lt g (.inr (.inr rfl))
          by_cases hsq : si = q
          · subst hsq
            have hgF : gF si j b (si, st) = (si, turnB st j b) := by unfold gF; rw [if_pos rfl]
            have hnext := Dv.turnC_next E si j b k (si, st) hx
            rw [hgF] at hnext
            have HT := Lib.hid (show ∀ X, DevAt X p sb (.slice (some ⟨g, 0, none⟩) n cap) (E.turnC si j b k) → DevAt (X.setCell ⟨g, k * 2 + 1, none⟩ (.string (turnB st j b))) p sb (.slice (some ⟨g, 0, none⟩) n cap) (E.turnC si j b (k + 1)) from
              fun X hX => by rw [hnext]; exact hX.retext hlen k (si, st) hxk (turnB st j b) (by rw [turnB_size, hst]; exact hEs.symm))
            have HCE := Lib.hid (show ∀ X, DevAt X p sb (.slice (some ⟨g, 0, none⟩) n cap) (E.turnC si j b k) → X.cell? ⟨g, k * 2 + 1, none⟩ = some (.string st) from fun X hX => (hX.cw0x hlen k hxk).2)
            have HFZ := Lib.hid (show ∀ X, DevAt X p sb (.slice (some ⟨g, 0, none⟩) n cap) (E.turnC si j b k) → X.frozen? ⟨g, k * 2 + 1, none⟩ = false from fun X hX => hX.ctfz hlen _)
            obtain ⟨wb, hwb⟩ : ∃ wb, wb = wr.heap.size := ⟨_, rfl⟩
            obtain ⟨W2, hW2⟩ : ∃ W2, W2 = wr.alloc (.cells #[.int .i64 (si : Nat), .string st] 131) := ⟨_, rfl⟩
            have H0 := Lib.hid (show DTwo w p sb (.slice (some ⟨g, 0, none⟩) n cap) (E.turnC si j b k) (E.turnC si j b (k + 1)) false W2.drew from by rw [hW2]; exact ⟨(hd.alloc _).drew, (hc.alloc _).drew⟩)
            have H1 := Lib.hid (show W2.drew.cell? ⟨wb, 1, none⟩ = some (.string st) by rw [hW2, hwb]; show World.cell? (World.alloc _ _) _ = _; simp)
            have HW2 := Lib.hid hW2
            have HWB := Lib.hid hwb
            have HGL := Lib.hid (show g < wb by omega)
            have HST := Lib.hid hst
            clear hd hc hnext hgF hxk hx hlen hst hW2 hwb
            go_wp2_with fail
            rw [← HW2.out, ← HWB.out]
            clear hx0 hx1 h3
            refine Reg.region_vals (by kernel_rfl) [(57, .pointer (some ⟨p, 0, none⟩)), (58, .pointer (some ⟨p, 0, none⟩)), (59, .pointer (some ⟨p, 3, none⟩)), (60, .slice (some ⟨g, 0, none⟩) n cap), (61, .int .i64 (k : Nat)), (62, .pointer (some ⟨wb, 1, none⟩)), (63, .string st), (64, .int .i64 (j : Nat)), (65, .int .u8 b.toNat), (66, .string (turnB st j b)), (67, .pointer (some ⟨g, k * 2, none⟩)), (68, .pointer (some ⟨g, k * 2 + 1, none⟩))] (fun l wx => DTwo w p sb (.slice (some ⟨g, 0, none⟩) n cap) (E.turnC si j b k) (E.turnC si j b (k + 1)) (l 12) wx ∧ wx.cell? ⟨wb, 1, none⟩ = some (.string st)) (by kernel_rfl) (by kernel_rfl) (by kernel_rfl) (⟨H0.out, H1.out⟩) ⟨?_, ?_, ?_, ?_, ?_, ?_, ?_, ?_, ?_, ?_, ?_, ?_, ?_, trivial⟩ ?hend
            · skip
              intro aq wq lq hI hl hdone hlater hold hd ho
              have h0 : aq.tmps.getD 0 undef = .pointer (some ⟨p, 0, none⟩) := ho 0 (by kernel_rfl)
              clear hd ho hdone hlater hold
              exact Reg.step2_move (.tmp 0) rfl h0 hI trivial
            · skip
              intro aq wq lq hI hl hdone hlater hold hd ho
              have h57 : aq.tmps.getD 57 undef = .pointer (some ⟨p, 0, none⟩) := hd 57 (by kernel_rfl)
              clear hd ho hdone hlater hold
              rw [Array.getD_eq_getD_getElem?] at h57
              refine Reg.step2_val (.pointer (some ⟨p, 0, none⟩)) ?_ rfl hI trivial
              go_simp
            · skip
              intro aq wq lq hI hl hdone hlater hold hd ho
              have h58 : aq.tmps.getD 58 undef = .pointer (some ⟨p, 0, none⟩) := hd 58 (by kernel_rfl)
              clear hd ho hdone hlater hold
              rw [Array.getD_eq_getD_getElem?] at h58
              refine Reg.step2_val (.pointer (some ⟨p, 3, none⟩)) ?_ rfl hI trivial
              go_simp
            · skip
              intro aq wq lq hI hl hdone hlater hold hd ho
              have h59 : aq.tmps.getD 59 undef = .pointer (some ⟨p, 3, none⟩) := hd 59 (by kernel_rfl)
              clear hd ho hdone hlater hold
              rw [Array.getD_eq_getD_getElem?] at h59
              have e0 := hI.1.1.c3
              refine Reg.step2_val (.slice (some ⟨g, 0, none⟩) n cap) ?_ rfl hI trivial
              go_simp
            · skip
              intro aq wq lq hI hl hdone hlater hold hd ho
              have h8 : aq.tmps.getD 8 undef = .int .i64 (k : Nat) := ho 8 (by kernel_rfl)
              clear hd ho hdone hlater hold
              exact Reg.step2_move (.tmp 8) rfl h8 hI trivial
            · skip
              intro aq wq lq hI hl hdone hlater hold hd ho
              have h9 : aq.tmps.getD 9 undef = .pointer (some ⟨wb, 0, none⟩) := ho 9 (by kernel_rfl)
              clear hd ho hdone hlater hold
              rw [Array.getD_eq_getD_getElem?] at h9
              refine Reg.step2_val (.pointer (some ⟨wb, 1, none⟩)) ?_ rfl hI trivial
              go_simp
            · skip
              intro aq wq lq hI hl hdone hlater hold hd ho
              have h62 : aq.tmps.getD 62 undef = .pointer (some ⟨wb, 1, none⟩) := hd 62 (by kernel_rfl)
              clear hd ho hdone hlater hold
              rw [Array.getD_eq_getD_getElem?] at h62
              have e0 := hI.2
              refine Reg.step2_val (.string st) ?_ rfl hI trivial
              go_simp
            · skip
              intro aq wq lq hI hl hdone hlater hold hd ho
              have h2 : aq.tmps.getD 2 undef = .int .i64 (j : Nat) := ho 2 (by kernel_rfl)
              clear hd ho hdone hlater hold
              exact Reg.step2_move (.tmp 2) rfl h2 hI trivial
            · skip
              intro aq wq lq hI hl hdone hlater hold hd ho
              have h3 : aq.tmps.getD 3 undef = .int .u8 b.toNat := ho 3 (by kernel_rfl)
              clear hd ho hdone hlater hold
              exact Reg.step2_move (.tmp 3) rfl h3 hI trivial
            · skip
              intro aq wq lq hI hl hdone hlater hold hd ho
              have h63 : aq.tmps.getD 63 undef = .string st := hd 63 (by kernel_rfl)
              have h64 : aq.tmps.getD 64 undef = .int .i64 (j : Nat) := hd 64 (by kernel_rfl)
              have h65 : aq.tmps.getD 65 undef = .int .u8 b.toNat := hd 65 (by kernel_rfl)
              clear hd ho hdone hlater hold
              rw [Array.getD_eq_getD_getElem?] at h63 h64 h65
              refine Reg.step2_call 48 #[.string st, .int .i64 (j : Nat), .int .u8 b.toNat] ?_ ((garbled_any st j b wq (by rw [HST.out]; exact HJL.out) (by rw [HST.out]; omega)).mono ?_)
              · simp [execOp]
                go_simp
              · rintro e w' ⟨rfl, hb⟩
                exact ⟨_, rfl, rfl, ⟨hI.1.below hb, by rw [hb.cell (World.block_lt_of_cell? _ _ hI.2)]; exact hI.2⟩, trivial⟩
            · skip
              intro aq wq lq hI hl hdone hlater hold hd ho
              have h60 : aq.tmps.getD 60 undef = .slice (some ⟨g, 0, none⟩) n cap := hd 60 (by kernel_rfl)
              have h61 : aq.tmps.getD 61 undef = .int .i64 (k : Nat) := hd 61 (by kernel_rfl)
              clear hd ho hdone hlater hold
              rw [Array.getD_eq_getD_getElem?] at h60 h61
              refine Reg.step2_val (.pointer (some ⟨g, k * 2, none⟩)) ?_ rfl hI trivial
              go_simp
            · skip
              intro aq wq lq hI hl hdone hlater hold hd ho
              have h67 : aq.tmps.getD 67 undef = .pointer (some ⟨g, k * 2, none⟩) := hd 67 (by kernel_rfl)
              clear hd ho hdone hlater hold
              rw [Array.getD_eq_getD_getElem?] at h67
              refine Reg.step2_val (.pointer (some ⟨g, k * 2 + 1, none⟩)) ?_ rfl hI trivial
              go_simp
            · skip
              intro aq wq lq hI hl hdone hlater hold hd ho
              have h68 : aq.tmps.getD 68 undef = .pointer (some ⟨g, k * 2 + 1, none⟩) := hd 68 (by kernel_rfl)
              have h66 : aq.tmps.getD 66 undef = .string (turnB st j b) := hd 66 (by kernel_rfl)
              have gd9 : lq 9 = true := hdone 9 (by kernel_rfl)
              clear hd ho hdone hlater hold
              rw [Array.getD_eq_getD_getElem?] at h68 h66
              have hJ := hI.1
              have hK := hI.2
              clear hI
              rw [show lq 12 = false from hl] at hJ
              have e0 := HCE.out _ hJ.1
              have f0 := HFZ.out _ hJ.1
              refine Reg.step2_skip (wq.setCell ⟨g, k * 2 + 1, none⟩ (.string (turnB st j b))) rfl ?_ ⟨⟨HT.out _ hJ.1, hJ.2.setCell (p := ⟨g, k * 2 + 1, none⟩) (fun _ => .inr (.inr rfl)) _⟩, by rw [World.cell?_setCell_other _ _ _ _ (fun e => by have := HGL.out; simp at e <;> omega)]; exact hK⟩ trivial
              clear hJ hK
              simp [execOp]
              go_simp
            case hend =>
            intro wx hI
            simp only [Reg.fill, List.foldl_cons, List.foldl_nil, List.setIfInBounds_toArray, List.set_cons_zero, List.set_cons_succ]
            obtain ⟨hd1, hc1⟩ : DevAt wx p sb (.slice (some ⟨g, 0, none⟩) n cap) (E.turnC si j b (k + 1)) ∧ Chg (foot p sb (.slice (some ⟨g, 0, none⟩) n cap)) w wx := hI.1
            have HD1 := Lib.hid hd1
            have HC1 := Lib.hid hc1
            clear hd1 hc1 hI
            go_wp2_with fail
            go_roundw
            case rel => exact ⟨k + 1, by omega, by go_num, HC1.out, HD1.out⟩
            case measure => simp [intOf]; omega
          · have hsame := Dv.turnC_same E q j b k (si, st) hx hsq
            have q1 : ((si : Int) == (q : Int)) = false := by simp; omega
            have HD1 := Lib.hid (show ∀ m, DevAt ((wr.alloc (.cells #[.int .i64 (si : Nat), .string st] 131)).drewN m) p sb (.slice (some ⟨g, 0, none⟩) n cap) (E.turnC q j b (k + 1)) from fun m => by rw [hsame]; exact (hd.alloc _).drewN m)
            have HC1 := Lib.hid (show ∀ m, Chg (foot p sb (.slice (some ⟨g, 0, none⟩) n cap)) w ((wr.alloc (.cells #[.int .i64 (si : Nat), .string st] 131)).drewN m) from fun m => (hc.alloc _).drewN m)
            clear hd hc hsame hxk hx hlen hst
            go_wp2_with fail
            go_roundw
            case rel => exact ⟨k + 1, by omega, by go_num, HC1.out 0, HD1.out 0⟩
            case measure => simp [intOf]; omega
        · obtain rfl : k = n := by omega
          have HD1 := Lib.hid hd
          have HC1 := Lib.hid hc
          clear hd hc
          go_wp2_with fail
          go_end0
          exact ⟨rfl, HC1.out, by rw [HND.out, ← HEE.out]; exact HD1.out⟩
end Go.Proofs.YtflanjcfkdjpjaaGreatDoor.Dev


/- Layer 8 (mirror): places as keys of a map. -/
namespace Go.Proofs.YtflanjcfkdjpjaaGreatDoor.Mir
open Go Go.RowKit Go.Proofs.YtflanjcfkdjpjaaGreatDoor Go.Maps Go.WideMaps
set_option linter.unusedVariables false

theorem laidM : laidOutB Tryz.prog = true := by kernel_rfl
theorem keyedP : Keyed Tryz.prog 198 := Keyed.of_law (deep_law_laid laidM (m := 2) (by omega) (of_decide_eq_true (by kernel_rfl)) (by kernel_rfl) (by rw [Tryz.underlying198]))
def kl (s b : Nat) : Lit := .string (keyBytes [.int .i64 s, .int .i64 b])
theorem wf_i64 {x : Nat} (h : x < 1000000) : (Lit.int .i64 (x : Int)).wf = true := by
  simp only [Lit.wf, Bool.and_eq_true, decide_eq_true_eq, show IntKind.i64.min = -9223372036854775808 from rfl, show IntKind.i64.max = 9223372036854775807 from rfl]
  omega
theorem keyTypeP : Tryz.prog.keyType 198 = true := by kernel_rfl
theorem cellsP : Tryz.prog.cellsOf 198 = 2 := by kernel_rfl
theorem cellsI : Tryz.prog.cellsOf 3 = 1 := by kernel_rfl
theorem keyP {s b : Nat} (hs : s < 2) (hb : b < 1000000) : keyOf Tryz.prog 198 (.agg #[.int .i64 s, .int .i64 b]) = some (kl s b) := by
  have h1 := wf_i64 (x := s) (by omega)
  have h2 := wf_i64 hb
  obtain ⟨m, hm⟩ : ∃ m, (Tryz.prog).types.size = m + 1 := ⟨(Tryz.prog).types.size - 1, by kernel_rfl⟩
  unfold keyOf
  simp only [Tryz.underlying198]
  rw [if_pos (by simp [keyTypeP, Value.formed, Tryz.underlying198, cellsP]), hm]
  unfold Program.keyLits
  simp only [Tryz.underlying198, Value.cells]
  rw [if_pos (by rw [cellsP]; exact ⟨rfl, by simp⟩)]
  simp [cellsI, Program.keyLits, Tryz.underlying3, h1, h2, kl]
/-- how the map's values are read: all are alike -/
def badR : Value → Option (DataW Unit × List MemPlace) := fun _ => some (.lit (.bool true), [])
abbrev MapB (w : World) (bb n : Nat) (D : DataW Unit) : Prop := w.ownsMap Tryz.prog 198 badR bb n D
theorem mapB_same {w w' : World} {b n : Nat} {D : DataW Unit} (h : MapB w b n D) (hk : w'.heap[b]? = w.heap[b]?) : MapB w' b n D := by
  obtain ⟨es, clock, hb, F, hs, hD⟩ := h
  exact ⟨es, clock, hk.trans hb, F, hs, hD⟩
end Go.Proofs.YtflanjcfkdjpjaaGreatDoor.Mir


