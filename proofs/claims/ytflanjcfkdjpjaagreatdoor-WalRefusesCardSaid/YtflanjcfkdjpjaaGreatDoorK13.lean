/- Layers' contracts, bundled: MirZ, MirY, RecMath, RefRec, RecA, RefRecT, LendJ, RecB, RecC. -/
import Derived.Test.YtflanjcfkdjpjaaGreatDoorK12
import Derived.Test.YtflanjcfkdjpjaaGreatDoorK10
import Derived.Test.YtflanjcfkdjpjaaGreatDoorK02
import Derived.Test.YtflanjcfkdjpjaaGreatDoorK01
import Derived.Test.YtflanjcfkdjpjaaGreatDoorChecked
import Derived.StillTailTactics
import Derived.WalkLawsBesides
import Derived.WalkSpells
import Derived.Lib.Hide
import Derived.Outline
import Derived.Deep.DeepCutAuto
import Derived.Deep.RegionWith
import Derived.OpenShut
import Derived.Deep.QuietTactic
import Derived.BigQuiet
import Derived.Test.YtflanjcfkdjpjaaGreatDoorK11
import Derived.Test.YtflanjcfkdjpjaaGreatDoorK03
import Derived.RegionTactic
import Derived.Deep.RegionHeld3
import Derived.Lib.AppendStr
/- Layer 8 (mirror): what was flushed lasts: both caches are empty behind a Flush, and a crash leaves all as it is. -/
namespace Go.Proofs.YtflanjcfkdjpjaaGreatDoor.Rem
open Go Go.RowKit Go.Proofs.YtflanjcfkdjpjaaGreatDoor Dev Tab
set_option linter.unusedVariables false
section
variable {w0 w w' : World} {X Y : List Nat} {q c : Nat} {pd : Nat → Nat} {S : Nat → Sd} {G : Nat → Bool} {s : Nat} {m : Nat → List Int} {D : Nat → Dv}
theorem Cd.crash0 {E : Dv} {N Z : Nat} {V : Nat → ByteArray} {B : Nat → Bool} (h : Cd E N Z V B 0) (fs : List Int) : E.crashD fs = E := by
  have hc : E.cache = [] := List.eq_nil_of_length_eq_zero (Nat.le_zero.1 h.cache)
  have e : fated E fs = [] := by unfold fated; rw [hc]; rfl
  have ho := h.off
  have hf := h.fuse
  unfold Dv.crashD
  rw [e]
  show (Dv.emptied E).calm = E
  unfold Dv.emptied Dv.calm
  cases E
  simp only at hc ho hf
  subst hc ho hf
  rfl
theorem CPe.devZ {f : FuncId} {args : Array Value} {R : Ending → Prop} {s : Nat} {Q : Dv → Prop} (h : CPe w0 X q pd m D w) (hs : s < 2)
    (call : ∀ sb cv, DevAt w (pd s) sb cv (D s) → (∀ k, foot (pd s) sb cv k → k ∉ X) → Calls Tryz.prog f args w fun e w' => R e ∧ ∃ E, Q E ∧ Now (pd s) sb cv w E w') :
    Calls Tryz.prog f args w fun e w' => R e ∧ ∃ E, Q E ∧ CPe w0 X q pd m (upd D s E) w' ∧ Same (q :: X) w w' := by
  have hql := h.lt
  obtain ⟨⟨sb, cv, hdv, hf, hff⟩, hp, hq, hx, hb⟩ := h
  refine (call (sb s) (cv s) (hdv s hs) fun k hk => (hf s hs k hk).2.1).mono ?_
  rintro e w' ⟨hr, E, hG, cv', hch, hd', hf'⟩
  have hfs := hf s hs
  have hlow : ∀ k, w.heap.size ≤ k → w0.heap.size ≤ k ∧ k ∉ X ∧ k ≠ q := fun k hk => ⟨Nat.le_trans hb.size hk, fun e => by have := (hx k e).2; omega, fun e => by omega⟩
  have hnew : ∀ k, foot (pd s) (sb s) cv' k → w0.heap.size ≤ k ∧ k ∉ X ∧ k ≠ q := fun k hk => by
    rcases hf' k hk with h | h
    · exact hfs k h
    · exact hlow k h
  have hqs : w'.heap[q]? = w.heap[q]? := hch.block q hql fun e => (hfs q e).2.2 rfl
  have hsame : Same (q :: X) w w' := fun k hk => by
    rcases List.mem_cons.1 hk with rfl | hk
    · exact hqs
    · exact hch.block k (hx k hk).2 fun e => (hfs k e).2.1 hk
  refine ⟨hr, E, hG, ⟨⟨sb, fun t => if t = s then cv' else cv t, ?_, ?_, ?_⟩, hp.same hqs, hq, fun k hk => ⟨(hx k hk).1, Nat.lt_of_lt_of_le (hx k hk).2 hch.size⟩, hb.trans (hch.below hb.size fun k hk => (hfs k hk).1)⟩, hsame⟩
  · intro t ht
    by_cases e : t = s
    · subst e; simp only [if_pos]; rw [upd_same]; exact hd'
    · simp only [if_neg e]; rw [upd_ne _ _ e]
      refine (hdv t ht).chg hch fun k hk hk2 => ?_
      rcases (show (t = 0 ∧ s = 1) ∨ (t = 1 ∧ s = 0) by omega) with ⟨rfl, rfl⟩ | ⟨rfl, rfl⟩
      · exact hff k hk hk2
      · exact hff k hk2 hk
  · intro t ht k hk
    by_cases e : t = s
    · subst e; simp only [if_pos] at hk; exact hnew k hk
    · simp only [if_neg e] at hk; exact hf t ht k hk
  · intro k hk hk2
    rcases (show s = 0 ∨ s = 1 by omega) with rfl | rfl
    · simp only [if_pos] at hk
      simp only [if_neg (show ¬ (1 : Nat) = 0 by omega)] at hk2
      rcases hf' k hk with h | h
      · exact hff k h hk2
      · have := (hdv 1 (by omega)).lt k hk2; omega
    · simp only [if_pos] at hk2
      simp only [if_neg (show ¬ (0 : Nat) = 1 by omega)] at hk
      rcases hf' k hk2 with h | h
      · exact hff k hk h
      · have := (hdv 0 (by omega)).lt k hk; omega
/-- the fates lie in X -/
def FatesZ (w : World) (X : List Nat) (v : Value) (n : Nat) (fs : List Int) : Prop := fs.length = n ∧ ∃ fa cap, v = .slice fa n cap ∧ Row .i64 w fa n fs ∧ ∀ a, fa = some a → a.block ∈ X
theorem FatesZ.keep {v : Value} {n : Nat} {fs : List Int} (h : FatesZ w X v n fs) (hs : Same X w w') : FatesZ w' X v n fs := by
  obtain ⟨h1, fa, cap, h2, ⟨h3, h4⟩, h5⟩ := h
  refine ⟨h1, fa, cap, h2, ⟨h3, fun hn => ?_⟩, h5⟩
  obtain ⟨b, o, e, hc⟩ := h4 hn
  refine ⟨b, o, e, fun i hi => ?_⟩
  have := hc i hi
  unfold World.cell? at this ⊢
  rw [hs b (h5 _ e)]; exact this
/-- the pair at q; side s's cache has at most cf s writes -/
structure CZ (w0 : World) (X : List Nat) (q : Nat) (pd : Nat → Nat) (S : Nat → Sd) (cf : Nat → Nat) (w : World) : Prop where
  raw : ∃ D, CPe w0 X q pd (mOf S) D w ∧ ∀ s, s < 2 → Cd (D s) 24 192 (S s).V (S s).B (cf s)
  slots : Slots S
theorem CZ.cp {cf : Nat → Nat} (h : CZ w0 X q pd S cf w) (h0 : cf 0 ≤ c) (h1 : cf 1 ≤ c) : CP w0 X q pd S c w := by
  obtain ⟨⟨D, e1, e2⟩, e3⟩ := h
  refine ⟨⟨D, e1, fun s hs => ?_⟩, e3⟩
  rcases (show s = 0 ∨ s = 1 by omega) with rfl | rfl
  · exact (e2 0 hs).mono h0
  · exact (e2 1 hs).mono h1
theorem CP.cz (h : CP w0 X q pd S c w) : CZ w0 X q pd S (fun _ => c) w := by
  obtain ⟨⟨D, e1, e2⟩, e3⟩ := h; exact ⟨⟨D, e1, e2⟩, e3⟩
theorem CZ.x {cf : Nat → Nat} (h : CZ w0 X q pd S cf w) : ∀ k ∈ X, w0.heap.size ≤ k ∧ k < w.heap.size := by obtain ⟨D, h1, h2⟩ := h.raw; exact h1.x
theorem CZ.below {cf : Nat → Nat} (h : CZ w0 X q pd S cf w) : Below w0.heap.size w0 w := by obtain ⟨D, h1, h2⟩ := h.raw; exact h1.below
theorem CZ.later {cf : Nat → Nat} (h : CZ w0 X q pd S cf w) (hb : Below w.heap.size w w') : CZ w0 X q pd S cf w' := by
  obtain ⟨⟨D, e1, e2⟩, e3⟩ := h; exact ⟨⟨D, e1.chg (Chg.of_below hb (Nat.le_refl _)), e2⟩, e3⟩
theorem CZ.sub {cf : Nat → Nat} (h : CZ w0 X q pd S cf w) (hY : ∀ k ∈ Y, k ∈ X) : CZ w0 Y q pd S cf w := by
  obtain ⟨⟨D, e1, e2⟩, e3⟩ := h; exact ⟨⟨D, e1.sub hY, e2⟩, e3⟩
theorem CZ.cong {cf cf' : Nat → Nat} (h : CZ w0 X q pd S cf w) (hc : ∀ s, s < 2 → cf s ≤ cf' s) : CZ w0 X q pd S cf' w := by
  obtain ⟨⟨D, e1, e2⟩, e3⟩ := h; exact ⟨⟨D, e1, fun s hs => (e2 s hs).mono (hc s hs)⟩, e3⟩
theorem flush_z {cf : Nat → Nat} (h : CZ w0 X q pd S cf w) (hs : s < 2) (hc : cf s ≤ 1000000) : Calls Tryz.prog 64 #[.pointer (some ⟨q, 0, none⟩), .int .i64 (s : Nat)] w fun e w' => e = .returned (.int .i64 0) ∧ CZ w0 X q pd S (upd cf s 0) w' ∧ Same X w w' := by
  obtain ⟨⟨D, h1, h2⟩, h3⟩ := h
  have hD := h2 s hs
  refine (flush_e h1 hs (by have := hD.cache; omega)).mono ?_
  rintro e w' ⟨rfl, hc', hsm⟩
  obtain ⟨r1, r2⟩ := hD.flush (h1.ok hs)
  refine ⟨by rw [r1], ⟨⟨_, hc', fun t ht => ?_⟩, h3⟩, fun k hk => hsm k (by simp [hk])⟩
  by_cases e : t = s
  · subst e; rw [upd_same, upd_same]; exact r2
  · rw [upd_ne _ _ e, upd_ne _ _ e]; exact h2 t ht
/-- a crash, behind a flush -/
theorem crash_z {cf : Nat → Nat} (h : CZ w0 X q pd S cf w) (hs : s < 2) (hc : cf s = 0) {v : Value} {n : Nat} {fs : List Int} (hn : n ≤ 1000000) (hf : FatesZ w X v n fs) (hfb : ∀ f ∈ fs, f ≤ 9223372036854775807) (p : Nat) (hp : p = pd s) :
    Calls Tryz.prog 25 #[.pointer (some ⟨p, 0, none⟩), v] w fun e w' => e = .returned (.tuple #[]) ∧ CZ w0 X q pd S cf w' ∧ Same X w w' := by
  subst hp
  obtain ⟨⟨D, e1, e2⟩, e3⟩ := h
  have hD := e2 s hs
  have hl := hD.cache
  obtain ⟨h1, fa, cap, rfl, hrow, hap⟩ := hf
  refine (e1.devZ (R := fun e => e = .returned (.tuple #[])) (Q := fun E => E = (D s).crashD fs) hs fun sb cv hd hft => (crash_any fa n cap fs w hd (by omega) (by omega) hrow (fun a e hk => hft _ hk (hap a e)) hfb).mono ?_).mono ?_
  · rintro e w' ⟨rfl, hn⟩
    exact ⟨rfl, _, rfl, hn⟩
  · rintro e w' ⟨rfl, E, rfl, hc2, hsm⟩
    rw [hc] at hD
    rw [Cd.crash0 hD fs, upd_self] at hc2
    exact ⟨rfl, ⟨⟨D, hc2, e2⟩, e3⟩, fun k hk => hsm k (by simp [hk])⟩
end
end Go.Proofs.YtflanjcfkdjpjaaGreatDoor.Rem

/- Layer 8 (mirror): Flush empties both caches; a pair of devices is opened anew. -/
namespace Go.Proofs.YtflanjcfkdjpjaaGreatDoor.Mir
open Go Go.RowKit Go.Proofs.YtflanjcfkdjpjaaGreatDoor Dev Tab Rem Go.Maps Go.WideMaps
set_option linter.unusedVariables false
section
variable {w0 w w' : World} {X Y Z : List Nat} {q c mm tb bb R s b : Nat} {pd : Nat → Nat} {S : Nat → Sd}
theorem MG.cp (h : MG w0 Y mm tb bb q pd S noG c R w) : CP w0 (mm :: tb :: bb :: Y) q pd S c w := h.cg.cp rfl rfl
def cfJ (c j t : Nat) : Nat := if t < j then 0 else c
set_option maxHeartbeats 2000000 in
set_option maxRecDepth 100000 in
theorem Flush_z (h : MG w0 Y mm tb bb q pd S noG c R w) (hc : c ≤ 700000) : Calls Tryz.prog 35 #[.pointer (some ⟨mm, 0, none⟩)] w fun e w' => e = .returned (.int .i64 0) ∧ MG w0 Y mm tb bb q pd S noG c R w' ∧ CZ w0 (mm :: tb :: bb :: Y) q pd S (fun _ => 0) w' ∧ Same Y w w' := by
  have HM := Lib.hid h
  have HC := Lib.hid hc
  clear h hc
  go_enter Tryz.func35, Tryz.ntmps35
  go_wp2_with fail
  refine (alive_m HM.out).mono ?_
  rintro e w2 ⟨av, cap, rfl, hsd, hfr, hb⟩
  have HM2 := Lib.hid (HM.out.later hb)
  have HSM2 := Lib.hid (show Same Y w w2 from fun j hj => hb.block j (HM.out.y j hj).2)
  rw [al_no] at hsd ⊢
  obtain ⟨z, rfl, hlp⟩ := hsd.lp (by simp)
  obtain ⟨hz1, hz2⟩ := hfr z 0 rfl
  have HM3 := Lib.hid (HM.out.fresh hb hz1 hz2)
  have HLP := Lib.hid hlp
  clear hsd hfr hb hlp hz1 hz2 HM2 HM
  go_wp2_with fail
  go_loopw [16] (fun i wr => ∃ (j : Nat), j ≤ 2 ∧ i = .int .i64 j ∧ CZ w0 (mm :: tb :: bb :: z :: Y) q pd S (cfJ c j) wr ∧ Same (mm :: tb :: bb :: z :: Y) w2 wr) (fun i _ => 2 - (intOf i).toNat)
  case atStart => exact ⟨0, Nat.zero_le _, rfl, HM3.out.cp.cz.cong (fun s hs => by simp [cfJ]), Same.refl _ _⟩
  case round =>
    obtain ⟨j, hj, rfl, hmr, hsr⟩ := hrel
    have HMr := Lib.hid hmr
    have HSr := Lib.hid hsr
    have c0 := (cell_same (a := ⟨mm, 0, none⟩) (hsr mm (by simp))).trans HM3.out.c0
    clear hmr hsr
    by_cases hlt : j < 2
    · have hcell := (HLP.out.same (HSr.out z (by simp))) j hlt
      have hx : ([0, 1] : List Nat).getD j 0 = j := by
        rcases (show j = 0 ∨ j = 1 by omega) with rfl | rfl
        · rfl
        · rfl
      rw [hx] at hcell
      clear hx
      go_wp2_with fail
      refine (flush_z HMr.out hlt (by have := HC.out; simp only [cfJ]; split <;> omega)).mono ?_
      rintro e w4 ⟨rfl, hcz, hsm⟩
      have HZ := Lib.hid hcz
      have HS4 := Lib.hid (HSr.out.trans hsm)
      clear hcz hsm hcell c0
      go_wp2_with fail
      go_roundw
      case rel =>
        refine ⟨j + 1, by omega, by go_num, HZ.out.cong fun t ht => ?_, HS4.out⟩
        unfold upd cfJ
        split <;> (try split) <;> (try split) <;> omega
      case measure => simp [intOf]; omega
    · obtain rfl : j = 2 := by omega
      clear c0
      go_wp2
      go_ret
      have hz := HMr.out.cong (cf' := fun _ => 0) (fun t ht => by simp [cfJ, ht])
      exact ⟨rfl, (HM3.out.go (G' := noG) (hz.cp (c := c) (Nat.zero_le _) (Nat.zero_le _)).cg HSr.out HM3.out.fit (fun _ _ => Nat.le_refl _) (Nat.le_refl _)).sub (fun k hk => List.mem_cons_of_mem _ hk), hz.sub (fun k hk => by simp at hk ⊢; rcases hk with rfl | rfl | rfl | hk <;> simp [*]), fun k hk => (HSr.out k (by simp [hk])).trans (HSM2.out k hk)⟩
end
end Go.Proofs.YtflanjcfkdjpjaaGreatDoor.Mir

/- Layer 12 (rec), prepared: updates and their bytes, as lists of bytes. -/
namespace Go.Proofs.YtflanjcfkdjpjaaGreatDoor.Rec
open Go Go.RowKit Go.Proofs.YtflanjcfkdjpjaaGreatDoor Go.Proofs.YtflanjcfkdjpjaaGreatDoor.Lend
set_option linter.unusedVariables false

/-- an update -/
structure Up where
  kind : Int
  key : List UInt8
  val : List UInt8
  delta : Int
/-- which error Check answers -/
def chkU (u : Up) : Int :=
  if u.key.length < 1 ∨ 16 < u.key.length ∨ 32 < u.val.length then 13
  else if u.kind < 1 ∨ 3 < u.kind ∨ (u.kind ≠ 1 ∧ u.val ≠ []) ∨ (u.kind ≠ 3 ∧ u.delta ≠ 0) then 2
  else 0
theorem chkU_ok {u : Up} (h : chkU u = 0) : 1 ≤ u.key.length ∧ u.key.length ≤ 16 ∧ u.val.length ≤ 32 ∧ 1 ≤ u.kind ∧ u.kind ≤ 3 ∧ (u.kind ≠ 1 → u.val = []) ∧ (u.kind ≠ 3 → u.delta = 0) := by
  unfold chkU at h
  split at h
  · omega
  · split at h
    · omega
    · rename_i h1 h2
      refine ⟨by omega, by omega, by omega, by omega, by omega, fun hk => ?_, fun hk => ?_⟩
      · by_cases e : u.val = []
        · exact e
        · exact absurd (.inr (.inr (.inl ⟨hk, e⟩))) h2
      · by_cases e : u.delta = 0
        · exact e
        · exact absurd (.inr (.inr (.inr ⟨hk, e⟩))) h2
def len8 (l : List UInt8) : List UInt8 := UInt8.ofNat l.length :: l
/-- an update's bytes -/
def txU (u : Up) : List UInt8 := UInt8.ofNat u.kind.toNat :: (len8 u.key ++ ((if u.kind = 1 then len8 u.val else []) ++ (if u.kind = 3 then encN u.delta 8 else [])))
def txL (l : List Up) : List UInt8 := l.flatMap txU
/-- the first error -/
def errL : List Up → Int
  | [] => 0
  | u :: l => if chkU u = 0 then errL l else chkU u
def spl2 : List UInt8 → Option (List UInt8 × List UInt8)
  | [] => none
  | n :: r => if r.length < n.toNat then none else some (r.take n.toNat, r.drop n.toNat)
def fin1 (u : Up) (r : List UInt8) : Option (Up × List UInt8) := if chkU u = 0 then some (u, r) else none
/-- the first update of these bytes, and what stands behind it -/
def par1 : List UInt8 → Option (Up × List UInt8)
  | [] => none
  | k :: r => match spl2 r with
    | none => none
    | some (key, rest) =>
      if k = 1 then match spl2 rest with
        | none => none
        | some (v, more) => fin1 ⟨1, key, v, 0⟩ more
      else if k = 3 then (if rest.length < 8 then none else fin1 ⟨3, key, [], getL (rest.take 8)⟩ (rest.drop 8))
      else fin1 ⟨k.toNat, key, [], 0⟩ rest
theorem ofNat_small {n : Nat} (h : n < 256) : (UInt8.ofNat n).toNat = n := by simp; omega
theorem spl2_len {l r : List UInt8} (h : l.length < 256) : spl2 (len8 l ++ r) = some (l, r) := by
  unfold len8
  show (if (l ++ r).length < (UInt8.ofNat l.length).toNat then none else some ((l ++ r).take (UInt8.ofNat l.length).toNat, (l ++ r).drop (UInt8.ofNat l.length).toNat)) = _
  rw [ofNat_small h, if_neg (by rw [List.length_append]; omega), List.take_left', List.drop_left'] <;> rfl
theorem spl2_cut {l : List UInt8} (h : l.length < 256) {c : Nat} (hc : c < l.length + 1) : spl2 ((len8 l).take c) = none := by
  unfold len8
  cases c with
  | zero => rfl
  | succ c =>
    rw [List.take_succ_cons]
    show (if (l.take c).length < (UInt8.ofNat l.length).toNat then none else _) = _
    rw [ofNat_small h, if_pos (by rw [List.length_take]; omega)]
theorem par1_tx {u : Up} (h : chkU u = 0) (h0 : 0 ≤ u.delta) (h1 : u.delta < 18446744073709551616) (r : List UInt8) : par1 (txU u ++ r) = some (u, r) := by
  obtain ⟨k1, k2, k3, k4, k5, k6, k7⟩ := chkU_ok h
  obtain ⟨kind, key, val, delta⟩ := u
  simp only at *
  unfold txU
  simp only [List.cons_append, List.append_assoc, par1]
  rw [spl2_len (by omega)]
  have hk : kind = 1 ∨ kind = 2 ∨ kind = 3 := by omega
  rcases hk with rfl | rfl | rfl
  · have e : UInt8.ofNat (Int.toNat 1) = 1 := rfl
    simp only [e, if_true]
    rw [if_neg (by decide : ¬ (1 : Int) = 3)]
    simp only [List.nil_append]
    rw [spl2_len (by omega)]
    have hd := k7 (by omega)
    subst hd
    show fin1 _ _ = _
    unfold fin1
    rw [if_pos h]
  · have e : UInt8.ofNat (Int.toNat 2) = 2 := rfl
    have hd := k7 (by omega)
    have hv := k6 (by omega)
    subst hd hv
    simp only [e]
    rw [if_neg (by decide : ¬ (2 : UInt8) = 1), if_neg (by decide : ¬ (2 : UInt8) = 3), if_neg (by decide : ¬ (2 : Int) = 1), if_neg (by decide : ¬ (2 : Int) = 3)]
    simp only [List.nil_append]
    have e2 : (((2 : UInt8).toNat : Nat) : Int) = 2 := rfl
    unfold fin1
    rw [e2, if_pos h]
  · have e : UInt8.ofNat (Int.toNat 3) = 3 := rfl
    have hv := k6 (by omega)
    subst hv
    simp only [e]
    rw [if_neg (by decide : ¬ (3 : UInt8) = 1), if_neg (by decide : ¬ (3 : Int) = 1)]
    simp only [if_true, List.nil_append]
    have hl : (encN delta 8).length = 8 := encN_length _ _
    rw [if_neg (by rw [List.length_append]; omega), List.take_left' hl, List.drop_left' hl]
    have hg : (getL (encN delta 8) : Int) = delta := getL_encN delta 8 h0 (by simpa using h1)
    unfold fin1
    rw [hg, if_pos h]
theorem txU_length {u : Up} (h : chkU u = 0) : (txU u).length = 2 + u.key.length + (if u.kind = 1 then 1 + u.val.length else 0) + (if u.kind = 3 then 8 else 0) := by
  unfold txU len8
  simp only [List.length_cons, List.length_append]
  split <;> split <;> simp [encN_length] <;> omega
theorem txU_pos (u : Up) : 0 < (txU u).length := by unfold txU; simp
/-- of a beginning of an update's bytes there is none -/
theorem par1_cut {u : Up} (h : chkU u = 0) {c : Nat} (hc : c < (txU u).length) : par1 ((txU u).take c) = none := by
  obtain ⟨k1, k2, k3, k4, k5, k6, k7⟩ := chkU_ok h
  have hl := txU_length h
  rw [hl] at hc
  obtain ⟨kind, key, val, delta⟩ := u
  simp only at *
  cases c with
  | zero => rfl
  | succ c =>
    unfold txU
    simp only [List.take_succ_cons, par1]
    by_cases h1 : c < key.length + 1
    · rw [List.take_append_of_le_length (by simp [len8]; omega), spl2_cut (by omega) h1]
    · have hkl : (len8 key).length = key.length + 1 := by simp [len8]
      obtain ⟨d, hd⟩ : ∃ d, c = (key.length + 1) + d := ⟨c - (key.length + 1), by omega⟩
      rw [List.take_append, hkl, List.take_of_length_le (by rw [hkl]; omega), spl2_len (by omega), show c - (key.length + 1) = d by omega]
      have hk : kind = 1 ∨ kind = 2 ∨ kind = 3 := by omega
      rcases hk with rfl | rfl | rfl
      · have e : UInt8.ofNat (Int.toNat 1) = 1 := rfl
        simp only [e, if_true]
        rw [if_neg (by decide : ¬ (1 : Int) = 3)] at hc ⊢
        rw [if_pos rfl] at hc
        rw [List.append_nil, spl2_cut (by omega) (by omega)]
      · rw [if_neg (by decide : ¬ (2 : Int) = 1), if_neg (by decide : ¬ (2 : Int) = 3)] at hc
        omega
      · have e : UInt8.ofNat (Int.toNat 3) = 3 := rfl
        simp only [e]
        rw [if_neg (by decide : ¬ (3 : Int) = 1), if_pos rfl] at hc
        rw [if_neg (by decide : ¬ (3 : UInt8) = 1), if_neg (by decide : ¬ (3 : Int) = 1)]
        simp only [if_true, List.nil_append]
        rw [if_pos (by rw [List.length_take, encN_length]; omega)]
/-- the updates of these bytes -/
def parN : Nat → List UInt8 → Option (List Up)
  | _, [] => some []
  | 0, _ :: _ => none
  | n + 1, s => match par1 s with
    | none => none
    | some (u, r) => match parN n r with
      | none => none
      | some l => some (u :: l)
def parL (s : List UInt8) : Option (List Up) := parN s.length s
/-- updates that may be -/
def OkL (l : List Up) : Prop := ∀ u ∈ l, chkU u = 0 ∧ 0 ≤ u.delta ∧ u.delta < 18446744073709551616
theorem parN_cons (n : Nat) (s : List UInt8) (hs : s ≠ []) : parN (n + 1) s = match par1 s with
    | none => none
    | some (u, r) => match parN n r with
      | none => none
      | some l => some (u :: l) := by
  cases s with
  | nil => exact absurd rfl hs
  | cons x s => rfl
theorem tx_ne (u : Up) (r : List UInt8) : txU u ++ r ≠ [] := by unfold txU; simp
theorem parN_tx : ∀ (l : List Up) (n : Nat), OkL l → (txL l).length ≤ n → parN n (txL l) = some l
  | [], n, _, _ => by unfold txL; cases n <;> rfl
  | u :: l, n, h, hn => by
    have e : txL (u :: l) = txU u ++ txL l := by unfold txL; rfl
    rw [e] at hn ⊢
    rw [List.length_append] at hn
    have hp := txU_pos u
    obtain ⟨m, rfl⟩ : ∃ m, n = m + 1 := ⟨n - 1, by omega⟩
    obtain ⟨a1, a2, a3⟩ := h u (List.mem_cons_self ..)
    rw [parN_cons _ _ (tx_ne u _), par1_tx a1 a2 a3]
    simp only
    rw [parN_tx l m (fun t ht => h t (List.mem_cons_of_mem _ ht)) (by omega)]
/-- what Parse tells of Text's bytes -/
theorem parL_tx {l : List Up} (h : OkL l) : parL (txL l) = some l := parN_tx l _ h (Nat.le_refl _)
/-- of a beginning of the bytes of updates there are fewer, or none -/
theorem parN_cut : ∀ (l : List Up) (c n : Nat), OkL l → c < (txL l).length → c ≤ n → ∀ m, parN n ((txL l).take c) = some m → m.length < l.length
  | [], c, n, _, hc, _, m, _ => by unfold txL at hc; simp at hc
  | u :: l, c, n, h, hc, hn, m, hm => by
    have e : txL (u :: l) = txU u ++ txL l := by unfold txL; rfl
    rw [e] at hc hm
    rw [List.length_append] at hc
    obtain ⟨a1, a2, a3⟩ := h u (List.mem_cons_self ..)
    by_cases hz : c = 0
    · subst hz
      rw [List.take_zero] at hm
      have : m = [] := by cases n <;> (unfold parN at hm; injection hm with hm; exact hm.symm)
      subst this
      simp
    · obtain ⟨k, rfl⟩ : ∃ k, n = k + 1 := ⟨n - 1, by omega⟩
      by_cases h1 : c < (txU u).length
      · have hcl : c ≤ (txU u).length := Nat.le_of_lt h1
        rw [List.take_append_of_le_length hcl] at hm
        have hne : (txU u).take c ≠ [] := by
          intro e2
          have := congrArg List.length e2
          rw [List.length_take, List.length_nil] at this
          have hp := txU_pos u
          omega
        rw [parN_cons _ _ hne, par1_cut a1 h1] at hm
        cases hm
      · rw [List.take_append, List.take_of_length_le (by omega)] at hm
        rw [parN_cons _ _ (tx_ne u _), par1_tx a1 a2 a3] at hm
        simp only at hm
        cases e3 : parN k ((txL l).take (c - (txU u).length)) with
        | none => rw [e3] at hm; cases hm
        | some m' =>
          rw [e3] at hm
          injection hm with hm
          subst hm
          have hp := txU_pos u
          have := parN_cut l (c - (txU u).length) k (fun t ht => h t (List.mem_cons_of_mem _ ht)) (by omega) (by omega) m' e3
          simp only [List.length_cons]
          omega
theorem parL_cut {l : List Up} (h : OkL l) {c : Nat} (hc : c < (txL l).length) {m : List Up} (hm : parL ((txL l).take c) = some m) : m.length < l.length :=
  parN_cut l c _ h hc (by rw [List.length_take]; omega) m hm
theorem txL_append (a b : List Up) : txL (a ++ b) = txL a ++ txL b := List.flatMap_append
/-! ### for Parse's loop -/
theorem spl2_short {l k r : List UInt8} (h : spl2 l = some (k, r)) : r.length < l.length := by
  cases l with
  | nil => cases h
  | cons n l =>
    have h : (if l.length < n.toNat then none else some (l.take n.toNat, l.drop n.toNat)) = some (k, r) := h
    by_cases hl : l.length < n.toNat
    · rw [if_pos hl] at h; cases h
    · rw [if_neg hl] at h
      injection h with h
      injection h with h1 h2
      rw [← h2, List.length_drop, List.length_cons]; omega
theorem fin1_some {u u' : Up} {r r' : List UInt8} (h : fin1 u r = some (u', r')) : chkU u = 0 ∧ u' = u ∧ r' = r := by
  unfold fin1 at h
  split at h
  · injection h with h; injection h with h1 h2; exact ⟨by assumption, h1.symm, h2.symm⟩
  · cases h
/-- what an update of bytes is: it may be, and its numbers are in their kinds -/
theorem par1_some {s r : List UInt8} {u : Up} (h : par1 s = some (u, r)) : r.length < s.length ∧ chkU u = 0 ∧ 0 ≤ u.kind ∧ u.kind ≤ 255 ∧ 0 ≤ u.delta ∧ u.delta < 18446744073709551616 := by
  cases s with
  | nil => cases h
  | cons k s =>
    unfold par1 at h
    simp only at h
    cases e : spl2 s with
    | none => rw [e] at h; cases h
    | some p =>
      obtain ⟨key, rest⟩ := p
      rw [e] at h
      simp only at h
      have h1 := spl2_short e
      split at h
      · cases e2 : spl2 rest with
        | none => rw [e2] at h; cases h
        | some q =>
          obtain ⟨v, more⟩ := q
          rw [e2] at h
          simp only at h
          have h2 := spl2_short e2
          obtain ⟨a, rfl, rfl⟩ := fin1_some h
          refine ⟨by rw [List.length_cons]; omega, a, ?_, ?_, ?_, ?_⟩ <;> simp
      · split at h
        · split at h
          · cases h
          · obtain ⟨a, rfl, rfl⟩ := fin1_some h
            have hb := getL_bd (rest.take 8)
            have hl : (rest.take 8).length = 8 := by rw [List.length_take]; omega
            rw [hl] at hb
            refine ⟨by rw [List.length_cons, List.length_drop]; omega, a, ?_, ?_, ?_, ?_⟩
            · show (0 : Int) ≤ 3; decide
            · show (3 : Int) ≤ 255; decide
            · show (0 : Int) ≤ (getL (rest.take 8) : Nat); omega
            · show ((getL (rest.take 8) : Nat) : Int) < 18446744073709551616
              have : getL (rest.take 8) < 18446744073709551616 := hb
              omega
        · obtain ⟨a, rfl, rfl⟩ := fin1_some h
          have := k.toNat_lt
          refine ⟨by rw [List.length_cons]; omega, a, ?_, ?_, ?_, ?_⟩
          · show (0 : Int) ≤ (k.toNat : Nat); omega
          · show ((k.toNat : Nat) : Int) ≤ 255; omega
          · exact Int.le_refl 0
          · show (0 : Int) < 18446744073709551616; decide
theorem parN_more : ∀ (n m : Nat) (s : List UInt8), s.length ≤ n → s.length ≤ m → parN n s = parN m s
  | n, m, [], _, _ => by cases n <;> cases m <;> rfl
  | 0, _, x :: s, h, _ => by simp at h
  | _ + 1, 0, x :: s, _, h => by simp at h
  | n + 1, m + 1, x :: s, h, h' => by
    rw [parN_cons _ _ (by simp), parN_cons _ _ (by simp)]
    cases e : par1 (x :: s) with
    | none => rfl
    | some p =>
      obtain ⟨u, r⟩ := p
      have h1 := (par1_some e).1
      simp only
      rw [parN_more n m r (by omega) (by omega)]
theorem parL_nil : parL [] = some [] := rfl
theorem parL_none {s : List UInt8} (hs : s ≠ []) (h : par1 s = none) : parL s = none := by
  unfold parL
  obtain ⟨n, hn⟩ : ∃ n, s.length = n + 1 := ⟨s.length - 1, by have := List.length_pos_iff.2 hs; omega⟩
  rw [hn, parN_cons _ _ hs, h]
theorem parL_some {s r : List UInt8} {u : Up} (h : par1 s = some (u, r)) : parL s = (parL r).map (u :: ·) := by
  have h1 := (par1_some h).1
  have hs : s ≠ [] := fun e => by subst e; cases h
  unfold parL
  obtain ⟨n, hn⟩ : ∃ n, s.length = n + 1 := ⟨s.length - 1, by omega⟩
  rw [hn, parN_cons _ _ hs, h]
  simp only
  rw [parN_more n r.length r (by omega) (Nat.le_refl _)]
  cases parN r.length r <;> rfl
end Go.Proofs.YtflanjcfkdjpjaaGreatDoor.Rec

/- Layer 12 (rec), prepared: the document's own answers: Check, Text. -/
namespace Go.Proofs.YtflanjcfkdjpjaaGreatDoor.Rec
open Go Go.RowKit Go.Proofs.YtflanjcfkdjpjaaGreatDoor Go.Proofs.YtflanjcfkdjpjaaGreatDoor.Lend
set_option linter.unusedVariables false

/-- an update's four cells -/
def encU (u : Up) : List Value := [.int .u8 u.kind, .string (strOf u.key), .string (strOf u.val), .int .u64 u.delta]
theorem str_ne {l : List UInt8} (h : l ≠ []) : ¬ (strOf l).toList = [] := by
  rw [ByteArray.toList_eq]
  exact h
set_option maxRecDepth 100000 in
set_option maxHeartbeats 2000000 in
theorem refcheck_any (u : Up) (w : World) (hk0 : 0 ≤ u.kind) (hk1 : u.kind ≤ 255) : Calls Tryz.prog 67 #[.agg #[.int .u8 u.kind, .string (strOf u.key), .string (strOf u.val), .int .u64 u.delta]] w fun e w' => e = .returned (.int .i64 (chkU u)) ∧ Below w.heap.size w w' := by
  obtain ⟨kind, key, val, delta⟩ := u
  simp only at hk0 hk1 ⊢
  obtain ⟨c, hc⟩ : ∃ c, c = chkU ⟨kind, key, val, delta⟩ := ⟨_, rfl⟩
  rw [← hc]
  unfold chkU at hc
  simp only at hc
  have hks : (strOf key).size = key.length := by simp [strOf, ByteArray.size]
  have hvs : (strOf val).size = val.length := by simp [strOf, ByteArray.size]
  have HB := Lib.hid (((Chg.refl (fun _ => False) w).alloc (.cells #[.int .u8 kind, .string (strOf key), .string (strOf val), .int .u64 delta] 101)).below (Nat.le_refl _) (fun _ h => h.elim))
  by_cases h1 : key.length < 1 ∨ 16 < key.length ∨ 32 < val.length
  · rw [if_pos h1] at hc
    subst hc
    have h1' : key.length < 1 ∨ (¬ key.length < 1 ∧ 16 < key.length) ∨ (¬ key.length < 1 ∧ ¬ 16 < key.length ∧ 32 < val.length) := by omega
    rw [← hks, ← hvs] at h1'
    generalize strOf key = K at *
    generalize strOf val = V at *
    clear h1 hks hvs
    rcases h1' with h | ⟨h, h'⟩ | ⟨h, h', h''⟩
    · have a1 : (K.size : Int) < 1 := by omega
      go_enter Tryz.func67, Tryz.ntmps67
      go_wp2
      go_ret
      exact ⟨rfl, HB.out⟩
    · have a1 : ¬ (K.size : Int) < 1 := by omega
      have a2 : 16 < (K.size : Int) := by omega
      go_enter Tryz.func67, Tryz.ntmps67
      go_wp2
      go_ret
      exact ⟨rfl, HB.out⟩
    · have a1 : ¬ (K.size : Int) < 1 := by omega
      have a2 : ¬ 16 < (K.size : Int) := by omega
      have a3 : 32 < (V.size : Int) := by omega
      go_enter Tryz.func67, Tryz.ntmps67
      go_wp2
      go_ret
      exact ⟨rfl, HB.out⟩
  · rw [if_neg h1] at hc
    have a1 : ¬ ((strOf key).size : Int) < 1 := by omega
    have a2 : ¬ 16 < ((strOf key).size : Int) := by omega
    have a3 : ¬ 32 < ((strOf val).size : Int) := by omega
    clear h1 hks hvs
    generalize strOf key = K at *
    by_cases h4 : kind < 1
    · rw [if_pos (.inl h4)] at hc
      subst hc
      generalize strOf val = V at *
      go_enter Tryz.func67, Tryz.ntmps67
      go_wp2
      go_ret
      exact ⟨rfl, HB.out⟩
    · by_cases h5 : 3 < kind
      · rw [if_pos (.inr (.inl h5))] at hc
        subst hc
        generalize strOf val = V at *
        go_enter Tryz.func67, Tryz.ntmps67
        go_wp2
        go_ret
        exact ⟨rfl, HB.out⟩
      · have h6 : kind = 1 ∨ kind = 2 ∨ kind = 3 := by omega
        have hcs : (∃ x, x = (strOf val) ∧ val = [] ∧ x = ⟨#[]⟩) ∨ (val ≠ [] ∧ ¬ (strOf val).toList = []) := by
          by_cases e : val = []
          · exact .inl ⟨_, rfl, e, by rw [e]; rfl⟩
          · exact .inr ⟨e, str_ne e⟩
        clear h4 h5 hk0 hk1
        by_cases hd : delta = 0
        · subst hd
          rcases hcs with ⟨x, hx, hv, hx2⟩ | ⟨hv, hx⟩
          · subst hv
            rw [← hx, hx2] at a3 HB ⊢
            clear hx
            rcases h6 with rfl | rfl | rfl
            all_goals
              simp at hc
              subst hc
              go_enter Tryz.func67, Tryz.ntmps67
              go_wp2
              go_ret
              exact ⟨rfl, HB.out⟩
          · generalize strOf val = V at *
            rcases h6 with rfl | rfl | rfl
            all_goals
              simp [hv] at hc
              subst hc
              go_enter Tryz.func67, Tryz.ntmps67
              go_wp2
              go_ret
              exact ⟨rfl, HB.out⟩
        · rcases hcs with ⟨x, hx, hv, hx2⟩ | ⟨hv, hx⟩
          · subst hv
            rw [← hx, hx2] at a3 HB ⊢
            clear hx
            rcases h6 with rfl | rfl | rfl
            all_goals
              simp [hd] at hc
              subst hc
              go_enter Tryz.func67, Tryz.ntmps67
              go_wp2
              go_ret
              exact ⟨rfl, HB.out⟩
          · generalize strOf val = V at *
            rcases h6 with rfl | rfl | rfl
            all_goals
              simp [hv, hd] at hc
              subst hc
              go_enter Tryz.func67, Tryz.ntmps67
              go_wp2
              go_ret
              exact ⟨rfl, HB.out⟩
end Go.Proofs.YtflanjcfkdjpjaaGreatDoor.Rec

/- Layer 12 (rec): what Check answers. -/
namespace Go.Proofs.YtflanjcfkdjpjaaGreatDoor.Rec
open Go Go.RowKit Go.Proofs.YtflanjcfkdjpjaaGreatDoor Go.Proofs.YtflanjcfkdjpjaaGreatDoor.Lend
set_option linter.unusedVariables false

theorem str_ne' {l : List UInt8} (h : l ≠ []) : (strOf l).toList.isEmpty = false := by
  have := str_ne h
  cases e : (strOf l).toList with
  | nil => exact absurd e this
  | cons => rfl
set_option maxRecDepth 100000 in
set_option maxHeartbeats 2000000 in
theorem check_any (u : Up) (w : World) (hk0 : 0 ≤ u.kind) (hk1 : u.kind ≤ 255) : Calls Tryz.prog 69 #[.agg #[.int .u8 u.kind, .string (strOf u.key), .string (strOf u.val), .int .u64 u.delta]] w fun e w' => e = .returned (.int .i64 (chkU u)) ∧ Below w.heap.size w w' := by
  obtain ⟨kind, key, val, delta⟩ := u
  simp only at hk0 hk1 ⊢
  obtain ⟨c, hc⟩ : ∃ c, c = chkU ⟨kind, key, val, delta⟩ := ⟨_, rfl⟩
  rw [← hc]
  unfold chkU at hc
  simp only at hc
  have hks : (strOf key).size = key.length := by simp [strOf, ByteArray.size]
  have hvs : (strOf val).size = val.length := by simp [strOf, ByteArray.size]
  have HB := Lib.hid (((Chg.refl (fun _ => False) w).alloc (.cells #[.int .u8 kind, .string (strOf key), .string (strOf val), .int .u64 delta] 67)).below (Nat.le_refl _) (fun _ h => h.elim))
  by_cases h1 : key.length < 1 ∨ 16 < key.length ∨ 32 < val.length
  · rw [if_pos h1] at hc
    subst hc
    have h1' : key = [] ∨ (key ≠ [] ∧ 16 < key.length) ∨ (key ≠ [] ∧ ¬ 16 < key.length ∧ 32 < val.length) := by
      by_cases e : key = []
      · exact .inl e
      · have := List.length_pos_iff.2 e
        rcases h1 with h | h | h
        · omega
        · exact .inr (.inl ⟨e, h⟩)
        · by_cases h6 : 16 < key.length
          · exact .inr (.inl ⟨e, h6⟩)
          · exact .inr (.inr ⟨e, h6, h⟩)
    rw [← hks, ← hvs] at h1'
    clear h1 hvs
    rcases h1' with h | ⟨h, h'⟩ | ⟨h, h', h''⟩
    · subst h
      clear hks
      generalize strOf val = V at *
      obtain ⟨K, hK, hK2⟩ : ∃ x, x = strOf [] ∧ x = ⟨#[]⟩ := ⟨_, rfl, rfl⟩
      rw [← hK, hK2] at HB ⊢
      clear hK
      go_enter Tryz.func69, Tryz.ntmps69
      go_wp2
      go_ret
      exact ⟨rfl, HB.out⟩
    · have a0 := str_ne h
      have a0' := str_ne' h
      clear h hks
      generalize strOf key = K at *
      generalize strOf val = V at *
      have a2 : 16 < (K.size : Int) := by omega
      go_enter Tryz.func69, Tryz.ntmps69
      go_wp2
      go_ret
      exact ⟨rfl, HB.out⟩
    · have a0 := str_ne h
      have a0' := str_ne' h
      clear h hks
      generalize strOf key = K at *
      generalize strOf val = V at *
      have a2 : ¬ 16 < (K.size : Int) := by omega
      have a3 : 32 < (V.size : Int) := by omega
      go_enter Tryz.func69, Tryz.ntmps69
      go_wp2
      go_ret
      exact ⟨rfl, HB.out⟩
  · rw [if_neg h1] at hc
    have a0 := str_ne (l := key) (fun e => by subst e; exact h1 (.inl (by decide)))
    have a0' := str_ne' (l := key) (fun e => by subst e; exact h1 (.inl (by decide)))
    have a2 : ¬ 16 < ((strOf key).size : Int) := by omega
    have a3 : ¬ 32 < ((strOf val).size : Int) := by omega
    clear h1 hks hvs
    generalize strOf key = K at *
    by_cases h4 : kind < 1
    · rw [if_pos (.inl h4)] at hc
      subst hc
      generalize strOf val = V at *
      go_enter Tryz.func69, Tryz.ntmps69
      go_wp2
      go_ret
      exact ⟨rfl, HB.out⟩
    · by_cases h5 : 3 < kind
      · rw [if_pos (.inr (.inl h5))] at hc
        subst hc
        generalize strOf val = V at *
        go_enter Tryz.func69, Tryz.ntmps69
        go_wp2
        go_ret
        exact ⟨rfl, HB.out⟩
      · have h6 : kind = 1 ∨ kind = 2 ∨ kind = 3 := by omega
        have hcs : (∃ x, x = (strOf val) ∧ val = [] ∧ x = ⟨#[]⟩) ∨ (val ≠ [] ∧ ¬ (strOf val).toList = []) := by
          by_cases e : val = []
          · exact .inl ⟨_, rfl, e, by rw [e]; rfl⟩
          · exact .inr ⟨e, str_ne e⟩
        clear h4 h5 hk0 hk1
        by_cases hd : delta = 0
        · subst hd
          rcases hcs with ⟨x, hx, hv, hx2⟩ | ⟨hv, hx⟩
          · subst hv
            rw [← hx, hx2] at a3 HB ⊢
            clear hx
            rcases h6 with rfl | rfl | rfl
            all_goals
              simp at hc
              subst hc
              go_enter Tryz.func69, Tryz.ntmps69
              go_wp2
              go_ret
              exact ⟨rfl, HB.out⟩
          · generalize strOf val = V at *
            rcases h6 with rfl | rfl | rfl
            all_goals
              simp [hv] at hc
              subst hc
              go_enter Tryz.func69, Tryz.ntmps69
              go_wp2
              go_ret
              exact ⟨rfl, HB.out⟩
        · rcases hcs with ⟨x, hx, hv, hx2⟩ | ⟨hv, hx⟩
          · subst hv
            rw [← hx, hx2] at a3 HB ⊢
            clear hx
            rcases h6 with rfl | rfl | rfl
            all_goals
              simp [hd] at hc
              subst hc
              go_enter Tryz.func69, Tryz.ntmps69
              go_wp2
              go_ret
              exact ⟨rfl, HB.out⟩
          · generalize strOf val = V at *
            rcases h6 with rfl | rfl | rfl
            all_goals
              simp [hv, hd] at hc
              subst hc
              go_enter Tryz.func69, Tryz.ntmps69
              go_wp2
              go_ret
              exact ⟨rfl, HB.out⟩
end Go.Proofs.YtflanjcfkdjpjaaGreatDoor.Rec

/- Layer 12 (rec), prepared: the document's own answers: Text. -/
namespace Go.Proofs.YtflanjcfkdjpjaaGreatDoor.Rec
open Go Go.RowKit Go.Proofs.YtflanjcfkdjpjaaGreatDoor Go.Proofs.YtflanjcfkdjpjaaGreatDoor.Lend
set_option linter.unusedVariables false

/-- a slice that reads as the updates l -/
structure UR (w : World) (v : Value) (l : List Up) : Prop where
  form : ∃ a cap, v = .slice a l.length cap ∧ (0 < l.length → ∃ g off, a = some ⟨g, off, none⟩ ∧ ∀ i (hi : i < l.length) j, j < 4 → w.cell? ⟨g, off + i * 4 + j, none⟩ = (encU l[i])[j]?)
theorem UR.below {w w' : World} {v : Value} {l : List Up} (h : UR w v l) (hb : Below w.heap.size w w') : UR w' v l := by
  obtain ⟨a, cap, rfl, hx⟩ := h.form
  refine ⟨a, cap, rfl, fun h0 => ?_⟩
  obtain ⟨g, off, rfl, hc⟩ := hx h0
  refine ⟨g, off, rfl, fun i hi j hj => ?_⟩
  rw [← hc i hi j hj]
  have h1 := hc i hi j hj
  have h2 : (encU l[i])[j]? = some ((encU l[i])[j]'(by simpa [encU] using hj)) := List.getElem?_eq_getElem _
  rw [h2] at h1
  exact hb.cell (World.block_lt_of_cell? _ _ h1)
theorem txL_step {l : List Up} {k : Nat} (hk : k < l.length) : txL (l.take (k + 1)) = txL (l.take k) ++ txU l[k] := by
  rw [List.take_succ_eq_append_getElem hk, txL_append]
  congr 1
  unfold txL; simp
theorem errL_step {l : List Up} {k : Nat} (hk : k < l.length) (h : errL (l.take k) = 0) : errL (l.take (k + 1)) = chkU l[k] := by
  have : ∀ (a : List Up) (u : Up), errL a = 0 → errL (a ++ [u]) = chkU u := fun a u => by
    induction a with
    | nil => intro _; show (if chkU u = 0 then errL [] else chkU u) = chkU u; split <;> simp_all [errL]
    | cons x a ih =>
      intro h
      by_cases e : chkU x = 0
      · have h2 : errL a = 0 := by have : errL (x :: a) = errL a := by show (if chkU x = 0 then _ else _) = _; rw [if_pos e]
                                   rw [← this]; exact h
        show (if chkU x = 0 then errL (a ++ [u]) else chkU x) = _
        rw [if_pos e]; exact ih h2
      · have : errL (x :: a) = chkU x := by show (if chkU x = 0 then _ else _) = _; rw [if_neg e]
        rw [this] at h; exact absurd h e
  rw [List.take_succ_eq_append_getElem hk]; exact this _ _ h
theorem errL_at {l : List Up} {k : Nat} (hk : k < l.length) (h : errL (l.take k) = 0) (hc : chkU l[k] ≠ 0) : errL l = chkU l[k] := by
  have : ∀ (l : List Up) (k : Nat) (hk : k < l.length), errL (l.take k) = 0 → chkU l[k] ≠ 0 → errL l = chkU l[k] := fun l => by
    induction l with
    | nil => intro k hk; cases hk
    | cons x l ih =>
      intro k hk h hc
      cases k with
      | zero =>
        show (if chkU x = 0 then errL l else chkU x) = chkU x
        have hc' : ¬ chkU x = 0 := hc
        rw [if_neg hc']
      | succ k =>
        rw [List.take_succ_cons] at h
        by_cases e : chkU x = 0
        · have h2 : errL (l.take k) = 0 := by
            have h3 : errL (x :: l.take k) = errL (l.take k) := by show (if chkU x = 0 then _ else _) = _; rw [if_pos e]
            rw [← h3]; exact h
          show (if chkU x = 0 then errL l else chkU x) = _
          rw [if_pos e]
          exact ih k (by simpa using hk) h2 hc
        · have h3 : errL (x :: l.take k) = chkU x := by show (if chkU x = 0 then _ else _) = _; rw [if_neg e]
          rw [h3] at h; exact absurd h e
  exact this l k hk h hc
theorem getD_toNat {b : Int} (h0 : 0 ≤ b) (h1 : b ≤ 255) : ((UInt8.ofNat b.toNat).toNat : Int) = b := by rw [ofNat_small (by omega)]; omega
theorem conv2 (w : World) (b1 b2 : Int) (h1 : 0 ≤ b1) (h2 : b1 ≤ 255) (h3 : 0 ≤ b2) (h4 : b2 ≤ 255) : (convert 44 9 (.slice (some ⟨w.heap.size, 0, none⟩) 2 2)).run Tryz.prog (w.alloc (.cells #[.int .u8 b1, .int .u8 b2] 5)) = .ok (.string (Lend.strOf [UInt8.ofNat b1.toNat, UInt8.ofNat b2.toNat])) (w.alloc (.cells #[.int .u8 b1, .int .u8 b2] 5)) := by
  refine run_string_brow _ w.heap.size 2 2 [UInt8.ofNat b1.toNat, UInt8.ofNat b2.toNat] ⟨fun j hj => ?_, fun j hj => ?_⟩ rfl
  · have h := (Has.new w [.int .u8 b1, .int .u8 b2] 5).cell j
    match j, hj with
    | 0, _ => rw [show (([UInt8.ofNat b1.toNat, UInt8.ofNat b2.toNat].getD 0 0).toNat : Int) = b1 from getD_toNat h1 h2]; exact h
    | 1, _ => rw [show (([UInt8.ofNat b1.toNat, UInt8.ofNat b2.toNat].getD 1 0).toNat : Int) = b2 from getD_toNat h3 h4]; exact h
  · exact (Has.new w [.int .u8 b1, .int .u8 b2] 5).frozen j
theorem conv1 (w : World) (b1 : Int) (h1 : 0 ≤ b1) (h2 : b1 ≤ 255) : (convert 44 9 (.slice (some ⟨w.heap.size, 0, none⟩) 1 1)).run Tryz.prog (w.alloc (.cells #[.int .u8 b1] 5)) = .ok (.string (Lend.strOf [UInt8.ofNat b1.toNat])) (w.alloc (.cells #[.int .u8 b1] 5)) := by
  refine run_string_brow _ w.heap.size 1 1 [UInt8.ofNat b1.toNat] ⟨fun j hj => ?_, fun j hj => ?_⟩ rfl
  · have h := (Has.new w [.int .u8 b1] 5).cell j
    match j, hj with
    | 0, _ => rw [show (([UInt8.ofNat b1.toNat].getD 0 0).toNat : Int) = b1 from getD_toNat h1 h2]; exact h
  · exact (Has.new w [.int .u8 b1] 5).frozen j
theorem sapp (a b : List UInt8) : Lend.strOf a ++ Lend.strOf b = Lend.strOf (a ++ b) := by
  apply ByteArray.ext
  simp [Lend.strOf]
theorem ssize (a : List UInt8) : (Lend.strOf a).size = a.length := by simp [Lend.strOf, ByteArray.size]
theorem b_on2 {w w' : World} {o : Obj} (h : Below w.heap.size w w') : Below w.heap.size w (w'.alloc o) := h.alloc h.size o
/-- what Text answers -/
def txT (l : List Up) : List UInt8 := if errL l = 0 then txL l else []
set_option maxRecDepth 100000 in
set_option maxHeartbeats 4000000 in
theorem reftext_any {v : Value} {l : List Up} {w : World} (h : UR w v l) (hl : l.length ≤ 1000) (hwf : ∀ u ∈ l, 0 ≤ u.kind ∧ u.kind ≤ 255 ∧ 0 ≤ u.delta ∧ u.delta < 18446744073709551616) : Calls Tryz.prog 37 #[v] w fun e w' => e = .returned (.tuple #[.string (Lend.strOf (txT l)), .int .i64 (errL l)]) ∧ Below w.heap.size w w' := by
  obtain ⟨a, cap, rfl, hcell⟩ := h.form
  obtain ⟨n, hn⟩ : ∃ n, n = l.length := ⟨_, rfl⟩
  have HN := Lib.hid hn
  have HW := Lib.hid hwf
  have HC := Lib.hid hcell
  rw [← hn] at hl ⊢
  clear hn h hwf hcell
  go_enter Tryz.func37, Tryz.ntmps37
  go_wp2_with fail
  go_loopw [4, 5] (fun s i wr => ∃ k : Nat, k ≤ n ∧ i = .int .i64 k ∧ s = .string (Lend.strOf (txL (l.take k))) ∧ errL (l.take k) = 0 ∧ (txL (l.take k)).length ≤ 51 * k ∧ Below w.heap.size w wr) (fun _ i _ => n - (intOf i).toNat)
  case atStart => exact ⟨0, Nat.zero_le _, rfl, rfl, rfl, Nat.zero_le _, Below.refl _ _⟩
  case round =>
    obtain ⟨k, hk, rfl, rfl, her, hln, hb⟩ := hrel
    by_cases hlt : k < n
    · have hke : k < l.length := by rw [← HN.out]; exact hlt
      have hki : (k : Int) < (n : Int) := by omega
      obtain ⟨g, off, rfl, hc⟩ := HC.out (by omega)
      have hc := fun j hj => hc k hke j hj
      have hmem := List.getElem_mem hke
      have hts := txL_step hke
      have hes := errL_step hke her
      have hat := errL_at hke her
      obtain ⟨u, hu⟩ : ∃ u, u = l[k] := ⟨_, rfl⟩
      rw [← hu] at hc hmem hts hes hat
      have hbc : ∀ j x, j < 4 → (encU u)[j]? = some x → wr.cell? ⟨g, off + k * 4 + j, none⟩ = some x := fun j x hj hx => by
        have h1 := (hc j hj).trans hx
        rw [hb.cell (World.block_lt_of_cell? _ _ h1)]; exact h1
      have c0 : wr.cell? ⟨g, off + k * 4, none⟩ = some (.int .u8 u.kind) := hbc 0 _ (by omega) rfl
      have c1 : wr.cell? ⟨g, off + k * 4 + 1, none⟩ = some (.string (Lend.strOf u.key)) := hbc 1 _ (by omega) rfl
      have c2 : wr.cell? ⟨g, off + k * 4 + 2, none⟩ = some (.string (Lend.strOf u.val)) := hbc 2 _ (by omega) rfl
      have c3 : wr.cell? ⟨g, off + k * 4 + 3, none⟩ = some (.int .u64 u.delta) := hbc 3 _ (by omega) rfl
      obtain ⟨w1, hw1⟩ : ∃ w1, w1 = wr.alloc (.cells #[.int .u8 u.kind, .string (Lend.strOf u.key), .string (Lend.strOf u.val), .int .u64 u.delta] 101) := ⟨_, rfl⟩
      have HX := Lib.hid (show Has w1 wr.heap.size 101 (encU u) by rw [hw1]; exact Has.new wr _ _)
      have HB1 := Lib.hid (show Below w.heap.size w w1 by rw [hw1]; exact hb.alloc hb.size _)
      have HTS := Lib.hid hts
      have HES := Lib.hid hes
      have HAT := Lib.hid hat
      have HU := Lib.hid (HW.out u hmem)
      have y0 := HX.out.cell 0
      have y1 := HX.out.cell 1
      have y2 := HX.out.cell 2
      have y3 := HX.out.cell 3
      simp only [encU, List.getElem?_cons_zero, List.getElem?_cons_succ] at y0 y1 y2 y3
      rw [hw1] at y0 y1 y2 y3
      clear hu hke hc hbc hmem hts hes hat hb
      go_wp2_with fail
      rw [← hw1]
      clear c0 c1 c2 c3
      refine (refcheck_any u w1 HU.out.1 HU.out.2.1).mono ?_
      rintro e w2 ⟨rfl, hb2⟩
      by_cases hck : chkU u = 0
      · rw [hck]
        have hx2 := HX.out.below hb2 HX.out.lt
        obtain ⟨p1, p2, p3, p4, p5, p6, p7⟩ := chkU_ok hck
        have HX2 := Lib.hid hx2
        have HB2 := Lib.hid (HB1.out.trans (hb2.mono HB1.out.size))
        clear y0 y1 y2 y3
        have y0 := hx2.cell 0
        have y1 := hx2.cell 1
        have y2 := hx2.cell 2
        have y3 := hx2.cell 3
        simp only [encU, List.getElem?_cons_zero, List.getElem?_cons_succ] at y0 y1 y2 y3
        have s1 := ssize u.key
        have s2 := ssize u.val
        have s3 := ssize (txL (l.take k))
        have hks : (Lend.strOf u.key).size ≤ 16 := by omega
        have hvs : (Lend.strOf u.val).size ≤ 32 := by omega
        have hts : (Lend.strOf (txL (l.take k))).size ≤ 51000 := by omega
        obtain ⟨K, hK⟩ : ∃ K, K = Lend.strOf u.key := ⟨_, rfl⟩
        obtain ⟨V, hV⟩ : ∃ K, K = Lend.strOf u.val := ⟨_, rfl⟩
        obtain ⟨T, hT⟩ : ∃ K, K = Lend.strOf (txL (l.take k)) := ⟨_, rfl⟩
        rw [← hK] at hks y1 s1
        rw [← hV] at hvs y2 s2
        rw [← hT] at hts
        rw [← hK, ← hV, ← hT]
        have hcv := conv2 w2 u.kind (K.size : Int) (by omega) (by omega) (by omega) (by omega)
        obtain ⟨P, hP⟩ : ∃ P, P = Lend.strOf [UInt8.ofNat u.kind.toNat, UInt8.ofNat (K.size : Int).toNat] := ⟨_, rfl⟩
        rw [← hP] at hcv
        have hps : P.size ≤ 2 := by rw [hP]; exact Nat.le_refl _
        have HLN := Lib.hid hln
        have HER := Lib.hid her
        have HK := Lib.hid hK
        have HV := Lib.hid hV
        have HT := Lib.hid hT
        have HP := Lib.hid (show P = Lend.strOf [UInt8.ofNat u.kind.toNat, UInt8.ofNat u.key.length] by rw [hP, s1, Int.toNat_natCast])
        have HSV := Lib.hid s2
        have HCK := Lib.hid hck
        have H6 := Lib.hid p6
        have H7 := Lib.hid p7
        have HTL := Lib.hid (txU_length hck)
        have HKL := Lib.hid p2
        have HVL := Lib.hid p3
        clear hx2 hb2 HX HB1 HAT hln her hK hV hT hP s1 s2 s3 hck p1 p2 p3 p6 p7
        obtain ⟨kd, hkd⟩ : ∃ x, x = u.kind := ⟨_, rfl⟩
        obtain ⟨dl, hdl⟩ : ∃ x, x = u.delta := ⟨_, rfl⟩
        rw [← hkd] at y0 hcv p4 p5
        rw [← hdl] at y3
        rw [← hkd, ← hdl]
        have HKD := Lib.hid hkd
        have HDL := Lib.hid hdl
        clear hkd hdl
        have hxl := HX2.out.lt
        rcases (show kd = 1 ∨ kd = 2 ∨ kd = 3 by omega) with rfl | rfl | rfl
        · clear p4 p5
          have hcv1 := conv1 (w2.alloc (.cells #[.int .u8 1, .int .u8 (K.size : Int)] 5)) (V.size : Int) (by omega) (by omega)
          rw [World.size_alloc] at hcv1
          obtain ⟨Q, hQ⟩ : ∃ Q, Q = Lend.strOf [UInt8.ofNat (V.size : Int).toNat] := ⟨_, rfl⟩
          rw [← hQ] at hcv1
          have hqs : Q.size ≤ 1 := by rw [hQ]; exact Nat.le_refl _
          have HQ := Lib.hid (show Q = Lend.strOf [UInt8.ofNat u.val.length] by rw [hQ, HSV.out, Int.toNat_natCast])
          clear hQ
          have hxl2 : wr.heap.size < w2.heap.size + 1 := by omega
          have HF := Lib.hid (show T ++ P ++ K ++ Q ++ V = Lend.strOf (txL (l.take (k + 1))) from by
            rw [HT.out, HP.out, HK.out, HQ.out, HV.out, sapp, sapp, sapp, sapp, HTS.out]
            unfold txU len8
            rw [← HKD.out, if_pos rfl, if_neg (by decide)]
            simp)
          have HLN2 := Lib.hid (show (txL (l.take (k + 1))).length ≤ 51 * (k + 1) from by
            rw [HTS.out, List.length_append, HTL.out, ← HKD.out, if_pos rfl, if_neg (by decide)]
            have := HLN.out; have := HKL.out; have := HVL.out; omega)
          go_wp2_with fail
          go_roundw
          case rel => exact ⟨k + 1, by omega, by go_num, by rw [HF.out], by rw [HES.out]; exact HCK.out, HLN2.out, b_on2 (b_on2 HB2.out)⟩
          case measure => simp [intOf]; omega
        · clear p4 p5
          have HF := Lib.hid (show T ++ P ++ K = Lend.strOf (txL (l.take (k + 1))) from by
            rw [HT.out, HP.out, HK.out, sapp, sapp, HTS.out]
            unfold txU len8
            rw [← HKD.out, if_neg (by decide), if_neg (by decide)]
            simp)
          have HLN2 := Lib.hid (show (txL (l.take (k + 1))).length ≤ 51 * (k + 1) from by
            rw [HTS.out, List.length_append, HTL.out, ← HKD.out, if_neg (by decide), if_neg (by decide)]
            have := HLN.out; have := HKL.out; omega)
          go_wp2_with fail
          go_roundw
          case rel => exact ⟨k + 1, by omega, by go_num, by rw [HF.out], by rw [HES.out]; exact HCK.out, HLN2.out, b_on2 HB2.out⟩
          case measure => simp [intOf]; omega
        · clear p4 p5
          have HPU := Lib.hid (fun W => refput_any dl 8 W (by rw [HDL.out]; exact HU.out.2.2.1) (by rw [HDL.out]; exact HU.out.2.2.2))
          obtain ⟨D, hD⟩ : ∃ D, D = putS dl 8 := ⟨_, rfl⟩
          have HD := Lib.hid (show D = Lend.strOf (encN dl 8) by rw [hD]; exact (put_ok (by decide) (by decide)).2)
          have hds : D.size ≤ 8 := by rw [HD.out, ssize, encN_length]; omega
          rw [← hD] at HPU
          clear hD
          have HF := Lib.hid (show T ++ P ++ K ++ D = Lend.strOf (txL (l.take (k + 1))) from by
            rw [HT.out, HP.out, HK.out, HD.out, sapp, sapp, sapp, HTS.out]
            unfold txU len8
            rw [← HKD.out, if_neg (by decide), if_pos rfl, ← HDL.out]
            simp)
          have HLN2 := Lib.hid (show (txL (l.take (k + 1))).length ≤ 51 * (k + 1) from by
            rw [HTS.out, List.length_append, HTL.out, ← HKD.out, if_neg (by decide), if_pos rfl]
            have := HLN.out; have := HKL.out; omega)
          go_wp2_with fail
          refine (HPU.out _).mono ?_
          rintro e w3 ⟨rfl, hb3⟩
          have HB3 := Lib.hid ((b_on2 HB2.out).trans (hb3.mono (b_on2 (o := .cells #[.int .u8 3, .int .u8 (K.size : Int)] 5) HB2.out).size))
          clear hb3 y0 y1 y2 y3 hcv
          go_wp2_with fail
          go_roundw
          case rel => exact ⟨k + 1, by omega, by go_num, by rw [HF.out], by rw [HES.out]; exact HCK.out, HLN2.out, HB3.out⟩
          case measure => simp [intOf]; omega
      · have hne : (chkU u == 0) = false := by simpa using hck
        have HF := Lib.hid (show txT l = [] ∧ errL l = chkU u from ⟨by unfold txT; rw [if_neg (by rw [HAT.out hck]; exact hck)], HAT.out hck⟩)
        have HB2 := Lib.hid (HB1.out.trans (hb2.mono HB1.out.size))
        clear hb2 y0 y1 y2 y3
        go_wp2_with fail
        go_ret2
        exact ⟨by rw [HF.out.1, HF.out.2]; rfl, HB2.out⟩
    · have hkn : k = n := by omega
      subst hkn
      have hki : ¬ (k : Int) < (k : Int) := by omega
      have htk : l.take k = l := List.take_of_length_le (by rw [← HN.out]; exact Nat.le_refl _)
      rw [htk] at her hln ⊢
      have HF := Lib.hid (show txT l = txL l from by unfold txT; rw [if_pos her])
      have HE := Lib.hid her
      have HB := Lib.hid hb
      clear hb her hln htk
      go_wp2
      go_ret2
      exact ⟨by rw [HF.out, HE.out]; rfl, HB.out⟩
end Go.Proofs.YtflanjcfkdjpjaaGreatDoor.Rec

/- Contracts of layer 1 (lend): Join; and the statements' own sign of life. -/
namespace Go.Proofs.YtflanjcfkdjpjaaGreatDoor.Lend
open Go.RowKit Go.Proofs.YtflanjcfkdjpjaaGreatDoor
set_option linter.unusedVariables false

def jnB (l : List UInt8) : Bool := decide (l.length ≤ 255)
def jnS (l : List UInt8) : List UInt8 := if l.length ≤ 255 then UInt8.ofNat l.length :: l else []

set_option maxRecDepth 100000 in
theorem join_any (s : ByteArray) (w : World) (hs : s.size ≤ 1000000) :
    Calls Tryz.prog 103 #[.string s] w fun e w' => e = .returned (.tuple #[.string (strOf (jnS s.data.toList)), .bool (jnB s.data.toList)]) ∧ Below w.heap.size w w' := by
  by_cases h : s.size ≤ 255
  · have hcv := run_string_one w s.size
    have hsz : (strOf [UInt8.ofNat s.size]).size ≤ 1 := Nat.le_refl _
    go_enter Tryz.func103, Tryz.ntmps103
    go_wp2
    go_ret2
    refine ⟨ret_wr (strOf_ext ?_) ?_, (Below.refl _ _).alloc (Nat.le_refl _) _⟩
    · rw [jnS, if_pos (by rw [bytes_length]; exact h), bytes_length]
      simp [strOf]
    · simp [jnB, h]
  · go_enter Tryz.func103, Tryz.ntmps103
    go_wp2
    go_ret2
    exact ⟨ret_wr (by rw [jnS, if_neg (by rw [bytes_length]; exact h)]; rfl) (by simp [jnB]; omega), Below.refl _ _⟩

theorem strOf_self (s : ByteArray) : strOf s.data.toList = s := (strOf_ext rfl).symm
/-- what there is to know of a text that is short enough, with its length ahead -/
theorem jn_yes (s v : ByteArray) (h : s.size ≤ 255) : jnB s.data.toList = true ∧ (strOf (jnS s.data.toList)).size = s.size + 1 ∧
    splB (strOf (jnS s.data.toList) ++ v).data.toList = true ∧ strOf (splT (strOf (jnS s.data.toList) ++ v).data.toList) = s ∧ strOf (splR (strOf (jnS s.data.toList) ++ v).data.toList) = v := by
  have hl : s.data.toList.length = s.size := bytes_length s
  have e : jnS s.data.toList = UInt8.ofNat s.data.toList.length :: s.data.toList := by rw [jnS, if_pos (by omega)]
  have hb : (UInt8.ofNat s.data.toList.length).toNat = s.data.toList.length := by rw [UInt8.toNat_ofNat']; omega
  have e2 : (strOf (jnS s.data.toList) ++ v).data.toList = UInt8.ofNat s.data.toList.length :: (s.data.toList ++ v.data.toList) := by rw [e]; simp [strOf]
  refine ⟨by simp [jnB]; omega, ?_, ?_, ?_, ?_⟩
  · rw [e]; show (UInt8.ofNat s.data.toList.length :: s.data.toList).length = _; rw [List.length_cons, hl]
  · rw [e2]; simp only [splB, hb, List.length_append]; simp
  · rw [e2]; simp only [splT, hb, List.length_append]; rw [if_pos (by omega), List.take_left' rfl, strOf_self]
  · rw [e2]; simp only [splR, hb, List.length_append]; rw [if_pos (by omega), List.drop_left' rfl, strOf_self]
theorem jn_no (s : ByteArray) (h : 255 < s.size) : jnB s.data.toList = false ∧ strOf (jnS s.data.toList) = ⟨#[]⟩ := by
  have hl : s.data.toList.length = s.size := bytes_length s
  refine ⟨by simp [jnB]; omega, ?_⟩
  rw [jnS, if_neg (by omega)]; rfl
theorem wake_facts : wrS [2, 1] [2, 1] = ⟨#[2, 0, 1]⟩ ∧ wrB [2, 1] [2, 1] = true ∧ rdB [2, 1] (⟨#[2, 0, 1, 122]⟩ : ByteArray).data.toList = true ∧ rdN [2, 1] (⟨#[2, 0, 1, 122]⟩ : ByteArray).data.toList = [2, 1] ∧ rdS [2, 1] (⟨#[2, 0, 1, 122]⟩ : ByteArray).data.toList = [122] ∧
    splB (⟨#[2, 97, 98, 99]⟩ : ByteArray).data.toList = true ∧ splT (⟨#[2, 97, 98, 99]⟩ : ByteArray).data.toList = [97, 98] ∧ splR (⟨#[2, 97, 98, 99]⟩ : ByteArray).data.toList = [99] ∧ measN [8, 1] = 9 := by
  refine ⟨?_, ?_, ?_, ?_, ?_, ?_, ?_, ?_, ?_⟩ <;> first | rfl | decide +kernel

end Go.Proofs.YtflanjcfkdjpjaaGreatDoor.Lend

/- Layer 12 (rec): an update's bytes, its size. -/
namespace Go.Proofs.YtflanjcfkdjpjaaGreatDoor
open Go.RowKit
theorem Row.oneAt (kd : IntKind) (w : World) (a : Int) (e : TypeId) (n : Nat) (h : n = w.heap.size) : Row kd (w.alloc (.cells #[.int kd a] e)) (some ⟨n, 0, none⟩) 1 [a] := by
  subst h
  refine ⟨rfl, fun _ => ⟨w.heap.size, 0, rfl, fun i hi => ?_⟩⟩
  match i, hi with
  | 0, _ => simp
theorem Row.threeAt (kd : IntKind) (w : World) (a b c : Int) (e : TypeId) (n : Nat) (h : n = w.heap.size) : Row kd (w.alloc (.cells #[.int kd a, .int kd b, .int kd c] e)) (some ⟨n, 0, none⟩) 3 [a, b, c] := by
  subst h
  refine ⟨rfl, fun _ => ⟨w.heap.size, 0, rfl, fun i hi => ?_⟩⟩
  match i, hi with
  | 0, _ => simp
  | 1, _ => simp
  | 2, _ => simp
theorem Row.later {kd : IntKind} {w w' : World} {ao : Option Addr} {len : Nat} {xs : List Int} (h : Row kd w ao len xs) (hb : Below w.heap.size w w') : Row kd w' ao len xs := h.below hb (Nat.le_refl _)
theorem Row.new {kd : IntKind} {w : World} {ao : Option Addr} {len : Nat} {xs : List Int} (h : Row kd w ao len xs) (o : Obj) : Row kd (w.alloc o) ao len xs := h.later ((Below.refl _ _).alloc (Nat.le_refl _) _)
theorem Row.drw {kd : IntKind} {w : World} {ao : Option Addr} {len : Nat} {xs : List Int} (h : Row kd w ao len xs) : Row kd w.drew ao len xs := ⟨h.1, h.2⟩
end Go.Proofs.YtflanjcfkdjpjaaGreatDoor
namespace Go.Proofs.YtflanjcfkdjpjaaGreatDoor.Rec
open Go Go.RowKit Go.Proofs.YtflanjcfkdjpjaaGreatDoor Go.Proofs.YtflanjcfkdjpjaaGreatDoor.Lend
set_option linter.unusedVariables false

theorem keep1 {w1 w2 : World} {p : Addr} {x : Value} (h : w1.cell? p = some x) (hb : Below w1.heap.size w1 w2) : w2.cell? p = some x := by rw [hb.cell (World.block_lt_of_cell? _ _ h)]; exact h
theorem keep3 {w1 w2 : World} {p q r : Addr} {x y z : Value} (h : w1.cell? p = some x ∧ w1.cell? q = some y ∧ w1.cell? r = some z) (hb : Below w1.heap.size w1 w2) :
    w2.cell? p = some x ∧ w2.cell? q = some y ∧ w2.cell? r = some z := ⟨keep1 h.1 hb, keep1 h.2.1 hb, keep1 h.2.2 hb⟩
theorem below_new (w : World) (o : Obj) : Below w.heap.size w (w.alloc o) := (Below.refl _ _).alloc (Nat.le_refl _) _
theorem below_on {w w1 w2 : World} (h : Below w.heap.size w w1) (k : Below w1.heap.size w1 w2) : Below w.heap.size w w2 := h.trans (k.mono h.size)
theorem below_nw {w w1 : World} (h : Below w.heap.size w w1) (o : Obj) : Below w.heap.size w (w1.alloc o) := h.alloc h.size o
theorem below_dr {w w1 : World} (h : Below w.heap.size w w1) : Below w.heap.size w w1.drew := h.drew
theorem ret_str {a b : ByteArray} (h : a = b) : Ending.returned (.string a) = .returned (.string b) := by rw [h]
theorem ret_i64 {a b : Int} (h : a = b) : Ending.returned (.int .i64 a) = .returned (.int .i64 b) := by rw [h]
theorem deltaW_any (w : World) : Calls Tryz.prog 104 #[] w fun e w' => ∃ b, e = .returned (.slice (some ⟨b, 0, none⟩) 1 1) ∧ Row .i64 w' (some ⟨b, 0, none⟩) 1 [8] ∧ Below w.heap.size w w' := by
  go_enter Tryz.func104, Tryz.ntmps104
  go_wp2
  go_ret
  exact ⟨_, rfl, Row.oneAt .i64 w 8 _ _ rfl, below_new _ _⟩
theorem recW_any (w : World) : Calls Tryz.prog 72 #[] w fun e w' => ∃ b, e = .returned (.slice (some ⟨b, 0, none⟩) 3 3) ∧ Row .i64 w' (some ⟨b, 0, none⟩) 3 [8, 4, 2] ∧ Below w.heap.size w w' := by
  go_enter Tryz.func72, Tryz.ntmps72
  go_wp2
  go_ret
  exact ⟨_, rfl, Row.threeAt .i64 w 8 4 2 _ _ rfl, below_new _ _⟩
theorem wr8 {d : Int} (h0 : 0 ≤ d) (h1 : d < 18446744073709551616) : wrS [8] [d] = Lend.strOf (encN d 8) ∧ wrB [8] [d] = true := by
  have h := wr_ok (ws := [8]) (ns := [d]) rfl rfl (by simp [fitsL, fitsB_8 d h1])
  refine ⟨?_, h.1⟩
  rw [h.2]
  simp [encL]
/-- a text, with its length ahead -/
theorem join_len (l : List UInt8) (w : World) (h : l.length ≤ 255) : Calls Tryz.prog 103 #[.string (Lend.strOf l)] w fun e w' => e = .returned (.tuple #[.string (Lend.strOf (len8 l)), .bool true]) ∧ Below w.heap.size w w' := by
  refine (join_any (Lend.strOf l) w (by rw [ssize]; omega)).mono ?_
  rintro e w' ⟨rfl, hb⟩
  refine ⟨?_, hb⟩
  rw [Lend.strOf_data, show jnS l = len8 l by unfold jnS len8; rw [if_pos h], show jnB l = true by simp [jnB, h]]
theorem txU_le {u : Up} (h : chkU u = 0) : (txU u).length ≤ 51 := by
  obtain ⟨p1, p2, p3, p4, p5, p6, p7⟩ := chkU_ok h
  rw [txU_length h]
  split <;> split <;> omega
set_option maxRecDepth 100000 in
set_option maxHeartbeats 4000000 in
theorem text_any (u : Up) (w : World) (hc : chkU u = 0) (h0 : 0 ≤ u.delta) (h1 : u.delta < 18446744073709551616) : Calls Tryz.prog 70 #[.agg #[.int .u8 u.kind, .string (Lend.strOf u.key), .string (Lend.strOf u.val), .int .u64 u.delta]] w fun e w' => e = .returned (.string (Lend.strOf (txU u))) ∧ Below w.heap.size w w' := by
  obtain ⟨p1, p2, p3, p4, p5, p6, p7⟩ := chkU_ok hc
  have HJK := Lib.hid (fun W => join_len u.key W (by omega))
  have HJV := Lib.hid (fun W => join_len u.val W (by omega))
  have HWR := Lib.hid (wr8 h0 h1)
  have HDN := Lib.hid (show ∀ n ∈ [u.delta], 0 ≤ n ∧ n < 18446744073709551616 from fun n hn => by rw [List.mem_singleton] at hn; subst hn; exact ⟨h0, h1⟩)
  have HTX : Hid (txU u = [UInt8.ofNat u.kind.toNat] ++ len8 u.key ++ ((if u.kind = 1 then len8 u.val else []) ++ (if u.kind = 3 then encN u.delta 8 else []))) := Lib.hid (by unfold txU; simp)
  obtain ⟨D, hD⟩ : ∃ D, D = Lend.strOf (encN u.delta 8) := ⟨_, rfl⟩
  have hds : D.size ≤ 8 := by rw [hD, ssize, encN_length]; omega
  rw [← hD] at HWR
  have HD := Lib.hid hD
  obtain ⟨J, hJ⟩ : ∃ D, D = Lend.strOf (len8 u.key) := ⟨_, rfl⟩
  have hjs : J.size ≤ 17 := by rw [hJ, ssize]; simp [len8]; omega
  rw [← hJ] at HJK
  have HJ := Lib.hid hJ
  obtain ⟨V, hV⟩ : ∃ D, D = Lend.strOf (len8 u.val) := ⟨_, rfl⟩
  have hvs : V.size ≤ 33 := by rw [hV, ssize]; simp [len8]; omega
  rw [← hV] at HJV
  have HV := Lib.hid hV
  obtain ⟨kd, hkd⟩ : ∃ x, x = u.kind := ⟨_, rfl⟩
  obtain ⟨dl, hdl⟩ : ∃ x, x = u.delta := ⟨_, rfl⟩
  obtain ⟨k, hk⟩ : ∃ x, x = Lend.strOf u.key := ⟨_, rfl⟩
  obtain ⟨v, hv⟩ : ∃ x, x = Lend.strOf u.val := ⟨_, rfl⟩
  rw [← hk] at HJK
  rw [← hv] at HJV
  rw [← hkd] at p4 p5 HTX
  rw [← hdl] at HWR HDN HTX
  rw [← hkd, ← hdl, ← hk, ← hv]
  have HDL := Lib.hid hdl
  clear hc h0 h1 p1 p2 p3 p6 p7 hD hJ hV hkd hdl hk hv
  obtain ⟨w0, hw0⟩ : ∃ x, x = w.alloc (.cells #[.int .u8 kd, .string k, .string v, .int .u64 dl] 67) := ⟨_, rfl⟩
  have HB0 := Lib.hid (show Below w.heap.size w w0 by rw [hw0]; exact below_new _ _)
  have HX := Lib.hid (show Has w0 w.heap.size 67 [.int .u8 kd, .string k, .string v, .int .u64 dl] by rw [hw0]; exact Has.new _ _ _)
  rcases (show kd = 1 ∨ kd = 2 ∨ kd = 3 by omega) with rfl | rfl | rfl
  all_goals
    clear p4 p5
    go_enter Tryz.func70, Tryz.ntmps70
    go_wp2_with fail
    rw [← hw0]
    refine (HJK.out _).mono ?_
    rintro e w1 ⟨rfl, hb1⟩
    have hx1 := HX.out.below hb1 HX.out.lt
    have HB1 := Lib.hid (below_on HB0.out hb1)
    have HX1 := Lib.hid hx1
    have hxl := hx1.lt
    have y0 := hx1.cell 0
    have y1 := hx1.cell 1
    have y2 := hx1.cell 2
    have y3 := hx1.cell 3
    simp only [List.getElem?_cons_zero, List.getElem?_cons_succ] at y0 y1 y2 y3
    clear hx1 hb1 hw0
  · have hcv := conv1 w1 1 (by decide) (by decide)
    obtain ⟨P, hP⟩ : ∃ P, P = Lend.strOf [UInt8.ofNat (1 : Int).toNat] := ⟨_, rfl⟩
    rw [← hP] at hcv
    have hps : P.size ≤ 1 := by rw [hP]; exact Nat.le_refl _
    have HP := Lib.hid hP
    clear hP
    go_wp2_with fail
    refine (HJV.out _).mono ?_
    rintro e w2 ⟨rfl, hb2⟩
    have HB2 := Lib.hid (below_on (below_nw HB1.out (.cells #[.int .u8 1] 5)) hb2)
    clear hb2 y0 y1 y2 y3 hcv
    go_wp2_with fail
    go_ret
    exact ⟨ret_str (by rw [HP.out, HJ.out, HV.out, sapp, sapp, HTX.out]; simp), HB2.out⟩
  · have hcv := conv1 w1 2 (by decide) (by decide)
    obtain ⟨P, hP⟩ : ∃ P, P = Lend.strOf [UInt8.ofNat (2 : Int).toNat] := ⟨_, rfl⟩
    rw [← hP] at hcv
    have hps : P.size ≤ 1 := by rw [hP]; exact Nat.le_refl _
    have HP := Lib.hid hP
    clear hP
    go_wp2_with fail
    go_ret
    exact ⟨ret_str (by rw [HP.out, HJ.out, sapp, HTX.out]; simp), below_nw HB1.out _⟩
  · have hcv := conv1 w1 3 (by decide) (by decide)
    obtain ⟨P, hP⟩ : ∃ P, P = Lend.strOf [UInt8.ofNat (3 : Int).toNat] := ⟨_, rfl⟩
    rw [← hP] at hcv
    have hps : P.size ≤ 1 := by rw [hP]; exact Nat.le_refl _
    have HP := Lib.hid hP
    clear hP
    go_wp2_with fail
    go_upto_region 8 with fail
    go_cut [8] (fun s wx => s = .string D ∧ Below w.heap.size w wx)
    case first =>
      go_region_held3 (fun W => W.cell? ⟨w.heap.size, 3, none⟩ = some (.int .u64 dl))
        (first
          | with_reducible exact keep1 (by assumption) (by assumption)
          | with_reducible exact keep1 (by assumption) (below_new _ _)
          | go_keep)
        (first
          | (go_at_call 104; refine (deltaW_any _).mono ?_; rintro e wm ⟨bm, rfl, hrow, hbel⟩)
          | (go_at_call 71
             refine (write_any _ _ 1 1 1 1 [8] [dl] _ ?_ ?_ (by decide) (by decide) HDN.out).mono ?_
             · repeat (first | assumption | apply Row.drw | apply Row.new | refine Row.later ?_ (by assumption))
             · repeat (first | (refine Row.oneAt _ _ _ _ _ ?_; first | rfl | (simp; done)) | apply Row.drw | apply Row.new | refine Row.later ?_ (by assumption))
             rintro e wo ⟨rfl, hbel2⟩
             rw [HWR.out.1, HWR.out.2]))
      all_goals (go_wp2_with fail; go_meet; exact ⟨rfl, by repeat (first | exact HB1.out | exact Below.refl _ _ | apply below_nw | apply below_dr | refine below_on ?_ (by assumption))⟩)
    case rest =>
      obtain ⟨rfl, hbc⟩ := hcut
      clear y0 y1 y2 y3 hcv
      go_wp2_with fail
      go_ret
      exact ⟨ret_str (by rw [HP.out, HJ.out, HD.out, sapp, sapp, HTX.out]; simp [HDL.out]), hbc⟩
/-- how many bytes an update takes -/
def szU (u : Up) : Int := if chkU u = 0 then ((txU u).length : Int) else 0
theorem szU_yes {u : Up} (h : chkU u = 0) : szU u = ((txU u).length : Int) := if_pos h
theorem szU_no {u : Up} (h : ¬ chkU u = 0) : szU u = 0 := if_neg h
end Go.Proofs.YtflanjcfkdjpjaaGreatDoor.Rec

/- Layer 12 (rec): Text. -/
namespace Go.Proofs.YtflanjcfkdjpjaaGreatDoor.Rec
open Go Go.RowKit Go.Proofs.YtflanjcfkdjpjaaGreatDoor Go.Proofs.YtflanjcfkdjpjaaGreatDoor.Lend
set_option linter.unusedVariables false

theorem own_bel {w w' : World} {B : Nat} {e : TypeId} {k : Nat} {v : Value} {n : Nat} {xs : List Value} (h : w.ownsRow B e k v n xs) (hb : Below w.heap.size w w') : w'.ownsRow B e k v n xs := owns_same h fun k e => hb.block k (h.lt k e).2
/-- numbers of an update that are in their kinds -/
def WfU (u : Up) : Prop := 0 ≤ u.kind ∧ u.kind ≤ 255 ∧ 0 ≤ u.delta ∧ u.delta < 18446744073709551616
theorem info8 : (Tryz.prog.info? 5).map (fun i => (i.zero, i.size, i.bytes)) = some (some (.int .u8 0), 1, 1) := by kernel_rfl
theorem strCells_strOf (l : List UInt8) : Lib.strCells (Lend.strOf l) = l.map Lend.u8V := rfl
theorem ret_te {a b : ByteArray} {c d : Int} (h : a = b) (h' : c = d) : Ending.returned (.tuple #[.string a, .int .i64 c]) = .returned (.tuple #[.string b, .int .i64 d]) := by rw [h, h']
set_option maxRecDepth 100000 in
set_option maxHeartbeats 4000000 in
theorem Text_any {v : Value} {l : List Up} {w : World} (h : UR w v l) (hl : l.length ≤ 1000) (hwf : ∀ u ∈ l, WfU u) : Calls Tryz.prog 38 #[v] w fun e w' => e = .returned (.tuple #[.string (Lend.strOf (txT l)), .int .i64 (errL l)]) ∧ Below w.heap.size w w' := by
  obtain ⟨i0, hi, hz0, hz1, hz2⟩ := info_parts info8
  obtain ⟨a, cap, rfl, hcell⟩ := h.form
  obtain ⟨n, hn⟩ : ∃ n, n = l.length := ⟨_, rfl⟩
  have HN := Lib.hid hn
  have HW := Lib.hid hwf
  have HC := Lib.hid hcell
  rw [← hn] at hl ⊢
  clear hn h hwf hcell
  go_enter Tryz.func38, Tryz.ntmps38
  go_wp2_with fail
  go_loopw [4, 10] (fun v i wr => ∃ k : Nat, k ≤ n ∧ i = .int .i64 k ∧ wr.ownsRow w.heap.size 5 1 v (txL (l.take k)).length ((txL (l.take k)).map Lend.u8V) ∧ errL (l.take k) = 0 ∧ (txL (l.take k)).length ≤ 51 * k ∧ Below w.heap.size w wr) (fun _ i _ => n - (intOf i).toNat)
  case atStart => exact ⟨0, Nat.zero_le _, rfl, World.ownsRow_nil _ _ _ _, rfl, Nat.zero_le _, Below.refl _ _⟩
  case round =>
    obtain ⟨k, hk, rfl, hown, her, hln, hb⟩ := hrel
    by_cases hlt : k < n
    · have hke : k < l.length := by rw [← HN.out]; exact hlt
      have hki : (k : Int) < (n : Int) := by omega
      obtain ⟨g, off, rfl, hc⟩ := HC.out (by omega)
      have hc := fun j hj => hc k hke j hj
      have hmem := List.getElem_mem hke
      have hts := txL_step hke
      have hes := errL_step hke her
      have hat := errL_at hke her
      obtain ⟨u, hu⟩ : ∃ u, u = l[k] := ⟨_, rfl⟩
      rw [← hu] at hc hmem hts hes hat
      have hbc : ∀ j x, j < 4 → (encU u)[j]? = some x → wr.cell? ⟨g, off + k * 4 + j, none⟩ = some x := fun j x hj hx => by
        have h1 := (hc j hj).trans hx
        rw [hb.cell (World.block_lt_of_cell? _ _ h1)]; exact h1
      have c0 : wr.cell? ⟨g, off + k * 4, none⟩ = some (.int .u8 u.kind) := hbc 0 _ (by omega) rfl
      have c1 : wr.cell? ⟨g, off + k * 4 + 1, none⟩ = some (.string (Lend.strOf u.key)) := hbc 1 _ (by omega) rfl
      have c2 : wr.cell? ⟨g, off + k * 4 + 2, none⟩ = some (.string (Lend.strOf u.val)) := hbc 2 _ (by omega) rfl
      have c3 : wr.cell? ⟨g, off + k * 4 + 3, none⟩ = some (.int .u64 u.delta) := hbc 3 _ (by omega) rfl
      obtain ⟨w1, hw1⟩ : ∃ w1, w1 = wr.alloc (.cells #[.int .u8 u.kind, .string (Lend.strOf u.key), .string (Lend.strOf u.val), .int .u64 u.delta] 67) := ⟨_, rfl⟩
      have HX := Lib.hid (show Has w1 wr.heap.size 67 (encU u) by rw [hw1]; exact Has.new wr _ _)
      have HB1 := Lib.hid (show Below w.heap.size w w1 by rw [hw1]; exact hb.alloc hb.size _)
      obtain ⟨vo, vc, rfl, hvc⟩ := own_shape hown
      have HOW := Lib.hid (show w1.ownsRow w.heap.size 5 1 (.slice vo (txL (l.take k)).length vc) (txL (l.take k)).length ((txL (l.take k)).map Lend.u8V) by rw [hw1]; exact hown.alloc _)
      have HTS := Lib.hid hts
      have HES := Lib.hid hes
      have HAT := Lib.hid hat
      have HLN := Lib.hid hln
      have HU := Lib.hid (HW.out u hmem)
      clear hu hke hc hbc hmem hts hes hat hb hown her hln hvc
      go_wp2_with fail
      rw [← hw1]
      clear c0 c1 c2 c3
      refine (check_any u w1 HU.out.1 HU.out.2.1).mono ?_
      rintro e w2 ⟨rfl, hb2⟩
      have HX2 := Lib.hid (HX.out.below hb2 HX.out.lt)
      have HB2 := Lib.hid (below_on HB1.out hb2)
      have HOW2 := Lib.hid (own_bel HOW.out hb2)
      by_cases hck : chkU u = 0
      · rw [hck]
        have y0 := HX2.out.cell 0
        have y1 := HX2.out.cell 1
        have y2 := HX2.out.cell 2
        have y3 := HX2.out.cell 3
        have hxl := HX2.out.lt
        simp only [encU, List.getElem?_cons_zero, List.getElem?_cons_succ] at y0 y1 y2 y3
        have HCK := Lib.hid hck
        have HLE := Lib.hid (txU_le hck)
        have hw12 := HB2.out.size
        clear hb2 hck HX HB1 HOW hw1
        go_wp2_with fail
        refine (text_any u w2 HCK.out HU.out.2.2.1 HU.out.2.2.2).mono ?_
        rintro e w3 ⟨rfl, hb3⟩
        have HB3 := Lib.hid (below_on HB2.out hb3)
        have HOW3 := Lib.hid (own_bel HOW2.out hb3)
        clear hb3 y0 y1 y2 y3
        go_wp2_with (at_builtin; refine Lib.wpList_append_own_string _ rfl _ _ 44 9 rfl w.heap.size 5 i0 Tryz.underlying44 Tryz.underlying9 hi hz0 hz1 hz2 _ _ _ rfl HOW3.out (Lend.strOf (txU u)) rfl ?c1 ?c2 ?c3 ?_)
        case c1 => unfold maxLen; rw [ssize]; have := HLN.out; have := HLE.out; omega
        case c2 => rw [ssize]; have := HLN.out; have := HLE.out; omega
        case c3 => exact HB3.out.size
        intro v' w4 hown4 hgr _
        have HB4 := Lib.hid (HB3.out.grown hgr HB3.out.size (fun q hq => (HOW3.out.lt q hq).1))
        have HOW4 := Lib.hid (show w4.ownsRow w.heap.size 5 1 v' (txL (l.take (k + 1))).length ((txL (l.take (k + 1))).map Lend.u8V) by
          rw [HTS.out, List.map_append, List.length_append, ← ssize (txU u), ← strCells_strOf]; exact hown4)
        have HLN4 := Lib.hid (show (txL (l.take (k + 1))).length ≤ 51 * (k + 1) by rw [HTS.out, List.length_append]; have := HLN.out; have := HLE.out; omega)
        clear hown4 hgr
        go_wp2_with fail
        go_roundw
        case rel => exact ⟨k + 1, by omega, by go_num, HOW4.out, by rw [HES.out]; exact HCK.out, HLN4.out, HB4.out⟩
        case measure => simp [intOf]; omega
      · have hne : (chkU u == 0) = false := by simpa using hck
        have HF := Lib.hid (show txT l = [] ∧ errL l = chkU u from ⟨by unfold txT; rw [if_neg (by rw [HAT.out hck]; exact hck)], HAT.out hck⟩)
        clear hb2
        go_wp2_with fail
        go_ret2
        exact ⟨ret_te (by rw [HF.out.1]; rfl) HF.out.2.symm, HB2.out⟩
    · have hkn : k = n := by omega
      subst hkn
      have hki : ¬ (k : Int) < (k : Int) := by omega
      have htk : l.take k = l := List.take_of_length_le (by rw [← HN.out]; exact Nat.le_refl _)
      rw [htk] at her hln hown
      have HF := Lib.hid (show txT l = txL l from by unfold txT; rw [if_pos her])
      have HE := Lib.hid her
      have HB := Lib.hid hb
      have hcv := run_string_own wr w.heap.size _ _ _ hown
      clear hb her hln htk hown
      go_wp2
      go_ret2
      exact ⟨ret_te (by rw [HF.out]) (by rw [HE.out]), HB.out⟩
end Go.Proofs.YtflanjcfkdjpjaaGreatDoor.Rec

