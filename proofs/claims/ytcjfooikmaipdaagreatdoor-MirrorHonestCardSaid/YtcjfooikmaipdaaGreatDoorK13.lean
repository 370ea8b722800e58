/- Layers' contracts, bundled: MirL, MirW, Arr, Structs. -/
import Derived.Test.YtcjfooikmaipdaaGreatDoorK12
import Derived.Test.YtcjfooikmaipdaaGreatDoorK10
import Derived.Test.YtcjfooikmaipdaaGreatDoorK03
import Derived.Outline
import Derived.Deep.DeepCutAuto
import Derived.OpenShut
import Derived.ChangeOld
import Derived.Below
import Derived.Deep.Fields
import Derived.Test.YtcjfooikmaipdaaGreatDoorK02
import Derived.Deep.Slices
import Derived.ChangeSame
/- Layer 8's laws: images, garbled bytes, fresh, sealed, wakes. -/
namespace Go.Proofs.YtcjfooikmaipdaaGreatDoor.Mir
open Go Go.RowKit Go.Proofs.YtcjfooikmaipdaaGreatDoor Dev Tab Rem Go.Maps Go.WideMaps
set_option linter.unusedVariables false

/-! ### images -/
def imT (a g : Int) (s : ByteArray) : ByteArray := Env.sealS 128 4 a g s.data.toList
def ckT (a g : Int) (s : ByteArray) : Int := Env.sealC 128 4 a g s.data.toList
structure Okay (a g : Int) (s : ByteArray) : Prop where
  a0 : 0 ≤ a
  a1 : a ≤ 2147483647
  g0 : 0 ≤ g
  g1 : g < 18446744073709551616
  s : s.size ≤ 104
section
variable {a g a' g' : Int} {s s' : ByteArray}
theorem Okay.len (h : Okay a g s) : s.data.toList.length ≤ 104 := by have := h.s; simpa using this
theorem Okay.hd (h : Okay a g s) : Env.hdB 4 a = true := by have := h.a0; have := h.a1; simp [Env.hdB, Env.adB]; omega
theorem Okay.e (h : Okay a g s) : Env.sealE 128 4 a s.data.toList = 0 := Env.sealE_ok (by decide) h.hd (by have := h.len; omega)
theorem Okay.v (h : Okay a g s) : Env.sealV 128 4 a g s.data.toList = .tuple #[.string (imT a g s), ptrV a g (ckT a g s), .int .i64 0] := by
  unfold Env.sealV imT ckT
  rw [h.e, show Env.sealA 128 4 a s.data.toList = a from if_pos h.e, show Env.sealG 128 4 a g s.data.toList = g from if_pos h.e]
theorem Okay.data (h : Okay a g s) : (imT a g s).data.toList = Env.imgL 4 a g 104 s.data.toList := by
  unfold imT Env.sealS
  rw [if_pos h.e]
  exact Lend.strOf_data _
theorem Okay.size (h : Okay a g s) : (imT a g s).size = 128 := by
  have := Env.imgL_length 4 a g 104 s.data.toList h.len
  rw [← h.data] at this
  simpa using this
theorem Okay.o (h : Okay a g s) : Env.opE (imT a g s).data.toList = 0 ∧ Env.oK (imT a g s).data.toList = 4 ∧ Env.oA (imT a g s).data.toList = a ∧ Env.oG (imT a g s).data.toList = g ∧ Env.oC (imT a g s).data.toList = ckT a g s ∧ Env.oP (imT a g s).data.toList = s := by
  rw [h.data]
  obtain ⟨h1, h2, h3, h4, h5, h6⟩ := Env.img_o (m := 104) h.hd h.g0 h.g1 h.len (by omega) (by omega)
  refine ⟨h1, h2, h3, h4, ?_, h6.trans (Lend.strOf_ext rfl).symm⟩
  rw [h5]; unfold ckT Env.sealC; rw [if_pos h.e]; rfl
theorem Okay.meets (h : Okay a g s) : wh (some (imT a g s)) a g (ckT a g s) = true := by
  obtain ⟨h1, h2, h3, h4, h5, h6⟩ := h.o
  show Env.meetB _ _ _ _ = true
  rw [Env.meetB_yes h1, h3, h4, h5]; simp
theorem Okay.differs (h : Okay a' g' s') (hne : a' ≠ a ∨ g' ≠ g) (k : Int) : wh (some (imT a' g' s')) a g k = false := by
  obtain ⟨h1, h2, h3, h4, h5, h6⟩ := h.o
  show Env.meetB _ _ _ _ = false
  rw [Env.meetB_yes h1, h3, h4]
  rcases hne with h | h <;> simp [h]
theorem wh_no {t : ByteArray} (h : Env.opE t.data.toList ≠ 0) (a g k : Int) : wh (some t) a g k = false := Env.meetB_no h
/-- one byte is another one: no image -/
theorem Okay.turned (h : Okay a g s) {p : Nat} (hp : p < 128) {b : UInt8} (hb : b ≠ 0) (a' g' k : Int) : wh (some (turnB (imT a g s) p b)) a' g' k = false := by
  refine wh_no ?_ _ _ _
  have hl : (imT a g s).data.toList.length = 128 := by have := h.size; simpa using this
  show Env.opE ((imT a g s).data.toList.set p _) ≠ 0
  refine Env.one_byte _ p b.toNat _ h.o.1 (by omega) b.toNat_lt ?_ (by rw [UInt8.toNat_xor])
  intro e; exact hb (UInt8.toNat_inj.1 (by rw [e]; rfl))
end
theorem turnB_zero (s : ByteArray) (p : Nat) (hp : p < s.size) : turnB s p 0 = s := by
  unfold turnB
  have : s.data.toList.getD p 0 ^^^ 0 = s.data.toList[p]'(by simpa using hp) := by
    rw [List.getD_eq_getElem?_getD, List.getElem?_eq_getElem (by simpa using hp)]; simp
  rw [this, List.set_getElem_self]
  cases s; rfl
/-! ### what is done to a device, where no side is gone and nothing was moved -/
/-- nothing was moved, and no sector is bad -/
structure Pl (S : Nat → Sd) : Prop where
  nb : NoBad S
  m : ∀ t, t < 2 → (S t).m = []
theorem Pl.pl {S : Nat → Sd} (h : Pl S) {t b : Nat} (ht : t < 2) : pl (S t) b = 4 + b := by
  unfold Rem.pl
  rw [h.m t ht]
  have : plc 14 [] (b : Int) = b := rfl
  rw [this]; omega
theorem Pl.st {S S' : Nat → Sd} {G : Nat → Bool} {b : Nat} {d : ByteArray} {P : Nat → Prop} (h : Pl S) (k : St S S' G b d P) : Pl S' := ⟨k.nb h.nb, fun t ht => (k.m0 h.nb t ht).trans (h.m t ht)⟩
theorem Pl.new {S : Nat → Sd} (h0 : New (S 0)) (h1 : New (S 1)) : Pl S := by
  refine ⟨fun t ht i hi hi2 => ?_, fun t ht => ?_⟩
  · rcases (show t = 0 ∨ t = 1 by omega) with rfl | rfl
    · exact (h0.2 i hi hi2).2
    · exact (h1.2 i hi hi2).2
  · rcases (show t = 0 ∨ t = 1 by omega) with rfl | rfl
    · exact h0.1
    · exact h1.1
/-- a sector has other bytes -/
def setV (S : Nat → Sd) (s i : Nat) (t : ByteArray) : Nat → Sd := setS S s (upd (S s).V i t) (S s).B
theorem setV_m (S : Nat → Sd) (s i : Nat) (t : ByteArray) (u : Nat) : (setV S s i t u).m = (S u).m := setS_m _ _ _ _ _
theorem setV_B (S : Nat → Sd) (s i : Nat) (t : ByteArray) (u : Nat) : (setV S s i t u).B = (S u).B := by
  unfold setV
  by_cases e : u = s
  · subst e; rw [setS_same]
  · rw [setS_ne _ _ _ e]
theorem Pl.setV {S : Nat → Sd} (h : Pl S) (s i : Nat) (t : ByteArray) : Pl (setV S s i t) := ⟨fun u hu j h1 h2 => by rw [setV_B]; exact h.nb u hu j h1 h2, fun u hu => by rw [setV_m]; exact h.m u hu⟩
theorem setV_cont {S : Nat → Sd} {G : Nat → Bool} (h : Pl S) {s u b b' : Nat} {t : ByteArray} (hu : u < 2) (hb : b' < 14) (hG : G u = false) : cont (setV S s (4 + b) t) G u b' = if u = s ∧ b' = b then some t else cont S G u b' := by
  have hp := (h.setV s (4 + b) t).pl (b := b') hu
  have hp' := h.pl (b := b') hu
  have hB := h.nb u hu (4 + b') (by omega) (by omega)
  unfold cont
  rw [hp, hp', setV_B, hB, hG]
  simp only [Bool.false_eq_true, or_self, if_false]
  by_cases e : u = s
  · subst e
    unfold Mir.setV
    rw [setS_same]
    show some (upd (S u).V (4 + b) t (4 + b')) = _
    by_cases eb : b' = b
    · subst eb; rw [upd_same, if_pos ⟨rfl, rfl⟩]
    · rw [upd_ne _ _ (by omega), if_neg (fun h => eb h.2)]
  · unfold Mir.setV
    rw [setS_ne _ _ _ e, if_neg (fun h => e h.1)]
theorem setV_fit {S : Nat → Sd} {G : Nat → Bool} (h : Fit S G) (s i : Nat) (t : ByteArray) : Fit (setV S s i t) G := by
  refine ⟨fun u hu j h1 h2 => ?_, ?_⟩
  · rw [setV_B]; rw [setV_m] at h1; exact h.1 u hu j h1 h2
  · rcases h.2 with h | h
    · exact .inl h
    · exact .inr (fun u hu j h1 h2 => by rw [setV_B]; exact h u hu j h1 h2)
section
variable {w0 w w' : World} {X Y Z : List Nat} {q c mm tb bb R s b : Nat} {pd : Nat → Nat} {S : Nat → Sd} {G : Nat → Bool}
theorem garble_g (h : CG w0 X q pd S G c w) (hs : s < 2) (hG : G s = false) {i : Nat} (hi4 : 4 ≤ i) (hi : i < 24) (hc : c ≤ 1000000) (a : Nat) (y : UInt8) (p : Nat) (hp : p = pd s) (v : Int) (hv : v = i) (u : Int) (hu : u = a) :
    Calls Tryz.prog 15 #[.pointer (some ⟨p, 0, none⟩), .int .i64 v, .int .i64 u, .int .u8 y.toNat] w fun e w' => e = .returned (.tuple #[]) ∧ CG w0 X q pd (setV S s i (turnB ((S s).V i) (a % 128) y)) G c w' ∧ Same X w w' := by
  subst hp; subst hv; subst hu
  obtain ⟨⟨D, h1, h2⟩, h3⟩ := h
  have hcd := h2 s hs
  refine (h1.dev (R := fun e => e = .returned (.tuple #[])) (G := fun E => E = (D s).garbleD (i : Nat) (a : Nat) y) hs fun sb cv hd => (garble_any (i : Nat) (a : Nat) y w hd (by have := hcd.cache; omega)).mono ?_).mono ?_
  · rintro e w' ⟨rfl, hch, hd⟩
    exact ⟨rfl, _, rfl, .same hch hd⟩
  · rintro e w' ⟨rfl, E, rfl, hc', hsm⟩
    rw [hG] at hcd
    have hcd : Cd (D s) 24 128 (S s).V (S s).B c := hcd
    have hE : SideG ((D s).garbleD (i : Nat) (a : Nat) y) ⟨upd (S s).V i (turnB ((S s).V i) (a % 128) y), (S s).B, (S s).m⟩ false c := Rem.Cd.garble hcd hi a y
    have := CPe.setG hc' h2 hE (Nat.le_refl _)
    rw [show upd G s false = G from by rw [← hG]; exact upd_self _ _] at this
    exact ⟨rfl, ⟨this, h3.setS (fun j hj => upd_ne _ _ (by omega)) (fun j hj => h3.2.1 s hs j hj)⟩, fun k hk => hsm k (by simp [hk])⟩
theorem garble_m (h : MG w0 Y mm tb bb q pd S G c R w) (hs : s < 2) (hG : G s = false) {i : Nat} (hi4 : 4 ≤ i) (hi : i < 24) (hc : c ≤ 1000000) (a : Nat) (y : UInt8) (p : Nat) (hp : p = pd s) (v : Int) (hv : v = i) (u : Int) (hu : u = a) :
    Calls Tryz.prog 15 #[.pointer (some ⟨p, 0, none⟩), .int .i64 v, .int .i64 u, .int .u8 y.toNat] w fun e w' => e = .returned (.tuple #[]) ∧ MG w0 Y mm tb bb q pd (setV S s i (turnB ((S s).V i) (a % 128) y)) G c R w' ∧ Same Y w w' :=
  (garble_g h.cg hs hG hi4 hi hc a y p hp v hv u hu).mono fun e w' ⟨h1, h2, h3⟩ => ⟨h1, h.go h2 h3 (setV_fit h.fit _ _ _) (fun t ht => by rw [setV_m]; omega) (Nat.le_refl _), same_y h3⟩
theorem kill_m (h : MG w0 Y mm tb bb q pd S G c R w) (hN : NoBad S) (hs : s < 2) (p : Nat) (hp : p = pd s) : Calls Tryz.prog 28 #[.pointer (some ⟨p, 0, none⟩)] w fun e w' => e = .returned (.tuple #[]) ∧ MG w0 Y mm tb bb q pd S (upd G s true) c R w' ∧ Same Y w w' := by
  subst hp
  exact (kill_g h.cg hs).mono fun e w' ⟨h1, h2, h3⟩ => ⟨h1, h.go h2 h3 ⟨h.fit.1, .inr hN⟩ (fun t ht => Nat.le_refl _) (Nat.le_refl _), same_y h3⟩
theorem dwr_m (h : MG w0 Y mm tb bb q pd S noG c R w) (hs : s < 2) {i : Nat} (hi4 : 4 ≤ i) (hi : i < 24) (hB : (S s).B i = false) {t : ByteArray} (ht : t.size = 128) (hc : c ≤ 1000000) (v : Int) (hv : v = i) (p : Nat) (hp : p = pd s) :
    Calls Tryz.prog 17 #[.pointer (some ⟨p, 0, none⟩), .int .i64 v, .string t] w fun e w' => e = .returned (.int .i64 0) ∧ MG w0 Y mm tb bb q pd (setV S s i t) noG (c + 1) R w' ∧ Same Y w w' := by
  refine (dwr_c (h.cg.cp rfl rfl) hs hi4 hi ht hc v hv p hp).mono ?_
  rintro e w' ⟨he, h2, h3⟩
  rw [hB] at he h2
  simp only [Bool.false_eq_true, if_false] at he h2
  have h3' : Same (mm :: tb :: bb :: Y) w w' := fun k hk => h3 k (by simp at hk ⊢; rcases hk with rfl | rfl | rfl | hk <;> simp [*])
  exact ⟨he, h.go h2.cg h3' (setV_fit h.fit _ _ _) (fun t ht => by rw [setV_m]; omega) (by omega), same_y h3'⟩
end
/-! ### fresh, sealed -/
theorem format_x {w0 w : World} {X : List Nat} {pa pb : Nat} (h : Dvs w0 X (pdOf pa pb) (fun _ => Dv.fresh 24 128) w) : Calls Tryz.prog 36 #[.pointer (some ⟨pa, 0, none⟩), .pointer (some ⟨pb, 0, none⟩), .int .i64 6] w fun e w' => ∃ q S, e = .returned (.tuple #[.pointer (some ⟨q, 0, none⟩), .int .i64 0]) ∧ CP w0 X q (pdOf pa pb) S 4 w' ∧ New (S 0) ∧ New (S 1) ∧ Same X w w' := by
  refine (format_e h (both00.sz (by omega))).mono ?_
  rintro e w' ⟨q, rfl, hq, hc, hsm⟩
  obtain ⟨k0, k1⟩ := both00.keepBoth (m := fun _ => []) (fun _ _ => good0)
  obtain ⟨s1, s2⟩ := slots2 (S := S00) (m := fun _ => []) (fun _ _ => good0) (fun _ _ _ _ => rfl) (fun t ht => Below_.fresh (fun _ _ _ _ => rfl) ht)
  rw [k0]
  have hmm : (fun _ => ([] : List Int)) = mOf (kept (kept S00 0 []) 1 []) := by rw [mOf_kept, mOf_kept]; funext t; unfold upd mOf S00; split <;> (try split) <;> rfl
  refine ⟨q, kept (kept S00 0 []) 1 [], rfl, (k1.cp (by rw [← hmm]; exact hc) s1).mono (by omega), ⟨s2 0 (by omega), fun i h1 h2 => ?_⟩, ⟨s2 1 (by omega), fun i h1 h2 => ?_⟩, hsm⟩
  · refine ⟨?_, ?_⟩
    · rw [(kept_far (s := 1) (by omega) (by omega)).1 i h1, (kept_far (s := 0) (by omega) (by omega)).1 i h1]; rfl
    · rw [(kept_far (s := 1) (by omega) (by omega)).2.1, (kept_far (s := 0) (by omega) (by omega)).2.1]; rfl
  · refine ⟨?_, ?_⟩
    · rw [(kept_far (s := 1) (by omega) (by omega)).1 i h1, (kept_far (s := 0) (by omega) (by omega)).1 i h1]; rfl
    · rw [(kept_far (s := 1) (by omega) (by omega)).2.1, (kept_far (s := 0) (by omega) (by omega)).2.1]; rfl
set_option maxHeartbeats 2000000 in
set_option maxRecDepth 100000 in
theorem fresh_any (w : World) : Calls Tryz.prog 9 #[] w fun e w' => ∃ pa pb mm tb bb q S, e = .returned (.tuple #[.agg #[.pointer (some ⟨pa, 0, none⟩), .pointer (some ⟨pb, 0, none⟩)], .pointer (some ⟨mm, 0, none⟩), .bool true]) ∧ MG w [] mm tb bb q (pdOf pa pb) S noG 4 0 w' ∧ New (S 0) ∧ New (S 1) := by
  have HB0 := Lib.hid (b_new w (.cells #[.pointer none, .pointer none] 25))
  have HH0 := Lib.hid (Has.new w [.pointer none, .pointer none] 25)
  go_enter Tryz.func9, Tryz.ntmps9
  go_wp2_with fail
  refine (new_yes 24 128 _ rfl).mono ?_
  rintro e w1 ⟨pa, sa, hpa, hsa, rfl, hd, hb⟩
  have HD := Lib.hid hd
  have HB := Lib.hid hb
  have HPA := Lib.hid (And.intro hpa hsa)
  clear hd hb hpa hsa
  go_wp2_with fail
  refine (new_yes 24 128 w1 rfl).mono ?_
  rintro e w2 ⟨pb, sb, hpb, hsb, rfl, hd, hb⟩
  obtain ⟨p, hp⟩ : ∃ p, p = w.heap.size := ⟨_, rfl⟩
  have hszp : p < w1.heap.size := by have := HB.out.size; simp at this; omega
  have HT := Lib.hid (show Dvs w [p] (pdOf pa pb) (fun _ => Dv.fresh 24 128) w2 from by
    have h0 := HB0.out.size
    have h1 := HB.out.size
    have h2 := hb.size
    have hs0 : (w.alloc (.cells #[.pointer none, .pointer none] 25)).heap.size = p + 1 := by simp [hp]
    rw [hs0] at h1
    obtain ⟨ha, hsa⟩ := HPA.out
    rw [hs0] at ha hsa
    refine ⟨⟨pdOf sa sb, fun _ => .slice none 0 0, fun s hs => ?_, fun s hs k hk => ?_, fun k hk hk2 => ?_⟩, fun k hk => ?_, HB0.out.trans ((HB.out.trans (hb.mono (by rw [hs0]; exact h1))).mono h0)⟩
    · rcases (show s = 0 ∨ s = 1 by omega) with rfl | rfl
      · exact HD.out.below hb (Nat.le_refl _)
      · exact hd
    · rw [List.mem_singleton]
      rcases (show s = 0 ∨ s = 1 by omega) with rfl | rfl
      · have hk : foot pa sa (.slice none 0 0) k := hk
        rcases hk with rfl | rfl | h
        · omega
        · omega
        · cases h
      · have hk : foot pb sb (.slice none 0 0) k := hk
        rcases hk with rfl | rfl | h
        · omega
        · omega
        · cases h
    · have hk : foot pa sa (.slice none 0 0) k := hk
      have hk2 : foot pb sb (.slice none 0 0) k := hk2
      have hlt := HD.out.lt k hk
      rcases hk2 with rfl | rfl | h
      · omega
      · omega
      · cases h
    · rw [List.mem_singleton] at hk; subst hk; omega)
  have HH2 := Lib.hid ((HH0.out.below HB.out (by simp)).below hb (by rw [← hp]; exact hszp))
  rw [← hp] at HH2
  clear hd hb HD HB HPA HB0 HH0 hpb hsb
  go_wp2_with fail
  refine (format_x HT.out).mono ?_
  rintro e w3 ⟨q, S, rfl, hc, h0, h1, hsm⟩
  have HC := Lib.hid hc
  have HH3 := Lib.hid (Has.same HH2.out (hsm p (by simp)))
  have H0 := Lib.hid h0
  have H1 := Lib.hid h1
  clear hc h0 h1 hsm HT HH2
  go_wp2_with fail
  refine (New_m HC.out (fun t ht => by
    rcases (show t = 0 ∨ t = 1 by omega) with rfl | rfl
    · exact H0.out.spare
    · exact H1.out.spare)).mono ?_
  rintro e w4 ⟨mm, tb, bb, rfl, hm, hsm⟩
  have HM := Lib.hid hm
  have HH4 := Lib.hid (Has.same HH3.out (hsm p (by simp)))
  have e0 := HH4.out.cell 0
  have e1 := HH4.out.cell 1
  simp only [List.getElem?_cons_zero, List.getElem?_cons_succ] at e0 e1
  have f0 := Has.frozen HH4.out 0
  have f1 := Has.frozen HH4.out 1
  have h2 := (HH4.out.set 0 (.pointer (some ⟨pa, 0, none⟩))).set 1 (.pointer (some ⟨pb, 0, none⟩))
  have r0 := h2.cell 0
  have r1 := h2.cell 1
  simp only [List.set_cons_zero, List.set_cons_succ, List.getElem?_cons_zero, List.getElem?_cons_succ] at r0 r1
  have HM5 := Lib.hid ((HM.out.chg (((Chg.refl _ w4).setCell (p := ⟨p, 0, none⟩) (fun _ => by simp) (.pointer (some ⟨pa, 0, none⟩))).setCell (p := ⟨p, 1, none⟩) (fun _ => by simp) (.pointer (some ⟨pb, 0, none⟩)))).sub (Z := []) (by simp))
  rw [hp] at e0 e1 f0 f1 r0 r1 HM5
  clear h2 hm hsm hszp
  go_wp2
  refine bodyPost_ret (v := .tuple #[.agg #[.pointer (some ⟨pa, 0, none⟩), .pointer (some ⟨pb, 0, none⟩)], .pointer (some ⟨mm, 0, none⟩), .bool true]) (by simp [results, Tryz.results9, go_sem, r0, r1]) rfl ⟨pa, pb, mm, tb, bb, q, S, rfl, HM5.out, H0.out, H1.out⟩
/-- a struct's cells on their way from one block to another -/
def SealB (w : World) (p r : Nat) (t : TypeId) (z cs : List Value) (b : Bool) (wy : World) : Prop := Below w.heap.size w wy ∧ Has wy r t cs ∧ Has wy p t (if b then cs else z)
set_option maxHeartbeats 2000000 in
set_option maxRecDepth 100000 in
theorem sealed_any (b : Nat) (a g : Int) (s : ByteArray) (w : World) (ht : Sum.IsTab w b) (hk : Okay a g s) : Calls Tryz.prog 12 #[.pointer (some ⟨b, 0, none⟩), .int .i64 a, .int .u64 g, .string s] w fun e w' => e = .returned (.tuple #[.string (imT a g s), ptrV a g (ckT a g s)]) ∧ Below w.heap.size w w' := by
  have HB0 := Lib.hid (b_new w (.cells #[.int .i64 0, .int .u64 0, .int .u32 0] 35))
  have HH0 := Lib.hid (Has.new w [.int .i64 0, .int .u64 0, .int .u32 0] 35)
  have HT := Lib.hid (ht.below (b_new w (.cells #[.int .i64 0, .int .u64 0, .int .u32 0] 35)) (Nat.le_refl _))
  have HV := Lib.hid hk.v
  have HK := Lib.hid hk
  obtain ⟨T, hT⟩ : ∃ T, T = imT a g s := ⟨_, rfl⟩
  obtain ⟨K, hK⟩ : ∃ K, K = ckT a g s := ⟨_, rfl⟩
  rw [← hT, ← hK] at HV ⊢
  clear ht hk hT hK
  go_enter Tryz.func12, Tryz.ntmps12
  go_wp2_with fail
  refine (Env.seal_any b 128 4 a g s _ HT.out HK.out.g0 HK.out.g1 (by have := HK.out.s; omega)).mono ?_
  rintro e w1 ⟨rfl, hb⟩
  rw [HV.out]
  obtain ⟨p, hp⟩ : ∃ p, p = w.heap.size := ⟨_, rfl⟩
  have HH1 := Lib.hid (HH0.out.below hb (by simp))
  have HB1 := Lib.hid (HB0.out.trans (hb.mono HB0.out.size))
  rw [← hp] at HH1
  clear hb HH0 HB0 HT
  have h2 := HH1.out.alloc (.cells #[.int .i64 a, .int .u64 g, .int .u32 K] 35)
  have hpl : p < w1.heap.size := HH1.out.lt
  go_wp2_with fail
  obtain ⟨r, hr⟩ : ∃ r, r = w1.heap.size := ⟨_, rfl⟩
  have hR := Has.new w1 [.int .i64 a, .int .u64 g, .int .u32 K] 35
  obtain ⟨W, hW⟩ : ∃ W, W = w1.alloc (.cells #[.int .i64 a, .int .u64 g, .int .u32 K] 35) := ⟨_, rfl⟩
  have H0 := Lib.hid (show SealB w p r 35 [.int .i64 0, .int .u64 0, .int .u32 0] [.int .i64 a, .int .u64 g, .int .u32 K] false W.drew from ⟨by rw [hW]; exact (HB1.out.alloc (HB1.out.size) _).drew, by rw [hW, hr]; exact hR, by rw [hW]; exact h2⟩)
  have HRP := Lib.hid (show r ≠ p by omega)
  rw [← hp, ← hr]
  have hWr : (w1.alloc (.cells #[.int .i64 a, .int .u64 g, .int .u32 K] 35)) = W := hW.symm
  have HPW := Lib.hid hp
  rw [hWr]
  clear hWr hW hR h2 hpl hr hp
  refine Reg.region_vals (by kernel_rfl) [(23, .string T), (24, .agg #[.int .i64 a, .int .u64 g, .int .u32 K]), (8, .string T)] (fun l wy => SealB w p r 35 [.int .i64 0, .int .u64 0, .int .u32 0] [.int .i64 a, .int .u64 g, .int .u32 K] (l 3) wy) (by kernel_rfl) (by kernel_rfl) (by kernel_rfl) (H0.out) ⟨?_, ?_, ?_, ?_, trivial⟩ ?hend
  · skip
    intro aq wq lq hI hl hdone hlater hold hd ho
    have h10 : aq.tmps.getD 10 undef = .string T := ho 10 (by kernel_rfl)
    clear hd ho hdone hlater hold
    exact Reg.step2_move (.tmp 10) rfl h10 hI trivial
  · skip
    intro aq wq lq hI hl hdone hlater hold hd ho
    have h11 : aq.tmps.getD 11 undef = .pointer (some ⟨r, 0, none⟩) := ho 11 (by kernel_rfl)
    clear hd ho hdone hlater hold
    rw [Array.getD_eq_getD_getElem?] at h11
    have x0 := hI.2.1.cell 0
    have x1 := hI.2.1.cell 1
    have x2 := hI.2.1.cell 2
    simp only [List.getElem?_cons_zero, List.getElem?_cons_succ] at x0 x1 x2
    refine Reg.step2_val (.agg #[.int .i64 a, .int .u64 g, .int .u32 K]) ?_ rfl hI trivial
    go_simp
  · skip
    intro aq wq lq hI hl hdone hlater hold hd ho
    have h23 : aq.tmps.getD 23 undef = .string T := hd 23 (by kernel_rfl)
    clear hd ho hdone hlater hold
    exact Reg.step2_assign (.tmp 23) rfl h23 hI trivial
  · skip
    intro aq wq lq hI hl hdone hlater hold hd ho
    have h9 : aq.tmps.getD 9 undef = .pointer (some ⟨p, 0, none⟩) := ho 9 (by kernel_rfl)
    have h24 : aq.tmps.getD 24 undef = .agg #[.int .i64 a, .int .u64 g, .int .u32 K] := hd 24 (by kernel_rfl)
    clear hd ho hdone hlater hold
    rw [Array.getD_eq_getD_getElem?] at h9 h24
    have hJ := hI
    rw [show lq 3 = false from hl] at hJ
    obtain ⟨hB, hR, hP⟩ := hJ
    clear hI
    have hP : Has wq p 35 [.int .i64 0, .int .u64 0, .int .u32 0] := hP
    have x0 := hP.cell 0
    have x1 := hP.cell 1
    have x2 := hP.cell 2
    simp only [List.getElem?_cons_zero, List.getElem?_cons_succ] at x0 x1 x2
    have f0 := Has.frozen hP 0
    have f1 := Has.frozen hP 1
    have f2 := Has.frozen hP 2
    have hpw : w.heap.size ≤ p := Nat.le_of_eq HPW.out.symm
    refine Reg.step2_skip (((wq.setCell ⟨p, 0, none⟩ (.int .i64 a)).setCell ⟨p, 1, none⟩ (.int .u64 g)).setCell ⟨p, 2, none⟩ (.int .u32 K)) rfl ?_ ⟨((hB.setCell (p := ⟨p, 0, none⟩) hpw _).setCell (p := ⟨p, 1, none⟩) hpw _).setCell (p := ⟨p, 2, none⟩) hpw _, ((hR.setOther (a := ⟨p, 0, none⟩) (fun e => HRP.out e.symm) _).setOther (a := ⟨p, 1, none⟩) (fun e => HRP.out e.symm) _).setOther (a := ⟨p, 2, none⟩) (fun e => HRP.out e.symm) _, ((hP.set 0 (.int .i64 a)).set 1 (.int .u64 g)).set 2 (.int .u32 K)⟩ trivial
    clear hB hR hP hpw
    go_simp
  case hend =>
    intro wz hI
    simp only [Reg.fill, List.foldl_cons, List.foldl_nil, List.setIfInBounds_toArray, List.set_cons_zero, List.set_cons_succ]
    obtain ⟨hB, hR, hP⟩ := hI
    have hP : Has wz p 35 [.int .i64 a, .int .u64 g, .int .u32 K] := hP
    have x0 := hP.cell 0
    have x1 := hP.cell 1
    have x2 := hP.cell 2
    simp only [List.getElem?_cons_zero, List.getElem?_cons_succ] at x0 x1 x2
    have HB := Lib.hid hB
    clear hB hR hP
    go_wp2
    refine bodyPost_ret (v := .tuple #[.string T, ptrV a g K]) (by simp [results, Tryz.results12, go_sem, x0, x1, x2]) rfl ⟨rfl, HB.out⟩
end Go.Proofs.YtcjfooikmaipdaaGreatDoor.Mir

/- Layer 8's laws: wakes. -/
namespace Go.Proofs.YtcjfooikmaipdaaGreatDoor.Mir
open Go Go.RowKit Go.Proofs.YtcjfooikmaipdaaGreatDoor Dev Tab Rem Go.Maps Go.WideMaps
set_option linter.unusedVariables false

section
variable {S S' : Nat → Sd} {G : Nat → Bool} {b : Nat} {d : ByteArray} {P : Nat → Prop} {s : Nat}
theorem St.got (h : St S S' G b d P) (hn : NoBad S) (hg : GoodS S) (hs : s < 2) (hb : b < 14) (hP : P s) (hG : G s = false) : cont S' G s b = some d := by
  rcases h.at_ s hs with ⟨_, _, h3⟩ | ⟨h1, _, _⟩
  · exact h3
  · exact absurd (by rw [wE_nobad hn hg hs hb, hG]; rfl) (h1 hP)
theorem St.kept (h : St S S' G b d P) (hs : s < 2) (hP : ¬ P s) : cont S' G s b = cont S G s b := by
  rcases h.at_ s hs with ⟨h1, _⟩ | ⟨_, h2, _⟩
  · exact absurd h1 hP
  · exact h2
theorem cont_V (h : Pl S) (hs : s < 2) (hb : b < 14) (hG : G s = false) : cont S G s b = some ((S s).V (4 + b)) := by
  unfold cont
  rw [h.pl hs, h.nb s hs (4 + b) (by omega) (by omega), hG]
  simp
theorem garbled_cont (h : Pl S) {u : Nat} (hs : s < 2) (hu : u < 2) {b' : Nat} (hb : b < 14) (hb' : b' < 14) (hGs : G s = false) (hG : G u = false) {t : ByteArray} (ht : cont S G s b = some t) (a : Nat) (y : UInt8) : cont (setV S s (4 + b) (turnB ((S s).V (4 + b)) a y)) G u b' = if u = s ∧ b' = b then some (turnB t a y) else cont S G u b' := by
  rw [cont_V h hs hb hGs] at ht
  injection ht with ht
  rw [setV_cont h hu hb' hG, ht]
end
/-- the pair's devices, in an array -/
def Two2 (w : World) (p pa pb : Nat) : Prop := Has w p 25 [.pointer (some ⟨pa, 0, none⟩), .pointer (some ⟨pb, 0, none⟩)]
theorem fnd_0 {S : Nat → Sd} {b : Nat} {g k : Int} (h : wh (cont S noG 0 b) (b : Int) g k = true) : fnd S noG b g k = some 0 := by
  unfold fnd; rw [al_no, List.find?_cons, h]
theorem fnd_1 {S : Nat → Sd} {b : Nat} {g k : Int} (h0 : wh (cont S noG 0 b) (b : Int) g k = false) (h : wh (cont S noG 1 b) (b : Int) g k = true) : fnd S noG b g k = some 1 := by
  unfold fnd; rw [al_no, List.find?_cons, h0]
  show List.find? _ [1] = some 1
  rw [List.find?_cons, h]
theorem fnd_2 {S : Nat → Sd} {b : Nat} {g k : Int} (h0 : wh (cont S noG 0 b) (b : Int) g k = false) (h : wh (cont S noG 1 b) (b : Int) g k = false) : fnd S noG b g k = none := by
  unfold fnd; rw [al_no, List.find?_cons, h0]
  show List.find? _ [1] = none
  rw [List.find?_cons, h]; rfl
theorem run_minC (P : Program) (w : World) (t : TypeId) (ts : Array TypeId) (a c : Nat) : (Builtin.min_ ts t #[.int .i64 (a : Nat), .int .i64 (c : Nat)]).run P w = .ok (.int .i64 ((min a c : Nat) : Int)) w := by
  have e : ∀ a b : Nat, (if (b : Int) < a then (b : Int) else a) = ((min a b : Nat) : Int) := by intro a b; split <;> omega
  simp only [Builtin.min_, Builtin.min2, List.foldlM, Sem.run_bind, Sem.run_pure, Result.andThen]
  rw [e]
theorem lsE_no : lsE noG = 0 := rfl
theorem lsR_no : lsR noG = 10 := rfl
set_option maxHeartbeats 4000000 in
set_option maxRecDepth 100000 in
theorem wakes_any (w : World) : Calls Tryz.prog 10 #[] w fun e w' => e = .returned (.bool true) ∧ Below w.heap.size w w' := by
  obtain ⟨tx, htx⟩ : ∃ t : ByteArray, t = ⟨#[97, 98, 99]⟩ := ⟨_, rfl⟩
  have hok : Okay 3 1 tx := ⟨by omega, by omega, by omega, by omega, by rw [htx]; decide⟩
  have HOK := Lib.hid hok
  have HTX := Lib.hid htx
  obtain ⟨T, hT⟩ : ∃ T, T = imT 3 1 tx := ⟨_, rfl⟩
  obtain ⟨K, hK⟩ : ∃ K, K = ckT 3 1 tx := ⟨_, rfl⟩
  have HTT := Lib.hid hT
  have HKK := Lib.hid hK
  have HTZ := Lib.hid (show T.size = 128 by rw [hT]; exact hok.size)
  clear hok hT hK
  go_enter Tryz.func10, Tryz.ntmps10
  go_wp2_with fail
  refine (fresh_any w).mono ?_
  rintro e w1 ⟨pa, pb, mm, tb, bb, q, S, rfl, hm, h0, h1⟩
  have HPL := Lib.hid (Pl.new h0 h1)
  have HD := Lib.hid (Has.new w1 [.pointer (some ⟨pa, 0, none⟩), .pointer (some ⟨pb, 0, none⟩)] 25)
  have HM := Lib.hid (hm.new (.cells #[.pointer (some ⟨pa, 0, none⟩), .pointer (some ⟨pb, 0, none⟩)] 25))
  clear hm h0 h1
  obtain ⟨u, hu⟩ : ∃ u, u = w1.heap.size := ⟨_, rfl⟩
  rw [← hu] at HD HM
  go_wp2_with fail
  rw [← hu]
  refine (Sum.make_any _).mono ?_
  rintro e w2 ⟨tt, rfl, htb, htab, hb⟩
  have HM2 := Lib.hid (HM.out.later hb)
  have HD2 := Lib.hid (HD.out.below hb HD.out.lt)
  have HT2 := Lib.hid htab
  clear htb htab hb HM HD hu
  go_wp2_with fail
  rw [show (⟨#[97, 98, 99]⟩ : ByteArray) = tx from HTX.out.symm]
  refine (sealed_any tt 3 1 tx _ HT2.out HOK.out).mono ?_
  rintro e w3 ⟨rfl, hb⟩
  rw [← HTT.out, ← HKK.out]
  have HM3 := Lib.hid ((HM2.out.later hb).new (.cells #[.int .i64 3, .int .u64 1, .int .u32 K] 35))
  have HD3 := Lib.hid ((HD2.out.below hb HD2.out.lt).alloc (.cells #[.int .i64 3, .int .u64 1, .int .u32 K] 35))
  have HP3 := Lib.hid (Has.new w3 [.int .i64 3, .int .u64 1, .int .u32 K] 35)
  obtain ⟨v, hv⟩ : ∃ v, v = w3.heap.size := ⟨_, rfl⟩
  rw [← hv] at HM3 HP3
  clear hb HM2 HD2 HT2
  go_wp2_with fail
  rw [← hv]
  clear hv
  refine (Write_m HM3.out HPL.out.nb (b := 3) (by omega) HTZ.out (by omega)).mono ?_
  rintro e w4 ⟨S1, rfl, hst, hm, hsm⟩
  rw [lsE_no]
  have HPL1 := Lib.hid (HPL.out.st hst)
  have HC0 := Lib.hid (hst.got HPL.out.nb HM3.out.good (s := 0) (by omega) (by omega) (by rw [al_no]; simp) rfl)
  have HC1 := Lib.hid (hst.got HPL.out.nb HM3.out.good (s := 1) (by omega) (by omega) (by rw [al_no]; simp) rfl)
  have HM4 := Lib.hid hm
  have HD4 := Lib.hid (Has.same HD3.out (hsm u (by simp)))
  have HP4 := Lib.hid (Has.same HP3.out (hsm v (by simp)))
  clear hst hm hsm HM3 HD3 HP3 HPL
  go_wp2_with fail
  refine (Flush_m HM4.out (by omega)).mono ?_
  rintro e w5 ⟨rfl, hm, hsm⟩
  rw [lsE_no]
  have HM5 := Lib.hid hm
  have hd5 := Has.same HD4.out (hsm u (by simp))
  have HP5 := Lib.hid (Has.same HP4.out (hsm v (by simp)))
  have d0 := hd5.cell 0
  simp only [List.getElem?_cons_zero] at d0
  clear hm hsm HM4 HD4 HP4 hd5
  go_wp2_with fail
  refine (garble_m HM5.out (s := 0) (by omega) rfl (i := 4 + 3) (by omega) (by omega) (by omega) 30 1 pa rfl 7 rfl 30 rfl).mono ?_
  rintro e w6 ⟨rfl, hm, hsm⟩
  have HM6 := Lib.hid hm
  have hp6 := Has.same HP5.out (hsm v (by simp))
  have x0 := hp6.cell 0
  have x1 := hp6.cell 1
  have x2 := hp6.cell 2
  simp only [List.getElem?_cons_zero, List.getElem?_cons_succ] at x0 x1 x2
  clear hm hsm HM5 HP5 hp6 d0
  obtain ⟨S2, hS2⟩ : ∃ S2, S2 = setV S1 0 (4 + 3) (turnB ((S1 0).V (4 + 3)) (30 % 128) 1) := ⟨_, rfl⟩
  have HPL2 := Lib.hid (show Pl S2 by rw [hS2]; exact HPL1.out.setV _ _ _)
  have hc0 : cont S2 noG 0 3 = some (turnB T 30 1) := by rw [hS2]; exact (garbled_cont HPL1.out (s := 0) (u := 0) (by omega) (by omega) (b := 3) (b' := 3) (by omega) (by omega) rfl rfl HC0.out _ _).trans (if_pos ⟨rfl, rfl⟩)
  have hc1 : cont S2 noG 1 3 = some T := by rw [hS2]; exact ((garbled_cont HPL1.out (s := 0) (u := 1) (by omega) (by omega) (b := 3) (b' := 3) (by omega) (by omega) rfl rfl HC0.out _ _).trans (if_neg (by omega))).trans HC1.out
  have hF : fnd S2 noG 3 1 K = some 1 := by
    refine fnd_1 ?_ ?_
    · rw [hc0, HTT.out]; exact HOK.out.turned (by omega) (by decide) _ _ _
    · rw [hc1, HTT.out, HKK.out]; exact HOK.out.meets
  have HR := Lib.hid (show rdN S2 noG 1 3 = 1 by
    unfold rdN rpN
    rw [if_pos ⟨rfl, rfl⟩, if_pos]
    rw [wE_nobad HPL2.out.nb (fun t ht => by rw [HPL2.out.m t ht]; exact good0) (by omega) (by omega)]; rfl)
  rw [← hS2] at HM6
  have HF := Lib.hid hF
  have HC := Lib.hid hc1
  clear hS2 hc0 hc1 hF HPL1 HC0 HC1
  go_wp2_with fail
  refine (Read_some HM6.out (b := 3) (by omega) (by omega) (by omega) 1 K HF.out HC.out).mono ?_
  rintro e w7 ⟨S3, rfl, hst, hm, hsm⟩
  rw [HR.out] at hm
  obtain ⟨o1, o2, o3, o4, o5, o6⟩ := HOK.out.o
  rw [HTT.out, o2, o6, HTX.out]
  have HM7 := Lib.hid hm
  clear hst hm hsm HM6 x0 x1 x2 o1 o2 o3 o4 o5 o6
  go_wp2_with (first | (go_at_call 25; refine (Repairs_m HM7.out).mono ?_; rintro e w8 ⟨rfl, rfl⟩))
  go_ret
  exact ⟨rfl, HM7.out.below⟩
end Go.Proofs.YtcjfooikmaipdaaGreatDoor.Mir

/- An array that came in, opened into its elements. -/
namespace Go.Proofs.YtcjfooikmaipdaaGreatDoor
open Go.ChangeShapes Go.WideShapes Go.RowKit Go.Deep
theorem open_arr {H : Type} {enc : TypeId × Value → H} {P : Program} {w W : World} {r : Reach} {base b0 : Nat} {sp : Nat → Bool} {held : Bool} {t e : TypeId} {n : Nat} {v : Value} {d : DataW H} {ps : List MemPlace}
    (ht : P.underlying t = some (.array n e)) (hct : P.cellsOf t = n) (hce : P.cellsOf e = 1) (hval : Value.okWide P W r b0 t v) (hd : DataW.Trod enc P w base sp held t v d ps) :
    ∃ cs : List Value, v = .agg cs.toArray ∧ cs.length = n ∧ ∀ (i : Nat) (c : Value), cs[i]? = some c → ∃ m y, DataW.trod enc P w base sp held m e [c] = some y := by
  unfold Value.okWide at hval
  rw [ht] at hval
  obtain ⟨cs, rfl, hsz, _⟩ := hval
  obtain ⟨fuel, hf⟩ := hd
  obtain ⟨xs, m, _, _, hl, hx, hi⟩ := DataW.trod_array ht hf
  have hn : cs.toList.length = n := by rw [Array.length_toList, hsz, hct]
  refine ⟨cs.toList, by simp, hn, fun i c hc => ?_⟩
  have hin : i < n := by rw [← hn]; exact (List.getElem?_eq_some_iff.1 hc).1
  have := hi i hin
  rw [hce, Nat.mul_one] at this
  have hc' : (Value.agg cs).cells.toList = cs.toList := by simp [Value.cells]
  rw [hc'] at this
  have e1 : (cs.toList.drop i).take 1 = [c] := by
    obtain ⟨h1, h2⟩ := List.getElem?_eq_some_iff.1 hc
    rw [List.drop_eq_getElem_cons h1, h2]; rfl
  rw [e1] at this
  have hxl : i < xs.length := by omega
  exact ⟨m, xs[i], by rw [this, List.getElem?_eq_getElem hxl]⟩
theorem open_str_cell {H : Type} {enc : TypeId × Value → H} {P : Program} {w : World} {base : Nat} {sp : Nat → Bool} {held : Bool} {e : TypeId} {c : Value} (he : P.underlying e = some .string) (h : ∃ m y, DataW.trod enc P w base sp held m e [c] = some y) : ∃ s : ByteArray, c = .string s ∧ s.size ≤ maxLen := by
  obtain ⟨m, y, h⟩ := h
  obtain ⟨s, hs, _, hw⟩ := DataW.trod_string he h
  exact ⟨s, by simpa using hs, hw⟩
theorem open_int_cell {H : Type} {enc : TypeId × Value → H} {P : Program} {w : World} {base : Nat} {sp : Nat → Bool} {held : Bool} {e : TypeId} {c : Value} {k : IntKind} (he : P.underlying e = some (.int k)) (h : ∃ m y, DataW.trod enc P w base sp held m e [c] = some y) : ∃ n : Int, c = .int k n ∧ (Lit.int k n).wf = true := by
  obtain ⟨m, y, h⟩ := h
  obtain ⟨n, hn, _, hw⟩ := DataW.trod_int he h
  exact ⟨n, by simpa using hn, hw⟩
/-- a struct of one-cell fields that came in by value -/
theorem open_struct_cells {H : Type} {enc : TypeId × Value → H} {P : Program} {w W : World} {r : Reach} {base b0 : Nat} {sp : Nat → Bool} {held : Bool} {t : TypeId} {fs : Array Field} {v : Value} {d : DataW H} {ps : List MemPlace}
    (hs : P.underlying t = some (.struct fs)) (hone : oneCellFields P fs = true) (hC : P.cellsOf t = fs.size) (hval : Value.okWide P W r b0 t v) (hd : DataW.Trod enc P w base sp held t v d ps) :
    ∃ cs : List Value, v = .agg cs.toArray ∧ cs.length = fs.size ∧ ∀ (j : Nat) (f : Field) (c : Value), fs[j]? = some f → cs[j]? = some c → ∃ m y, DataW.trod enc P w base sp held m f.type [c] = some y := by
  obtain ⟨cs, rfl, hsz⟩ := okWide_struct hs hval
  obtain ⟨fuel, hf⟩ := hd
  obtain ⟨xs, n, _, hx, _, hlen, hg⟩ := DataW.trod_struct hs hf
  have hn : cs.toList.length = fs.size := by rw [Array.length_toList, hsz, hC]
  refine ⟨cs.toList, by simp, hn, fun j f c hj hc => ?_⟩
  obtain ⟨ho, hk⟩ := hone_of hone j f hj
  have h1 := hg j f hj
  rw [ho, hk] at h1
  have hc' : (Value.agg cs).cells.toList = cs.toList := by simp [Value.cells]
  rw [hc'] at h1
  have e1 : (cs.toList.drop j).take 1 = [c] := by
    obtain ⟨h2, h3⟩ := List.getElem?_eq_some_iff.1 hc
    rw [List.drop_eq_getElem_cons h2, h3]; rfl
  rw [e1] at h1
  have hjl : j < fs.size := (Array.getElem?_eq_some_iff.1 hj).1
  exact ⟨n, _, h1.trans (List.getElem?_eq_getElem (show j < xs.length by omega))⟩
/-- a slice of numbers in a cell -/
theorem open_ints_cell {H : Type} {enc : TypeId × Value → H} {P : Program} {w : World} {held : Bool} {t e : TypeId} {k : IntKind} {c : Value} (ht : P.underlying t = some (.slice e)) (he : P.underlying e = some (.int k)) (hc1 : P.cellsOf e = 1)
    (h : ∃ m y, DataW.trod enc P w 0 (fun _ => true) held m t [c] = some y) : ∃ a len cap zs, c = .slice a len cap ∧ Row k w a len zs ∧ len ≤ cap ∧ cap ≤ maxLen ∧ ∀ n ∈ zs, (Lit.int k n).wf = true := by
  obtain ⟨m, y, h⟩ := h
  rcases open_ints ht he hc1 h with ⟨hcs, _⟩ | ⟨x, l, cap, zs, hcs, _, hl, hm, hz, _, hcell, hwz⟩
  · simp at hcs
    exact ⟨none, 0, 0, [], hcs, ⟨rfl, fun h => absurd h (by decide)⟩, Nat.le_refl _, by unfold maxLen; omega, by simp⟩
  · simp at hcs
    refine ⟨some x, l, cap, zs.take l, hcs, ⟨by simp at hz; simp; omega, fun hpos => ?_⟩, hl, hm, fun n hn => hwz n (List.mem_of_mem_take hn)⟩
    obtain ⟨b, off, spot⟩ := x
    have hzl : zs.length = cap := by simpa using hz
    have h0 := hcell 0 (by omega)
    have hs : spot = none := by simpa [Addr.add] using World.cell?_spot h0
    subst hs
    refine ⟨b, off, rfl, fun i hi => ?_⟩
    have := hcell i (by omega)
    rw [Addr.add_lit] at this
    rw [this]
    simp [List.getD, hi]
end Go.Proofs.YtcjfooikmaipdaaGreatDoor

/- A slice of structs that came in, opened into its elements' cells. -/
namespace Go.Proofs.YtcjfooikmaipdaaGreatDoor
open Go.ChangeShapes Go.WideShapes Go.RowKit Go.Deep
theorem open_structs {H : Type} {enc : TypeId × Value → H} {P : Program} {w : World} {held : Bool} {t e : TypeId} {fs : Array Field} {c : Value}
    (ht : P.underlying t = some (.slice e)) (he : P.underlying e = some (.struct fs)) (hone : oneCellFields P fs = true) (hC : P.cellsOf e = fs.size) (hpos : 0 < fs.size)
    (h : ∃ m y, DataW.trod enc P w 0 (fun _ => true) held m t [c] = some y) :
    ∃ a len cap, c = .slice a len cap ∧ len ≤ cap ∧ cap ≤ maxLen ∧ (0 < len → ∃ b off, a = some ⟨b, off, none⟩ ∧ ∀ i, i < len → ∀ (j : Nat) (f : Field), fs[j]? = some f →
      ∃ v, w.cell? ⟨b, off + (i * fs.size + j), none⟩ = some v ∧ ∃ m y, DataW.trod enc P w 0 (fun _ => true) held m f.type [v] = some y) := by
  obtain ⟨m, y, h⟩ := h
  rcases open_slice ht h with ⟨hcs, _⟩ | ⟨a, len, cap, m', n, D, Pl, hcs, _, hl, hm, hmm, _, hel⟩
  · simp at hcs
    exact ⟨none, 0, 0, hcs, Nat.le_refl _, by unfold maxLen; omega, fun h => absurd h (by decide)⟩
  · simp at hcs
    refine ⟨some a, len, cap, hcs, hl, hm, fun hlen => ?_⟩
    have hm' : m' = cap := by simpa using hmm
    have key : ∀ i, i < len → ∀ (j : Nat) (f : Field), fs[j]? = some f → ∃ v, w.cell? (a.add (i * fs.size + j)) = some v ∧ ∃ m y, DataW.trod enc P w 0 (fun _ => true) held m f.type [v] = some y := by
      intro i hi j f hj
      obtain ⟨cs, hcells, htr⟩ := hel i (by omega)
      rw [hC] at hcells
      obtain ⟨ys, k, _, _, _, hys, hg⟩ := DataW.trod_struct he htr
      obtain ⟨_, hcl, hat⟩ := World.cells?_some hcells
      obtain ⟨ho, hk⟩ := hone_of hone j f hj
      have hjl : j < fs.size := (Array.getElem?_eq_some_iff.1 hj).1
      have h1 := hg j f hj
      rw [ho, hk] at h1
      have hv : cs[j]? = some (cs[j]'(by omega)) := List.getElem?_eq_getElem (by omega)
      rw [show (cs.drop j).take 1 = [cs[j]'(by omega)] by rw [List.drop_eq_getElem_cons (by omega)]; rfl] at h1
      refine ⟨cs[j]'(by omega), ?_, k, _, h1.trans (List.getElem?_eq_getElem (show j < ys.length by omega))⟩
      have := hat j (by omega)
      rw [Go.Deep.add_add] at this
      rw [this, hv]
    obtain ⟨b, off, spot⟩ := a
    obtain ⟨v0, hv0, _⟩ := key 0 hlen 0 _ (Array.getElem?_eq_getElem hpos)
    have hs : spot = none := by simpa [Addr.add] using World.cell?_spot hv0
    subst hs
    refine ⟨b, off, rfl, fun i hi j f hj => ?_⟩
    obtain ⟨v, hv, hx⟩ := key i hi j f hj
    rw [Addr.add_lit] at hv
    exact ⟨v, hv, hx⟩
theorem open_bool_cell {H : Type} {enc : TypeId × Value → H} {P : Program} {w : World} {base : Nat} {sp : Nat → Bool} {held : Bool} {e : TypeId} {c : Value} (he : P.underlying e = some .bool) (h : ∃ m y, DataW.trod enc P w base sp held m e [c] = some y) : ∃ b : Bool, c = .bool b := by
  obtain ⟨m, y, h⟩ := h
  obtain ⟨b, hb, _⟩ := DataW.trod_bool he h
  exact ⟨b, by simpa using hb⟩
end Go.Proofs.YtcjfooikmaipdaaGreatDoor

