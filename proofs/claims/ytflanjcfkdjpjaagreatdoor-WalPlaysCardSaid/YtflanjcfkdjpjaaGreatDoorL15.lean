/- Layers' contracts, bundled: WalB, WalH, WalI, WalJ, WalK, WalN, WalO. -/
import Derived.Test.YtflanjcfkdjpjaaGreatDoorL13
import Derived.Test.YtflanjcfkdjpjaaGreatDoorL14
import Derived.Test.YtflanjcfkdjpjaaGreatDoorL07
import Derived.Outline
import Derived.Deep.DeepCutAuto
/- Layer 13 (wal): what Open tells of a ring whose records are there, and in which all else is older. -/
namespace Go.Proofs.YtflanjcfkdjpjaaGreatDoor.Wal
open Go Go.RowKit Go.Proofs.YtflanjcfkdjpjaaGreatDoor Dev Rem Mir Rec
set_option linter.unusedVariables false

/-- each image in the ring has a number below N -/
def Old (F C : Int) (f : F2) (N : Int) : Prop := ∀ s, s < 2 → ∀ b, F ≤ b → b < F + C → Env.opE (f s b).data.toList = 0 → Env.F (f s b).data.toList 4 < N
/-- both sides have each record -/
def Both (Z F C : Int) (f : F2) (n c : Int) (r : List (List Up)) : Prop := ∀ j (hj : j < r.length),
  OkR Z r[j] ∧ OkN Z (bk F C (n + j)) (n + j) (chL n c (r.take j)) ∧ ∀ s, s < 2 → f s (bk F C (n + j)) = imR Z (bk F C (n + j)) (n + j) (chL n c (r.take j)) r[j]
/-- the ring's blocks are the same -/
def Eq2 (F C : Int) (f g : F2) : Prop := ∀ s, s < 2 → ∀ b, F ≤ b → b < F + C → f s b = g s b
section
variable {Z F C n c N : Int} {f g : F2} {r known : List (List Up)} {R : Nat}
theorem Old.mono {M : Int} (h : Old F C f N) (hM : N ≤ M) : Old F C f M := fun s hs b h1 h2 h3 => by have := h s hs b h1 h2 h3; omega
theorem Old.cong (h : Old F C f N) (e : Eq2 F C g f) : Old F C g N := fun s hs b h1 h2 h3 => by
  rw [e s hs b h1 h2] at h3 ⊢; exact h s hs b h1 h2 h3
theorem Both.cong (hC : 0 < C) (h : Both Z F C f n c r) (e : Eq2 F C g f) : Both Z F C g n c r := fun j hj => by
  obtain ⟨h1, h2, h3⟩ := h j hj
  have := bk_bd (F := F) (n := n + j) hC
  exact ⟨h1, h2, fun s hs => (e s hs _ this.1 this.2).trans (h3 s hs)⟩
theorem Both.there (h : Both Z F C f n c r) : There Z F C f n c r := fun j hj => ⟨(h j hj).1, (h j hj).2.1, .inl ((h j hj).2.2 0 (by omega))⟩
theorem Old.no (h : Old F C f N) {b m x : Int} (h1 : F ≤ b) (h2 : b < F + C) (hm : N ≤ m) {s : Nat} (hs : s < 2) {t : List UInt8} (ht : t = (f s b).data.toList) : rcO b m x t = none := by
  unfold rcO
  rw [if_neg]
  rintro ⟨e1, e2, e3, e4⟩
  subst ht
  have := h s hs b h1 h2 e1
  omega
theorem Old.none (h : Old F C f N) {b m x : Int} (h1 : F ≤ b) (h2 : b < F + C) (hm : N ≤ m) (hg : ∀ s, s < 2 → g s b = f s b) : rc2 g b m x = Option.none := by
  unfold rc2
  rw [hg 0 (by omega), hg 1 (by omega), h.no h1 h2 hm (s := 0) (by omega) rfl, h.no h1 h2 hm (s := 1) (by omega) rfl]
  rfl
/-- a record's image is put on both sides -/
theorem Old.put {b m x : Int} {l : List Up} (h : Old F C f N) (hk : OkR Z l) (hn : OkN Z b m x) (hm : N ≤ m) : Old F C (heal f b (imR Z b m x l)) (m + 1) := fun s hs b' h1 h2 h3 => by
  unfold heal at h3 ⊢
  split at h3
  · rename_i e
    subst e
    rw [if_pos rfl]
    have hf := hk.fit hn
    obtain ⟨f0, f1, f2, f3, f4, f5⟩ := Env.img_F (m := (Z - 24).toNat) hf
    rw [imR_eq hk hn, Lend.strOf_data, f4]
    omega
  · rename_i e
    rw [if_neg e]
    have := h s hs b' h1 h2 h3
    omega
theorem Both.put {l : List Up} (hC : 0 < C) (h : Both Z F C f n c r) (hr : (r.length : Int) < C) (hk : OkR Z l) (hn : OkN Z (bk F C (n + r.length)) (n + r.length) (chL n c r)) :
    Both Z F C (heal f (bk F C (n + r.length)) (imR Z (bk F C (n + r.length)) (n + r.length) (chL n c r) l)) n c (r ++ [l]) := fun j hj => by
  rw [List.length_append, List.length_singleton] at hj
  by_cases e : j = r.length
  · subst e
    have e2 : (r ++ [l]).take r.length = r := by simp
    have e3 : (r ++ [l])[r.length]'(by simp) = l := by simp
    rw [e2, e3]
    refine ⟨hk, hn, fun s hs => ?_⟩
    unfold heal; rw [if_pos rfl]
  · have hlt : j < r.length := by omega
    obtain ⟨h1, h2, h3⟩ := h j hlt
    have e2 : (r ++ [l]).take j = r.take j := by rw [List.take_append_of_le_length (by omega)]
    have e3 : (r ++ [l])[j]'(by simp; omega) = r[j] := List.getElem_append_left hlt
    rw [e2, e3]
    refine ⟨h1, h2, fun s hs => ?_⟩
    unfold heal; rw [if_neg (bk_ne hC (by omega) hr e)]; exact h3 s hs
theorem Both.nil : Both Z F C f n c [] := fun j hj => by cases hj
/-- noughts are no image -/
theorem opE_zero (m : Nat) : Env.opE (List.replicate m (0 : UInt8)) ≠ 0 := by
  unfold Env.opE
  have : Env.opB (List.replicate m (0 : UInt8)) = false := by
    have e : Env.mkB (List.replicate m (0 : UInt8)) = false := by
      unfold Env.mkB
      cases m with
      | zero => rfl
      | succ m => simp [List.replicate_succ, Env.markL]
    unfold Env.opB; rw [e]; simp
  rw [this]; simp
theorem repeatL_0' : ∀ m, Lib.repeatL [0] m = List.replicate m (0 : UInt8)
  | 0 => rfl
  | m + 1 => by rw [List.replicate_succ, ← repeatL_0' m]; rfl
theorem Old.zero {m : Nat} (h : ∀ s, s < 2 → ∀ b, F ≤ b → b < F + C → f s b = noughts m) : Old F C f N := fun s hs b h1 h2 h3 => by
  have e : (noughts m).data.toList = List.replicate m 0 := repeatL_0' m
  rw [h s hs b h1 h2, e] at h3
  exact absurd h3 (opE_zero m)
/-- what one side's damage makes of the other one's copy -/
def rp1 (Z F C : Int) (f : F2) (n c : Int) (known : List (List Up)) (s j : Nat) : Nat :=
  if f s (bk F C (n + (j : Nat))) = imR Z (bk F C (n + (j : Nat))) (n + (j : Nat)) (chL n c (known.take j)) (known[j]?.getD []) then 0 else 1
theorem There.rc2 {j : Nat} (hT : There Z F C f n c known) (hj : j < known.length) (hg : ∀ s, s < 2 → g s (bk F C (n + j)) = f s (bk F C (n + j))) : rc2 g (bk F C (n + j)) (n + j) (chL n c (known.take j)) ≠ none := by
  obtain ⟨t1, t2, t3⟩ := hT j hj
  have him := rcO_im t1 t2
  unfold Wal.rc2
  rw [hg 0 (by omega), hg 1 (by omega)]
  rcases t3 with t3 | ⟨t3, t4⟩
  · rw [t3, him]; simp
  · rw [t3, t4, him]; simp
/-- what Open tells -/
theorem Tells.whole (hC : 0 < C) (hlen : (known.length : Int) ≤ C) (hT : There Z F C f n c known) (hO : ∀ b, F ≤ b → b < F + C → (∀ j, j < known.length → b ≠ bk F C (n + j)) → ∀ s, s < 2 → Env.opE (f s b).data.toList = 0 → Env.F (f s b).data.toList 4 < n + known.length)
    (h : Tells F C f n c r g R) (hd : Done F C g n c r) (hr : (r.length : Int) ≤ C) :
    r = known ∧ Both Z F C g n c known ∧ Old F C g (n + known.length) ∧ R = ((List.range known.length).map fun j => rp1 Z F C f n c known 0 j + rp1 Z F C f n c known 1 j).sum ∧ (∀ s, s < 2 → ∀ b, (∀ j, j < known.length → b ≠ bk F C (n + j)) → g s b = f s b) := by
  have hE : (known.length : Int) < C → ∀ g : F2, (∀ s, s < 2 → g s (bk F C (n + known.length)) = f s (bk F C (n + known.length))) → rc2 g (bk F C (n + known.length)) (n + known.length) (chL n c known) = none := by
    intro hk g' hg
    have hb := bk_bd (F := F) (n := n + known.length) hC
    have key : ∀ s, s < 2 → rcO (bk F C (n + known.length)) (n + known.length) (chL n c known) (f s (bk F C (n + known.length))).data.toList = none := by
      intro s hs
      unfold rcO
      rw [if_neg]
      rintro ⟨e1, e2, e3, e4⟩
      have := hO _ hb.1 hb.2 (fun j hj => bk_ne hC hk (by omega) (by omega)) s hs e1
      omega
    unfold rc2
    rw [hg 0 (by omega), hg 1 (by omega), key 0 (by omega), key 1 (by omega)]
    rfl
  obtain ⟨p1, p2, p3, p4, p5⟩ := Tells.play hC hlen hT hE h hr
  have hfull : r.length = known.length := by
    rcases Nat.lt_or_ge r.length known.length with hlt | hge
    · exfalso
      rcases hd with hd | hd
      · omega
      · have hg : ∀ s, s < 2 → g s (bk F C (n + r.length)) = f s (bk F C (n + r.length)) := fun s hs => p4 s hs _ fun j hj => bk_ne hC (by omega) (by omega) (by omega)
        have := There.rc2 hT hlt hg
        rw [← p1] at this
        exact this hd
    · omega
  have hrk : r = known := by rw [p1, hfull, List.take_length]
  subst hrk
  have hB : Both Z F C g n c r := fun j hj => ⟨(hT j hj).1, (hT j hj).2.1, fun s hs => p3 s hs j hj hj⟩
  refine ⟨rfl, hB, ?_, p5, p4⟩
  intro s hs b h1 h2 h3
  by_cases e : ∃ j, j < r.length ∧ b = bk F C (n + j)
  · obtain ⟨j, hj, rfl⟩ := e
    obtain ⟨b1, b2, b3⟩ := hB j hj
    have hf := b1.fit b2
    obtain ⟨f0, f1, f2, f3, f4, f5⟩ := Env.img_F (m := (Z - 24).toNat) hf
    rw [b3 s hs, imR_eq b1 b2, Lend.strOf_data, f4]
    omega
  · have hne : ∀ j, j < r.length → b ≠ bk F C (n + j) := fun j hj he => e ⟨j, hj, he⟩
    rw [p4 s hs b hne] at h3 ⊢
    exact hO b h1 h2 hne s hs h3
theorem sum_of {x : Nat → Nat} {d : Nat} : ∀ {m : Nat}, (∀ j, j < m → x j = d) → ((List.range m).map x).sum = m * d
  | 0, _ => by simp
  | m + 1, h => by
    rw [List.range_succ, List.map_append, List.sum_append, sum_of fun j hj => h j (by omega)]
    simp only [List.map_cons, List.map_nil, List.sum_cons, List.sum_nil, Nat.add_zero]
    rw [h m (by omega), Nat.succ_mul]
theorem Both.rp {s j : Nat} (h : Both Z F C f n c known) (hs : s < 2) (hj : j < known.length) : rp1 Z F C f n c known s j = 0 := by
  unfold rp1
  rw [List.getElem?_eq_getElem hj, Option.getD_some, if_pos ((h j hj).2.2 s hs)]
/-- nothing is repaired where both sides have each record -/
theorem Tells.both (hC : 0 < C) (hlen : (known.length : Int) ≤ C) (hB : Both Z F C f n c known) (hO : Old F C f (n + known.length)) (h : Tells F C f n c r g R) (hd : Done F C g n c r) (hr : (r.length : Int) ≤ C) :
    r = known ∧ Both Z F C g n c known ∧ Old F C g (n + known.length) ∧ R = 0 := by
  obtain ⟨h1, h2, h3, h4, _⟩ := Tells.whole hC hlen hB.there (fun b h1 h2 _ s hs h3 => hO s hs b h1 h2 h3) h hd hr
  refine ⟨h1, h2, h3, ?_⟩
  rw [h4, sum_of (d := 0) fun j hj => by rw [hB.rp (by omega) hj, hB.rp (by omega) hj]]
  simp
end
end Go.Proofs.YtflanjcfkdjpjaaGreatDoor.Wal


/- Layer 13 (wal): right, Open. -/
namespace Go.Proofs.YtflanjcfkdjpjaaGreatDoor.Wal
open Go Go.RowKit Go.Proofs.YtflanjcfkdjpjaaGreatDoor Dev Tab Rem Go.Maps Go.WideMaps Mir Rec
set_option linter.unusedVariables false
/-- a ring that may be -/
def RgB (F C : Int) : Prop := 2 ≤ C ∧ C ≤ 256 ∧ 0 ≤ F ∧ F ≤ 16 - C
set_option maxHeartbeats 2000000 in
set_option maxRecDepth 100000 in
theorem right_yes {F C : Int} (w : World) (h : RgB F C) : Calls Tryz.prog 29 #[.agg #[.int .i64 F, .int .i64 C], .int .i64 16] w fun e w' => e = .returned (.bool true) ∧ Below w.heap.size w w' := by
  obtain ⟨h1, h2, h3, h4⟩ := h
  have hw : IntKind.i64.wrap (16 - C) = 16 - C := IntWalk.i64_in _ (by omega)
  go_enter Tryz.func29, Tryz.ntmps29
  go_wp2
  go_ret
  exact ⟨rfl, below_new _ _⟩
set_option maxHeartbeats 2000000 in
set_option maxRecDepth 100000 in
theorem right_no {F C : Int} (w : World) (h : ¬ RgB F C) : Calls Tryz.prog 29 #[.agg #[.int .i64 F, .int .i64 C], .int .i64 16] w fun e w' => e = .returned (.bool false) ∧ Below w.heap.size w w' := by
  by_cases h1 : 2 ≤ C
  · by_cases h2 : C ≤ 256
    · by_cases h3 : 0 ≤ F
      · have h4 : ¬ F ≤ 16 - C := fun h4 => h ⟨h1, h2, h3, h4⟩
        have hw : IntKind.i64.wrap (16 - C) = 16 - C := IntWalk.i64_in _ (by omega)
        clear h
        go_enter Tryz.func29, Tryz.ntmps29
        go_wp2
        go_ret
        exact ⟨rfl, below_new _ _⟩
      · clear h
        go_enter Tryz.func29, Tryz.ntmps29
        go_wp2
        go_ret
        exact ⟨rfl, below_new _ _⟩
    · clear h
      go_enter Tryz.func29, Tryz.ntmps29
      go_wp2
      go_ret
      exact ⟨rfl, below_new _ _⟩
  · clear h
    go_enter Tryz.func29, Tryz.ntmps29
    go_wp2
    go_ret
    exact ⟨rfl, below_new _ _⟩
/-! ### Open -/
section
variable {w0 w w' : World} {X Y Z : List Nat} {q c mm tb bb R s b lb tl : Nat} {pd : Nat → Nat} {S S' : Nat → Sd} {F C n ch : Int} {k : Nat}
theorem rgB_rg (h : RgB F C) (hn0 : 0 ≤ n) (hn1 : n ≤ 4611686018427487903) (hc0 : 0 ≤ ch) (hc1 : ch < 4294967296) : Rg F C n 0 ch := by
  obtain ⟨h1, h2, h3, h4⟩ := h
  exact ⟨h3, h1, h2, by omega, hn0, hn1, by omega, hc0, hc1⟩
theorem Open_nil (v : Value) (F C n ch : Int) (w : World) : Calls Tryz.prog 8 #[.pointer none, .agg #[.int .i64 F, .int .i64 C], .int .u64 n, .int .u32 ch] w fun e w' => e = .returned (.tuple #[.pointer none, .slice none 0 0, .int .i64 1]) ∧ Below w.heap.size w w' := by
  go_enter Tryz.func8, Tryz.ntmps8
  go_wp2
  go_ret3
  exact ⟨rfl, below_new _ _⟩
/-- what Open tells: the log, its records, what the blocks read then -/
def OpenP (w0 : World) (Y : List Nat) (mm tb bb q : Nat) (pd : Nat → Nat) (S : Nat → Sd) (c R : Nat) (F C n ch : Int) (w : World) (e : Ending) (w' : World) : Prop :=
  ∃ lb tl Z r g Rr S' v, e = .returned (.tuple #[.pointer (some ⟨lb, 0, none⟩), v, .int .i64 0]) ∧ Lg w0 (Z ++ Y) lb tl mm tb bb q pd S' (c + 8 * r.length) (R + Rr) F C n r.length (chL n ch r) w' ∧ Pl S' ∧
    Tells F C (fS S) n ch r g Rr ∧ Done F C g n ch r ∧ (r.length : Int) ≤ C ∧ (∀ s, s < 2 → ∀ b : Nat, b < 16 → fS S' s b = g s b) ∧ RZ w' 0 Z v n ch r ∧ (∀ l ∈ r, ∀ u ∈ l, WfU u) ∧ Same Y w w'
set_option maxHeartbeats 4000000 in
set_option maxRecDepth 100000 in
theorem Open_no (h : MG w0 Y mm tb bb q pd S noG c R w) (hr : ¬ RgB F C) : Calls Tryz.prog 8 #[.pointer (some ⟨mm, 0, none⟩), .agg #[.int .i64 F, .int .i64 C], .int .u64 n, .int .u32 ch] w fun e w' => e = .returned (.tuple #[.pointer none, .slice none 0 0, .int .i64 2]) ∧ Below w.heap.size w w' := by
  obtain ⟨w1, hw1⟩ : ∃ x, x = w.alloc (.cells #[.int .i64 F, .int .i64 C] 36) := ⟨_, rfl⟩
  have HB1 := Lib.hid (show Below w.heap.size w w1 by rw [hw1]; exact below_new _ _)
  have HX1 := Lib.hid (show Has w1 w.heap.size 36 [.int .i64 F, .int .i64 C] by rw [hw1]; exact Has.new _ _ _)
  have HM := Lib.hid (h.later HB1.out)
  have HR := Lib.hid hr
  obtain ⟨g, hg⟩ : ∃ x, x = w.heap.size := ⟨_, rfl⟩
  have HGG := Lib.hid hg
  rw [← hg] at HX1
  clear h hr
  go_enter Tryz.func8, Tryz.ntmps8
  go_upto_region 3 with fail
  rw [← hw1, ← hg]
  clear hw1 hg
  refine Reg.region_vals (by kernel_rfl) [(18, .agg #[.int .i64 F, .int .i64 C]), (19, .pointer (some ⟨mm, 0, none⟩)), (20, .pointer (some ⟨q, 0, none⟩)), (21, .agg (ta 16 4 (S 0).m)), (22, .int .i64 16), (23, .bool false), (24, .bool true)] (fun _ wy => Below w1.heap.size w1 wy) (by kernel_rfl) (by kernel_rfl) (by kernel_rfl) ((Env.below_dr (Below.refl _ w1))) ⟨?_, ?_, ?_, ?_, ?_, ?_, ?_, trivial⟩ ?hend
  · skip
    intro aq wq lq hI hl hdone hlater hold hd ho
    have h5 : aq.tmps.getD 5 undef = .pointer (some ⟨g, 0, none⟩) := ho 5 (by kernel_rfl)
    clear hd ho hdone hlater hold
    rw [Array.getD_eq_getD_getElem?] at h5
    have hx := HX1.out.below hI HX1.out.lt
    have x0 := hx.cell 0
    have x1 := hx.cell 1
    simp only [List.getElem?_cons_zero, List.getElem?_cons_succ] at x0 x1
    clear hx
    refine Reg.step2_val (.agg #[.int .i64 F, .int .i64 C]) ?_ rfl hI trivial
    go_simp
  · skip
    intro aq wq lq hI hl hdone hlater hold hd ho
    have h0 : aq.tmps.getD 0 undef = .pointer (some ⟨mm, 0, none⟩) := ho 0 (by kernel_rfl)
    clear hd ho hdone hlater hold
    exact Reg.step2_move (.tmp 0) rfl h0 hI trivial
  · skip
    intro aq wq lq hI hl hdone hlater hold hd ho
    have h19 : aq.tmps.getD 19 undef = .pointer (some ⟨mm, 0, none⟩) := hd 19 (by kernel_rfl)
    clear hd ho hdone hlater hold
    rw [Array.getD_eq_getD_getElem?] at h19
    refine Reg.step2_call 30 #[.pointer (some ⟨mm, 0, none⟩)] ?_ ((Pair_m (HM.out.later hI)).mono ?_)
    · clear hI
      simp [execOp]
      go_simp
    · rintro e w3 ⟨rfl, rfl⟩
      exact ⟨_, rfl, rfl, hI, trivial⟩
  · skip
    intro aq wq lq hI hl hdone hlater hold hd ho
    have h20 : aq.tmps.getD 20 undef = .pointer (some ⟨q, 0, none⟩) := hd 20 (by kernel_rfl)
    clear hd ho hdone hlater hold
    rw [Array.getD_eq_getD_getElem?] at h20
    refine Reg.step2_call 31 #[.pointer (some ⟨q, 0, none⟩), .int .i64 0] ?_ ((table_e (s := 0) (HM.out.later hI).cg.pb (by omega)).mono ?_)
    · clear hI
      simp [execOp]
      go_simp
    · rintro e w3 ⟨rfl, hb⟩
      exact ⟨_, rfl, rfl, hI.trans (hb.mono hI.size), trivial⟩
  · skip
    intro aq wq lq hI hl hdone hlater hold hd ho
    have h21 : aq.tmps.getD 21 undef = .agg (ta 16 4 (S 0).m) := hd 21 (by kernel_rfl)
    clear hd ho hdone hlater hold
    rw [Array.getD_eq_getD_getElem?] at h21
    refine Reg.step2_call 32 #[.agg (ta 16 4 (S 0).m)] ?_ ((Tab.blocks_any 16 4 (S 0).m wq).mono ?_)
    · clear hI
      simp [execOp]
      go_simp
    · rintro e w3 ⟨rfl, hb⟩
      exact ⟨_, rfl, rfl, hI.trans (hb.mono hI.size), trivial⟩
  · skip
    intro aq wq lq hI hl hdone hlater hold hd ho
    have h18 : aq.tmps.getD 18 undef = .agg #[.int .i64 F, .int .i64 C] := hd 18 (by kernel_rfl)
    have h22 : aq.tmps.getD 22 undef = .int .i64 16 := hd 22 (by kernel_rfl)
    clear hd ho hdone hlater hold
    rw [Array.getD_eq_getD_getElem?] at h18 h22
    refine Reg.step2_call 29 #[.agg #[.int .i64 F, .int .i64 C], .int .i64 16] ?_ ((right_no wq HR.out).mono ?_)
    · clear hI
      simp [execOp]
      go_simp
    · rintro e w3 ⟨rfl, hb⟩
      exact ⟨_, rfl, rfl, hI.trans (hb.mono hI.size), trivial⟩
  · skip
    intro aq wq lq hI hl hdone hlater hold hd ho
    have h23 : aq.tmps.getD 23 undef = .bool false := hd 23 (by kernel_rfl)
    clear hd ho hdone hlater hold
    rw [Array.getD_eq_getD_getElem?] at h23
    refine Reg.step2_val (.bool true) ?_ rfl hI trivial
    simp [execOp, Act.eval, h23]
    try go_simp
  case hend =>
  intro wz hI
  simp only [Reg.fill, List.foldl_cons, List.foldl_nil, List.setIfInBounds_toArray, List.set_cons_zero, List.set_cons_succ]
  have HB2 := Lib.hid (below_on HB1.out hI)
  clear hI
  go_wp2
  go_ret3
  exact ⟨rfl, HB2.out⟩
/-- a new log -/
theorem Lg.make {w5 : World} (h : MG w0 Y mm tb bb q pd S noG c R w) (hb : Below w.heap.size w w5) (h1 : w.heap.size ≤ tl) (ht : Sum.IsTab w5 tl) (hg : Rg F C n 0 ch) :
    Lg w0 Y w5.heap.size tl mm tb bb q pd S c R F C n 0 ch (w5.alloc (.cells #[.pointer (some ⟨mm, 0, none⟩), .pointer (some ⟨tl, 0, none⟩), .int .i64 F, .int .i64 C, .int .u64 n, .int .i64 0, .int .u32 ch] 92)) ∧ Same Y w (w5.alloc (.cells #[.pointer (some ⟨mm, 0, none⟩), .pointer (some ⟨tl, 0, none⟩), .int .i64 F, .int .i64 C, .int .u64 n, .int .i64 0, .int .u32 ch] 92)) := by
  have hs := hb.size
  refine ⟨⟨(h.fresh hb h1 (isTab_lt ht)).new _, Has.new w5 (lrow mm tl F C n 0 ch) 92, Sum.IsTab.new ht _, fun e => by have := (h.y _ e).2; omega, fun e => by have := (h.y _ e).2; omega, hg⟩, fun j hj => ?_⟩
  have := (h.y j hj).2
  rw [Below.heap_alloc _ _ _ (by omega), hb.block j this]
theorem rc2_congr {f g : F2} {b m x : Int} (h : ∀ s, s < 2 → f s b = g s b) : rc2 f b m x = rc2 g b m x := by unfold rc2; rw [h 0 (by omega), h 1 (by omega)]
theorem rep_congr {f g : F2} {b : Int} {t : ByteArray} (h : ∀ s, s < 2 → f s b = g s b) : rep f b t = rep g b t := by unfold rep; rw [h 0 (by omega), h 1 (by omega)]
theorem rep_le (f : F2) (b : Int) (t : ByteArray) : rep f b t ≤ 2 := by unfold rep; split <;> split <;> omega
def slen : Value → Nat
  | .slice _ n _ => n
  | _ => 0
/-- what Open has, behind some records -/
structure OpnI (w0 : World) (Y : List Nat) (lb tl mm tb bb q : Nat) (pd : Nat → Nat) (S : Nat → Sd) (c R : Nat) (F C n ch : Int) (w : World) (Z : List Nat) (v : Value) (r : List (List Up)) (g : F2) (Rr : Nat) (S' : Nat → Sd) (w' : World) : Prop where
  len : (r.length : Int) ≤ C
  tells : Tells F C (fS S) n ch r g Rr
  rr : Rr ≤ 2 * r.length
  eq : ∀ s, s < 2 → ∀ b : Nat, b < 16 → fS S' s b = g s b
  pl : Pl S'
  lg : Lg w0 (Z ++ Y) lb tl mm tb bb q pd S' (c + 8 * r.length) (R + Rr) F C n r.length (chL n ch r) w'
  rz : RZ w' 0 Z v n ch r
  wf : ∀ l ∈ r, ∀ u ∈ l, WfU u
  same : Same Y w w'
  dis : ∀ j ∈ Z, j ∉ Y
theorem RZ.slen {w : World} {base : Nat} {v : Value} {r : List (List Up)} (h : RZ w base Z v n ch r) : slen v = r.length := by
  obtain ⟨a, cap, rfl, _⟩ := h.rs; rfl
theorem info_rec : (Tryz.prog.info? 59).map (fun i => (i.zero, i.size, i.bytes)) = some (some (.agg #[.int .u64 0, .int .u32 0, .slice none 0 0]), 3, 40) := by kernel_rfl
set_option maxHeartbeats 8000000 in
set_option maxRecDepth 100000 in
theorem Open_yes (h : MG w0 Y mm tb bb q pd S noG c R w) (hr : RgB F C) (hrg : Rg F C n 0 ch) (hpl : Pl S) (hc : c ≤ 500000) (hRR : R ≤ 500000) : Calls Tryz.prog 8 #[.pointer (some ⟨mm, 0, none⟩), .agg #[.int .i64 F, .int .i64 C], .int .u64 n, .int .u32 ch] w (OpenP w0 Y mm tb bb q pd S c R F C n ch w) := by
  obtain ⟨w1, hw1⟩ : ∃ x, x = w.alloc (.cells #[.int .i64 F, .int .i64 C] 36) := ⟨_, rfl⟩
  have HB1 := Lib.hid (show Below w.heap.size w w1 by rw [hw1]; exact below_new _ _)
  have HX1 := Lib.hid (show Has w1 w.heap.size 36 [.int .i64 F, .int .i64 C] by rw [hw1]; exact Has.new _ _ _)
  have HM := Lib.hid (h.later HB1.out)
  have HS1 := Lib.hid (show Same Y w w1 from fun j hj => HB1.out.block j (h.y j hj).2)
  have HR := Lib.hid hr
  have HRG := Lib.hid hrg
  have HPL := Lib.hid hpl
  have HC := Lib.hid hc
  have HRR := Lib.hid hRR
  obtain ⟨g, hg⟩ : ∃ x, x = w.heap.size := ⟨_, rfl⟩
  rw [← hg] at HX1
  clear h hr hrg hpl hc hRR
  go_enter Tryz.func8, Tryz.ntmps8
  go_upto_region 3 with fail
  rw [← hw1, ← hg]
  clear hw1 hg
  refine Reg.region_vals (by kernel_rfl) [(18, .agg #[.int .i64 F, .int .i64 C]), (19, .pointer (some ⟨mm, 0, none⟩)), (20, .pointer (some ⟨q, 0, none⟩)), (21, .agg (ta 16 4 (S 0).m)), (22, .int .i64 16), (23, .bool true), (24, .bool false)] (fun _ wy => Below w1.heap.size w1 wy) (by kernel_rfl) (by kernel_rfl) (by kernel_rfl) ((Env.below_dr (Below.refl _ w1))) ⟨?_, ?_, ?_, ?_, ?_, ?_, ?_, trivial⟩ ?hend
  · skip
    intro aq wq lq hI hl hdone hlater hold hd ho
    have h5 : aq.tmps.getD 5 undef = .pointer (some ⟨g, 0, none⟩) := ho 5 (by kernel_rfl)
    clear hd ho hdone hlater hold
    rw [Array.getD_eq_getD_getElem?] at h5
    have hx := HX1.out.below hI HX1.out.lt
    have x0 := hx.cell 0
    have x1 := hx.cell 1
    simp only [List.getElem?_cons_zero, List.getElem?_cons_succ] at x0 x1
    clear hx
    refine Reg.step2_val (.agg #[.int .i64 F, .int .i64 C]) ?_ rfl hI trivial
    go_simp
  · skip
    intro aq wq lq hI hl hdone hlater hold hd ho
    have h0 : aq.tmps.getD 0 undef = .pointer (some ⟨mm, 0, none⟩) := ho 0 (by kernel_rfl)
    clear hd ho hdone hlater hold
    exact Reg.step2_move (.tmp 0) rfl h0 hI trivial
  · skip
    intro aq wq lq hI hl hdone hlater hold hd ho
    have h19 : aq.tmps.getD 19 undef = .pointer (some ⟨mm, 0, none⟩) := hd 19 (by kernel_rfl)
    clear hd ho hdone hlater hold
    rw [Array.getD_eq_getD_getElem?] at h19
    refine Reg.step2_call 30 #[.pointer (some ⟨mm, 0, none⟩)] ?_ ((Pair_m (HM.out.later hI)).mono ?_)
    · clear hI
      simp [execOp]
      go_simp
    · rintro e w3 ⟨rfl, rfl⟩
      exact ⟨_, rfl, rfl, hI, trivial⟩
  · skip
    intro aq wq lq hI hl hdone hlater hold hd ho
    have h20 : aq.tmps.getD 20 undef = .pointer (some ⟨q, 0, none⟩) := hd 20 (by kernel_rfl)
    clear hd ho hdone hlater hold
    rw [Array.getD_eq_getD_getElem?] at h20
    refine Reg.step2_call 31 #[.pointer (some ⟨q, 0, none⟩), .int .i64 0] ?_ ((table_e (s := 0) (HM.out.later hI).cg.pb (by omega)).mono ?_)
    · clear hI
      simp [execOp]
      go_simp
    · rintro e w3 ⟨rfl, hb⟩
      exact ⟨_, rfl, rfl, hI.trans (hb.mono hI.size), trivial⟩
  · skip
    intro aq wq lq hI hl hdone hlater hold hd ho
    have h21 : aq.tmps.getD 21 undef = .agg (ta 16 4 (S 0).m) := hd 21 (by kernel_rfl)
    clear hd ho hdone hlater hold
    rw [Array.getD_eq_getD_getElem?] at h21
    refine Reg.step2_call 32 #[.agg (ta 16 4 (S 0).m)] ?_ ((Tab.blocks_any 16 4 (S 0).m wq).mono ?_)
    · clear hI
      simp [execOp]
      go_simp
    · rintro e w3 ⟨rfl, hb⟩
      exact ⟨_, rfl, rfl, hI.trans (hb.mono hI.size), trivial⟩
  · skip
    intro aq wq lq hI hl hdone hlater hold hd ho
    have h18 : aq.tmps.getD 18 undef = .agg #[.int .i64 F, .int .i64 C] := hd 18 (by kernel_rfl)
    have h22 : aq.tmps.getD 22 undef = .int .i64 16 := hd 22 (by kernel_rfl)
    clear hd ho hdone hlater hold
    rw [Array.getD_eq_getD_getElem?] at h18 h22
    refine Reg.step2_call 29 #[.agg #[.int .i64 F, .int .i64 C], .int .i64 16] ?_ ((right_yes wq HR.out).mono ?_)
    · clear hI
      simp [execOp]
      go_simp
    · rintro e w3 ⟨rfl, hb⟩
      exact ⟨_, rfl, rfl, hI.trans (hb.mono hI.size), trivial⟩
  · skip
    intro aq wq lq hI hl hdone hlater hold hd ho
    have h23 : aq.tmps.getD 23 undef = .bool true := hd 23 (by kernel_rfl)
    clear hd ho hdone hlater hold
    rw [Array.getD_eq_getD_getElem?] at h23
    refine Reg.step2_val (.bool false) ?_ rfl hI trivial
    simp [execOp, Act.eval, h23]
    try go_simp
  case hend =>
  intro wz hI
  simp only [Reg.fill, List.foldl_cons, List.foldl_nil, List.setIfInBounds_toArray, List.set_cons_zero, List.set_cons_succ]
  have HM2 := Lib.hid (HM.out.later hI)
  have HX2 := Lib.hid (HX1.out.below hI HX1.out.lt)
  have HS2 := Lib.hid (show Same Y w wz from fun j hj => (hI.block j (HM.out.y j hj).2).trans (HS1.out j hj))
  clear hI HM HX1 HS1 HB1
  go_upto_region 5 with fail
  have x0 := HX2.out.cell 0
  have x1 := HX2.out.cell 1
  simp only [List.getElem?_cons_zero, List.getElem?_cons_succ] at x0 x1
  go_cut [11] (fun v11 wx => ∃ lb tl, v11 = .pointer (some ⟨lb, 0, none⟩) ∧ Lg w0 Y lb tl mm tb bb q pd S c R F C n 0 ch wx ∧ Same Y w wx)
  case first =>
    go_region_with (go_at_call 11; refine (Sum.make_any _).mono ?_; rintro e w5 ⟨tl, rfl, htl, htab, hb⟩; have x0' := (hb.cell (World.block_lt_of_cell? _ _ x0)).trans x0; have x1' := (hb.cell (World.block_lt_of_cell? _ _ x1)).trans x1)
    all_goals (go_wp2; go_meet; exact ⟨_, tl, rfl, (Lg.make HM2.out ((Below.refl _ wz).drew.trans hb) htl htab HRG.out).1, fun j hj => ((Lg.make HM2.out ((Below.refl _ wz).drew.trans hb) htl htab HRG.out).2 j hj).trans (HS2.out j hj)⟩)
  case rest =>
    obtain ⟨lb, tl, rfl, hlg, hsm⟩ := hcut
    have HLG := Lib.hid hlg
    have HSM := Lib.hid hsm
    clear hlg hsm x0 x1 HX2 HM2 HS2
    go_wp2_with fail
    go_loopw [12] (fun v wr => ∃ Z r g Rr S', OpnI w0 Y lb tl mm tb bb q pd S c R F C n ch w Z v r g Rr S' wr) (fun v _ => C.toNat - slen v)
    case atStart =>
      exact ⟨[], [], fS S, 0, S, ⟨by have := HRG.out.c2; simp; omega, .nil, by simp, fun _ _ _ _ => rfl, HPL.out, HLG.out, RZ.nil _ _ _ _ _, (fun l hl => by cases hl), HSM.out, (fun j hj => by cases hj)⟩⟩
    case round =>
      obtain ⟨Z, r, gg, Rr, S', hi⟩ := hrel
      have HI := Lib.hid hi
      have hlen := hi.len
      clear hi
      go_wp2_with fail
      refine (Left_l HI.out.lg).mono ?_
      rintro e w3 ⟨rfl, j3, rfl⟩
      obtain ⟨m, hm⟩ : ∃ x, x = r.length := ⟨_, rfl⟩
      have HMM := Lib.hid hm
      rw [← hm] at hlen ⊢
      clear hm
      by_cases hlt : (m : Int) < C
      · have h0 : 0 < C - (m : Int) := by omega
        go_wp2_with fail
        refine (find_l (HI.out.lg.drewN j3) HI.out.pl (by rw [← HMM.out]; exact hlt) (by have := HC.out; have := HRG.out.cm; rw [← HMM.out]; omega) (by have := HRR.out; have := HI.out.rr; have := HRG.out.cm; have := HI.out.len; omega)).mono ?_
        intro e w4 hf
        rcases hf with ⟨l, t, S2, Zf, u, hrc, rfl, hra, hzf, hzd, hlg2, hpl2, heq2, hsm2⟩ | ⟨hrc, rfl, hlg2, hsm2⟩
        · obtain ⟨ua, uc, rfl⟩ := (UR.of_own hra).slice
          have hlgl := hlg2.lt
          obtain ⟨ln, hln⟩ : ∃ x, x = l.length := ⟨_, rfl⟩
          have hall : ∀ u ∈ l, WfU u := by
            unfold rc2 at hrc
            split at hrc
            · rename_i l2 h2; injection hrc with hrc; injection hrc with e1 e2; subst e1; exact (rcO_all h2).2.1
            · rename_i h2
              cases e3 : rcO (bk F C (n + r.length)) (n + r.length) (chL n ch r) (fS S' 1 (bk F C (n + r.length))).data.toList with
              | none => rw [e3] at hrc; cases hrc
              | some l2 => rw [e3] at hrc; injection hrc with hrc; injection hrc with e1 e2; subst e1; exact (rcO_all e3).2.1
          have HALL := Lib.hid hall
          have HRC := Lib.hid hrc
          have HPL2 := Lib.hid hpl2
          have HEQ2 := Lib.hid heq2
          have HSM2 := Lib.hid hsm2
          have HZF := Lib.hid hzf
          have HZD := Lib.hid hzd
          have HLG4 := Lib.hid hlg2
          have HB6 := Lib.hid (below_nw (below_new w4 (.cells #[.int .u64 (n + r.length), .int .u32 (chL n ch r), .slice ua l.length uc] 59)) (.cells #[.int .u64 (n + r.length), .int .u32 (chL n ch r), .slice ua l.length uc] 59))
          have HLG6 := Lib.hid (hlg2.later HB6.out)
          have HRA6 := Lib.hid (own_bel hra HB6.out)
          have HRZ6 := Lib.hid ((HI.out.rz.same (w' := w4) (fun j hj => hsm2 j (List.mem_append_left _ hj))).same (fun j hj => HB6.out.block j (hlg2.y j (by simp [hj])).2))
          have HNEWS := Lib.hid (show ∀ j y, (enc3 (n + r.length, chL n ch r, .slice ua l.length uc))[j]? = some y → ((w4.alloc (.cells #[.int .u64 (n + r.length), .int .u32 (chL n ch r), .slice ua l.length uc] 59)).alloc (.cells #[.int .u64 (n + r.length), .int .u32 (chL n ch r), .slice ua l.length uc] 59)).cell? ((⟨w4.heap.size + 1, 0, none⟩ : Addr).add j) = some y from by
            have h := has_news (Has.new (w4.alloc (.cells #[.int .u64 (n + r.length), .int .u32 (chL n ch r), .slice ua l.length uc] 59)) (enc3 (n + r.length, chL n ch r, .slice ua l.length uc)) 59)
            rw [World.size_alloc] at h
            exact h)
          obtain ⟨⟨T, hT1, hT2, hT3⟩, hT4⟩ := HRZ6.out
          have HT2 := Lib.hid hT2
          have HT3 := Lib.hid hT3
          have HT4 := Lib.hid hT4
          have HT1 := Lib.hid hT1
          have hT256 : T.length + 1 ≤ 300 := by have := HRG.out.cm; have := HI.out.len; omega
          have HH := Has.new w4 [.int .u64 0, .int .u32 0, .slice none 0 0] 59
          have e0 := HH.cell 0
          have e1 := HH.cell 1
          have e2 := HH.cell 2
          have q0 := HH.frozen 0
          have q1 := HH.frozen 1
          have q2 := HH.frozen 2
          simp only [List.getElem?_cons_zero, List.getElem?_cons_succ] at e0 e1 e2
          clear HH hT1 hT2 hT3 hT4 hra hrc hpl2 heq2 hsm2 hzf hzd hlg2 hall hlgl h0
          obtain ⟨ia, hia, hza0, hza1, hza2⟩ := info_parts info_rec
          go_wp2_with (at_builtin; refine wpList_append_place rfl _ _ 31 rfl 0 59 ia _ 3 40 Tryz.underlying31 hia hza0 hza1 hza2 rfl (by decide) _ T.length (flat3 T) rfl HT2.out ⟨w4.heap.size + 1, 0, none⟩ 1 1 (enc3 (n + r.length, chL n ch r, .slice ua l.length uc)) rfl rfl ?c1 ?c2 ?c3 ?c4 (Nat.zero_le _) ?_)
          case c1 => exact HNEWS.out
          case c2 => intro y hy; simp [enc3] at hy; rcases hy with rfl | rfl | rfl <;> rfl
          case c3 => unfold maxLen; omega
          case c4 => omega
          intro v8 w8 hown hgr hpl
          obtain ⟨b8, hb8⟩ : ∃ y, v8.ownBlock = some y := by
            rcases hown.2 with ⟨_, h0⟩ | ⟨y, cap, cur, rfl, _⟩
            · omega
            · exact ⟨y, rfl⟩
          have hb8l := (hown.lt b8 hb8).2
          have HLG8 := Lib.hid (show Lg w0 ((b8 :: (Zf ++ Z)) ++ Y) lb tl mm tb bb q pd S2 (c + 8 * (r ++ [l]).length) (R + (Rr + rep gg (bk F C (n + r.length)) t)) F C n (r ++ [l]).length (chL n ch (r ++ [l])) w8 from by
            have e1 : (r ++ [l]).length = r.length + 1 := by simp
            have e2 : rep (fS S') (bk F C (n + r.length)) t = rep gg (bk F C (n + r.length)) t := by
              obtain ⟨B, hB, hB16⟩ := bk_at HI.out.lg.rg (n + r.length)
              rw [hB]
              exact rep_congr fun s hs => HI.out.eq s hs B hB16
            rw [e1, chL_snoc, ← e2, show c + 8 * (r.length + 1) = c + 8 * r.length + 8 by omega, ← Nat.add_assoc]
            rcases hpl b8 hb8 with hold | ⟨hge, hbel⟩
            · have hz := HT4.out b8 hold
              exact (HLG6.out.grow hgr (fun j hj => by simp [HT4.out j hj])).sub (fun j hj => by
                simp at hj ⊢; rcases hj with rfl | hj | hj | hj
                · exact .inr (.inl hz)
                · exact .inl hj
                · exact .inr (.inl hj)
                · exact .inr (.inr hj))
            · exact (HLG6.out.fresh (by simpa using hbel) (by simpa using hge) hb8l).sub (fun j hj => by
                simp at hj ⊢; rcases hj with rfl | hj | hj | hj <;> simp [*]))
          have HRZ8 := Lib.hid (show RZ w8 0 (b8 :: (Zf ++ Z)) v8 n ch (r ++ [l]) from
            RZ.snoc (Z := Zf ++ Z) HT1.out HT2.out (fun i hi hr => by obtain ⟨a, b, d, e⟩ := HT3.out i hi hr; exact ⟨a, b, d, fun k hk => by simp [e k hk]⟩) HRA6.out (fun k hk => by simp [HZF.out k hk]) hown hgr (fun k hk => by rw [hb8] at hk; injection hk with hk; subst hk; simp) (fun k hk => List.mem_cons_of_mem _ hk))
          have HSM8 := Lib.hid (show Same Y w w8 from fun j hj => by
            have h1 := (HLG6.out.y j (by simp [hj])).2
            rw [hgr.block j h1 (fun e => by
              have hz := HT4.out j e.symm
              exact HI.out.dis j hz hj), HB6.out.block j (HLG4.out.y j (by simp [hj])).2, HSM2.out j (by simp [hj])]
            exact HI.out.same j hj)
          have HB8D := Lib.hid (show b8 ∉ Y from fun hy => by
            rcases hpl b8 hb8 with hold | ⟨hge, _⟩
            · exact HI.out.dis b8 (HT4.out b8 hold) hy
            · have := (HLG6.out.y b8 (by simp [hy])).2; rw [World.size_alloc, World.size_alloc] at this; omega)
          clear hown hgr hpl hb8l e0 e1 e2 q0 q1 q2
          go_wp2_with fail
          go_roundw
          case rel =>
            refine ⟨b8 :: (Zf ++ Z), r ++ [l], heal gg (bk F C (n + r.length)) t, Rr + rep gg (bk F C (n + r.length)) t, S2, ?_⟩
            have hq : ∀ s, s < 2 → fS S' s (bk F C (n + r.length)) = gg s (bk F C (n + r.length)) := fun s hs => by
              obtain ⟨B, hB, hB16⟩ := bk_at HI.out.lg.rg (n + r.length)
              rw [hB]
              exact HI.out.eq s hs B hB16
            refine ⟨?_, ?_, ?_, ?_, HPL2.out, HLG8.out, HRZ8.out, ?_, HSM8.out, ?_⟩
            · rw [List.length_append, List.length_singleton, ← HMM.out]; omega
            · exact .snoc HI.out.tells (by rw [← rc2_congr hq]; exact HRC.out)
            · have h1 := HI.out.rr
              have h2 := rep_le gg (bk F C (n + r.length)) t
              rw [List.length_append, List.length_singleton]; omega
            · intro s hs b hb
              rw [HEQ2.out s hs b hb]
              unfold heal
              split
              · rfl
              · exact HI.out.eq s hs b hb
            · intro x hx
              rcases List.mem_append.1 hx with hx | hx
              · exact HI.out.wf x hx
              · rw [List.mem_singleton] at hx; subst hx; exact HALL.out
            · intro j hj hy
              rcases List.mem_cons.1 hj with rfl | hj
              · exact HB8D.out hy
              · rcases List.mem_append.1 hj with hj | hj
                · exact HZD.out j hj (List.mem_append_right _ hy)
                · exact HI.out.dis j hj hy
          case measure =>
            have h1 := HRZ8.out.slen
            have h2 := HI.out.rz.slen
            rw [h1, h2, List.length_append, List.length_singleton, ← HMM.out]
            omega
        · have HRC := Lib.hid hrc
          have HLG2 := Lib.hid hlg2
          have HSM2 := Lib.hid (show Same Y w w4 from fun j hj => (hsm2 j (List.mem_append_right _ hj)).trans (HI.out.same j hj))
          have HRZ := Lib.hid (HI.out.rz.same (w' := w4) (fun j hj => hsm2 j (List.mem_append_left _ hj)))
          have HBZ := Lib.hid (fun j (hj : j ∈ Z) => (hlg2.y j (by simp [hj])).2)
          have HH := Has.new w4 [.int .u64 0, .int .u32 0, .slice none 0 0] 59
          have e0 := HH.cell 0
          have e1 := HH.cell 1
          have e2 := HH.cell 2
          have q0 := HH.frozen 0
          have q1 := HH.frozen 1
          have q2 := HH.frozen 2
          simp only [List.getElem?_cons_zero, List.getElem?_cons_succ] at e0 e1 e2
          clear HH hrc hlg2 hsm2 h0
          go_wp2_with fail
          go_ret3
          refine ⟨lb, tl, Z, r, gg, Rr, S', _, rfl, HLG2.out.later (below_new _ _), HI.out.pl, HI.out.tells, .inr ?_, HI.out.len, HI.out.eq, HRZ.out.same (fun j hj => Below.heap_alloc _ _ _ (HBZ.out j hj)), HI.out.wf, ?_⟩
          · have hq : ∀ s, s < 2 → fS S' s (bk F C (n + r.length)) = gg s (bk F C (n + r.length)) := fun s hs => by
              obtain ⟨B, hB, hB16⟩ := bk_at HI.out.lg.rg (n + r.length)
              rw [hB]
              exact HI.out.eq s hs B hB16
            rw [← rc2_congr hq]; exact HRC.out
          · exact fun j hj => (Below.heap_alloc _ _ _ (HLG2.out.y j (by simp [hj])).2).trans (HSM2.out j hj)
      · have h0 : ¬ 0 < C - (m : Int) := by omega
        go_wp2
        go_ret3
        refine ⟨lb, tl, Z, r, gg, Rr, S', _, rfl, HI.out.lg.drewN _, HI.out.pl, HI.out.tells, .inl ?_, HI.out.len, HI.out.eq, HI.out.rz.same (fun j hj => rfl), HI.out.wf, HI.out.same⟩
        have h1 := HI.out.len
        rw [← HMM.out] at h1 ⊢
        omega
end
end Go.Proofs.YtflanjcfkdjpjaaGreatDoor.Wal


/- Layer 13 (wal): Append. -/
namespace Go.Proofs.YtflanjcfkdjpjaaGreatDoor.Wal
open Go Go.RowKit Go.Proofs.YtflanjcfkdjpjaaGreatDoor Dev Tab Rem Go.Maps Go.WideMaps Mir Rec
set_option linter.unusedVariables false
section
variable {w0 w w' : World} {X Y Z : List Nat} {q c mm tb bb R s b lb tl : Nat} {pd : Nat → Nat} {S S' : Nat → Sd} {F C n ch : Int} {k : Nat}
/-- updates whose cells lie in a block of Y -/
structure URin (Y : List Nat) (w : World) (v : Value) (l : List Up) : Prop where
  ur : UR w v l
  own : ∀ j, v.ownBlock = some j → j ∈ Y
theorem URin.keep {v : Value} {l : List Up} (h : URin Y w v l) (hs : Same Y w w') : URin Y w' v l := by
  obtain ⟨h1, h2⟩ := h
  refine ⟨?_, h2⟩
  obtain ⟨a, cap, rfl, hx⟩ := h1.form
  refine ⟨a, cap, rfl, fun h0 => ?_⟩
  obtain ⟨g, off, rfl, hcl⟩ := hx h0
  refine ⟨g, off, rfl, fun i hi j hj => ?_⟩
  rw [← hcl i hi j hj]
  exact Mir.cell_same (hs g (h2 g rfl))
theorem URin.mono {v : Value} {l : List Up} (h : URin Y w v l) (hZ : ∀ j ∈ Y, j ∈ Z) : URin Z w v l := ⟨h.ur, fun j hj => hZ j (h.own j hj)⟩
theorem URin.nb {v : Value} {l : List Up} (h : URin Y w v l) (hn : lb ∉ Y) : URn lb w v l := URn.of_ur h.ur fun j hj e => hn (e ▸ h.own j hj)
theorem URin.later {v : Value} {l : List Up} (h : URin Y w v l) (hb : Below w.heap.size w w') : URin Y w' v l := ⟨h.ur.below hb, h.own⟩
theorem okN_of (h : Rg F C n k ch) : OkN 192 (bk F C (n + k)) (n + k) ch := by
  have h1 := bk_bd (F := F) (n := n + k) (show 0 < C by have := h.c2; omega)
  have := h.f0; have := h.fc; have := h.n0; have := h.n1; have := h.k1; have := h.cm; have := h.ch0; have := h.ch1
  exact ⟨by decide, by decide, by omega, by omega, by omega, by omega, by omega, by omega⟩
theorem Append_nil (v : Value) (w : World) : Calls Tryz.prog 18 #[.pointer none, v] w fun e w' => e = .returned (.int .i64 1) ∧ w = w' := by
  go_enter Tryz.func18, Tryz.ntmps18
  go_wp2
  go_ret
  exact ⟨rfl, rfl⟩
/-- what Append answers, where it isn't 0 -/
def apE (l : List Up) (k : Nat) (C : Int) : Int := if l = [] then 2 else if errL l = 0 then (if 192 - 38 < ((txL l).length : Int) then 20 else if (k : Int) = C then 11 else 0) else errL l
set_option maxHeartbeats 4000000 in
set_option maxRecDepth 100000 in
theorem Append_no {v : Value} {l : List Up} (h : Lg w0 Y lb tl mm tb bb q pd S c R F C n k ch w) (hu : UR w v l) (hl : l.length ≤ 1000) (hwf : ∀ u ∈ l, WfU u) (he : apE l k C ≠ 0) :
    Calls Tryz.prog 18 #[.pointer (some ⟨lb, 0, none⟩), v] w fun e w' => e = .returned (.int .i64 (apE l k C)) ∧ Below w.heap.size w w' := by
  obtain ⟨va, vc, rfl⟩ := hu.slice
  have HT := Lib.hid (Text_any hu hl hwf)
  have HL := Lib.hid h
  obtain ⟨E, hE⟩ : ∃ x, x = apE l k C := ⟨_, rfl⟩
  rw [← hE] at he ⊢
  unfold apE at hE
  obtain ⟨ln, hln⟩ : ∃ x, x = l.length := ⟨_, rfl⟩
  rw [← hln] at HT ⊢
  by_cases h0 : l = []
  · subst h0
    have hln0 : ln = 0 := hln
    subst hln0
    rw [if_pos rfl] at hE
    subst hE
    clear h hu hl hwf he hln
    go_enter Tryz.func18, Tryz.ntmps18
    go_wp2
    go_ret
    exact ⟨rfl, Below.refl _ _⟩
  · rw [if_neg h0] at hE
    have hl0 : ((ln : Int) == 0) = false := by
      have : l.length ≠ 0 := fun e => h0 (List.length_eq_zero_iff.1 e)
      have : ¬ (ln : Int) = 0 := by omega
      simpa using this
    by_cases h1 : errL l = 0
    · rw [if_pos h1] at hE
      have HTX := Lib.hid (show txT l = txL l from if_pos h1)
      rw [h1, HTX.out] at HT
      have hsz := ssize (txL l)
      obtain ⟨T, hT⟩ : ∃ x, x = Lend.strOf (txL l) := ⟨_, rfl⟩
      rw [← hT] at HT hsz
      obtain ⟨m, hm⟩ : ∃ x, x = (txL l).length := ⟨_, rfl⟩
      rw [← hm] at hsz hE
      clear hT hm h hu hl hwf h0 h1 HTX hln
      by_cases h2 : 192 - 38 < (m : Int)
      · rw [if_pos h2] at hE
        subst hE
        have h2' : 192 - 38 < (T.size : Int) := by omega
        clear h2 he
        go_enter Tryz.func18, Tryz.ntmps18
        go_wp2_with fail
        refine HT.out.mono ?_
        rintro e w1 ⟨rfl, hb⟩
        have HB1 := Lib.hid hb
        have HL1 := Lib.hid (HL.out.later hb)
        clear hb
        go_wp2_with fail
        refine (Room_h HL1.out.asks).mono ?_
        rintro e w2 ⟨rfl, hb⟩
        have HB2 := Lib.hid (below_on HB1.out hb)
        clear hb
        go_wp2
        go_ret
        exact ⟨rfl, HB2.out⟩
      · rw [if_neg h2] at hE
        have h3 : (k : Int) = C := by
          by_cases h3 : (k : Int) = C
          · exact h3
          · rw [if_neg h3] at hE; exact absurd hE he
        rw [if_pos h3] at hE
        subst hE
        have h2' : ¬ 192 - 38 < (T.size : Int) := by omega
        have h3' : C - (k : Int) = 0 := by omega
        clear h2 h3 he
        go_enter Tryz.func18, Tryz.ntmps18
        go_wp2_with fail
        refine HT.out.mono ?_
        rintro e w1 ⟨rfl, hb⟩
        have HB1 := Lib.hid hb
        have HL1 := Lib.hid (HL.out.later hb)
        clear hb
        go_wp2_with fail
        refine (Room_h HL1.out.asks).mono ?_
        rintro e w2 ⟨rfl, hb⟩
        have HB2 := Lib.hid (below_on HB1.out hb)
        have HL2 := Lib.hid (HL1.out.later hb)
        clear hb
        go_wp2_with fail
        refine (Left_l HL2.out).mono ?_
        rintro e w3 ⟨rfl, j3, rfl⟩
        rw [h3']
        go_wp2
        go_ret
        exact ⟨rfl, below_drewN HB2.out _⟩
    · rw [if_neg h1] at hE
      have hne : (E == 0) = false := by simpa using he
      rw [← hE] at HT
      clear h hu hl hwf h0 h1 hln hE
      go_enter Tryz.func18, Tryz.ntmps18
      go_wp2_with fail
      refine HT.out.mono ?_
      rintro e w1 ⟨rfl, hb⟩
      have HB1 := Lib.hid hb
      clear hb
      go_wp2
      go_ret
      exact ⟨rfl, HB1.out⟩
/-- what Append leaves -/
def AppP (w0 : World) (Y : List Nat) (lb tl mm tb bb q : Nat) (pd : Nat → Nat) (S : Nat → Sd) (c R : Nat) (F C n : Int) (k : Nat) (ch : Int) (l : List Up) (w : World) (e : Ending) (w' : World) : Prop :=
  ∃ S', e = .returned (.int .i64 0) ∧ Lg w0 Y lb tl mm tb bb q pd S' (c + 8) R F C n (k + 1) (lkN (n + k) ch l : Nat) w' ∧ Pl S' ∧ (∀ s, s < 2 → ∀ b : Nat, b < 16 → fS S' s b = heal (fS S) (bk F C (n + k)) (imR 192 (bk F C (n + k)) (n + k) ch l) s b) ∧ Same Y w w'
set_option maxHeartbeats 8000000 in
set_option maxRecDepth 100000 in
theorem Append_ok {v : Value} {l : List Up} (h : Lg w0 Y lb tl mm tb bb q pd S c R F C n k ch w) (hu : URin Y w v l) (h0 : l ≠ []) (hok : OkR 192 l) (hk : (k : Int) < C) (hpl : Pl S) (hc : c ≤ 600000) :
    Calls Tryz.prog 18 #[.pointer (some ⟨lb, 0, none⟩), v] w (AppP w0 Y lb tl mm tb bb q pd S c R F C n k ch l w) := by
  obtain ⟨va, vc, rfl⟩ := hu.ur.slice
  have hT := Text_any hu.ur hok.len hok.wf
  rw [show txT l = txL l from if_pos (errL_ok hok.ch), errL_ok hok.ch] at hT
  have HT := Lib.hid hT
  have HL := Lib.hid h
  have HOK := Lib.hid hok
  have HPL := Lib.hid hpl
  have HC := Lib.hid hc
  have HK := Lib.hid hk
  have hrg := h.rg
  have HN := Lib.hid (okN_of hrg)
  obtain ⟨B, hB, hB16⟩ := bk_at hrg (n + k)
  have HB16 := Lib.hid hB16
  have HBB := Lib.hid hB
  obtain ⟨ln, hln⟩ : ∃ x, x = l.length := ⟨_, rfl⟩
  have HLN := Lib.hid hln
  have HU := Lib.hid (show URin Y w (.slice va ln vc) l from by rw [hln]; exact hu)
  have hl0 : ((ln : Int) == 0) = false := by
    have : l.length ≠ 0 := fun e => h0 (List.length_eq_zero_iff.1 e)
    have : ¬ (ln : Int) = 0 := by omega
    simpa using this
  have hsz := ssize (txL l)
  have hroom := hok.room
  obtain ⟨T, hTT⟩ : ∃ x, x = Lend.strOf (txL l) := ⟨_, rfl⟩
  rw [← hTT] at HT hsz
  have h2' : ¬ 192 - 38 < (T.size : Int) := by omega
  have h3' : ((C - (k : Int)) == 0) = false := by
    have : ¬ (C - (k : Int)) = 0 := by omega
    simpa using this
  have hf3 := hok.f3 (okN_of hrg)
  have HF3 := Lib.hid hf3
  have HPY := Lib.hid (hok.py (n := n + k) (c := ch))
  have HG0 := Lib.hid (show 0 ≤ n + (k : Int) ∧ n + (k : Int) < 18446744073709551616 from ⟨(okN_of hrg).n0, (okN_of hrg).n1⟩)
  rw [← hln] at HT ⊢
  clear h hu hok hpl hc hk hrg hB hB16 hln h0 hsz hroom hTT hf3 hT
  go_enter Tryz.func18, Tryz.ntmps18
  go_wp2_with fail
  refine HT.out.mono ?_
  rintro e w1 ⟨rfl, hb⟩
  have HL1 := Lib.hid (HL.out.later hb)
  have HU1 := Lib.hid (HU.out.later hb)
  have HS1 := Lib.hid (show Same Y w w1 from fun j hj => hb.block j (HL.out.y j hj).2)
  clear hb
  go_wp2_with fail
  refine (Room_h HL1.out.asks).mono ?_
  rintro e w2 ⟨rfl, hb⟩
  have HL2 := Lib.hid (HL1.out.later hb)
  have HU2 := Lib.hid (HU1.out.later hb)
  have HS2 := Lib.hid (show Same Y w w2 from fun j hj => (hb.block j (HL1.out.y j hj).2).trans (HS1.out j hj))
  clear hb HL1 HU1 HS1 HT HU
  go_wp2_with fail
  refine (Left_l HL2.out).mono ?_
  rintro e w3 ⟨rfl, j3, rfl⟩
  go_wp2_with fail
  refine (Next_l (HL2.out.drewN j3)).mono ?_
  rintro e w3 ⟨rfl, j4, hw3⟩
  have HL3' := Lib.hid (show Lg w0 Y lb tl mm tb bb q pd S c R F C n k ch w3 from by rw [hw3]; exact (HL2.out.drewN j3).drewN j4)
  have HU3' := Lib.hid (show URin Y w3 (.slice va ln vc) l from by rw [hw3]; exact HU2.out.later (below_drewN (below_drewN (Below.refl _ _) j3) j4))
  have HS3' := Lib.hid (show Same Y w w3 from by rw [hw3]; exact HS2.out)
  clear hw3
  have HL3 := Lib.hid (HL3'.out.fresh (below_new w3 (.cells #[.int .u64 (n + k), .int .u32 ch, .slice va ln vc] 59)) (Nat.le_refl _) (by simp))
  have HU3 := Lib.hid (HU3'.out.later (below_new w3 (.cells #[.int .u64 (n + k), .int .u32 ch, .slice va ln vc] 59)))
  have HS3 := Lib.hid (show Same Y w (w3.alloc (.cells #[.int .u64 (n + k), .int .u32 ch, .slice va ln vc] 59)) from fun j hj => (Below.heap_alloc _ _ _ (HL3'.out.y j hj).2).trans (HS3'.out j hj))
  have HR3 := Lib.hid (show Has (w3.alloc (.cells #[.int .u64 (n + k), .int .u32 ch, .slice va ln vc] 59)) w3.heap.size 59 [.int .u64 (n + k), .int .u32 ch, .slice va ln vc] from Has.new _ _ _)
  have HH := Has.new w3 [.int .u64 0, .int .u32 0, .slice none 0 0] 59
  have e0 := HH.cell 0
  have e1 := HH.cell 1
  have e2 := HH.cell 2
  have q0 := HH.frozen 0
  have q1 := HH.frozen 1
  have q2 := HH.frozen 2
  simp only [List.getElem?_cons_zero, List.getElem?_cons_succ] at e0 e1 e2
  clear HH
  go_upto_region 14 with fail
  obtain ⟨w4, hw4⟩ : ∃ x, x = w3.alloc (.cells #[.int .u64 (n + k), .int .u32 ch, .slice va ln vc] 59) := ⟨_, rfl⟩
  obtain ⟨rb, hrb⟩ : ∃ x, x = w3.heap.size := ⟨_, rfl⟩
  rw [← hw4] at HL3 HU3 HS3 HR3 ⊢
  rw [← hrb] at HL3 HR3 ⊢
  clear hw4 hrb e0 e1 e2 q0 q1 q2 HL3' HU3' HS3' HL2 HU2 HS2
  have x0 := HR3.out.cell 0
  have x1 := HR3.out.cell 1
  have x2 := HR3.out.cell 2
  simp only [List.getElem?_cons_zero, List.getElem?_cons_succ] at x0 x1 x2
  go_wp2_with fail
  refine (Payload_any (n + k) ch HU3.out.ur HF3.out HOK.out.wf).mono ?_
  rintro e w5 ⟨rfl, hb⟩
  obtain ⟨P, hP⟩ : ∃ x, x = Lend.strOf (pyT (n + k) ch l) := ⟨_, rfl⟩
  rw [← hP]
  have HP := Lib.hid (show P.data.toList = pyT (n + k) ch l from by rw [hP]; rfl)
  have HPS := Lib.hid (show P.size ≤ 1000000 from by rw [hP, ssize]; have := HPY.out; omega)
  have HL5 := Lib.hid (HL3.out.later hb)
  have HU5 := Lib.hid (HU3.out.later hb)
  have HS5 := Lib.hid (show Same Y w w5 from fun j hj => (hb.block j (HL3.out.y j (by simp [hj])).2).trans (HS3.out j hj))
  have HR5 := Lib.hid (HR3.out.below hb HR3.out.lt)
  clear hb hP HL3 HU3 HS3 HR3 x0 x1 x2
  go_upto_region 15 with fail
  obtain ⟨O, hO⟩ : ∃ x, x = imR 192 B (n + k) ch l := ⟨_, rfl⟩
  have HO := Lib.hid hO
  have HOS := Lib.hid (show O.size = 192 from by have h := imR_size HOK.out HN.out; rw [HBB.out, ← hO] at h; omega)
  have hse := seal_ok HOK.out HN.out
  rw [HBB.out] at hse
  obtain ⟨A, hA⟩ : ∃ x, x = Env.sealA 192 3 B (pyT (n + k) ch l) := ⟨_, rfl⟩
  obtain ⟨G, hG⟩ : ∃ x, x = Env.sealG 192 3 B (n + k) (pyT (n + k) ch l) := ⟨_, rfl⟩
  obtain ⟨K, hK⟩ : ∃ x, x = Env.sealC 192 3 B (n + k) (pyT (n + k) ch l) := ⟨_, rfl⟩
  have HSV := Lib.hid (show Env.sealV 192 3 B (n + k) P.data.toList = .tuple #[.string O, .agg #[.int .i64 A, .int .u64 G, .int .u32 K], .int .i64 0] from by
    rw [HP.out, hA, hG, hK, hO]; unfold Env.sealV; rw [hse]; rfl)
  clear hO hse hA hG hK
  refine Reg.region_vals3 (by kernel_rfl) [(55, .pointer (some ⟨lb, 0, none⟩)), (56, .pointer (some ⟨lb, 0, none⟩)), (57, .pointer (some ⟨lb, 1, none⟩)), (58, .pointer (some ⟨tl, 0, none⟩)), (59, .pointer (some ⟨lb, 0, none⟩)), (60, .int .i64 192), (61, .pointer (some ⟨lb, 0, none⟩)), (62, hdV B (n + k)), (63, .string P), (64, .tuple #[.string O, .agg #[.int .i64 A, .int .u64 G, .int .u32 K], .int .i64 0]), (54, .tuple #[.string O, .agg #[.int .i64 A, .int .u64 G, .int .u32 K], .int .i64 0]), (65, .string O), (66, .agg #[.int .i64 A, .int .u64 G, .int .u32 K]), (67, .int .i64 0), (12, .string O), (14, .int .i64 0)] [13] (Uno w5 13 14 16 108 [.int .i64 0, .int .u64 0, .int .u32 0] [.int .i64 A, .int .u64 G, .int .u32 K]) ?a1 ?a2 ?a3 ?a4 ?a5 ?a6 ?a7 ?hend
  case a1 => kernel_rfl
  case a2 => kernel_rfl
  case a3 => kernel_rfl
  case a4 => kernel_rfl
  case a5 => kernel_rfl
  case a6 => exact Uno.start _
  case a7 =>
    refine ⟨?_, ?_, ?_, ?_, ?_, ?_, ?_, ?_, ?_, ?_, ?_, ?_, ?_, ?_, ?_, ?_, ?_, ?_, trivial⟩
    · skip
      intro aq wq lq hz hI hl hdone hlater hold hd ho
      have h0 : aq.tmps.getD 0 undef = .pointer (some ⟨lb, 0, none⟩) := ho 0 (by kernel_rfl)
      clear hd ho hdone hlater hold
      have hc : 55 < aq.tmps.size := by have hz' : aq.tmps.size = 82 := hz; omega
      exact Reg.step3_move (.tmp 0) rfl h0 (hI.keep _ (Below.refl _ _) (by decide) (by decide) (by decide) hc) trivial
    · skip
      intro aq wq lq hz hI hl hdone hlater hold hd ho
      have h55 : aq.tmps.getD 55 undef = .pointer (some ⟨lb, 0, none⟩) := hd 55 (by kernel_rfl)
      clear hd ho hdone hlater hold
      rw [Array.getD_eq_getD_getElem?] at h55
      have hc : 56 < aq.tmps.size := by have hz' : aq.tmps.size = 82 := hz; omega
      refine Reg.step3_val (.pointer (some ⟨lb, 0, none⟩)) ?_ rfl (hI.keep _ (Below.refl _ _) (by decide) (by decide) (by decide) hc) trivial
      clear hz hc hI
      go_simp
    · skip
      intro aq wq lq hz hI hl hdone hlater hold hd ho
      have h56 : aq.tmps.getD 56 undef = .pointer (some ⟨lb, 0, none⟩) := hd 56 (by kernel_rfl)
      clear hd ho hdone hlater hold
      rw [Array.getD_eq_getD_getElem?] at h56
      have hc : 57 < aq.tmps.size := by have hz' : aq.tmps.size = 82 := hz; omega
      refine Reg.step3_val (.pointer (some ⟨lb, 1, none⟩)) ?_ rfl (hI.keep _ (Below.refl _ _) (by decide) (by decide) (by decide) hc) trivial
      clear hz hc hI
      go_simp
    · skip
      intro aq wq lq hz hI hl hdone hlater hold hd ho
      have h57 : aq.tmps.getD 57 undef = .pointer (some ⟨lb, 1, none⟩) := hd 57 (by kernel_rfl)
      clear hd ho hdone hlater hold
      rw [Array.getD_eq_getD_getElem?] at h57
      have hc : 58 < aq.tmps.size := by have hz' : aq.tmps.size = 82 := hz; omega
      have e0 := (HL5.out.later hI.1).c1
      refine Reg.step3_val (.pointer (some ⟨tl, 0, none⟩)) ?_ rfl (hI.keep _ (Below.refl _ _) (by decide) (by decide) (by decide) hc) trivial
      clear hz hc hI
      go_simp
    · skip
      intro aq wq lq hz hI hl hdone hlater hold hd ho
      have h0 : aq.tmps.getD 0 undef = .pointer (some ⟨lb, 0, none⟩) := ho 0 (by kernel_rfl)
      clear hd ho hdone hlater hold
      have hc : 59 < aq.tmps.size := by have hz' : aq.tmps.size = 82 := hz; omega
      exact Reg.step3_move (.tmp 0) rfl h0 (hI.keep _ (Below.refl _ _) (by decide) (by decide) (by decide) hc) trivial
    · skip
      intro aq wq lq hz hI hl hdone hlater hold hd ho
      have h59 : aq.tmps.getD 59 undef = .pointer (some ⟨lb, 0, none⟩) := hd 59 (by kernel_rfl)
      clear hd ho hdone hlater hold
      rw [Array.getD_eq_getD_getElem?] at h59
      have hc : 60 < aq.tmps.size := by have hz' : aq.tmps.size = 82 := hz; omega
      refine Reg.step3_call 41 #[.pointer (some ⟨lb, 0, none⟩)] ?_ ((size_l (HL5.out.later hI.1)).mono ?_)
      · clear hz hc hI
        simp [execOp]
        go_simp
      · rintro e w' ⟨rfl, hb⟩
        refine ⟨_, rfl, ?_, (hI.keep _ hb (by decide) (by decide) (by decide) hc), trivial⟩
        rfl
    · skip
      intro aq wq lq hz hI hl hdone hlater hold hd ho
      have h0 : aq.tmps.getD 0 undef = .pointer (some ⟨lb, 0, none⟩) := ho 0 (by kernel_rfl)
      clear hd ho hdone hlater hold
      have hc : 61 < aq.tmps.size := by have hz' : aq.tmps.size = 82 := hz; omega
      exact Reg.step3_move (.tmp 0) rfl h0 (hI.keep _ (Below.refl _ _) (by decide) (by decide) (by decide) hc) trivial
    · skip
      intro aq wq lq hz hI hl hdone hlater hold hd ho
      have h61 : aq.tmps.getD 61 undef = .pointer (some ⟨lb, 0, none⟩) := hd 61 (by kernel_rfl)
      clear hd ho hdone hlater hold
      rw [Array.getD_eq_getD_getElem?] at h61
      have hc : 62 < aq.tmps.size := by have hz' : aq.tmps.size = 82 := hz; omega
      refine Reg.step3_call 42 #[.pointer (some ⟨lb, 0, none⟩)] ?_ ((head_l (HL5.out.later hI.1)).mono ?_)
      · clear hz hc hI
        simp [execOp]
        go_simp
      · rintro e w' ⟨rfl, hb⟩
        refine ⟨_, rfl, ?_, (hI.keep _ hb (by decide) (by decide) (by decide) hc), trivial⟩
        rw [HBB.out]
        rfl
    · skip
      intro aq wq lq hz hI hl hdone hlater hold hd ho
      have h10 : aq.tmps.getD 10 undef = .string P := ho 10 (by kernel_rfl)
      clear hd ho hdone hlater hold
      have hc : 63 < aq.tmps.size := by have hz' : aq.tmps.size = 82 := hz; omega
      exact Reg.step3_move (.tmp 10) rfl h10 (hI.keep _ (Below.refl _ _) (by decide) (by decide) (by decide) hc) trivial
    · skip
      intro aq wq lq hz hI hl hdone hlater hold hd ho
      have h58 : aq.tmps.getD 58 undef = .pointer (some ⟨tl, 0, none⟩) := hd 58 (by kernel_rfl)
      have h60 : aq.tmps.getD 60 undef = .int .i64 192 := hd 60 (by kernel_rfl)
      have h62 : aq.tmps.getD 62 undef = hdV B (n + k) := hd 62 (by kernel_rfl)
      have h63 : aq.tmps.getD 63 undef = .string P := hd 63 (by kernel_rfl)
      clear hd ho hdone hlater hold
      rw [Array.getD_eq_getD_getElem?] at h58 h60 h62 h63
      have hc : 64 < aq.tmps.size := by have hz' : aq.tmps.size = 82 := hz; omega
      refine Reg.step3_call 40 #[.pointer (some ⟨tl, 0, none⟩), .int .i64 192, .agg #[.int .u8 3, .int .i64 B, .int .u64 (n + k)], .string P] ?_ ((Env.seal_any tl 192 3 B (n + k) P wq (HL5.out.later hI.1).tab HG0.out.1 HG0.out.2 HPS.out).mono ?_)
      · clear hz hc hI
        simp [execOp]
        go_simp
      · rintro e w' ⟨rfl, hb⟩
        refine ⟨_, rfl, ?_, (hI.keep _ hb (by decide) (by decide) (by decide) hc), trivial⟩
        rw [HSV.out]
        rfl
    · skip
      intro aq wq lq hz hI hl hdone hlater hold hd ho
      have h64 : aq.tmps.getD 64 undef = .tuple #[.string O, .agg #[.int .i64 A, .int .u64 G, .int .u32 K], .int .i64 0] := hd 64 (by kernel_rfl)
      clear hd ho hdone hlater hold
      have hc : 54 < aq.tmps.size := by have hz' : aq.tmps.size = 82 := hz; omega
      exact Reg.step3_move (.tmp 64) rfl h64 (hI.keep _ (Below.refl _ _) (by decide) (by decide) (by decide) hc) trivial
    · skip
      intro aq wq lq hz hI hl hdone hlater hold hd ho
      have h54 : aq.tmps.getD 54 undef = .tuple #[.string O, .agg #[.int .i64 A, .int .u64 G, .int .u32 K], .int .i64 0] := hd 54 (by kernel_rfl)
      clear hd ho hdone hlater hold
      rw [Array.getD_eq_getD_getElem?] at h54
      have hc : 65 < aq.tmps.size := by have hz' : aq.tmps.size = 82 := hz; omega
      refine Reg.step3_val (.string O) ?_ rfl (hI.keep _ (Below.refl _ _) (by decide) (by decide) (by decide) hc) trivial
      clear hz hc hI
      simp [execOp, Act.eval, h54]
      try go_simp
    · skip
      intro aq wq lq hz hI hl hdone hlater hold hd ho
      have h54 : aq.tmps.getD 54 undef = .tuple #[.string O, .agg #[.int .i64 A, .int .u64 G, .int .u32 K], .int .i64 0] := hd 54 (by kernel_rfl)
      clear hd ho hdone hlater hold
      rw [Array.getD_eq_getD_getElem?] at h54
      have hc : 66 < aq.tmps.size := by have hz' : aq.tmps.size = 82 := hz; omega
      refine Reg.step3_val (.agg #[.int .i64 A, .int .u64 G, .int .u32 K]) ?_ rfl (hI.keep _ (Below.refl _ _) (by decide) (by decide) (by decide) hc) trivial
      clear hz hc hI
      simp [execOp, Act.eval, h54]
      try go_simp
    · skip
      intro aq wq lq hz hI hl hdone hlater hold hd ho
      have h54 : aq.tmps.getD 54 undef = .tuple #[.string O, .agg #[.int .i64 A, .int .u64 G, .int .u32 K], .int .i64 0] := hd 54 (by kernel_rfl)
      clear hd ho hdone hlater hold
      rw [Array.getD_eq_getD_getElem?] at h54
      have hc : 67 < aq.tmps.size := by have hz' : aq.tmps.size = 82 := hz; omega
      refine Reg.step3_val (.int .i64 0) ?_ rfl (hI.keep _ (Below.refl _ _) (by decide) (by decide) (by decide) hc) trivial
      clear hz hc hI
      simp [execOp, Act.eval, h54]
      try go_simp
    · skip
      intro aq wq lq hz hI hl hdone hlater hold hd ho
      have hst : lq 16 = false := hlater 16 (by kernel_rfl)
      clear hd ho hdone hlater hold
      have hc : 13 < aq.tmps.size := by have hz' : aq.tmps.size = 82 := hz; omega
      refine Reg.step3_do (.pointer (some ⟨wq.heap.size, 0, none⟩)) (wq.alloc (.cells #[.int .i64 0, .int .u64 0, .int .u32 0] 108)) ?_ trivial (Uno.mk hI hst (by decide) hc) trivial
      clear hz hc hI
      simp [execOp]
      go_simp
    · skip
      intro aq wq lq hz hI hl hdone hlater hold hd ho
      have h65 : aq.tmps.getD 65 undef = .string O := hd 65 (by kernel_rfl)
      clear hd ho hdone hlater hold
      have hc : 12 < aq.tmps.size := by have hz' : aq.tmps.size = 82 := hz; omega
      exact Reg.step3_assign (.tmp 65) rfl h65 (hI.keep _ (Below.refl _ _) (by decide) (by decide) (by decide) hc) trivial
    · skip
      intro aq wq lq hz hI hl hdone hlater hold hd ho
      have h66 : aq.tmps.getD 66 undef = .agg #[.int .i64 A, .int .u64 G, .int .u32 K] := hd 66 (by kernel_rfl)
      have hia : lq 14 = true := hdone 14 (by kernel_rfl)
      clear hd ho hdone hlater hold
      rw [Array.getD_eq_getD_getElem?] at h66
      obtain ⟨gq, hgp, hge, hH, hBx, hU⟩ := hI.st hia hl (by decide)
      rw [Array.getD_eq_getD_getElem?] at hgp
      have e0 : wq.cell? ⟨gq, 0, none⟩ = some (.int .i64 0) := hH.cell 0
      have e1 : wq.cell? ⟨gq, 1, none⟩ = some (.int .u64 0) := hH.cell 1
      have e2 : wq.cell? ⟨gq, 2, none⟩ = some (.int .u32 0) := hH.cell 2
      have fz := hH.frozen
      refine Reg.step3_skip (((wq.setCell ⟨gq, 0, none⟩ (.int .i64 A)).setCell ⟨gq, 1, none⟩ (.int .u64 G)).setCell ⟨gq, 2, none⟩ (.int .u32 K)) rfl ?_ (hU _ (Has.set (Has.set (Has.set hH 0 (.int .i64 A)) 1 (.int .u64 G)) 2 (.int .u32 K)) (Below.setCell (Below.setCell (Below.setCell hBx (by exact hge) _) (by exact hge) _) (by exact hge) _)) trivial
      clear hU hH hBx hI hz
      simp [execOp]
      go_simp
    · skip
      intro aq wq lq hz hI hl hdone hlater hold hd ho
      have h67 : aq.tmps.getD 67 undef = .int .i64 0 := hd 67 (by kernel_rfl)
      clear hd ho hdone hlater hold
      have hc : 14 < aq.tmps.size := by have hz' : aq.tmps.size = 82 := hz; omega
      exact Reg.step3_assign (.tmp 67) rfl h67 (hI.keep _ (Below.refl _ _) (by decide) (by decide) (by decide) hc) trivial
  case hend =>
    intro wx v aq hv hI
    obtain ⟨gq, hgp, hge, hH, hBx⟩ := Uno.done hI (by decide) (by decide)
    rw [hv 13 (by decide)] at hgp
    clear hv hI
    simp only [Reg.fill, List.map_cons, List.map_nil, List.foldl_cons, List.foldl_nil, List.setIfInBounds_toArray, List.set_cons_zero, List.set_cons_succ]
    rw [hgp]
    clear hgp
    have HL8 := Lib.hid (HL5.out.later hBx)
    have HU8 := Lib.hid (HU5.out.later hBx)
    have HR8 := Lib.hid (HR5.out.below hBx HR5.out.lt)
    have HS8 := Lib.hid (show Same Y w wx from fun j hj => (hBx.block j (HL5.out.y j (by simp [hj])).2).trans (HS5.out j hj))
    clear hge hH hBx HL5 HU5 HR5 HS5 HSV
    go_upto_region 16 with fail
    have m0 := HL8.out.c0
    have m0' : wx.drew.cell? ⟨lb, 0, none⟩ = some (.pointer (some ⟨mm, 0, none⟩)) := m0
    go_cut [15] (fun v15 wy => v15 = .int .i64 0 ∧ ∃ S', St S S' noG B O (fun t => t ∈ al noG) ∧ Lg w0 (rb :: Y) lb tl mm tb bb q pd S' (c + 8) R F C n k ch wy ∧ Same (rb :: Y) wx wy)
    case first =>
      go_region_with (first
        | (go_at_call 44; refine (block_l HL8.out.drew).mono ?_; rintro e w6 ⟨rfl, j6, rfl⟩; rw [HBB.out])
        | (go_at_call 43; refine (Write_m (HL8.out.drewN _).mg HPL.out.nb HB16.out HOS.out (Nat.le_trans HC.out (by decide))).mono ?_; rintro e w6 ⟨S', rfl, hst, hm, hsm⟩))
      all_goals (go_wp2; go_meet; exact ⟨rfl, S', hst, (HL8.out.drewN _).go hm hsm, fun i hi => hsm i (by simp at hi ⊢; rcases hi with rfl | hi <;> simp [*])⟩)
    case rest =>
      obtain ⟨rfl, S', hst, hlg, hsm⟩ := hcut
      have HST := Lib.hid hst
      have HL9 := Lib.hid hlg
      have HU9 := Lib.hid ((HU8.out.keep (fun j hj => hsm j (by simp [hj]))).mono (Z := rb :: Y) (fun j hj => by simp [hj]))
      have HS9 := Lib.hid (show Same Y w wc from fun j hj => (hsm j (by simp [hj])).trans (HS8.out j hj))
      have hr9 := HR8.out.same (hsm rb (by simp))
      have x0 := hr9.cell 0
      have x1 := hr9.cell 1
      have x2 := hr9.cell 2
      simp only [List.getElem?_cons_zero, List.getElem?_cons_succ] at x0 x1 x2
      have HGD := Lib.hid HL8.out.mg.good
      clear hst hlg hsm m0 m0' hr9 HL8 HU8 HR8 HS8
      go_wp2_with fail
      refine (add_l HL9.out (HU9.out.nb HL9.out.ny) HOK.out.len HOK.out.wf HK.out).mono ?_
      rintro e w9 ⟨rfl, hlg, hch⟩
      have HF := Lib.hid (show AppP w0 Y lb tl mm tb bb q pd S c R F C n k ch l w (.returned (.int .i64 0)) w9 from
        ⟨S', rfl, hlg.sub (fun j hj => by simp [hj]), HPL.out.st HST.out, fun s hs b hb => by
          rw [HBB.out, ← HO.out]
          exact fS_write HPL.out HGD.out HST.out HB16.out hs hb, fun j hj => (hch.block j (HL9.out.y j (by simp [hj])).2 (fun e => HL9.out.ny (by rw [← e]; simp [hj]))).trans (HS9.out j hj)⟩)
      clear hlg hch x0 x1 x2
      go_wp2
      go_ret
      exact HF.out
end
end Go.Proofs.YtflanjcfkdjpjaaGreatDoor.Wal


/- Layer 13 (wal): Sync, Cut. -/
namespace Go.Proofs.YtflanjcfkdjpjaaGreatDoor.Wal
open Go Go.RowKit Go.Proofs.YtflanjcfkdjpjaaGreatDoor Dev Tab Rem Go.Maps Go.WideMaps Mir Rec
set_option linter.unusedVariables false
section
variable {w0 w w' : World} {X Y Z : List Nat} {q c mm tb bb R s b lb tl : Nat} {pd : Nat → Nat} {S S' : Nat → Sd} {F C n ch : Int} {k : Nat}
theorem Sync_nil (w : World) : Calls Tryz.prog 12 #[.pointer none] w fun e w' => e = .returned (.int .i64 1) ∧ w = w' := by
  go_enter Tryz.func12, Tryz.ntmps12
  go_wp2
  go_ret
  exact ⟨rfl, rfl⟩
theorem Cut_nil (w : World) : Calls Tryz.prog 16 #[.pointer none] w fun e w' => e = .returned (.tuple #[.int .u64 0, .int .u32 0, .int .i64 1]) ∧ w = w' := by
  go_enter Tryz.func16, Tryz.ntmps16
  go_wp2
  go_ret3
  exact ⟨rfl, rfl⟩
theorem Room_nil (w : World) : Calls Tryz.prog 24 #[.pointer none] w fun e w' => e = .returned (.int .i64 0) ∧ w = w' := by
  go_enter Tryz.func24, Tryz.ntmps24
  go_wp2
  go_ret
  exact ⟨rfl, rfl⟩
theorem Sync_l (h : Lg w0 Y lb tl mm tb bb q pd S c R F C n k ch w) (hc : c ≤ 700000) : Calls Tryz.prog 12 #[.pointer (some ⟨lb, 0, none⟩)] w fun e w' => e = .returned (.int .i64 0) ∧ Lg w0 Y lb tl mm tb bb q pd S c R F C n k ch w' ∧ CZ w0 (mm :: tb :: bb :: lb :: tl :: Y) q pd S (fun _ => 0) w' ∧ Same Y w w' := by
  have HL := Lib.hid h
  have HC := Lib.hid hc
  have c0 := h.c0
  clear h hc
  go_enter Tryz.func12, Tryz.ntmps12
  go_wp2_with fail
  refine (Flush_z HL.out.mg HC.out).mono ?_
  rintro e w1 ⟨rfl, hm, hz, hs⟩
  have HL1 := Lib.hid (HL.out.go hm hs)
  have HZ := Lib.hid hz
  have HS := Lib.hid (show Same Y w w1 from fun j hj => hs j (by simp [hj]))
  clear hm hz hs c0
  go_wp2
  go_ret
  exact ⟨rfl, HL1.out, HZ.out, HS.out⟩
set_option maxHeartbeats 2000000 in
set_option maxRecDepth 100000 in
theorem Cut_l (h : Lg w0 Y lb tl mm tb bb q pd S c R F C n k ch w) (hn : n + k + C ≤ 4611686018427487903) : Calls Tryz.prog 16 #[.pointer (some ⟨lb, 0, none⟩)] w fun e w' => e = .returned (.tuple #[.int .u64 (n + k + C), .int .u32 ch, .int .i64 0]) ∧ Lg w0 Y lb tl mm tb bb q pd S c R F C (n + k + C) 0 ch w' ∧ Chg (fun j => j = lb) w w' := by
  have HL := Lib.hid h
  have c3 := h.c3
  have c4 := h.c4
  have c5 := h.c5
  have hc := ((Chg.refl (fun j => j = lb) w).setCell (p := ⟨lb, 4, none⟩) (fun _ => rfl) (.int .u64 (n + k + C))).setCell (p := ⟨lb, 5, none⟩) (fun _ => rfl) (.int .i64 0)
  have hr : Has ((w.setCell ⟨lb, 4, none⟩ (.int .u64 (n + k + C))).setCell ⟨lb, 5, none⟩ (.int .i64 0)) lb 92 (lrow mm tl F C (n + k + C) 0 ch) := by
    have := (h.row.set 4 (.int .u64 (n + k + C))).set 5 (.int .i64 0)
    simpa [lrow] using this
  have y4 : ∀ a b, ((((w.drewN a).setCell ⟨lb, 4, none⟩ (.int .u64 (n + k + C))).setCell ⟨lb, 5, none⟩ (.int .i64 0)).drewN b).cell? ⟨lb, 4, none⟩ = some (.int .u64 (n + k + C)) := fun a b => hr.cell 4
  have y6 : ∀ a b, ((((w.drewN a).setCell ⟨lb, 4, none⟩ (.int .u64 (n + k + C))).setCell ⟨lb, 5, none⟩ (.int .i64 0)).drewN b).cell? ⟨lb, 6, none⟩ = some (.int .u32 ch) := fun a b => hr.cell 6
  have z4 := h.row.frozen 4
  have z5 := h.row.frozen 5
  have hrg := h.rg
  have HR := Lib.hid (show Rg F C (n + k + C) 0 ch from ⟨hrg.f0, hrg.c2, hrg.cm, hrg.fc, by have := hrg.n0; have := hrg.c2; omega, hn, by have := hrg.c2; omega, hrg.ch0, hrg.ch1⟩)
  have HT := Lib.hid (fun (a b : Nat) => show Lg w0 Y lb tl mm tb bb q pd S c R F C (n + k + C) 0 ch ((((w.drewN a).setCell ⟨lb, 4, none⟩ (.int .u64 (n + k + C))).setCell ⟨lb, 5, none⟩ (.int .i64 0)).drewN b) from ((h.drewN a).turn (w' := ((w.drewN a).setCell ⟨lb, 4, none⟩ (.int .u64 (n + k + C))).setCell ⟨lb, 5, none⟩ (.int .i64 0)) (((Chg.refl (fun j => j = lb) (w.drewN a)).setCell (p := ⟨lb, 4, none⟩) (fun _ => rfl) (.int .u64 (n + k + C))).setCell (p := ⟨lb, 5, none⟩) (fun _ => rfl) (.int .i64 0)) hr HR.out).drewN b)
  have HCH := Lib.hid (fun (a b : Nat) => show Chg (fun j => j = lb) w ((((w.drewN a).setCell ⟨lb, 4, none⟩ (.int .u64 (n + k + C))).setCell ⟨lb, 5, none⟩ (.int .i64 0)).drewN b) from ⟨hc.os, hc.tape, hc.output, hc.size, hc.block⟩)
  obtain ⟨f, hf⟩ : ∃ x, x = (k : Int) + C := ⟨_, rfl⟩
  have hf0 : 0 ≤ f := by have := hrg.c2; omega
  have hf1 : f ≤ 1000 := by have := hrg.cm; have := hrg.k1; omega
  have hs : IntKind.i64.wrap ((k : Int) + C) = f := by rw [← hf]; exact IntWalk.i64_in _ (by omega)
  have hu : IntKind.u64.wrap f = f := by rw [IntKind.wrap_u64]; omega
  have hm : IntKind.u64.wrap (18446744073709551615 - f) = 18446744073709551615 - f := by rw [IntKind.wrap_u64]; omega
  have hn0 := hrg.n0
  have hcmp : ¬ (18446744073709551615 - f < n) := by omega
  have ha : IntKind.u64.wrap (n + f) = n + k + C := by rw [IntKind.wrap_u64]; omega
  clear h hc hr hrg hn hf HR HL
  go_enter Tryz.func16, Tryz.ntmps16
  go_wp2_with fail
  go_quiet (fail)
  go_wp2_with fail
  go_quiet (fail)
  go_wp2
  go_ret3
  exact ⟨rfl, HT.out _ _, HCH.out _ _⟩
end
end Go.Proofs.YtflanjcfkdjpjaaGreatDoor.Wal


/- Layer 13's laws: a log, of whose records both copies are there, and in whose ring all else is older. -/
namespace Go.Proofs.YtflanjcfkdjpjaaGreatDoor.Wal
open Go Go.RowKit Go.Proofs.YtflanjcfkdjpjaaGreatDoor Dev Tab Rem Go.Maps Go.WideMaps Mir Rec
set_option linter.unusedVariables false

/-- what the ring of the laws has -/
structure Ct (S : Nat → Sd) (n c : Int) (r : List (List Up)) : Prop where
  pl : Pl S
  both : Both 192 3 5 (fS S) n c r
  old : Old 3 5 (fS S) (n + r.length)
  ne : ∀ l ∈ r, l ≠ []
theorem eq2_of {f g : F2} (h : ∀ s, s < 2 → ∀ b : Nat, b < 16 → f s b = g s b) : Eq2 3 5 f g := fun s hs b h1 h2 => by
  have := h s hs b.toNat (by omega)
  rw [show ((b.toNat : Nat) : Int) = b by omega] at this
  exact this
theorem Both.ok {Z F C n c : Int} {f : F2} {r : List (List Up)} (h : Both Z F C f n c r) : ∀ l ∈ r, OkR Z l := fun l hl => by
  obtain ⟨i, hi, rfl⟩ := List.getElem_of_mem hl
  exact (h i hi).1
theorem Ct.new {S : Nat → Sd} (h0 : New (S 0)) (h1 : New (S 1)) (n c : Int) : Ct S n c [] :=
  ⟨Pl.new h0 h1, .nil, Old.zero (m := 192) fun s hs b h2 h3 => by
    have := fS_new h0 h1 (s := s) (b := b.toNat) hs (by omega)
    rw [show ((b.toNat : Nat) : Int) = b by omega] at this
    exact this, fun l hl => by cases hl⟩
theorem Ct.app {S S' : Nat → Sd} {n c : Int} {r : List (List Up)} {l : List Up} (h : Ct S n c r) (hp : Pl S') (hr : r.length < 5) (hk : OkR 192 l) (h0 : l ≠ []) (hn : OkN 192 (bk 3 5 (n + r.length)) (n + r.length) (chL n c r))
    (he : ∀ s, s < 2 → ∀ b : Nat, b < 16 → fS S' s b = heal (fS S) (bk 3 5 (n + r.length)) (imR 192 (bk 3 5 (n + r.length)) (n + r.length) (chL n c r) l) s b) : Ct S' n c (r ++ [l]) := by
  refine ⟨hp, (h.both.put (by decide) (by omega) hk hn).cong (by decide) (eq2_of he), ?_, fun x hx => ?_⟩
  · have := (h.old.put hk hn (Int.le_refl _)).cong (eq2_of he)
    rw [List.length_append, List.length_singleton, show n + ((r.length + 1 : Nat) : Int) = n + r.length + 1 by omega]
    exact this
  · rcases List.mem_append.1 hx with hx | hx
    · exact h.ne x hx
    · rw [List.mem_singleton] at hx; subst hx; exact h0
theorem Ct.cut {S : Nat → Sd} {n c m d : Int} {r : List (List Up)} (h : Ct S n c r) (hm : n + r.length ≤ m) : Ct S m d [] :=
  ⟨h.pl, .nil, h.old.mono (by simpa using hm), fun l hl => by cases hl⟩
theorem Ct.open {S S' : Nat → Sd} {n c : Int} {r known : List (List Up)} {g : F2} {R : Nat} (h : Ct S n c known) (hp : Pl S') (hl : known.length ≤ 5) (ht : Tells 3 5 (fS S) n c r g R) (hd : Done 3 5 g n c r) (hr : (r.length : Int) ≤ 5) (he : ∀ s, s < 2 → ∀ b : Nat, b < 16 → fS S' s b = g s b) :
    r = known ∧ Ct S' n c known ∧ R = 0 := by
  obtain ⟨h1, h2, h3, h4⟩ := Tells.both (by decide) (by omega) h.both h.old ht hd hr
  exact ⟨h1, ⟨hp, h2.cong (by decide) (eq2_of he), h3.cong (eq2_of he), h.ne⟩, h4⟩
/-- the log at lb, over that -/
structure LW (w0 : World) (Y : List Nat) (lb tl mm tb bb q : Nat) (pd : Nat → Nat) (S : Nat → Sd) (cc R : Nat) (n c : Int) (r : List (List Up)) (w : World) : Prop where
  lg : Lg w0 Y lb tl mm tb bb q pd S cc R 3 5 n r.length (chL n c r) w
  ct : Ct S n c r
section
variable {w0 w w' : World} {X Y Z : List Nat} {q cc mm tb bb R s b lb tl : Nat} {pd : Nat → Nat} {S S' : Nat → Sd} {F C n c : Int} {r : List (List Up)}
theorem LW.len (h : LW w0 Y lb tl mm tb bb q pd S cc R n c r w) : r.length ≤ 5 := by have := h.lg.rg.k1; omega
theorem LW.later (h : LW w0 Y lb tl mm tb bb q pd S cc R n c r w) (hb : Below w.heap.size w w') : LW w0 Y lb tl mm tb bb q pd S cc R n c r w' := ⟨h.lg.later hb, h.ct⟩
theorem LW.sub (h : LW w0 Y lb tl mm tb bb q pd S cc R n c r w) (hZ : ∀ j ∈ Z, j ∈ Y) : LW w0 Z lb tl mm tb bb q pd S cc R n c r w := ⟨h.lg.sub hZ, h.ct⟩
theorem LW.mono {d : Nat} (h : LW w0 Y lb tl mm tb bb q pd S cc R n c r w) (hd : cc ≤ d) : LW w0 Y lb tl mm tb bb q pd S d R n c r w := ⟨h.lg.mono hd, h.ct⟩
theorem LW.new (h : LW w0 Y lb tl mm tb bb q pd S cc R n c r w) (o : Obj) : LW w0 (w.heap.size :: Y) lb tl mm tb bb q pd S cc R n c r (w.alloc o) := ⟨h.lg.fresh (below_new w o) (Nat.le_refl _) (by simp), h.ct⟩
theorem App_w {v : Value} {l : List Up} (h : LW w0 Y lb tl mm tb bb q pd S cc R n c r w) (hu : URin Y w v l) (h0 : l ≠ []) (hok : OkR 192 l) (hr : r.length < 5) (hc : cc ≤ 600000) :
    Calls Tryz.prog 18 #[.pointer (some ⟨lb, 0, none⟩), v] w fun e w' => e = .returned (.int .i64 0) ∧ ∃ S', LW w0 Y lb tl mm tb bb q pd S' (cc + 8) R n c (r ++ [l]) w' ∧ Same Y w w' := by
  have hn := okN_of h.lg.rg
  refine (Append_ok h.lg hu h0 hok (by omega) h.ct.pl hc).mono ?_
  rintro e w' ⟨S', rfl, hlg, hpl, he, hs⟩
  refine ⟨rfl, S', ⟨?_, h.ct.app hpl hr hok h0 hn he⟩, hs⟩
  rw [chL_snoc, List.length_append, List.length_singleton]
  exact hlg
/-- what Open tells of a ring of records -/
theorem Open_w (h : MG w0 Y mm tb bb q pd S noG cc R w) (hct : Ct S n c r) (hl : r.length ≤ 5) (hn0 : 0 ≤ n) (hn1 : n ≤ 4611686018427487903) (hc0 : 0 ≤ c) (hc1 : c < 4294967296) (hcc : cc ≤ 500000) (hR : R ≤ 500000) :
    Calls Tryz.prog 8 #[.pointer (some ⟨mm, 0, none⟩), .agg #[.int .i64 3, .int .i64 5], .int .u64 n, .int .u32 c] w fun e w' => ∃ lb tl Z S' v, e = .returned (.tuple #[.pointer (some ⟨lb, 0, none⟩), v, .int .i64 0]) ∧ LW w0 (Z ++ Y) lb tl mm tb bb q pd S' (cc + 40) R n c r w' ∧ RS w' v n c r ∧ Same Y w w' := by
  have hb : RgB 3 5 := ⟨by decide, by decide, by decide, by decide⟩
  refine (Open_yes h hb (rgB_rg hb hn0 hn1 hc0 hc1) hct.pl hcc hR).mono ?_
  rintro e w' ⟨lb, tl, Z, r', g, Rr, S', v, rfl, hlg, hpl, ht, hd, hlen, he, hrz, _, hs⟩
  obtain ⟨rfl, hct', rfl⟩ := hct.open hpl hl ht hd hlen he
  exact ⟨lb, tl, Z, S', v, rfl, ⟨hlg.mono (by omega), hct'⟩, hrz.rs, hs⟩
theorem Cut_w (h : LW w0 Y lb tl mm tb bb q pd S cc R n c r w) (hn : n + r.length + 5 ≤ 4611686018427487903) : Calls Tryz.prog 16 #[.pointer (some ⟨lb, 0, none⟩)] w fun e w' => e = .returned (.tuple #[.int .u64 (n + r.length + 5), .int .u32 (chL n c r), .int .i64 0]) ∧ LW w0 Y lb tl mm tb bb q pd S cc R (n + r.length + 5) (chL n c r) [] w' ∧ Same Y w w' := by
  refine (Cut_l h.lg hn).mono ?_
  rintro e w' ⟨rfl, hlg, hch⟩
  exact ⟨rfl, ⟨hlg, h.ct.cut (by omega)⟩, h.lg.same_y hch⟩
theorem Sync_w (h : LW w0 Y lb tl mm tb bb q pd S cc R n c r w) (hc : cc ≤ 700000) : Calls Tryz.prog 12 #[.pointer (some ⟨lb, 0, none⟩)] w fun e w' => e = .returned (.int .i64 0) ∧ LW w0 Y lb tl mm tb bb q pd S cc R n c r w' ∧ CZ w0 (mm :: tb :: bb :: lb :: tl :: Y) q pd S (fun _ => 0) w' ∧ Same Y w w' :=
  (Sync_l h.lg hc).mono fun e w' ⟨h1, h2, h3, h4⟩ => ⟨h1, ⟨h2, h.ct⟩, h3, h4⟩
end
/-! ### the devices' mirror anew -/
theorem ct_spare {S : Nat → Sd} (h : Pl S) : ∀ t, t < 2 → Spare (S t) := fun t ht j _ h2 => h.nb t ht (20 + j) (by omega) (by omega)
set_option maxHeartbeats 2000000 in
set_option maxRecDepth 100000 in
/-- the devices' mirror anew; the elder pair lasts -/
theorem again2_any {w0 w : World} {X : List Nat} {q c pa pb : Nat} {S : Nat → Sd} (h : CP w0 X q (pdOf pa pb) S c w) (hS : Pl S) (hc : c ≤ 700000) : Calls Tryz.prog 13 #[.agg #[.pointer (some ⟨pa, 0, none⟩), .pointer (some ⟨pb, 0, none⟩)]] w fun e w' => ∃ mm tb bb q', e = .returned (.tuple #[.pointer (some ⟨mm, 0, none⟩), .bool true]) ∧ MG w0 (q :: X) mm tb bb q' (pdOf pa pb) S noG c 0 w' ∧ PB w' q (pdOf pa pb) (mOf S) ∧ Same X w w' := by
  have HC := Lib.hid h
  have HS := Lib.hid (ct_spare hS)
  have HB0 := Lib.hid (b_new w (.cells #[.pointer (some ⟨pa, 0, none⟩), .pointer (some ⟨pb, 0, none⟩)] 26))
  have HC1 := Lib.hid (h.later HB0.out)
  have HS1 := Lib.hid (Same.of_below h HB0.out)
  have HL := Lib.hid hc
  have HH0 := Has.new w [.pointer (some ⟨pa, 0, none⟩), .pointer (some ⟨pb, 0, none⟩)] 26
  have e0 := HH0.cell 0
  have e1 := HH0.cell 1
  simp only [List.getElem?_cons_zero, List.getElem?_cons_succ] at e0 e1
  clear h hS hc HH0
  go_enter Tryz.func13, Tryz.ntmps13
  go_wp2_with fail
  refine (open_c HC1.out (by have := HL.out; omega)).mono ?_
  rintro e w2 ⟨q', P, rfl, hc2, ⟨rfl, hp⟩, hsm⟩
  have HC2 := Lib.hid (show CP w0 (q :: X) q' (pdOf pa pb) S c w2 from hc2)
  have HP := Lib.hid hp
  have HS2 := Lib.hid (HS1.out.trans hsm)
  clear hc2 hp hsm e0 e1
  go_wp2_with fail
  refine (New_m HC2.out HS.out).mono ?_
  rintro e w3 ⟨mm, tb, bb, rfl, hm, hsm⟩
  have HM := Lib.hid hm
  have HP3 := Lib.hid (HP.out.same (hsm q (by simp)))
  have HS3 := Lib.hid (show Same X w w3 from fun j hj => (hsm j (by simp [hj])).trans (HS2.out j hj))
  clear hm hsm
  go_wp2
  refine bodyPost_ret (v := .tuple #[.pointer (some ⟨mm, 0, none⟩), .bool true]) (by simp [results, Tryz.results13, go_sem]) rfl ⟨mm, tb, bb, q', rfl, HM.out, HP3.out, HS3.out⟩
theorem ring_any (w : World) : Calls Tryz.prog 9 #[] w fun e w' => e = .returned (.agg #[.int .i64 3, .int .i64 5]) ∧ Below w.heap.size w w' := by
  go_enter Tryz.func9, Tryz.ntmps9
  go_wp2
  refine bodyPost_ret (v := .agg #[.int .i64 3, .int .i64 5]) (by simp [results, Tryz.results9, go_sem]) rfl ⟨rfl, below_new _ _⟩
/-! ### a log whose mirror is another one's -/
section
variable {w0 w w' : World} {lb mm tl q : Nat} {F C n ch : Int} {k : Nat}
set_option maxRecDepth 100000 in
theorem Next_h (h : Has w lb 92 (lrow mm tl F C n k ch)) (hk : k ≤ 256) (n0 : 0 ≤ n) (n1 : n ≤ 4611686018427487903) : Calls Tryz.prog 20 #[.pointer (some ⟨lb, 0, none⟩)] w fun e w' => e = .returned (.tuple #[.int .u64 (n + k), .int .u32 ch]) ∧ ∃ j, w' = w.drewN j := by
  have c4 : w.cell? ⟨lb, 4, none⟩ = some (.int .u64 n) := h.cell 4
  have c5 : w.cell? ⟨lb, 5, none⟩ = some (.int .i64 k) := h.cell 5
  have c6 : w.cell? ⟨lb, 6, none⟩ = some (.int .u32 ch) := h.cell 6
  clear h
  have hw : IntKind.u64.wrap (k : Int) = k := by rw [IntKind.wrap_u64]; omega
  have hw2 : IntKind.u64.wrap (n + k) = n + k := by rw [IntKind.wrap_u64]; omega
  go_enter Tryz.func20, Tryz.ntmps20
  go_wp2_with fail
  go_quiet (fail)
  go_wp2
  go_ret2
  exact ⟨rfl, _, rfl⟩
set_option maxRecDepth 100000 in
theorem Left_h (h : Has w lb 92 (lrow mm tl F C n k ch)) (hk : k ≤ 256) (c2 : 0 ≤ C) (cm : C ≤ 256) : Calls Tryz.prog 21 #[.pointer (some ⟨lb, 0, none⟩)] w fun e w' => e = .returned (.int .i64 (C - k)) ∧ ∃ j, w' = w.drewN j := by
  have c3 : w.cell? ⟨lb, 3, none⟩ = some (.int .i64 C) := h.cell 3
  have c5 : w.cell? ⟨lb, 5, none⟩ = some (.int .i64 k) := h.cell 5
  clear h
  go_enter Tryz.func21, Tryz.ntmps21
  go_wp2_with fail
  go_quiet (fail)
  go_wp2
  go_ret
  exact ⟨rfl, _, rfl⟩
/-- a slice of one new update -/
theorem ur_one (u : Up) (w : World) (t : TypeId) : UR (w.alloc (.cells (encU u).toArray t)) (.slice (some ⟨w.heap.size, 0, none⟩) 1 1) [u] := by
  refine ⟨some ⟨w.heap.size, 0, none⟩, 1, rfl, fun _ => ⟨_, 0, rfl, fun i hi j hj => ?_⟩⟩
  have hi0 : i = 0 := by simpa using hi
  subst hi0
  have := (Has.new w (encU u) t).cell j
  rw [show 0 + 0 * 4 + j = j by omega, this]
  rfl
end
end Go.Proofs.YtflanjcfkdjpjaaGreatDoor.Wal


/- Layer 13's laws: wakes. -/
namespace Go.Proofs.YtflanjcfkdjpjaaGreatDoor.Wal
open Go Go.RowKit Go.Proofs.YtflanjcfkdjpjaaGreatDoor Dev Tab Rem Go.Maps Go.WideMaps Mir Rec
set_option linter.unusedVariables false
def upA : Up := ⟨2, [97], [], 0⟩
theorem upA_ok : OkR 192 [upA] := ⟨by intro u hu; simp at hu; subst hu; decide, by intro u hu; simp at hu; subst hu; exact ⟨by decide, by decide, by decide, by decide⟩, by decide, by decide⟩
set_option maxHeartbeats 4000000 in
set_option maxRecDepth 100000 in
theorem wakes_any (w : World) : Calls Tryz.prog 10 #[] w fun e w' => e = .returned (.bool true) ∧ Below w.heap.size w w' := by
  go_enter Tryz.func10, Tryz.ntmps10
  go_wp2_with fail
  refine (fresh_any w).mono ?_
  rintro e w1 ⟨pa, pb, mm, tb, bb, q, S, rfl, hm, h0, h1⟩
  have HCT := Lib.hid (Ct.new h0 h1 7 9)
  have HM := Lib.hid (hm.new (.cells #[.pointer (some ⟨pa, 0, none⟩), .pointer (some ⟨pb, 0, none⟩)] 26))
  have HD := Lib.hid (Has.new w1 [.pointer (some ⟨pa, 0, none⟩), .pointer (some ⟨pb, 0, none⟩)] 26)
  clear hm h0 h1
  obtain ⟨u, hu⟩ : ∃ u, u = w1.heap.size := ⟨_, rfl⟩
  rw [← hu] at HM HD
  go_wp2_with fail
  rw [← hu]
  clear hu
  refine (ring_any _).mono ?_
  rintro e w2 ⟨rfl, hb⟩
  have HM2 := Lib.hid (HM.out.later hb)
  have HD2 := Lib.hid (HD.out.below hb HD.out.lt)
  clear hb HM HD
  go_wp2_with fail
  refine (Open_w HM2.out HCT.out (by decide) (by decide) (by decide) (by decide) (by decide) (by decide) (by decide)).mono ?_
  rintro e w3 ⟨lb, tl, Z, S', v, rfl, hlw, hrs, hsm⟩
  obtain ⟨va, vc, rfl⟩ : ∃ a c, v = .slice a 0 c := by obtain ⟨a, c, h, _⟩ := hrs; exact ⟨a, c, h⟩
  have HL3 := Lib.hid (hlw.new (.cells (encU upA).toArray 67))
  have HU3 := Lib.hid (show URin (w3.heap.size :: (Z ++ [u])) (w3.alloc (.cells (encU upA).toArray 67)) (.slice (some ⟨w3.heap.size, 0, none⟩) 1 1) [upA] from ⟨ur_one _ _ _, fun j hj => by injection hj with hj; subst hj; simp⟩)
  have HD3 := Lib.hid ((HD2.out.same (hsm u (by simp))).alloc (.cells (encU upA).toArray 67))
  rw [show (encU upA).toArray = #[.int .u8 2, .string ⟨#[97]⟩, .string ⟨#[]⟩, .int .u64 0] from rfl] at HL3 HU3 HD3
  clear hlw hrs hsm HM2 HD2 HCT
  go_wp2_with fail
  refine (App_w HL3.out HU3.out (by simp) upA_ok (by decide) (by decide)).mono ?_
  rintro e w4 ⟨rfl, S4, hlw, hsm⟩
  have HL4 := Lib.hid (hlw.sub (Z := Z ++ [u]) (fun j hj => by simp at hj ⊢; simp [hj]))
  have HD4 := Lib.hid (HD3.out.same (hsm u (by simp)))
  clear hlw hsm HL3 HU3 HD3
  go_wp2_with fail
  refine (Sync_w HL4.out (by decide)).mono ?_
  rintro e w5 ⟨rfl, hlw, hz, hsm⟩
  have HL5 := Lib.hid hlw
  have hd5 := HD4.out.same (hsm u (by simp))
  have d0 := hd5.cell 0
  have d1 := hd5.cell 1
  simp only [List.getElem?_cons_zero, List.getElem?_cons_succ] at d0 d1
  clear hlw hz hsm HL4 HD4 hd5
  go_wp2_with fail
  refine (again2_any HL5.out.lg.mg.cp HL5.out.ct.pl (by decide)).mono ?_
  rintro e w6 ⟨mm2, tb2, bb2, q2, rfl, hm, hp, hsm⟩
  have HM6 := Lib.hid hm
  have HP6 := Lib.hid hp
  have HR6 := Lib.hid (HL5.out.lg.row.same (hsm lb (by simp)))
  have HX6 := Lib.hid (HL5.out.lg.mg.row.same (hsm mm (by simp)))
  clear hm hp hsm d0 d1
  go_wp2_with fail
  refine (ring_any _).mono ?_
  rintro e w7 ⟨rfl, hb⟩
  have HM7 := Lib.hid (HM6.out.later hb)
  have HP7 := Lib.hid (HP6.out.later hb)
  have HR7 := Lib.hid (HR6.out.below hb HR6.out.lt)
  have HX7 := Lib.hid (HX6.out.below hb HX6.out.lt)
  clear hb HM6 HP6 HR6 HX6
  go_wp2_with fail
  refine (Open_w HM7.out HL5.out.ct (by decide) (by decide) (by decide) (by decide) (by decide) (by decide) (by decide)).mono ?_
  rintro e w8 ⟨lb2, tl2, Z2, S8, v2, rfl, hlw, hrs, hsm⟩
  obtain ⟨va2, vc2, rfl, hcl⟩ := hrs
  obtain ⟨g, off, rfl, hcl2⟩ := hcl (show 0 < ([] ++ [[upA]] : List (List Up)).length by decide)
  obtain ⟨uu, x0, x1, _, _⟩ := hcl2 0 (show 0 < ([] ++ [[upA]] : List (List Up)).length by decide)
  have HL8 := Lib.hid hlw
  have HP8 := Lib.hid (HP7.out.same (hsm q (by simp)))
  have HR8 := Lib.hid (HR7.out.same (hsm lb (by simp)))
  have HX8 := Lib.hid (HX7.out.same (hsm mm (by simp)))
  have X0 := Lib.hid x0
  have X1 := Lib.hid x1
  clear hlw hsm hcl hcl2 x0 x1 HM7 HP7 HR7 HX7 HL5
  rw [show ([] ++ [[upA]] : List (List Up)).length = 1 from rfl]
  go_wp2_with fail
  refine (Next_h HR8.out (by decide) (by decide) (by decide)).mono ?_
  rintro e w9 ⟨rfl, j9, hw9⟩
  have HB9 := Lib.hid (show Below w8.heap.size w8 w9 from by rw [hw9]; exact below_drewN (Below.refl _ _) _)
  have x0 : w9.cell? ⟨g, off, none⟩ = some (.int .u64 7) := by rw [hw9]; exact X0.out
  have x1 : w9.cell? ⟨g, off + 1, none⟩ = some (.int .u32 9) := by rw [hw9]; exact X1.out
  clear hw9
  go_wp2_with fail
  refine (Left_h (HR8.out.below HB9.out HR8.out.lt) (by decide) (by decide) (by decide)).mono ?_
  rintro e w10 ⟨rfl, j10, hw10⟩
  have HB10 := Lib.hid (show Below w8.heap.size w8 w10 from by rw [hw10]; exact below_drewN HB9.out _)
  clear hw10
  rw [show ((5 : Int) - ((([] ++ [[upA]] : List (List Up)).length : Nat) : Int)) = 4 from rfl]
  go_wp2_with fail
  refine (Room_h (w0 := w) (pd := pdOf pa pb) (mm := mm) (q := q) ⟨(HR8.out.below HB10.out HR8.out.lt).cell 0, (HX8.out.below HB10.out HX8.out.lt).cell 0, ⟨_, HP8.out.later HB10.out⟩, _, _, _, _, (HL8.out.later HB10.out).lg.mg.cg⟩).mono ?_
  rintro e w11 ⟨rfl, hb⟩
  have HB11 := Lib.hid ((HL8.out.later HB10.out).later hb).lg.below
  clear hb x0 x1
  rw [show (192 : Int) - 38 = 154 by decide]
  go_wp2
  go_ret
  exact ⟨rfl, HB11.out⟩
end Go.Proofs.YtflanjcfkdjpjaaGreatDoor.Wal


/- Layer 13's laws: cuts of the power behind a Sync; fates. -/
namespace Go.Proofs.YtflanjcfkdjpjaaGreatDoor.Wal
open Go Go.RowKit Go.Proofs.YtflanjcfkdjpjaaGreatDoor Dev Tab Rem Go.Maps Go.WideMaps Mir Rec
set_option linter.unusedVariables false
section
variable {w0 w w' : World} {X Y Z : List Nat} {q cc mm tb bb R s b lb tl : Nat} {pd : Nat → Nat} {S S' : Nat → Sd} {F C n c : Int} {r : List (List Up)}
theorem CZ.chg {cf : Nat → Nat} (h : CZ w0 X q pd S cf w) (hc : Chg (fun j => j ∈ X) w w') : CZ w0 X q pd S cf w' := by
  obtain ⟨⟨D, e1, e2⟩, e3⟩ := h; exact ⟨⟨D, e1.chg hc, e2⟩, e3⟩
theorem fates_mono {v : Value} {m : Nat} {fs : List Int} (h : FatesZ w X v m fs) (hX : ∀ j ∈ X, j ∈ Y) : FatesZ w Y v m fs := by
  obtain ⟨h1, fa, cap, h2, h3, h4⟩ := h
  exact ⟨h1, fa, cap, h2, h3, fun a ha => hX _ (h4 a ha)⟩
theorem Crash_w {v : Value} {m : Nat} {fs : List Int} (h : LW w0 Y lb tl mm tb bb q pd S cc R n c r w) (hz : CZ w0 (mm :: tb :: bb :: lb :: tl :: Y) q pd S (fun _ => 0) w) (hs : s < 2) (hn : m ≤ 1000000) (hf : FatesZ w Y v m fs) (hfb : ∀ f ∈ fs, f ≤ 9223372036854775807) (p : Nat) (hp : p = pd s) :
    Calls Tryz.prog 25 #[.pointer (some ⟨p, 0, none⟩), v] w fun e w' => e = .returned (.tuple #[]) ∧ LW w0 Y lb tl mm tb bb q pd S cc R n c r w' ∧ CZ w0 (mm :: tb :: bb :: lb :: tl :: Y) q pd S (fun _ => 0) w' ∧ Same Y w w' := by
  refine (crash_z hz hs rfl hn (fates_mono (Y := mm :: tb :: bb :: lb :: tl :: Y) hf (fun j hj => by simp [hj])) hfb p hp).mono ?_
  rintro e w' ⟨rfl, hz', hsm⟩
  refine ⟨rfl, ⟨h.lg.go (h.lg.mg.go (hz'.cp (c := cc) (Nat.zero_le _) (Nat.zero_le _)).cg hsm h.lg.mg.fit (fun _ _ => Nat.le_refl _) (Nat.le_refl _)) (fun j hj => hsm j (by simp at hj ⊢; rcases hj with rfl | rfl | hj <;> simp [*])), h.ct⟩, hz', fun j hj => hsm j (by simp [hj])⟩
theorem Cut_x (h : LW w0 Y lb tl mm tb bb q pd S cc R n c r w) (hn : n + r.length + 5 ≤ 4611686018427487903) : Calls Tryz.prog 16 #[.pointer (some ⟨lb, 0, none⟩)] w fun e w' => e = .returned (.tuple #[.int .u64 (n + r.length + 5), .int .u32 (chL n c r), .int .i64 0]) ∧ LW w0 Y lb tl mm tb bb q pd S cc R (n + r.length + 5) (chL n c r) [] w' ∧ Chg (fun j => j = lb) w w' := by
  refine (Cut_l h.lg hn).mono ?_
  rintro e w' ⟨rfl, hlg, hch⟩
  exact ⟨rfl, ⟨hlg, h.ct.cut (by omega)⟩, hch⟩
/-- a log whose mirror was used by another one -/
theorem LW.back {S'' : Nat → Sd} {cc' R' : Nat} (h : LW w0 Y lb tl mm tb bb q pd S cc R n c r w) (hm : MG w0 (lb :: tl :: Y) mm tb bb q pd S'' noG cc' R' w') (hs : Same (lb :: tl :: Y) w w') (hc : Ct S'' n c r) : LW w0 Y lb tl mm tb bb q pd S'' cc' R' n c r w' := ⟨h.lg.go hm hs, hc⟩
end
theorem run_minC (P : Program) (w : World) (t : TypeId) (ts : Array TypeId) (a c : Nat) : (Builtin.min_ ts t #[.int .i64 (a : Nat), .int .i64 (c : Nat)]).run P w = .ok (.int .i64 ((min a c : Nat) : Int)) w := by
  have e : ∀ a b : Nat, (if (b : Int) < a then (b : Int) else a) = ((min a b : Nat) : Int) := by intro a b; split <;> omega
  simp only [Builtin.min_, Builtin.min2, List.foldlM, Sem.run_bind, Sem.run_pure, Result.andThen]
  rw [e]
theorem info_fate13 : (Tryz.prog.info? 73).map (fun i => (i.zero, i.size, i.bytes)) = some (some (.int .i64 0), 1, 8) := by kernel_rfl
def upS : Up := ⟨1, [115, 97, 109, 101], [115, 97, 109, 101], 0⟩
theorem upS_ok : OkR 192 [upS] := ⟨by intro u hu; simp at hu; subst hu; decide, by intro u hu; simp at hu; subst hu; exact ⟨by decide, by decide, by decide, by decide⟩, by decide, by decide⟩
/-- what a row of fates is -/
theorem fates_own {w : World} {Y : List Nat} {base : Nat} {v : Value} {t : Nat} {fs : List Int} (h : w.ownsRow base 73 1 v t (fs.map (Value.int .i64))) (ht : fs.length = t) (hY : ∀ k, v.ownBlock = some k → k ∈ Y) : FatesZ w Y v t fs := by
  refine ⟨ht, ?_⟩
  rcases h.2 with ⟨rfl, h0⟩ | ⟨g, cap, cur, rfl, hb, hg, hn, hm, hs, htk⟩
  · subst h0
    exact ⟨none, 0, rfl, ⟨ht, fun h => absurd h (by decide)⟩, fun a ha => by cases ha⟩
  · refine ⟨some ⟨g, 0, none⟩, cap, rfl, ⟨ht, fun h0 => ⟨g, 0, rfl, fun i hi => ?_⟩⟩, fun a ha => by injection ha with ha; subst ha; exact hY g rfl⟩
    rw [show (⟨g, 0 + i, none⟩ : Addr) = ⟨g, i, none⟩ by rw [Nat.zero_add], h.cellAt i (by omega), List.getElem?_map, List.getElem?_eq_getElem (by omega), List.getD_eq_getElem?_getD, List.getElem?_eq_getElem (by omega)]; rfl
end Go.Proofs.YtflanjcfkdjpjaaGreatDoor.Wal


