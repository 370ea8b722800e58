/- Layers' contracts, bundled: MirD, MirE, MirF, MirG, MirL, MirW, Arr. -/
import Derived.Test.YtgoampbebjfenaaGreatDoorK11
import Derived.Deep.DeepCutAuto
import Derived.Deep.Onto
import Derived.Test.YtgoampbebjfenaaGreatDoorK10
import Derived.Test.YtgoampbebjfenaaGreatDoorK03
import Derived.Outline
import Derived.OpenShut
import Derived.ChangeOld
import Derived.Below
import Derived.Deep.Fields
import Derived.Test.YtgoampbebjfenaaGreatDoorK02
/- Layer 8 (mirror): contracts of find, Heal, Check, Write, Flush. -/
namespace Go.Proofs.YtgoampbebjfenaaGreatDoor.Mir
open Go Go.RowKit Go.Proofs.YtgoampbebjfenaaGreatDoor Dev Tab Rem Go.Maps Go.WideMaps
set_option linter.unusedVariables false

theorem find_at {α : Type} [Inhabited α] (L : List α) (z : α) (p : α → Bool) (j : Nat) (hj : j < L.length) (h : ∀ m, m < j → p (L.getD m z) = false) (hp : p (L.getD j z) = true) : L.find? p = some (L.getD j z) := by
  have e : ∀ m (hm : m < L.length), L.getD m z = L[m] := fun m hm => by rw [List.getD_eq_getElem?_getD, List.getElem?_eq_getElem hm]; rfl
  rw [List.find?_eq_some_iff_getElem]
  refine ⟨hp, j, hj, (e j hj).symm, fun m hm => ?_⟩
  have := h m hm
  rw [e m (by omega)] at this
  simp [this]
theorem find_none {α : Type} (L : List α) (z : α) (p : α → Bool) (h : ∀ m, m < L.length → p (L.getD m z) = false) : L.find? p = none := by
  rw [List.find?_eq_none]
  intro x hx
  obtain ⟨m, hm, rfl⟩ := List.getElem_of_mem hx
  have := h m hm
  rw [List.getD_eq_getElem?_getD, List.getElem?_eq_getElem hm] at this
  simpa using this
theorem al_at {G : Nat → Bool} {j : Nat} (hj : j < (al G).length) : (al G).getD j 0 < 2 ∧ G ((al G).getD j 0) = false := by
  rw [List.getD_eq_getElem?_getD, List.getElem?_eq_getElem hj]
  exact al_mem.1 (List.getElem_mem hj)
theorem take_next {L : List Nat} {j : Nat} (hj : j < L.length) : L.take (j + 1) = L.take j ++ [L.getD j 0] := by
  rw [List.getD_eq_getElem?_getD, List.getElem?_eq_getElem hj, List.take_add_one, List.getElem?_eq_getElem hj]; rfl
theorem not_take {L : List Nat} (hn : L.Nodup) {j : Nat} (hj : j < L.length) : L.getD j 0 ∉ L.take j := by
  intro h
  rw [List.getD_eq_getElem?_getD, List.getElem?_eq_getElem hj] at h
  obtain ⟨m, hm, e⟩ := List.getElem_of_mem h
  rw [List.length_take] at hm
  rw [List.getElem_take] at e
  have := (List.getElem_inj hn).1 e
  omega
/-- a row of sides that isn't empty -/
def Lp (w : World) (z : Nat) (L : List Nat) : Prop := ∀ k, k < L.length → w.cell? ⟨z, k, none⟩ = some (.int .i64 (L.getD k 0 : Nat))
theorem Lp.same {w w' : World} {z : Nat} {L : List Nat} (h : Lp w z L) (hk : w'.heap[z]? = w.heap[z]?) : Lp w' z L := fun k hl => (cell_same (a := ⟨z, k, none⟩) hk).trans (h k hl)
theorem Sides.lp {w : World} {a : Option Addr} {L : List Nat} (h : Sides w a L) (hn : L ≠ []) : ∃ z, a = some ⟨z, 0, none⟩ ∧ Lp w z L := by
  rcases h with h | ⟨b, rfl, h⟩
  · exact absurd h hn
  · exact ⟨b, rfl, fun k hk => by rw [h k hk, List.getD_eq_getElem?_getD, List.getElem?_eq_getElem hk]; rfl⟩
/-- the first side whose copy is whole -/
def fnd (S : Nat → Sd) (G : Nat → Bool) (b : Nat) (g k : Int) : Option Nat := (al G).find? fun s => wh (cont S G s b) (b : Int) g k
def fndV (S : Nat → Sd) (G : Nat → Bool) (b : Nat) (g k : Int) : Value := match fnd S G b g k with
  | some s => .tuple #[.int .i64 (s : Nat), .string ((cont S G s b).getD ⟨#[]⟩), .int .i64 0]
  | none => .tuple #[.int .i64 0, .string ⟨#[]⟩, .int .i64 (if al G = [] then 8 else 10)]
section
variable {w0 w w' : World} {X Y Z : List Nat} {q c mm tb bb R s b : Nat} {pd : Nat → Nat} {S : Nat → Sd} {G : Nat → Bool}
set_option maxHeartbeats 2000000 in
set_option maxRecDepth 100000 in
theorem find_no (h : MG w0 Y mm tb bb q pd S G c R w) (a g k : Int) (ha : rfE a = 3) : Calls Tryz.prog 43 #[.pointer (some ⟨mm, 0, none⟩), ptrV a g k] w fun e w' => e = .returned (.tuple #[.int .i64 0, .string ⟨#[]⟩, .int .i64 3]) ∧ Below w.heap.size w w' := by
  have HM := Lib.hid (h.new (.cells #[.int .i64 a, .int .u64 g, .int .u32 k] 35))
  have HB := Lib.hid (Below.refl _ w |>.alloc (Nat.le_refl _) (.cells #[.int .i64 a, .int .u64 g, .int .u32 k] 35))
  clear h
  go_enter Tryz.func43, Tryz.ntmps43
  go_wp2_with fail
  refine (refusal_m HM.out a).mono ?_
  rintro e w1 ⟨rfl, hb⟩
  have HB1 := Lib.hid (HB.out.trans (hb.mono HB.out.size))
  rw [ha]
  clear hb
  go_wp2
  go_ret3
  exact ⟨rfl, HB1.out⟩
set_option maxHeartbeats 2000000 in
set_option maxRecDepth 100000 in
theorem find_m (h : MG w0 Y mm tb bb q pd S G c R w) (hb : b < 14) (hc : c ≤ 1000000) (a g k : Int) (ha : a = (b : Nat)) : Calls Tryz.prog 43 #[.pointer (some ⟨mm, 0, none⟩), ptrV a g k] w fun e w' => e = .returned (fndV S G b g k) ∧ MG w0 Y mm tb bb q pd S G c R w' ∧ Same Y w w' := by
  subst ha
  have HM := Lib.hid (h.new (.cells #[.int .i64 (b : Nat), .int .u64 g, .int .u32 k] 35))
  have hhas := Has.new w [.int .i64 (b : Nat), .int .u64 g, .int .u32 k] 35
  have HC := Lib.hid hc
  have HB := Lib.hid hb
  have HRF := Lib.hid (show rfE (b : Int) = 0 by unfold rfE; rw [if_neg (by omega)])
  have HSM0 := Lib.hid (show Same Y w (w.alloc (.cells #[.int .i64 (b : Nat), .int .u64 g, .int .u32 k] 35)) from fun j hj => (b_new w _).block j (h.y j hj).2)
  obtain ⟨p, hp⟩ : ∃ p, p = w.heap.size := ⟨_, rfl⟩
  rw [← hp] at HM hhas
  have HH := Lib.hid hhas
  have HP := Lib.hid hp
  clear h hc hb hhas hp
  go_enter Tryz.func43, Tryz.ntmps43
  go_wp2_with fail
  refine (refusal_m HM.out (b : Int)).mono ?_
  rintro e w1 ⟨rfl, hb⟩
  rw [HRF.out, ← HP.out]
  have HM1 := Lib.hid (HM.out.later hb)
  have HH1 := Lib.hid (HH.out.below hb HH.out.lt)
  have HSM1 := Lib.hid (show Same Y w w1 from fun j hj => (hb.block j (HM.out.y j (by simp [hj])).2).trans (HSM0.out j hj))
  clear hb HM HH HSM0
  go_wp2_with fail
  refine (alive_m HM1.out).mono ?_
  rintro e w2 ⟨av, cap, rfl, hsd, hfr, hb⟩
  have HM2 := Lib.hid (HM1.out.later hb)
  have HH2 := Lib.hid (HH1.out.below hb HH1.out.lt)
  have HSM2 := Lib.hid (show Same Y w w2 from fun j hj => (hb.block j (HM1.out.y j (by simp [hj])).2).trans (HSM1.out j hj))
  obtain ⟨L, hL⟩ : ∃ L, L = al G := ⟨_, rfl⟩
  rw [← hL] at hsd ⊢
  have HL := Lib.hid hL
  obtain ⟨n, hn⟩ : ∃ n, n = L.length := ⟨_, rfl⟩
  have HN := Lib.hid hn
  have hn2 : n ≤ 2 := by rw [hn, hL]; exact al_le G
  rw [← hn]
  by_cases h0 : n = 0
  · have HV := Lib.hid (show fndV S G b g k = .tuple #[.int .i64 0, .string ⟨#[]⟩, .int .i64 8] by
      have hnil : al G = [] := List.eq_nil_of_length_eq_zero (by rw [← hL, ← hn]; exact h0)
      unfold fndV fnd
      rw [hnil]; rfl)
    subst h0
    clear hsd hfr hb hL hn
    go_wp2
    go_ret3
    exact ⟨by rw [HV.out]; rfl, HM2.out.sub (fun k hk => List.mem_cons_of_mem _ hk), HSM2.out⟩
  · have hne : L ≠ [] := fun e => h0 (by rw [hn, e]; rfl)
    have HNE := Lib.hid hne
    obtain ⟨z, rfl, hlp⟩ := hsd.lp hne
    obtain ⟨hz1, hz2⟩ := hfr z 0 rfl
    have HM3 := Lib.hid (HM1.out.fresh hb hz1 hz2)
    have HLP := Lib.hid hlp
    clear hsd hfr hb hL hn hne hlp hz1 hz2 HM2 HM1 HH1
    have hn0 : ((n : Int) == 0) = false := by simp; omega
    have hn1 : ¬ (n : Int) = 0 := by omega
    go_wp2_with fail
    go_loopw [28] (fun i wr => ∃ j : Nat, j ≤ n ∧ i = .int .i64 j ∧ (∀ m, m < j → wh (cont S G (L.getD m 0) b) (b : Int) g k = false) ∧ MG w0 (z :: p :: Y) mm tb bb q pd S G c R wr ∧ Same (z :: p :: Y) w2 wr) (fun i _ => n - (intOf i).toNat)
    case atStart => exact ⟨0, Nat.zero_le _, rfl, fun m hm => by omega, HM3.out, Same.refl _ _⟩
    case round =>
      obtain ⟨j, hj, rfl, hno, hmr, hsr⟩ := hrel
      have HMr := Lib.hid hmr
      have HSr := Lib.hid hsr
      have HNO := Lib.hid hno
      clear hmr hsr hno
      by_cases hlt : j < n
      · obtain ⟨x, hx⟩ : ∃ x, x = L.getD j 0 := ⟨_, rfl⟩
        have hcell := (HLP.out.same (HSr.out z (by simp))) j (by rw [← HN.out]; exact hlt)
        rw [← hx] at hcell
        have hxx := al_at (G := G) (j := j) (by rw [← HL.out, ← HN.out]; exact hlt)
        rw [← HL.out, ← hx] at hxx
        obtain ⟨hx2, hxg⟩ := hxx
        have HX := Lib.hid hx
        have hxH := Has.same HH2.out (HSr.out p (by simp))
        have x0 := hxH.cell 0
        have x1 := hxH.cell 1
        have x2 := hxH.cell 2
        simp only [List.getElem?_cons_zero, List.getElem?_cons_succ] at x0 x1 x2
        clear hxH hx
        go_wp2_with fail
        refine (readWhole_m HMr.out hx2 HB.out HC.out _ g k rfl).mono ?_
        rintro e w4 ⟨rfl, hm, hsm⟩
        have HM4 := Lib.hid hm
        have HS4 := Lib.hid (HSr.out.trans hsm)
        clear hm hsm hcell x0 x1 x2
        obtain ⟨y, hy⟩ : ∃ y, y = wh (cont S G x b) (b : Int) g k := ⟨_, rfl⟩
        have HY := Lib.hid hy
        rw [← hy]
        clear hy
        cases y with
        | true =>
          have HV := Lib.hid (show fnd S G b g k = some x by
            unfold fnd
            rw [← HL.out, HX.out]
            refine find_at L 0 _ j (by rw [← HN.out]; exact hlt) HNO.out ?_
            show wh (cont S G (L.getD j 0) b) (b : Int) g k = true
            rw [← HX.out]; exact HY.out.symm)
          go_wp2
          go_ret3
          refine ⟨by unfold fndV; rw [HV.out]; rfl, HM4.out.sub (fun k hk => List.mem_cons_of_mem _ (List.mem_cons_of_mem _ hk)), fun k hk => (HS4.out k (by simp [hk])).trans (HSM2.out k hk)⟩
        | false =>
          go_wp2_with fail
          go_roundw
          case rel =>
            have hno' : ∀ m, m < j + 1 → wh (cont S G (L.getD m 0) b) (b : Int) g k = false := fun m hm => by
              by_cases e : m = j
              · rw [e, ← HX.out]; exact HY.out.symm
              · exact HNO.out m (by omega)
            exact ⟨j + 1, by omega, by go_num, hno', HM4.out, HS4.out⟩
          case measure => simp [intOf]; omega
      · obtain rfl : j = n := by omega
        have HV := Lib.hid (show fnd S G b g k = none by
          unfold fnd
          rw [← HL.out]
          exact find_none L 0 _ (fun m hm => HNO.out m (by rw [HN.out]; exact hm)))
        go_wp2
        go_ret3
        refine ⟨by unfold fndV; rw [HV.out, if_neg (by rw [← HL.out]; exact HNE.out)]; rfl, HMr.out.sub (fun k hk => List.mem_cons_of_mem _ (List.mem_cons_of_mem _ hk)), fun k hk => (HSr.out k (by simp [hk])).trans (HSM2.out k hk)⟩
/-! ### Heal -/
def hSum (S : Nat → Sd) (G : Nat → Bool) (b : Nat) (d : ByteArray) (L : List Nat) : Nat := (L.map fun s => hlN S G s b d).sum
theorem rpN_le : rpN S G s b ≤ 1 := by unfold rpN; split <;> omega
theorem hlN_le {d : ByteArray} : hlN S G s b d ≤ 1 := by
  unfold hlN; split
  · omega
  · exact rpN_le
theorem hSum_next {d : ByteArray} {L : List Nat} {j : Nat} (hj : j < L.length) : hSum S G b d (L.take (j + 1)) = hSum S G b d (L.take j) + hlN S G (L.getD j 0) b d := by
  unfold hSum; rw [take_next hj, List.map_append, List.sum_append]; simp
theorem hSum_le {d : ByteArray} : ∀ L : List Nat, hSum S G b d L ≤ L.length
  | [] => by simp [hSum]
  | x :: L => by
    have := hSum_le (d := d) L
    have h1 : hlN S G x b d ≤ 1 := hlN_le
    simp only [hSum, List.map_cons, List.sum_cons, List.length_cons] at this ⊢
    omega
set_option maxHeartbeats 2000000 in
set_option maxRecDepth 100000 in
theorem Heal_no (h : MG w0 Y mm tb bb q pd S G c R w) (b : Int) (d : ByteArray) (hE : irE b d.size ≠ 0) : Calls Tryz.prog 47 #[.pointer (some ⟨mm, 0, none⟩), .int .i64 b, .string d] w fun e w' => e = .returned (.tuple #[.int .i64 0, .int .i64 (irE b d.size)]) ∧ Below w.heap.size w w' := by
  have HM := Lib.hid h
  clear h
  go_enter Tryz.func47, Tryz.ntmps47
  go_wp2_with fail
  refine (irefusal_m HM.out b d).mono ?_
  rintro e w1 ⟨rfl, hb⟩
  have HB := Lib.hid hb
  obtain ⟨x, hx⟩ : ∃ x, x = irE b d.size := ⟨_, rfl⟩
  have HX := Lib.hid hx
  rw [← hx] at hE ⊢
  clear hb hx
  go_wp2
  go_ret2
  exact ⟨by rw [HX.out]; rfl, HB.out⟩
set_option maxHeartbeats 2000000 in
set_option maxRecDepth 100000 in
theorem Heal_m (h : MG w0 Y mm tb bb q pd S G c R w) (hb : b < 14) {d : ByteArray} (hd : d.size = 128) (hc : c ≤ 700000) (hR : R ≤ 900000) : Calls Tryz.prog 47 #[.pointer (some ⟨mm, 0, none⟩), .int .i64 (b : Nat), .string d] w fun e w' => ∃ S', e = .returned (.tuple #[.int .i64 (hSum S G b d (al G) : Nat), .int .i64 0]) ∧ St S S' G b d (fun t => t ∈ al G ∧ cont S G t b ≠ some d) ∧ MG w0 Y mm tb bb q pd S' G (c + 8) (R + hSum S G b d (al G)) w' ∧ Same Y w w' := by
  have HM := Lib.hid h
  have HC := Lib.hid hc
  have HB := Lib.hid hb
  have HD := Lib.hid hd
  have HR := Lib.hid hR
  have HRF := Lib.hid (show irE (b : Int) d.size = 0 by unfold irE rfE; rw [if_neg (by rw [if_neg (by omega)]; simp), if_pos hd])
  clear h hc hb hd hR
  go_enter Tryz.func47, Tryz.ntmps47
  go_wp2_with fail
  refine (irefusal_m HM.out (b : Int) d).mono ?_
  rintro e w1 ⟨rfl, hb⟩
  rw [HRF.out]
  have HM1 := Lib.hid (HM.out.later hb)
  have HSM1 := Lib.hid (Same.of_belowG HM.out.cg hb)
  clear hb
  go_wp2_with fail
  refine (alive_m HM1.out).mono ?_
  rintro e w2 ⟨av, cap, rfl, hsd, hfr, hb⟩
  have HM2 := Lib.hid (HM1.out.later hb)
  have HSM2 := Lib.hid (show Same Y w w2 from fun j hj => (hb.block j (HM1.out.y j hj).2).trans (HSM1.out j (by simp [hj])))
  obtain ⟨L, hL⟩ : ∃ L, L = al G := ⟨_, rfl⟩
  rw [← hL] at hsd ⊢
  have HL := Lib.hid hL
  obtain ⟨n, hn⟩ : ∃ n, n = L.length := ⟨_, rfl⟩
  have HN := Lib.hid hn
  have hn2 : n ≤ 2 := by rw [hn, hL]; exact al_le G
  rw [← hn]
  by_cases h0 : n = 0
  · have hnil : al G = [] := List.eq_nil_of_length_eq_zero (by rw [← hL, ← hn]; exact h0)
    have HV := Lib.hid (show hSum S G b d (al G) = 0 by rw [hnil]; rfl)
    have HST := Lib.hid ((St.none (S := S) (G := G) (b := b) (d := d)).iff (Q := fun t => t ∈ al G ∧ cont S G t b ≠ some d) (fun t ht => by rw [hnil]; simp))
    subst h0
    clear hsd hfr hb hL hn hnil
    go_wp2_with fail
    go_loopw [24, 9] (fun i a wr => i = .int .i64 0 ∧ a = .int .i64 0 ∧ wr = w2) (fun i _ _ => 0)
    case atStart => exact ⟨rfl, rfl, rfl⟩
    case round =>
      obtain ⟨rfl, rfl, rfl⟩ := hrel
      go_wp2
      go_ret2
      exact ⟨S, by rw [HV.out]; rfl, HST.out, by rw [HV.out]; exact HM2.out.mono (by omega), HSM2.out⟩
  · have hne : L ≠ [] := fun e => h0 (by rw [hn, e]; rfl)
    obtain ⟨z, rfl, hlp⟩ := hsd.lp hne
    obtain ⟨hz1, hz2⟩ := hfr z 0 rfl
    have HM3 := Lib.hid (HM1.out.fresh hb hz1 hz2)
    have HLP := Lib.hid hlp
    clear hsd hfr hb hL hn hne hlp hz1 hz2 HM2 HM1
    go_wp2_with fail
    go_loopw [24, 9] (fun i a wr => ∃ (j m : Nat) (S1 : Nat → Sd), j ≤ n ∧ i = .int .i64 j ∧ a = .int .i64 m ∧ m = hSum S G b d (L.take j) ∧ St S S1 G b d (fun t => t ∈ L.take j ∧ cont S G t b ≠ some d) ∧ MG w0 (z :: Y) mm tb bb q pd S1 G (c + 4 * j) (R + m) wr ∧ Same (z :: Y) w2 wr) (fun i _ _ => n - (intOf i).toNat)
    case atStart => exact ⟨0, 0, S, Nat.zero_le _, rfl, rfl, rfl, (St.none).iff (fun t ht => by simp), HM3.out, Same.refl _ _⟩
    case round =>
      obtain ⟨j, m, S1, hj, rfl, rfl, hm, hst, hmr, hsr⟩ := hrel
      have HMr := Lib.hid hmr
      have HSr := Lib.hid hsr
      have HST := Lib.hid hst
      have HMM := Lib.hid hm
      have hm2 : m ≤ 2 := by rw [hm]; have := hSum_le (S := S) (G := G) (b := b) (d := d) (L.take j); rw [List.length_take] at this; omega
      clear hmr hsr hst hm
      by_cases hlt : j < n
      · obtain ⟨x, hx⟩ : ∃ x, x = L.getD j 0 := ⟨_, rfl⟩
        have hcell := (HLP.out.same (HSr.out z (by simp))) j (by rw [← HN.out]; exact hlt)
        rw [← hx] at hcell
        have hxx := al_at (G := G) (j := j) (by rw [← HL.out, ← HN.out]; exact hlt)
        rw [← HL.out, ← hx] at hxx
        obtain ⟨hx2, hxg⟩ := hxx
        have HX := Lib.hid hx
        clear hx
        go_wp2_with fail
        refine (heal_m HMr.out hx2 HB.out HD.out (by have := HC.out; omega) (by have := HR.out; omega)).mono ?_
        rintro e w4 ⟨S2, rfl, hst, hm, hsm⟩
        have hnt : x ∉ L.take j := by rw [HX.out]; exact not_take (by rw [HL.out]; exact al_nodup G) (by rw [← HN.out]; exact hlt)
        obtain ⟨hc1, hc2⟩ : cont S1 G x b = cont S G x b ∧ wE S1 G x b = wE S G x b := by
          rcases HST.out.at_ x hx2 with ⟨h1, -⟩ | ⟨-, h2, h3⟩
          · exact absurd h1.1 hnt
          · exact ⟨h2, h3⟩
        have he : hlN S1 G x b d = hlN S G x b d := by unfold hlN rpN; rw [hc1, hc2]
        obtain ⟨y, hy⟩ : ∃ y, y = hlN S G x b d := ⟨_, rfl⟩
        rw [he, ← hy] at hm ⊢
        have hy1 : y ≤ 1 := by rw [hy]; exact hlN_le
        have HNX := Lib.hid (show m + y = hSum S G b d (L.take (j + 1)) by rw [hSum_next (by rw [← HN.out]; exact hlt), ← HX.out, ← hy, ← HMM.out])
        have HST2 := Lib.hid (show St S S2 G b d (fun t => t ∈ L.take (j + 1) ∧ cont S G t b ≠ some d) from by
          have hcomp : St S1 S2 G b d (fun t => t = x ∧ cont S G x b ≠ some d) := by rw [← hc1]; exact hst
          refine (HST.out.trans hcomp (fun t ht h1 h2 => hnt (by rw [← h2.1]; exact h1.1))).iff (fun t ht => ?_)
          rw [take_next (by rw [← HN.out]; exact hlt), List.mem_append, ← HX.out]
          simp only [List.mem_singleton]
          constructor
          · rintro ⟨h1 | h1, h2⟩
            · exact .inl ⟨h1, h2⟩
            · exact .inr ⟨h1, by rw [← h1]; exact h2⟩
          · rintro (⟨h1, h2⟩ | ⟨h1, h2⟩)
            · exact ⟨.inl h1, h2⟩
            · exact ⟨.inr h1, by rw [h1]; exact h2⟩)
        have HM4 := Lib.hid (hm.mono (d := c + 4 * (j + 1)) (by omega))
        have HS4 := Lib.hid (HSr.out.trans hsm)
        clear hm hsm hcell hst hnt hc1 hc2 he hy
        go_wp2_with fail
        go_roundw
        case rel => exact ⟨j + 1, m + y, S2, by omega, by go_num, by go_num, HNX.out, HST2.out, by have := HM4.out; rwa [Nat.add_assoc] at this, HS4.out⟩
        case measure => simp [intOf]; omega
      · obtain rfl : j = n := by omega
        have HTK := Lib.hid (show L.take j = al G by rw [HN.out, List.take_length, HL.out])
        go_wp2
        go_ret2
        rw [← HTK.out]
        refine ⟨S1, by rw [← HMM.out]; rfl, HST.out, ?_, fun k hk => (HSr.out k (by simp [hk])).trans (HSM2.out k hk)⟩
        rw [← HMM.out]
        exact (HMr.out.sub (fun k hk => List.mem_cons_of_mem _ hk)).mono (by omega)
/-! ### Write, where no sector is bad -/
/-- both sides are gone -/
def lsE (G : Nat → Bool) : Int := if al G = [] then 8 else 0
set_option maxHeartbeats 2000000 in
set_option maxRecDepth 100000 in
theorem Write_no (h : MG w0 Y mm tb bb q pd S G c R w) (b : Int) (d : ByteArray) (hE : irE b d.size ≠ 0) : Calls Tryz.prog 8 #[.pointer (some ⟨mm, 0, none⟩), .int .i64 b, .string d] w fun e w' => e = .returned (.int .i64 (irE b d.size)) ∧ Below w.heap.size w w' := by
  have HM := Lib.hid h
  clear h
  go_enter Tryz.func8, Tryz.ntmps8
  go_wp2_with fail
  refine (irefusal_m HM.out b d).mono ?_
  rintro e w1 ⟨rfl, hb⟩
  have HB := Lib.hid hb
  obtain ⟨x, hx⟩ : ∃ x, x = irE b d.size := ⟨_, rfl⟩
  have HX := Lib.hid hx
  rw [← hx] at hE ⊢
  clear hb hx
  go_wp2
  go_ret
  exact ⟨by rw [HX.out]; rfl, HB.out⟩
set_option maxHeartbeats 2000000 in
set_option maxRecDepth 100000 in
theorem Write_m (h : MG w0 Y mm tb bb q pd S G c R w) (hNB : NoBad S) (hb : b < 14) {d : ByteArray} (hd : d.size = 128) (hc : c ≤ 700000) : Calls Tryz.prog 8 #[.pointer (some ⟨mm, 0, none⟩), .int .i64 (b : Nat), .string d] w fun e w' => ∃ S', e = .returned (.int .i64 (lsE G)) ∧ St S S' G b d (fun t => t ∈ al G) ∧ MG w0 Y mm tb bb q pd S' G (c + 8) R w' ∧ Same Y w w' := by
  have HM := Lib.hid h
  have HC := Lib.hid hc
  have HB := Lib.hid hb
  have HD := Lib.hid hd
  have HNB := Lib.hid hNB
  have HRF := Lib.hid (show irE (b : Int) d.size = 0 by unfold irE rfE; rw [if_neg (by rw [if_neg (by omega)]; simp), if_pos hd])
  clear h hc hb hd hNB
  go_enter Tryz.func8, Tryz.ntmps8
  go_wp2_with fail
  refine (irefusal_m HM.out (b : Int) d).mono ?_
  rintro e w1 ⟨rfl, hb⟩
  rw [HRF.out]
  have HM1 := Lib.hid (HM.out.later hb)
  have HSM1 := Lib.hid (Same.of_belowG HM.out.cg hb)
  clear hb
  go_wp2_with fail
  refine (alive_m HM1.out).mono ?_
  rintro e w2 ⟨av, cap, rfl, hsd, hfr, hb⟩
  have HM2 := Lib.hid (HM1.out.later hb)
  have HSM2 := Lib.hid (show Same Y w w2 from fun j hj => (hb.block j (HM1.out.y j hj).2).trans (HSM1.out j (by simp [hj])))
  obtain ⟨L, hL⟩ : ∃ L, L = al G := ⟨_, rfl⟩
  rw [← hL] at hsd ⊢
  have HL := Lib.hid hL
  obtain ⟨n, hn⟩ : ∃ n, n = L.length := ⟨_, rfl⟩
  have HN := Lib.hid hn
  have hn2 : n ≤ 2 := by rw [hn, hL]; exact al_le G
  rw [← hn]
  by_cases h0 : n = 0
  · have hnil : al G = [] := List.eq_nil_of_length_eq_zero (by rw [← hL, ← hn]; exact h0)
    have HNL := Lib.hid hnil
    have HST := Lib.hid ((St.none (S := S) (G := G) (b := b) (d := d)).iff (Q := fun t => t ∈ al G) (fun t ht => by rw [hnil]; simp))
    subst h0
    clear hsd hfr hb hL hn hnil
    go_wp2
    go_ret
    exact ⟨S, by rw [lsE, if_pos HNL.out]; rfl, HST.out, HM2.out.mono (by omega), HSM2.out⟩
  · have hne : L ≠ [] := fun e => h0 (by rw [hn, e]; rfl)
    have HNE := Lib.hid (show ¬ al G = [] by rw [← hL]; exact hne)
    obtain ⟨z, rfl, hlp⟩ := hsd.lp hne
    obtain ⟨hz1, hz2⟩ := hfr z 0 rfl
    have HM3 := Lib.hid (HM1.out.fresh hb hz1 hz2)
    have HLP := Lib.hid hlp
    clear hsd hfr hb hL hn hne hlp hz1 hz2 HM2 HM1
    have hn0 : ((n : Int) == 0) = false := by simp; omega
    have hn1 : ¬ (n : Int) = 0 := by omega
    go_wp2_with fail
    go_loopw [26, 9] (fun i a wr => ∃ (j : Nat) (S1 : Nat → Sd), j ≤ n ∧ i = .int .i64 j ∧ a = .int .i64 (if j = 0 then 7 else 0) ∧ St S S1 G b d (fun t => t ∈ L.take j) ∧ MG w0 (z :: Y) mm tb bb q pd S1 G (c + 4 * j) R wr ∧ Same (z :: Y) w2 wr) (fun i _ _ => n - (intOf i).toNat)
    case atStart => exact ⟨0, S, Nat.zero_le _, rfl, rfl, (St.none).iff (fun t ht => by simp), HM3.out, Same.refl _ _⟩
    case round =>
      obtain ⟨j, S1, hj, rfl, rfl, hst, hmr, hsr⟩ := hrel
      have HMr := Lib.hid hmr
      have HSr := Lib.hid hsr
      have HST := Lib.hid hst
      clear hmr hsr hst
      obtain ⟨an, han⟩ : ∃ an : Int, an = if j = 0 then 7 else 0 := ⟨_, rfl⟩
      have HAN := Lib.hid han
      rw [← han]
      clear han
      by_cases hlt : j < n
      · obtain ⟨x, hx⟩ : ∃ x, x = L.getD j 0 := ⟨_, rfl⟩
        have hcell := (HLP.out.same (HSr.out z (by simp))) j (by rw [← HN.out]; exact hlt)
        rw [← hx] at hcell
        have hxx := al_at (G := G) (j := j) (by rw [← HL.out, ← HN.out]; exact hlt)
        rw [← HL.out, ← hx] at hxx
        obtain ⟨hx2, hxg⟩ := hxx
        have HX := Lib.hid hx
        have HE := Lib.hid (show wE S1 G x b = 0 by rw [wE_nobad (HST.out.nb HNB.out) HMr.out.good hx2 HB.out, hxg]; rfl)
        clear hx
        go_wp2_with fail
        refine (put_m HMr.out hx2 HB.out HD.out (by have := HC.out; omega)).mono ?_
        rintro e w4 ⟨S2, rfl, hst, hm, hsm⟩
        rw [HE.out]
        have hnt : x ∉ L.take j := by rw [HX.out]; exact not_take (by rw [HL.out]; exact al_nodup G) (by rw [← HN.out]; exact hlt)
        have HST2 := Lib.hid (show St S S2 G b d (fun t => t ∈ L.take (j + 1)) from by
          refine (HST.out.trans hst (fun t ht h1 h2 => hnt (by rw [← h2]; exact h1))).iff (fun t ht => ?_)
          rw [take_next (by rw [← HN.out]; exact hlt), List.mem_append, ← HX.out]
          simp only [List.mem_singleton])
        have HM4 := Lib.hid (hm.mono (d := c + 4 * (j + 1)) (by omega))
        have HS4 := Lib.hid (HSr.out.trans hsm)
        clear hm hsm hcell hst hnt
        go_wp2_with fail
        go_roundw
        case rel => exact ⟨j + 1, S2, by omega, by go_num, by rw [if_neg (by omega)], HST2.out, HM4.out, HS4.out⟩
        case measure => simp [intOf]; omega
      · obtain rfl : j = n := by omega
        have HTK := Lib.hid (show L.take j = al G by rw [HN.out, List.take_length, HL.out])
        go_wp2
        go_ret
        refine ⟨S1, by rw [lsE, if_neg HNE.out, HAN.out, if_neg h0]; rfl, by rw [← HTK.out]; exact HST.out, ?_, fun k hk => (HSr.out k (by simp [hk])).trans (HSM2.out k hk)⟩
        exact (HMr.out.sub (fun k hk => List.mem_cons_of_mem _ hk)).mono (by omega)
/-! ### Flush -/
theorem Flush_n (w : World) : Calls Tryz.prog 9 #[.pointer none] w fun e w' => e = .returned (.int .i64 1) ∧ w = w' := by
  go_enter Tryz.func9, Tryz.ntmps9
  go_wp2
  go_ret
  exact ⟨rfl, rfl⟩
set_option maxHeartbeats 2000000 in
set_option maxRecDepth 100000 in
theorem Flush_m (h : MG w0 Y mm tb bb q pd S G c R w) (hc : c ≤ 700000) : Calls Tryz.prog 9 #[.pointer (some ⟨mm, 0, none⟩)] w fun e w' => e = .returned (.int .i64 (lsE G)) ∧ MG w0 Y mm tb bb q pd S G c R w' ∧ Same Y w w' := by
  have HM := Lib.hid h
  have HC := Lib.hid hc
  clear h hc
  go_enter Tryz.func9, Tryz.ntmps9
  go_wp2_with fail
  refine (alive_m HM.out).mono ?_
  rintro e w2 ⟨av, cap, rfl, hsd, hfr, hb⟩
  have HM2 := Lib.hid (HM.out.later hb)
  have HSM2 := Lib.hid (show Same Y w w2 from fun j hj => hb.block j (HM.out.y j hj).2)
  obtain ⟨L, hL⟩ : ∃ L, L = al G := ⟨_, rfl⟩
  rw [← hL] at hsd ⊢
  have HL := Lib.hid hL
  obtain ⟨n, hn⟩ : ∃ n, n = L.length := ⟨_, rfl⟩
  have HN := Lib.hid hn
  have hn2 : n ≤ 2 := by rw [hn, hL]; exact al_le G
  rw [← hn]
  by_cases h0 : n = 0
  · have HNL := Lib.hid (show al G = [] from List.eq_nil_of_length_eq_zero (by rw [← hL, ← hn]; exact h0))
    subst h0
    clear hsd hfr hb hL hn
    go_wp2
    go_ret
    exact ⟨by rw [lsE, if_pos HNL.out]; rfl, HM2.out, HSM2.out⟩
  · have hne : L ≠ [] := fun e => h0 (by rw [hn, e]; rfl)
    have HNE := Lib.hid (show ¬ al G = [] by rw [← hL]; exact hne)
    obtain ⟨z, rfl, hlp⟩ := hsd.lp hne
    obtain ⟨hz1, hz2⟩ := hfr z 0 rfl
    have HM3 := Lib.hid (HM.out.fresh hb hz1 hz2)
    have HLP := Lib.hid hlp
    clear hsd hfr hb hL hn hne hlp hz1 hz2 HM2 HM
    have hn0 : ((n : Int) == 0) = false := by simp; omega
    have hn1 : ¬ (n : Int) = 0 := by omega
    go_wp2_with fail
    go_loopw [16] (fun i wr => ∃ (j : Nat), j ≤ n ∧ i = .int .i64 j ∧ MG w0 (z :: Y) mm tb bb q pd S G c R wr ∧ Same (z :: Y) w2 wr) (fun i _ => n - (intOf i).toNat)
    case atStart => exact ⟨0, Nat.zero_le _, rfl, HM3.out, Same.refl _ _⟩
    case round =>
      obtain ⟨j, hj, rfl, hmr, hsr⟩ := hrel
      have HMr := Lib.hid hmr
      have HSr := Lib.hid hsr
      have c0 := hmr.c0
      clear hmr hsr
      by_cases hlt : j < n
      · obtain ⟨x, hx⟩ : ∃ x, x = L.getD j 0 := ⟨_, rfl⟩
        have hcell := (HLP.out.same (HSr.out z (by simp))) j (by rw [← HN.out]; exact hlt)
        rw [← hx] at hcell
        have hxx := al_at (G := G) (j := j) (by rw [← HL.out, ← HN.out]; exact hlt)
        rw [← HL.out, ← hx] at hxx
        obtain ⟨hx2, hxg⟩ := hxx
        clear hx
        go_wp2_with fail
        refine (flush_g HMr.out.cg hx2 (by have := HC.out; omega)).mono ?_
        rintro e w4 ⟨rfl, hcg, hsm⟩
        rw [hxg, if_neg (by decide)]
        have HM4 := Lib.hid (HMr.out.read hcg hsm)
        have HS4 := Lib.hid (HSr.out.trans (same_y hsm))
        clear hcg hsm hcell
        go_wp2_with fail
        go_roundw
        case rel => exact ⟨j + 1, by omega, by go_num, HM4.out, HS4.out⟩
        case measure => simp [intOf]; omega
      · obtain rfl : j = n := by omega
        go_wp2
        go_ret
        exact ⟨by rw [lsE, if_neg HNE.out]; rfl, HMr.out.sub (fun k hk => List.mem_cons_of_mem _ hk), fun k hk => (HSr.out k (by simp [hk])).trans (HSM2.out k hk)⟩
end
end Go.Proofs.YtgoampbebjfenaaGreatDoor.Mir

/- Layer 8 (mirror): contracts of New, Pair, Read, Check, Repairs, Degraded, and of a nil mirror. -/
namespace Go.Proofs.YtgoampbebjfenaaGreatDoor.Mir
open Go Go.RowKit Go.Proofs.YtgoampbebjfenaaGreatDoor Dev Tab Rem Go.Maps Go.WideMaps
set_option linter.unusedVariables false

def lsR (G : Nat → Bool) : Int := if al G = [] then 8 else 10
theorem fndV_none {S : Nat → Sd} {G : Nat → Bool} {b : Nat} {g k : Int} (h : fnd S G b g k = none) : fndV S G b g k = .tuple #[.int .i64 0, .string ⟨#[]⟩, .int .i64 (lsR G)] := by unfold fndV lsR; rw [h]
theorem fndV_some {S : Nat → Sd} {G : Nat → Bool} {b : Nat} {g k : Int} {s : Nat} {t : ByteArray} (h : fnd S G b g k = some s) (ht : cont S G s b = some t) : fndV S G b g k = .tuple #[.int .i64 (s : Nat), .string t, .int .i64 0] := by unfold fndV; rw [h]; simp only [ht]; rfl
theorem lsR_ne (G : Nat → Bool) : lsR G ≠ 0 := by unfold lsR; split <;> decide
theorem fnd_mem {S : Nat → Sd} {G : Nat → Bool} {b : Nat} {g k : Int} {s : Nat} (h : fnd S G b g k = some s) : s < 2 ∧ G s = false ∧ wh (cont S G s b) (b : Int) g k = true :=
  ⟨(al_mem.1 (List.mem_of_find?_eq_some h)).1, (al_mem.1 (List.mem_of_find?_eq_some h)).2, by simpa using List.find?_some h⟩
section
variable {w0 w w' : World} {X Y Z : List Nat} {q c mm tb bb R s b : Nat} {pd : Nat → Nat} {S : Nat → Sd} {G : Nat → Bool}
set_option maxHeartbeats 2000000 in
set_option maxRecDepth 100000 in
theorem Read_no (h : MG w0 Y mm tb bb q pd S G c R w) (a g k : Int) (ha : rfE a = 3) : Calls Tryz.prog 14 #[.pointer (some ⟨mm, 0, none⟩), ptrV a g k] w fun e w' => e = .returned (.tuple #[.int .u8 0, .string ⟨#[]⟩, .int .i64 3]) ∧ Below w.heap.size w w' := by
  have HM := Lib.hid (h.new (.cells #[.int .i64 a, .int .u64 g, .int .u32 k] 35))
  have HB := Lib.hid (b_new w (.cells #[.int .i64 a, .int .u64 g, .int .u32 k] 35))
  clear h
  go_enter Tryz.func14, Tryz.ntmps14
  go_wp2_with fail
  refine (find_no HM.out a g k ha).mono ?_
  rintro e w1 ⟨rfl, hb⟩
  have HB1 := Lib.hid (HB.out.trans (hb.mono HB.out.size))
  clear hb
  go_wp2
  go_ret3
  exact ⟨rfl, HB1.out⟩
set_option maxHeartbeats 2000000 in
set_option maxRecDepth 100000 in
theorem Read_none (h : MG w0 Y mm tb bb q pd S G c R w) (hb : b < 14) (hc : c ≤ 700000) (g k : Int) (hF : fnd S G b g k = none) : Calls Tryz.prog 14 #[.pointer (some ⟨mm, 0, none⟩), ptrV (b : Nat) g k] w fun e w' => e = .returned (.tuple #[.int .u8 0, .string ⟨#[]⟩, .int .i64 (lsR G)]) ∧ MG w0 Y mm tb bb q pd S G c R w' ∧ Same Y w w' := by
  have HM := Lib.hid (h.new (.cells #[.int .i64 (b : Nat), .int .u64 g, .int .u32 k] 35))
  have HS := Lib.hid (show Same Y w (w.alloc (.cells #[.int .i64 (b : Nat), .int .u64 g, .int .u32 k] 35)) from fun j hj => (b_new w _).block j (h.y j hj).2)
  have HF := Lib.hid (fndV_none hF)
  have HB := Lib.hid hb
  have HC := Lib.hid hc
  have hl := lsR_ne G
  obtain ⟨x, hx⟩ : ∃ x, x = lsR G := ⟨_, rfl⟩
  rw [← hx] at hl
  have HX := Lib.hid hx
  clear h hF hb hc hx
  go_enter Tryz.func14, Tryz.ntmps14
  go_wp2_with fail
  refine (find_m HM.out HB.out (by have := HC.out; omega) _ g k rfl).mono ?_
  rintro e w1 ⟨rfl, hm, hsm⟩
  rw [HF.out, ← HX.out]
  have HM1 := Lib.hid (hm.sub (Z := Y) (fun k hk => List.mem_cons_of_mem _ hk))
  have HS1 := Lib.hid (show Same Y w w1 from fun j hj => (hsm j (by simp [hj])).trans (HS.out j hj))
  clear hm hsm
  go_wp2
  go_ret3
  exact ⟨by rw [← HX.out]; rfl, HM1.out, HS1.out⟩
theorem mg_fin {p : Nat} {w2 w3 : World} (h : MG w0 (p :: Y) mm tb bb q pd S G c R w2) (hs : Same Y w w2) (hb : Below w2.heap.size w2 w3) : MG w0 Y mm tb bb q pd S G c R w3 ∧ Same Y w w3 :=
  ⟨(h.later hb).sub (fun k hk => List.mem_cons_of_mem _ hk), fun j hj => (hb.block j (h.y j (by simp [hj])).2).trans (hs j hj)⟩
/-- which side's copy Read writes anew, when it finds the side s's -/
def rdP (G : Nat → Bool) (s : Nat) : Nat → Prop := fun u => u = 0 ∧ s = 1 ∧ G 0 = false
/-- how many copies Read writes anew, when it finds the side s's -/
def rdN (S : Nat → Sd) (G : Nat → Bool) (s b : Nat) : Nat := if s = 1 ∧ G 0 = false then rpN S G 0 b else 0
theorem rdN_le : rdN S G s b ≤ 1 := by unfold rdN; split
                                       · exact rpN_le
                                       · omega
set_option maxHeartbeats 2000000 in
set_option maxRecDepth 100000 in
theorem Read_some (h : MG w0 Y mm tb bb q pd S G c R w) (hb : b < 14) (hc : c ≤ 700000) (hR : R ≤ 900000) (g k : Int) {s : Nat} {t : ByteArray} (hF : fnd S G b g k = some s) (ht : cont S G s b = some t) : Calls Tryz.prog 14 #[.pointer (some ⟨mm, 0, none⟩), ptrV (b : Nat) g k] w fun e w' => ∃ S', e = .returned (.tuple #[.int .u8 (Env.oK t.data.toList), .string (Env.oP t.data.toList), .int .i64 0]) ∧ St S S' G b t (rdP G s) ∧ MG w0 Y mm tb bb q pd S' G (c + 4) (R + rdN S G s b) w' ∧ Same Y w w' := by
  have HM := Lib.hid (h.new (.cells #[.int .i64 (b : Nat), .int .u64 g, .int .u32 k] 35))
  have hhas := Has.new w [.int .i64 (b : Nat), .int .u64 g, .int .u32 k] 35
  have HS := Lib.hid (show Same Y w (w.alloc (.cells #[.int .i64 (b : Nat), .int .u64 g, .int .u32 k] 35)) from fun j hj => (b_new w _).block j (h.y j hj).2)
  have HFV := Lib.hid (fndV_some hF ht)
  obtain ⟨hs2, hsg, -⟩ := fnd_mem hF
  have HTZ := Lib.hid (cont_size h.cg hs2 hb ht)
  have HB := Lib.hid hb
  have HC := Lib.hid hc
  have HRR := Lib.hid hR
  obtain ⟨p, hp⟩ : ∃ p, p = w.heap.size := ⟨_, rfl⟩
  rw [← hp] at HM hhas
  have HH := Lib.hid hhas
  have HP := Lib.hid hp
  have HO := Lib.hid (show Env.open3V t.data.toList = .tuple #[.agg #[.int .u8 (Env.oK t.data.toList), .int .i64 (Env.oA t.data.toList), .int .u64 (Env.oG t.data.toList)], .string (Env.oP t.data.toList), .int .i64 (Env.opE t.data.toList)] from rfl)
  obtain ⟨k1, hk1⟩ : ∃ x, x = Env.oK t.data.toList := ⟨_, rfl⟩
  obtain ⟨k2, hk2⟩ : ∃ x, x = Env.oA t.data.toList := ⟨_, rfl⟩
  obtain ⟨k3, hk3⟩ : ∃ x, x = Env.oG t.data.toList := ⟨_, rfl⟩
  obtain ⟨k4, hk4⟩ : ∃ x, x = Env.oP t.data.toList := ⟨_, rfl⟩
  obtain ⟨k5, hk5⟩ : ∃ x, x = Env.opE t.data.toList := ⟨_, rfl⟩
  rw [← hk1, ← hk2, ← hk3, ← hk4, ← hk5] at HO
  rw [← hk1, ← hk4]
  clear h hF hb hc hR hhas hp hk1 hk2 hk3 hk4 hk5
  go_enter Tryz.func14, Tryz.ntmps14
  go_wp2_with fail
  refine (find_m HM.out HB.out (by have := HC.out; omega) _ g k rfl).mono ?_
  rintro e w1 ⟨rfl, hm, hsm⟩
  rw [HFV.out, ← HP.out]
  have HM1 := Lib.hid hm
  have HH1 := Lib.hid (Has.same HH.out (hsm p (by simp)))
  have HS1 := Lib.hid (show Same Y w w1 from fun j hj => (hsm j (by simp [hj])).trans (HS.out j hj))
  have c0 := hm.c0
  have c1 := hm.c1
  clear hm hsm HM HH HS
  rcases (show s = 0 ∨ s = 1 by omega) with rfl | rfl
  · have HN := Lib.hid (show rdN S G 0 b = 0 by unfold rdN; rw [if_neg (by omega)])
    have HST := Lib.hid ((St.none (S := S) (G := G) (b := b) (d := t)).iff (Q := rdP G 0) (fun u hu => ⟨fun h => (by have := h.2.1; omega), fun h => h.elim⟩))
    go_wp2_with fail
    refine (Env.open_any tb t _ HM1.out.tab (by rw [HTZ.out]; omega)).mono ?_
    rintro e w2 ⟨rfl, hb⟩
    rw [HO.out]
    have HM2 := Lib.hid (HM1.out.later hb)
    have HS2 := Lib.hid (show Same Y w w2 from fun j hj => (hb.block j (HM1.out.y j (by simp [hj])).2).trans (HS1.out j hj))
    clear hb
    go_wp2
    go_ret3
    rw [HN.out]
    exact ⟨S, rfl, HST.out, mg_fin (HM2.out.mono (by omega)) HS2.out (by
      repeat (first | exact Below.refl _ _ | apply Env.below_nw | refine Env.below_st ?_ (Nat.le_refl _) _))⟩
  · cases hG : G 0 with
    | true =>
      have HN := Lib.hid (show rdN S G 1 b = 0 by unfold rdN; rw [if_neg (by rw [hG]; simp)])
      have HST := Lib.hid ((St.none (S := S) (G := G) (b := b) (d := t)).iff (Q := rdP G 1) (fun u hu => ⟨fun h => (by have h2 := h.2.2; rw [hG] at h2; cases h2), fun h => h.elim⟩))
      go_wp2_with fail
      refine (alive_g HM1.out.cg (s := 0) (by omega)).mono ?_
      rintro e w2 ⟨rfl, rfl⟩
      rw [hG]
      go_wp2_with fail
      refine (Env.open_any tb t _ HM1.out.tab (by rw [HTZ.out]; omega)).mono ?_
      rintro e w2 ⟨rfl, hb⟩
      rw [HO.out]
      have HM2 := Lib.hid (HM1.out.later hb)
      have HS2 := Lib.hid (show Same Y w w2 from fun j hj => (hb.block j (HM1.out.y j (by simp [hj])).2).trans (HS1.out j hj))
      clear hb
      go_wp2
      go_ret3
      rw [HN.out]
      exact ⟨S, rfl, HST.out, mg_fin (HM2.out.mono (by omega)) HS2.out (by
        repeat (first | exact Below.refl _ _ | apply Env.below_nw | refine Env.below_st ?_ (Nat.le_refl _) _))⟩
    | false =>
      have HN := Lib.hid (show rdN S G 1 b = rpN S G 0 b by unfold rdN; rw [if_pos ⟨rfl, hG⟩])
      go_wp2_with fail
      refine (alive_g HM1.out.cg (s := 0) (by omega)).mono ?_
      rintro e w2 ⟨rfl, rfl⟩
      rw [hG]
      have x0 := HH1.out.cell 0
      simp only [List.getElem?_cons_zero] at x0
      go_wp2_with fail
      refine (repair_m HM1.out (s := 0) (by omega) HB.out HTZ.out (by have := HC.out; omega) (by have := HRR.out; omega)).mono ?_
      rintro e w2 ⟨S1, rfl, hst, hm, hsm⟩
      have HST := Lib.hid (hst.iff (Q := rdP G 1) (fun u hu => ⟨fun h => h.1, fun h => ⟨h, rfl, hG⟩⟩))
      have HM2 := Lib.hid hm
      have HS2 := Lib.hid (show Same Y w w2 from fun j hj => (hsm j (by simp [hj])).trans (HS1.out j hj))
      have c1 := hm.c1
      clear hst hm hsm x0 c0
      go_wp2_with fail
      refine (Env.open_any tb t _ HM2.out.tab (by rw [HTZ.out]; omega)).mono ?_
      rintro e w3 ⟨rfl, hb⟩
      rw [HO.out]
      have HM3 := Lib.hid (HM2.out.later hb)
      have HS3 := Lib.hid (show Same Y w w3 from fun j hj => (hb.block j (HM2.out.y j (by simp [hj])).2).trans (HS2.out j hj))
      clear hb
      go_wp2
      go_ret3
      rw [HN.out]
      exact ⟨S1, rfl, HST.out, mg_fin HM3.out HS3.out (by
        repeat (first | exact Below.refl _ _ | apply Env.below_nw | refine Env.below_st ?_ (Nat.le_refl _) _))⟩
set_option maxHeartbeats 2000000 in
set_option maxRecDepth 100000 in
theorem Check_no (h : MG w0 Y mm tb bb q pd S G c R w) (a g k : Int) (ha : rfE a = 3) : Calls Tryz.prog 15 #[.pointer (some ⟨mm, 0, none⟩), ptrV a g k] w fun e w' => e = .returned (.tuple #[.int .i64 0, .int .i64 3]) ∧ Below w.heap.size w w' := by
  have HM := Lib.hid (h.new (.cells #[.int .i64 a, .int .u64 g, .int .u32 k] 35))
  have HB := Lib.hid (b_new w (.cells #[.int .i64 a, .int .u64 g, .int .u32 k] 35))
  clear h
  go_enter Tryz.func15, Tryz.ntmps15
  go_wp2_with fail
  refine (find_no HM.out a g k ha).mono ?_
  rintro e w1 ⟨rfl, hb⟩
  have HB1 := Lib.hid (HB.out.trans (hb.mono HB.out.size))
  clear hb
  go_wp2
  go_ret2
  exact ⟨rfl, HB1.out⟩
set_option maxHeartbeats 2000000 in
set_option maxRecDepth 100000 in
theorem Check_none (h : MG w0 Y mm tb bb q pd S G c R w) (hb : b < 14) (hc : c ≤ 700000) (g k : Int) (hF : fnd S G b g k = none) : Calls Tryz.prog 15 #[.pointer (some ⟨mm, 0, none⟩), ptrV (b : Nat) g k] w fun e w' => e = .returned (.tuple #[.int .i64 0, .int .i64 (lsR G)]) ∧ MG w0 Y mm tb bb q pd S G c R w' ∧ Same Y w w' := by
  have HM := Lib.hid (h.new (.cells #[.int .i64 (b : Nat), .int .u64 g, .int .u32 k] 35))
  have HS := Lib.hid (show Same Y w (w.alloc (.cells #[.int .i64 (b : Nat), .int .u64 g, .int .u32 k] 35)) from fun j hj => (b_new w _).block j (h.y j hj).2)
  have HF := Lib.hid (fndV_none hF)
  have HB := Lib.hid hb
  have HC := Lib.hid hc
  have hl := lsR_ne G
  obtain ⟨x, hx⟩ : ∃ x, x = lsR G := ⟨_, rfl⟩
  rw [← hx] at hl
  have HX := Lib.hid hx
  clear h hF hb hc hx
  go_enter Tryz.func15, Tryz.ntmps15
  go_wp2_with fail
  refine (find_m HM.out HB.out (by have := HC.out; omega) _ g k rfl).mono ?_
  rintro e w1 ⟨rfl, hm, hsm⟩
  rw [HF.out, ← HX.out]
  have HM1 := Lib.hid (hm.sub (Z := Y) (fun k hk => List.mem_cons_of_mem _ hk))
  have HS1 := Lib.hid (show Same Y w w1 from fun j hj => (hsm j (by simp [hj])).trans (HS.out j hj))
  clear hm hsm
  go_wp2
  go_ret2
  exact ⟨by rw [← HX.out]; rfl, HM1.out, HS1.out⟩
set_option maxHeartbeats 2000000 in
set_option maxRecDepth 100000 in
theorem Check_some (h : MG w0 Y mm tb bb q pd S G c R w) (hb : b < 14) (hc : c ≤ 700000) (hR : R ≤ 900000) (g k : Int) {s : Nat} {t : ByteArray} (hF : fnd S G b g k = some s) (ht : cont S G s b = some t) : Calls Tryz.prog 15 #[.pointer (some ⟨mm, 0, none⟩), ptrV (b : Nat) g k] w fun e w' => ∃ S', e = .returned (.tuple #[.int .i64 (hSum S G b t (al G) : Nat), .int .i64 0]) ∧ St S S' G b t (fun u => u ∈ al G ∧ cont S G u b ≠ some t) ∧ MG w0 Y mm tb bb q pd S' G (c + 8) (R + hSum S G b t (al G)) w' ∧ Same Y w w' := by
  have HM := Lib.hid (h.new (.cells #[.int .i64 (b : Nat), .int .u64 g, .int .u32 k] 35))
  have hhas := Has.new w [.int .i64 (b : Nat), .int .u64 g, .int .u32 k] 35
  have HS := Lib.hid (show Same Y w (w.alloc (.cells #[.int .i64 (b : Nat), .int .u64 g, .int .u32 k] 35)) from fun j hj => (b_new w _).block j (h.y j hj).2)
  have HFV := Lib.hid (fndV_some hF ht)
  obtain ⟨hs2, hsg, -⟩ := fnd_mem hF
  have HTZ := Lib.hid (cont_size h.cg hs2 hb ht)
  have HB := Lib.hid hb
  have HC := Lib.hid hc
  have HRR := Lib.hid hR
  obtain ⟨p, hp⟩ : ∃ p, p = w.heap.size := ⟨_, rfl⟩
  rw [← hp] at HM hhas
  have HH := Lib.hid hhas
  have HP := Lib.hid hp
  clear h hF hb hc hR hhas hp
  go_enter Tryz.func15, Tryz.ntmps15
  go_wp2_with fail
  refine (find_m HM.out HB.out (by have := HC.out; omega) _ g k rfl).mono ?_
  rintro e w1 ⟨rfl, hm, hsm⟩
  rw [HFV.out, ← HP.out]
  have HM1 := Lib.hid hm
  have x0 := (Has.same HH.out (hsm p (by simp))).cell 0
  simp only [List.getElem?_cons_zero] at x0
  have HS1 := Lib.hid (show Same Y w w1 from fun j hj => (hsm j (by simp [hj])).trans (HS.out j hj))
  clear hm hsm HM HH HS
  go_wp2_with fail
  refine (Heal_m HM1.out HB.out HTZ.out HC.out HRR.out).mono ?_
  rintro e w2 ⟨S1, rfl, hst, hm, hsm⟩
  have HST := Lib.hid hst
  have HM2 := Lib.hid (hm.sub (Z := Y) (fun k hk => List.mem_cons_of_mem _ hk))
  have HS2 := Lib.hid (show Same Y w w2 from fun j hj => (hsm j (by simp [hj])).trans (HS1.out j hj))
  clear hst hm hsm
  go_wp2
  go_ret2
  exact ⟨S1, rfl, HST.out, HM2.out, HS2.out⟩
/-! ### small ones -/
theorem Pair_m (h : MG w0 Y mm tb bb q pd S G c R w) : Calls Tryz.prog 17 #[.pointer (some ⟨mm, 0, none⟩)] w fun e w' => e = .returned (.pointer (some ⟨q, 0, none⟩)) ∧ w = w' := by
  have c0 := h.c0
  clear h
  go_enter Tryz.func17, Tryz.ntmps17
  go_wp2
  go_ret
  exact ⟨rfl, rfl⟩
theorem Repairs_m (h : MG w0 Y mm tb bb q pd S G c R w) : Calls Tryz.prog 23 #[.pointer (some ⟨mm, 0, none⟩)] w fun e w' => e = .returned (.int .i64 (R : Nat)) ∧ w = w' := by
  have c2 := h.c2
  clear h
  go_enter Tryz.func23, Tryz.ntmps23
  go_wp2
  go_ret
  exact ⟨rfl, rfl⟩
theorem Pair_n (w : World) : Calls Tryz.prog 17 #[.pointer none] w fun e w' => e = .returned (.pointer none) ∧ w = w' := by
  go_enter Tryz.func17, Tryz.ntmps17
  go_wp2
  go_ret
  exact ⟨rfl, rfl⟩
theorem Repairs_n (w : World) : Calls Tryz.prog 23 #[.pointer none] w fun e w' => e = .returned (.int .i64 0) ∧ w = w' := by
  go_enter Tryz.func23, Tryz.ntmps23
  go_wp2
  go_ret
  exact ⟨rfl, rfl⟩
theorem Bad_n (w : World) : Calls Tryz.prog 16 #[.pointer none] w fun e w' => e = .returned (.slice none 0 0) ∧ w = w' := by
  go_enter Tryz.func16, Tryz.ntmps16
  go_wp2
  go_ret
  exact ⟨rfl, rfl⟩
theorem Write_n (b : Int) (t : ByteArray) (w : World) : Calls Tryz.prog 8 #[.pointer none, .int .i64 b, .string t] w fun e w' => e = .returned (.int .i64 1) ∧ w = w' := by
  go_enter Tryz.func8, Tryz.ntmps8
  go_wp2_with fail
  refine (irefusal_n b t w).mono ?_
  rintro e w' ⟨rfl, rfl⟩
  go_wp2
  go_ret
  exact ⟨rfl, rfl⟩
theorem Heal_n (b : Int) (t : ByteArray) (w : World) : Calls Tryz.prog 47 #[.pointer none, .int .i64 b, .string t] w fun e w' => e = .returned (.tuple #[.int .i64 0, .int .i64 1]) ∧ w = w' := by
  go_enter Tryz.func47, Tryz.ntmps47
  go_wp2_with fail
  refine (irefusal_n b t w).mono ?_
  rintro e w' ⟨rfl, rfl⟩
  go_wp2
  go_ret2
  exact ⟨rfl, rfl⟩
theorem find_n (a g k : Int) (w : World) : Calls Tryz.prog 43 #[.pointer none, ptrV a g k] w fun e w' => e = .returned (.tuple #[.int .i64 0, .string ⟨#[]⟩, .int .i64 1]) ∧ Below w.heap.size w w' := by
  go_enter Tryz.func43, Tryz.ntmps43
  go_wp2_with fail
  refine (refusal_n a _).mono ?_
  rintro e w' ⟨rfl, rfl⟩
  go_wp2
  go_ret3
  exact ⟨rfl, b_new _ _⟩
theorem Check_n (a g k : Int) (w : World) : Calls Tryz.prog 15 #[.pointer none, ptrV a g k] w fun e w' => e = .returned (.tuple #[.int .i64 0, .int .i64 1]) ∧ Below w.heap.size w w' := by
  have HB := Lib.hid (b_new w (.cells #[.int .i64 a, .int .u64 g, .int .u32 k] 35))
  go_enter Tryz.func15, Tryz.ntmps15
  go_wp2_with fail
  refine (find_n a g k _).mono ?_
  rintro e w' ⟨rfl, hb⟩
  have HB1 := Lib.hid (HB.out.trans (hb.mono HB.out.size))
  clear hb
  go_wp2
  go_ret2
  exact ⟨rfl, HB1.out⟩
theorem Read_n (a g k : Int) (w : World) : Calls Tryz.prog 14 #[.pointer none, ptrV a g k] w fun e w' => e = .returned (.tuple #[.int .u8 0, .string ⟨#[]⟩, .int .i64 1]) ∧ Below w.heap.size w w' := by
  have HB := Lib.hid (b_new w (.cells #[.int .i64 a, .int .u64 g, .int .u32 k] 35))
  go_enter Tryz.func14, Tryz.ntmps14
  go_wp2_with fail
  refine (find_n a g k _).mono ?_
  rintro e w' ⟨rfl, hb⟩
  have HB1 := Lib.hid (HB.out.trans (hb.mono HB.out.size))
  clear hb
  go_wp2
  go_ret3
  exact ⟨rfl, HB1.out⟩
end
end Go.Proofs.YtgoampbebjfenaaGreatDoor.Mir

/- Layer 8 (mirror): contracts of New, Images, Whole. -/
namespace Go.Proofs.YtgoampbebjfenaaGreatDoor.Mir
open Go Go.RowKit Go.Proofs.YtgoampbebjfenaaGreatDoor Dev Tab Rem Go.Maps Go.WideMaps
set_option linter.unusedVariables false

def noG : Nat → Bool := fun _ => false
theorem al_no : al noG = [0, 1] := rfl
theorem isTab_lt {w : World} {b : Nat} (h : Sum.IsTab w b) : b < w.heap.size := by
  have := h 0 (by omega)
  rcases Nat.lt_or_ge b w.heap.size with h1 | h1
  · exact h1
  · unfold World.cell? at this; rw [Array.getElem?_eq_none h1] at this; cases this
section
variable {w0 w w' : World} {X Y Z : List Nat} {q c mm tb bb R s b : Nat} {pd : Nat → Nat} {S : Nat → Sd} {G : Nat → Bool}
theorem New_n (w : World) : Calls Tryz.prog 22 #[.pointer none] w fun e w' => e = .returned (.tuple #[.pointer none, .int .i64 1]) ∧ w = w' := by
  go_enter Tryz.func22, Tryz.ntmps22
  go_wp2
  go_ret2
  exact ⟨rfl, rfl⟩
set_option maxRecDepth 100000 in
theorem New_m (h : CP w0 Y q pd S c w) (hS : ∀ t, t < 2 → Spare (S t)) : Calls Tryz.prog 22 #[.pointer (some ⟨q, 0, none⟩)] w fun e w' => ∃ mm tb bb, e = .returned (.tuple #[.pointer (some ⟨mm, 0, none⟩), .int .i64 0]) ∧ MG w0 Y mm tb bb q pd S noG c 0 w' ∧ Same Y w w' := by
  have HC := Lib.hid h.cg
  have HS := Lib.hid hS
  clear h hS
  go_enter Tryz.func22, Tryz.ntmps22
  go_wp2_with fail
  refine (Sum.make_any w).mono ?_
  rintro e w1 ⟨tb, rfl, htb, htab, hb⟩
  have hlt := isTab_lt htab
  have HC1 := Lib.hid (HC.out.fresh hb htb hlt)
  have HB1 := Lib.hid hb
  have HT := Lib.hid htab
  have HLT := Lib.hid (And.intro htb hlt)
  clear htb hlt hb htab
  have hmm := @run_makeMap Tryz.prog
  go_wp2

  go_ret2
  have hc2 := (HC1.out.new (.map #[] 0)).new (.cells (mrow q tb w1.heap.size 0).toArray 84)
  obtain ⟨ht1, ht2⟩ := HLT.out
  have hnY : ∀ k, w.heap.size ≤ k → k ∉ Y := fun k hk e => by have := (HC.out.x k e).2; omega
  have hsz : (w1.alloc (.map #[] 0)).heap.size = w1.heap.size + 1 := by simp
  refine ⟨w1.heap.size + 1, tb, w1.heap.size, by simp, ?_, ?_⟩
  · refine ⟨?_, ⟨HS.out, .inl (fun t ht => rfl)⟩, ?_, ?_, by omega, ⟨hnY _ (by have := HB1.out.size; omega), hnY _ ht1, hnY _ HB1.out.size⟩, 0, .map [], Nat.zero_le _, ?_, ?_⟩
    · have := hc2.sub (Y := (w1.heap.size + 1) :: tb :: w1.heap.size :: Y) (fun k hk => by rw [hsz]; simp at hk ⊢; rcases hk with rfl | rfl | rfl | hk <;> simp [*])
      exact this
    · have := Has.new (w1.alloc (.map #[] 0)) (mrow q tb w1.heap.size 0) 84
      rw [hsz] at this
      exact this
    · refine tab_same HT.out ?_
      rw [Below.heap_alloc _ _ _ (by rw [hsz]; omega), Below.heap_alloc _ _ _ ht2]
    · have := World.ownsMap_made (H := Unit) w1 Tryz.prog 123 badR
      exact mapB_same this (Below.heap_alloc _ _ _ (by rw [hsz]; omega))
    · exact ⟨isMap_empty, fun z hz => by cases hz⟩
  · intro k hk
    have := (HC.out.x k hk).2
    have := HB1.out.size
    rw [Below.heap_alloc _ _ _ (by rw [hsz]; omega), Below.heap_alloc _ _ _ (by omega)]
    exact HB1.out.block k (HC.out.x k hk).2
/-! ### Images, of blocks that both sides read -/
theorem own_same {w w' : World} {B n sz : Nat} {e : TypeId} {v : Value} {xs : List Value} (h : w.ownsRow B e sz v n xs) (hk : ∀ k, v.ownBlock = some k → w'.heap[k]? = w.heap[k]?) : w'.ownsRow B e sz v n xs := by
  refine ⟨h.1, ?_⟩
  rcases h.2 with h2 | ⟨g, cap, cur, rfl, hb, hc, h3⟩
  · exact .inl h2
  · exact .inr ⟨g, cap, cur, rfl, hb, (hk g rfl).trans hc, h3⟩
theorem _root_.Go.Proofs.YtgoampbebjfenaaGreatDoor.Mir.MG.grow {w0 w w' : World} {Y : List Nat} {q c mm tb bb R : Nat} {pd : Nat → Nat} {S : Nat → Sd} {G : Nat → Bool} {row : Option Nat} (h : MG w0 Y mm tb bb q pd S G c R w) (hg : w.grownBy w' row) (hr : ∀ k, row = some k → k ∈ Y) : MG w0 Y mm tb bb q pd S G c R w' := by
  have hblk : ∀ k, k ∉ Y → k < w.heap.size → w'.heap[k]? = w.heap[k]? := fun k h1 h2 => hg.block k h2 (fun e => h1 (hr k e.symm))
  obtain ⟨n, D, h1, h2, h3⟩ := h.map
  exact ⟨h.cg.chg ((Chg.refl _ w).grown hg (fun k _ hk => by simp [hr k hk])), h.fit, Has.same h.row (hblk mm h.my.1 h.lt), tab_same h.tab (hblk tb h.my.2.1 (h.cg.x tb (by simp)).2), h.mt, h.my, n, D, h1, mapB_same h2 (hblk bb h.my.2.2 (h.cg.x bb (by simp)).2), h3⟩
theorem info_str8 : (Tryz.prog.info? 9).map (fun i => (i.zero, i.size, i.bytes)) = some (some (.string ⟨#[]⟩), 1, 16) := by kernel_rfl
end
end Go.Proofs.YtgoampbebjfenaaGreatDoor.Mir

/- Layer 8 (mirror): contract of Whole, where no side is gone. -/
namespace Go.Proofs.YtgoampbebjfenaaGreatDoor.Mir
open Go Go.RowKit Go.Proofs.YtgoampbebjfenaaGreatDoor Dev Tab Rem Go.Maps Go.WideMaps
set_option linter.unusedVariables false
section
variable {w0 w w' : World} {X Y Z : List Nat} {q c mm tb bb R s b : Nat} {pd : Nat → Nat} {S : Nat → Sd} {G : Nat → Bool}
theorem MG.chg (h : MG w0 Y mm tb bb q pd S G c R w) (hc : Chg (fun k => k ∈ Y) w w') : MG w0 Y mm tb bb q pd S G c R w' := by
  have hblk : ∀ k, k ∉ Y → k < w.heap.size → w'.heap[k]? = w.heap[k]? := fun k h1 h2 => hc.block k h2 h1
  obtain ⟨n, D, h1, h2, h3⟩ := h.map
  exact ⟨h.cg.chg (hc.mono (fun k _ hk => by simp [hk])), h.fit, Has.same h.row (hblk mm h.my.1 h.lt), tab_same h.tab (hblk tb h.my.2.1 (h.cg.x tb (by simp)).2), h.mt, h.my, n, D, h1, mapB_same h2 (hblk bb h.my.2.2 (h.cg.x bb (by simp)).2), h3⟩
/-- what was told so far -/
def wv (a0 a1 : Bool) (j : Nat) : List Value := if j = 0 then [.bool false, .bool false] else if j = 1 then [.bool a0, .bool false] else [.bool a0, .bool a1]
end
end Go.Proofs.YtgoampbebjfenaaGreatDoor.Mir

/- Layer 8's laws: images, garbled bytes, fresh, sealed, wakes. -/
namespace Go.Proofs.YtgoampbebjfenaaGreatDoor.Mir
open Go Go.RowKit Go.Proofs.YtgoampbebjfenaaGreatDoor Dev Tab Rem Go.Maps Go.WideMaps
set_option linter.unusedVariables false

/-! ### images -/
def imT (a g : Int) (s : ByteArray) : ByteArray := Env.sealS 128 4 a g s.data.toList
def ckT (a g : Int) (s : ByteArray) : Int := Env.sealC 128 4 a g s.data.toList
structure Okay (a g : Int) (s : ByteArray) : Prop where
  a0 : 0 ≤ a
  a1 : a ≤ 2147483647
  g0 : 0 ≤ g
  g1 : g < 18446744073709551616
  s : s.size ≤ 104
section
variable {a g a' g' : Int} {s s' : ByteArray}
theorem Okay.len (h : Okay a g s) : s.data.toList.length ≤ 104 := by have := h.s; simpa using this
theorem Okay.hd (h : Okay a g s) : Env.hdB 4 a = true := by have := h.a0; have := h.a1; simp [Env.hdB, Env.adB]; omega
theorem Okay.e (h : Okay a g s) : Env.sealE 128 4 a s.data.toList = 0 := Env.sealE_ok (by decide) h.hd (by have := h.len; omega)
theorem Okay.v (h : Okay a g s) : Env.sealV 128 4 a g s.data.toList = .tuple #[.string (imT a g s), ptrV a g (ckT a g s), .int .i64 0] := by
  unfold Env.sealV imT ckT
  rw [h.e, show Env.sealA 128 4 a s.data.toList = a from if_pos h.e, show Env.sealG 128 4 a g s.data.toList = g from if_pos h.e]
theorem Okay.data (h : Okay a g s) : (imT a g s).data.toList = Env.imgL 4 a g 104 s.data.toList := by
  unfold imT Env.sealS
  rw [if_pos h.e]
  exact Lend.strOf_data _
theorem Okay.size (h : Okay a g s) : (imT a g s).size = 128 := by
  have := Env.imgL_length 4 a g 104 s.data.toList h.len
  rw [← h.data] at this
  simpa using this
theorem Okay.o (h : Okay a g s) : Env.opE (imT a g s).data.toList = 0 ∧ Env.oK (imT a g s).data.toList = 4 ∧ Env.oA (imT a g s).data.toList = a ∧ Env.oG (imT a g s).data.toList = g ∧ Env.oC (imT a g s).data.toList = ckT a g s ∧ Env.oP (imT a g s).data.toList = s := by
  rw [h.data]
  obtain ⟨h1, h2, h3, h4, h5, h6⟩ := Env.img_o (m := 104) h.hd h.g0 h.g1 h.len (by omega) (by omega)
  refine ⟨h1, h2, h3, h4, ?_, h6.trans (Lend.strOf_ext rfl).symm⟩
  rw [h5]; unfold ckT Env.sealC; rw [if_pos h.e]; rfl
theorem Okay.meets (h : Okay a g s) : wh (some (imT a g s)) a g (ckT a g s) = true := by
  obtain ⟨h1, h2, h3, h4, h5, h6⟩ := h.o
  show Env.meetB _ _ _ _ = true
  rw [Env.meetB_yes h1, h3, h4, h5]; simp
theorem Okay.differs (h : Okay a' g' s') (hne : a' ≠ a ∨ g' ≠ g) (k : Int) : wh (some (imT a' g' s')) a g k = false := by
  obtain ⟨h1, h2, h3, h4, h5, h6⟩ := h.o
  show Env.meetB _ _ _ _ = false
  rw [Env.meetB_yes h1, h3, h4]
  rcases hne with h | h <;> simp [h]
theorem wh_no {t : ByteArray} (h : Env.opE t.data.toList ≠ 0) (a g k : Int) : wh (some t) a g k = false := Env.meetB_no h
/-- one byte is another one: no image -/
theorem Okay.turned (h : Okay a g s) {p : Nat} (hp : p < 128) {b : UInt8} (hb : b ≠ 0) (a' g' k : Int) : wh (some (turnB (imT a g s) p b)) a' g' k = false := by
  refine wh_no ?_ _ _ _
  have hl : (imT a g s).data.toList.length = 128 := by have := h.size; simpa using this
  show Env.opE ((imT a g s).data.toList.set p _) ≠ 0
  refine Env.one_byte _ p b.toNat _ h.o.1 (by omega) b.toNat_lt ?_ (by rw [UInt8.toNat_xor])
  intro e; exact hb (UInt8.toNat_inj.1 (by rw [e]; rfl))
end
theorem turnB_zero (s : ByteArray) (p : Nat) (hp : p < s.size) : turnB s p 0 = s := by
  unfold turnB
  have : s.data.toList.getD p 0 ^^^ 0 = s.data.toList[p]'(by simpa using hp) := by
    rw [List.getD_eq_getElem?_getD, List.getElem?_eq_getElem (by simpa using hp)]; simp
  rw [this, List.set_getElem_self]
  cases s; rfl
/-! ### what is done to a device, where no side is gone and nothing was moved -/
/-- nothing was moved, and no sector is bad -/
structure Pl (S : Nat → Sd) : Prop where
  nb : NoBad S
  m : ∀ t, t < 2 → (S t).m = []
theorem Pl.pl {S : Nat → Sd} (h : Pl S) {t b : Nat} (ht : t < 2) : pl (S t) b = 4 + b := by
  unfold Rem.pl
  rw [h.m t ht]
  have : plc 14 [] (b : Int) = b := rfl
  rw [this]; omega
theorem Pl.st {S S' : Nat → Sd} {G : Nat → Bool} {b : Nat} {d : ByteArray} {P : Nat → Prop} (h : Pl S) (k : St S S' G b d P) : Pl S' := ⟨k.nb h.nb, fun t ht => (k.m0 h.nb t ht).trans (h.m t ht)⟩
theorem Pl.new {S : Nat → Sd} (h0 : New (S 0)) (h1 : New (S 1)) : Pl S := by
  refine ⟨fun t ht i hi hi2 => ?_, fun t ht => ?_⟩
  · rcases (show t = 0 ∨ t = 1 by omega) with rfl | rfl
    · exact (h0.2 i hi hi2).2
    · exact (h1.2 i hi hi2).2
  · rcases (show t = 0 ∨ t = 1 by omega) with rfl | rfl
    · exact h0.1
    · exact h1.1
/-- a sector has other bytes -/
def setV (S : Nat → Sd) (s i : Nat) (t : ByteArray) : Nat → Sd := setS S s (upd (S s).V i t) (S s).B
theorem setV_m (S : Nat → Sd) (s i : Nat) (t : ByteArray) (u : Nat) : (setV S s i t u).m = (S u).m := setS_m _ _ _ _ _
theorem setV_B (S : Nat → Sd) (s i : Nat) (t : ByteArray) (u : Nat) : (setV S s i t u).B = (S u).B := by
  unfold setV
  by_cases e : u = s
  · subst e; rw [setS_same]
  · rw [setS_ne _ _ _ e]
theorem Pl.setV {S : Nat → Sd} (h : Pl S) (s i : Nat) (t : ByteArray) : Pl (setV S s i t) := ⟨fun u hu j h1 h2 => by rw [setV_B]; exact h.nb u hu j h1 h2, fun u hu => by rw [setV_m]; exact h.m u hu⟩
theorem setV_cont {S : Nat → Sd} {G : Nat → Bool} (h : Pl S) {s u b b' : Nat} {t : ByteArray} (hu : u < 2) (hb : b' < 14) (hG : G u = false) : cont (setV S s (4 + b) t) G u b' = if u = s ∧ b' = b then some t else cont S G u b' := by
  have hp := (h.setV s (4 + b) t).pl (b := b') hu
  have hp' := h.pl (b := b') hu
  have hB := h.nb u hu (4 + b') (by omega) (by omega)
  unfold cont
  rw [hp, hp', setV_B, hB, hG]
  simp only [Bool.false_eq_true, or_self, if_false]
  by_cases e : u = s
  · subst e
    unfold Mir.setV
    rw [setS_same]
    show some (upd (S u).V (4 + b) t (4 + b')) = _
    by_cases eb : b' = b
    · subst eb; rw [upd_same, if_pos ⟨rfl, rfl⟩]
    · rw [upd_ne _ _ (by omega), if_neg (fun h => eb h.2)]
  · unfold Mir.setV
    rw [setS_ne _ _ _ e, if_neg (fun h => e h.1)]
theorem setV_fit {S : Nat → Sd} {G : Nat → Bool} (h : Fit S G) (s i : Nat) (t : ByteArray) : Fit (setV S s i t) G := by
  refine ⟨fun u hu j h1 h2 => ?_, ?_⟩
  · rw [setV_B]; rw [setV_m] at h1; exact h.1 u hu j h1 h2
  · rcases h.2 with h | h
    · exact .inl h
    · exact .inr (fun u hu j h1 h2 => by rw [setV_B]; exact h u hu j h1 h2)
section
variable {w0 w w' : World} {X Y Z : List Nat} {q c mm tb bb R s b : Nat} {pd : Nat → Nat} {S : Nat → Sd} {G : Nat → Bool}
theorem garble_g (h : CG w0 X q pd S G c w) (hs : s < 2) (hG : G s = false) {i : Nat} (hi4 : 4 ≤ i) (hi : i < 24) (hc : c ≤ 1000000) (a : Nat) (y : UInt8) (p : Nat) (hp : p = pd s) (v : Int) (hv : v = i) (u : Int) (hu : u = a) :
    Calls Tryz.prog 10 #[.pointer (some ⟨p, 0, none⟩), .int .i64 v, .int .i64 u, .int .u8 y.toNat] w fun e w' => e = .returned (.tuple #[]) ∧ CG w0 X q pd (setV S s i (turnB ((S s).V i) (a % 128) y)) G c w' ∧ Same X w w' := by
  subst hp; subst hv; subst hu
  obtain ⟨⟨D, h1, h2⟩, h3⟩ := h
  have hcd := h2 s hs
  refine (h1.dev (R := fun e => e = .returned (.tuple #[])) (G := fun E => E = (D s).garbleD (i : Nat) (a : Nat) y) hs fun sb cv hd => (garble_any (i : Nat) (a : Nat) y w hd (by have := hcd.cache; omega)).mono ?_).mono ?_
  · rintro e w' ⟨rfl, hch, hd⟩
    exact ⟨rfl, _, rfl, .same hch hd⟩
  · rintro e w' ⟨rfl, E, rfl, hc', hsm⟩
    rw [hG] at hcd
    have hcd : Cd (D s) 24 128 (S s).V (S s).B c := hcd
    have hE : SideG ((D s).garbleD (i : Nat) (a : Nat) y) ⟨upd (S s).V i (turnB ((S s).V i) (a % 128) y), (S s).B, (S s).m⟩ false c := Rem.Cd.garble hcd hi a y
    have := CPe.setG hc' h2 hE (Nat.le_refl _)
    rw [show upd G s false = G from by rw [← hG]; exact upd_self _ _] at this
    exact ⟨rfl, ⟨this, h3.setS (fun j hj => upd_ne _ _ (by omega)) (fun j hj => h3.2.1 s hs j hj)⟩, fun k hk => hsm k (by simp [hk])⟩
theorem garble_m (h : MG w0 Y mm tb bb q pd S G c R w) (hs : s < 2) (hG : G s = false) {i : Nat} (hi4 : 4 ≤ i) (hi : i < 24) (hc : c ≤ 1000000) (a : Nat) (y : UInt8) (p : Nat) (hp : p = pd s) (v : Int) (hv : v = i) (u : Int) (hu : u = a) :
    Calls Tryz.prog 10 #[.pointer (some ⟨p, 0, none⟩), .int .i64 v, .int .i64 u, .int .u8 y.toNat] w fun e w' => e = .returned (.tuple #[]) ∧ MG w0 Y mm tb bb q pd (setV S s i (turnB ((S s).V i) (a % 128) y)) G c R w' ∧ Same Y w w' :=
  (garble_g h.cg hs hG hi4 hi hc a y p hp v hv u hu).mono fun e w' ⟨h1, h2, h3⟩ => ⟨h1, h.go h2 h3 (setV_fit h.fit _ _ _) (fun t ht => by rw [setV_m]; omega) (Nat.le_refl _), same_y h3⟩
theorem dwr_m (h : MG w0 Y mm tb bb q pd S noG c R w) (hs : s < 2) {i : Nat} (hi4 : 4 ≤ i) (hi : i < 24) (hB : (S s).B i = false) {t : ByteArray} (ht : t.size = 128) (hc : c ≤ 1000000) (v : Int) (hv : v = i) (p : Nat) (hp : p = pd s) :
    Calls Tryz.prog 12 #[.pointer (some ⟨p, 0, none⟩), .int .i64 v, .string t] w fun e w' => e = .returned (.int .i64 0) ∧ MG w0 Y mm tb bb q pd (setV S s i t) noG (c + 1) R w' ∧ Same Y w w' := by
  refine (dwr_c (h.cg.cp rfl rfl) hs hi4 hi ht hc v hv p hp).mono ?_
  rintro e w' ⟨he, h2, h3⟩
  rw [hB] at he h2
  simp only [Bool.false_eq_true, if_false] at he h2
  have h3' : Same (mm :: tb :: bb :: Y) w w' := fun k hk => h3 k (by simp at hk ⊢; rcases hk with rfl | rfl | rfl | hk <;> simp [*])
  exact ⟨he, h.go h2.cg h3' (setV_fit h.fit _ _ _) (fun t ht => by rw [setV_m]; omega) (by omega), same_y h3'⟩
end
/-! ### fresh, sealed -/
theorem format_x {w0 w : World} {X : List Nat} {pa pb : Nat} (h : Dvs w0 X (pdOf pa pb) (fun _ => Dv.fresh 24 128) w) : Calls Tryz.prog 21 #[.pointer (some ⟨pa, 0, none⟩), .pointer (some ⟨pb, 0, none⟩), .int .i64 6] w fun e w' => ∃ q S, e = .returned (.tuple #[.pointer (some ⟨q, 0, none⟩), .int .i64 0]) ∧ CP w0 X q (pdOf pa pb) S 4 w' ∧ New (S 0) ∧ New (S 1) ∧ Same X w w' := by
  refine (format_e h (both00.sz (by omega))).mono ?_
  rintro e w' ⟨q, rfl, hq, hc, hsm⟩
  obtain ⟨k0, k1⟩ := both00.keepBoth (m := fun _ => []) (fun _ _ => good0)
  obtain ⟨s1, s2⟩ := slots2 (S := S00) (m := fun _ => []) (fun _ _ => good0) (fun _ _ _ _ => rfl) (fun t ht => Below_.fresh (fun _ _ _ _ => rfl) ht)
  rw [k0]
  have hmm : (fun _ => ([] : List Int)) = mOf (kept (kept S00 0 []) 1 []) := by rw [mOf_kept, mOf_kept]; funext t; unfold upd mOf S00; split <;> (try split) <;> rfl
  refine ⟨q, kept (kept S00 0 []) 1 [], rfl, (k1.cp (by rw [← hmm]; exact hc) s1).mono (by omega), ⟨s2 0 (by omega), fun i h1 h2 => ?_⟩, ⟨s2 1 (by omega), fun i h1 h2 => ?_⟩, hsm⟩
  · refine ⟨?_, ?_⟩
    · rw [(kept_far (s := 1) (by omega) (by omega)).1 i h1, (kept_far (s := 0) (by omega) (by omega)).1 i h1]; rfl
    · rw [(kept_far (s := 1) (by omega) (by omega)).2.1, (kept_far (s := 0) (by omega) (by omega)).2.1]; rfl
  · refine ⟨?_, ?_⟩
    · rw [(kept_far (s := 1) (by omega) (by omega)).1 i h1, (kept_far (s := 0) (by omega) (by omega)).1 i h1]; rfl
    · rw [(kept_far (s := 1) (by omega) (by omega)).2.1, (kept_far (s := 0) (by omega) (by omega)).2.1]; rfl
set_option maxHeartbeats 2000000 in
set_option maxRecDepth 100000 in
theorem fresh_any (w : World) : Calls Tryz.prog 4 #[] w fun e w' => ∃ pa pb mm tb bb q S, e = .returned (.tuple #[.agg #[.pointer (some ⟨pa, 0, none⟩), .pointer (some ⟨pb, 0, none⟩)], .pointer (some ⟨mm, 0, none⟩), .bool true]) ∧ MG w [] mm tb bb q (pdOf pa pb) S noG 4 0 w' ∧ New (S 0) ∧ New (S 1) := by
  have HB0 := Lib.hid (b_new w (.cells #[.pointer none, .pointer none] 25))
  have HH0 := Lib.hid (Has.new w [.pointer none, .pointer none] 25)
  go_enter Tryz.func4, Tryz.ntmps4
  go_wp2_with fail
  refine (new_yes 24 128 _ rfl).mono ?_
  rintro e w1 ⟨pa, sa, hpa, hsa, rfl, hd, hb⟩
  have HD := Lib.hid hd
  have HB := Lib.hid hb
  have HPA := Lib.hid (And.intro hpa hsa)
  clear hd hb hpa hsa
  go_wp2_with fail
  refine (new_yes 24 128 w1 rfl).mono ?_
  rintro e w2 ⟨pb, sb, hpb, hsb, rfl, hd, hb⟩
  obtain ⟨p, hp⟩ : ∃ p, p = w.heap.size := ⟨_, rfl⟩
  have hszp : p < w1.heap.size := by have := HB.out.size; simp at this; omega
  have HT := Lib.hid (show Dvs w [p] (pdOf pa pb) (fun _ => Dv.fresh 24 128) w2 from by
    have h0 := HB0.out.size
    have h1 := HB.out.size
    have h2 := hb.size
    have hs0 : (w.alloc (.cells #[.pointer none, .pointer none] 25)).heap.size = p + 1 := by simp [hp]
    rw [hs0] at h1
    obtain ⟨ha, hsa⟩ := HPA.out
    rw [hs0] at ha hsa
    refine ⟨⟨pdOf sa sb, fun _ => .slice none 0 0, fun s hs => ?_, fun s hs k hk => ?_, fun k hk hk2 => ?_⟩, fun k hk => ?_, HB0.out.trans ((HB.out.trans (hb.mono (by rw [hs0]; exact h1))).mono h0)⟩
    · rcases (show s = 0 ∨ s = 1 by omega) with rfl | rfl
      · exact HD.out.below hb (Nat.le_refl _)
      · exact hd
    · rw [List.mem_singleton]
      rcases (show s = 0 ∨ s = 1 by omega) with rfl | rfl
      · have hk : foot pa sa (.slice none 0 0) k := hk
        rcases hk with rfl | rfl | h
        · omega
        · omega
        · cases h
      · have hk : foot pb sb (.slice none 0 0) k := hk
        rcases hk with rfl | rfl | h
        · omega
        · omega
        · cases h
    · have hk : foot pa sa (.slice none 0 0) k := hk
      have hk2 : foot pb sb (.slice none 0 0) k := hk2
      have hlt := HD.out.lt k hk
      rcases hk2 with rfl | rfl | h
      · omega
      · omega
      · cases h
    · rw [List.mem_singleton] at hk; subst hk; omega)
  have HH2 := Lib.hid ((HH0.out.below HB.out (by simp)).below hb (by rw [← hp]; exact hszp))
  rw [← hp] at HH2
  clear hd hb HD HB HPA HB0 HH0 hpb hsb
  go_wp2_with fail
  refine (format_x HT.out).mono ?_
  rintro e w3 ⟨q, S, rfl, hc, h0, h1, hsm⟩
  have HC := Lib.hid hc
  have HH3 := Lib.hid (Has.same HH2.out (hsm p (by simp)))
  have H0 := Lib.hid h0
  have H1 := Lib.hid h1
  clear hc h0 h1 hsm HT HH2
  go_wp2_with fail
  refine (New_m HC.out (fun t ht => by
    rcases (show t = 0 ∨ t = 1 by omega) with rfl | rfl
    · exact H0.out.spare
    · exact H1.out.spare)).mono ?_
  rintro e w4 ⟨mm, tb, bb, rfl, hm, hsm⟩
  have HM := Lib.hid hm
  have HH4 := Lib.hid (Has.same HH3.out (hsm p (by simp)))
  have e0 := HH4.out.cell 0
  have e1 := HH4.out.cell 1
  simp only [List.getElem?_cons_zero, List.getElem?_cons_succ] at e0 e1
  have f0 := Has.frozen HH4.out 0
  have f1 := Has.frozen HH4.out 1
  have h2 := (HH4.out.set 0 (.pointer (some ⟨pa, 0, none⟩))).set 1 (.pointer (some ⟨pb, 0, none⟩))
  have r0 := h2.cell 0
  have r1 := h2.cell 1
  simp only [List.set_cons_zero, List.set_cons_succ, List.getElem?_cons_zero, List.getElem?_cons_succ] at r0 r1
  have HM5 := Lib.hid ((HM.out.chg (((Chg.refl _ w4).setCell (p := ⟨p, 0, none⟩) (fun _ => by simp) (.pointer (some ⟨pa, 0, none⟩))).setCell (p := ⟨p, 1, none⟩) (fun _ => by simp) (.pointer (some ⟨pb, 0, none⟩)))).sub (Z := []) (by simp))
  rw [hp] at e0 e1 f0 f1 r0 r1 HM5
  clear h2 hm hsm hszp
  go_wp2
  refine bodyPost_ret (v := .tuple #[.agg #[.pointer (some ⟨pa, 0, none⟩), .pointer (some ⟨pb, 0, none⟩)], .pointer (some ⟨mm, 0, none⟩), .bool true]) (by simp [results, Tryz.results4, go_sem, r0, r1]) rfl ⟨pa, pb, mm, tb, bb, q, S, rfl, HM5.out, H0.out, H1.out⟩
/-- a struct's cells on their way from one block to another -/
def SealB (w : World) (p r : Nat) (t : TypeId) (z cs : List Value) (b : Bool) (wy : World) : Prop := Below w.heap.size w wy ∧ Has wy r t cs ∧ Has wy p t (if b then cs else z)
set_option maxHeartbeats 2000000 in
set_option maxRecDepth 100000 in
theorem sealed_any (b : Nat) (a g : Int) (s : ByteArray) (w : World) (ht : Sum.IsTab w b) (hk : Okay a g s) : Calls Tryz.prog 7 #[.pointer (some ⟨b, 0, none⟩), .int .i64 a, .int .u64 g, .string s] w fun e w' => e = .returned (.tuple #[.string (imT a g s), ptrV a g (ckT a g s)]) ∧ Below w.heap.size w w' := by
  have HB0 := Lib.hid (b_new w (.cells #[.int .i64 0, .int .u64 0, .int .u32 0] 35))
  have HH0 := Lib.hid (Has.new w [.int .i64 0, .int .u64 0, .int .u32 0] 35)
  have HT := Lib.hid (ht.below (b_new w (.cells #[.int .i64 0, .int .u64 0, .int .u32 0] 35)) (Nat.le_refl _))
  have HV := Lib.hid hk.v
  have HK := Lib.hid hk
  obtain ⟨T, hT⟩ : ∃ T, T = imT a g s := ⟨_, rfl⟩
  obtain ⟨K, hK⟩ : ∃ K, K = ckT a g s := ⟨_, rfl⟩
  rw [← hT, ← hK] at HV ⊢
  clear ht hk hT hK
  go_enter Tryz.func7, Tryz.ntmps7
  go_wp2_with fail
  refine (Env.seal_any b 128 4 a g s _ HT.out HK.out.g0 HK.out.g1 (by have := HK.out.s; omega)).mono ?_
  rintro e w1 ⟨rfl, hb⟩
  rw [HV.out]
  obtain ⟨p, hp⟩ : ∃ p, p = w.heap.size := ⟨_, rfl⟩
  have HH1 := Lib.hid (HH0.out.below hb (by simp))
  have HB1 := Lib.hid (HB0.out.trans (hb.mono HB0.out.size))
  rw [← hp] at HH1
  clear hb HH0 HB0 HT
  have h2 := HH1.out.alloc (.cells #[.int .i64 a, .int .u64 g, .int .u32 K] 35)
  have hpl : p < w1.heap.size := HH1.out.lt
  go_wp2_with fail
  obtain ⟨r, hr⟩ : ∃ r, r = w1.heap.size := ⟨_, rfl⟩
  have hR := Has.new w1 [.int .i64 a, .int .u64 g, .int .u32 K] 35
  obtain ⟨W, hW⟩ : ∃ W, W = w1.alloc (.cells #[.int .i64 a, .int .u64 g, .int .u32 K] 35) := ⟨_, rfl⟩
  have H0 := Lib.hid (show SealB w p r 35 [.int .i64 0, .int .u64 0, .int .u32 0] [.int .i64 a, .int .u64 g, .int .u32 K] false W.drew from ⟨by rw [hW]; exact (HB1.out.alloc (HB1.out.size) _).drew, by rw [hW, hr]; exact hR, by rw [hW]; exact h2⟩)
  have HRP := Lib.hid (show r ≠ p by omega)
  rw [← hp, ← hr]
  have hWr : (w1.alloc (.cells #[.int .i64 a, .int .u64 g, .int .u32 K] 35)) = W := hW.symm
  have HPW := Lib.hid hp
  rw [hWr]
  clear hWr hW hR h2 hpl hr hp
  refine Reg.region_vals (by kernel_rfl) [(23, .string T), (24, .agg #[.int .i64 a, .int .u64 g, .int .u32 K]), (8, .string T)] (fun l wy => SealB w p r 35 [.int .i64 0, .int .u64 0, .int .u32 0] [.int .i64 a, .int .u64 g, .int .u32 K] (l 3) wy) (by kernel_rfl) (by kernel_rfl) (by kernel_rfl) (H0.out) ⟨?_, ?_, ?_, ?_, trivial⟩ ?hend
  · skip
    intro aq wq lq hI hl hdone hlater hold hd ho
    have h10 : aq.tmps.getD 10 undef = .string T := ho 10 (by kernel_rfl)
    clear hd ho hdone hlater hold
    exact Reg.step2_move (.tmp 10) rfl h10 hI trivial
  · skip
    intro aq wq lq hI hl hdone hlater hold hd ho
    have h11 : aq.tmps.getD 11 undef = .pointer (some ⟨r, 0, none⟩) := ho 11 (by kernel_rfl)
    clear hd ho hdone hlater hold
    rw [Array.getD_eq_getD_getElem?] at h11
    have x0 := hI.2.1.cell 0
    have x1 := hI.2.1.cell 1
    have x2 := hI.2.1.cell 2
    simp only [List.getElem?_cons_zero, List.getElem?_cons_succ] at x0 x1 x2
    refine Reg.step2_val (.agg #[.int .i64 a, .int .u64 g, .int .u32 K]) ?_ rfl hI trivial
    go_simp
  · skip
    intro aq wq lq hI hl hdone hlater hold hd ho
    have h23 : aq.tmps.getD 23 undef = .string T := hd 23 (by kernel_rfl)
    clear hd ho hdone hlater hold
    exact Reg.step2_assign (.tmp 23) rfl h23 hI trivial
  · skip
    intro aq wq lq hI hl hdone hlater hold hd ho
    have h9 : aq.tmps.getD 9 undef = .pointer (some ⟨p, 0, none⟩) := ho 9 (by kernel_rfl)
    have h24 : aq.tmps.getD 24 undef = .agg #[.int .i64 a, .int .u64 g, .int .u32 K] := hd 24 (by kernel_rfl)
    clear hd ho hdone hlater hold
    rw [Array.getD_eq_getD_getElem?] at h9 h24
    have hJ := hI
    rw [show lq 3 = false from hl] at hJ
    obtain ⟨hB, hR, hP⟩ := hJ
    clear hI
    have hP : Has wq p 35 [.int .i64 0, .int .u64 0, .int .u32 0] := hP
    have x0 := hP.cell 0
    have x1 := hP.cell 1
    have x2 := hP.cell 2
    simp only [List.getElem?_cons_zero, List.getElem?_cons_succ] at x0 x1 x2
    have f0 := Has.frozen hP 0
    have f1 := Has.frozen hP 1
    have f2 := Has.frozen hP 2
    have hpw : w.heap.size ≤ p := Nat.le_of_eq HPW.out.symm
    refine Reg.step2_skip (((wq.setCell ⟨p, 0, none⟩ (.int .i64 a)).setCell ⟨p, 1, none⟩ (.int .u64 g)).setCell ⟨p, 2, none⟩ (.int .u32 K)) rfl ?_ ⟨((hB.setCell (p := ⟨p, 0, none⟩) hpw _).setCell (p := ⟨p, 1, none⟩) hpw _).setCell (p := ⟨p, 2, none⟩) hpw _, ((hR.setOther (a := ⟨p, 0, none⟩) (fun e => HRP.out e.symm) _).setOther (a := ⟨p, 1, none⟩) (fun e => HRP.out e.symm) _).setOther (a := ⟨p, 2, none⟩) (fun e => HRP.out e.symm) _, ((hP.set 0 (.int .i64 a)).set 1 (.int .u64 g)).set 2 (.int .u32 K)⟩ trivial
    clear hB hR hP hpw
    go_simp
  case hend =>
    intro wz hI
    simp only [Reg.fill, List.foldl_cons, List.foldl_nil, List.setIfInBounds_toArray, List.set_cons_zero, List.set_cons_succ]
    obtain ⟨hB, hR, hP⟩ := hI
    have hP : Has wz p 35 [.int .i64 a, .int .u64 g, .int .u32 K] := hP
    have x0 := hP.cell 0
    have x1 := hP.cell 1
    have x2 := hP.cell 2
    simp only [List.getElem?_cons_zero, List.getElem?_cons_succ] at x0 x1 x2
    have HB := Lib.hid hB
    clear hB hR hP
    go_wp2
    refine bodyPost_ret (v := .tuple #[.string T, ptrV a g K]) (by simp [results, Tryz.results7, go_sem, x0, x1, x2]) rfl ⟨rfl, HB.out⟩
end Go.Proofs.YtgoampbebjfenaaGreatDoor.Mir

/- Layer 8's laws: wakes. -/
namespace Go.Proofs.YtgoampbebjfenaaGreatDoor.Mir
open Go Go.RowKit Go.Proofs.YtgoampbebjfenaaGreatDoor Dev Tab Rem Go.Maps Go.WideMaps
set_option linter.unusedVariables false

section
variable {S S' : Nat → Sd} {G : Nat → Bool} {b : Nat} {d : ByteArray} {P : Nat → Prop} {s : Nat}
theorem St.got (h : St S S' G b d P) (hn : NoBad S) (hg : GoodS S) (hs : s < 2) (hb : b < 14) (hP : P s) (hG : G s = false) : cont S' G s b = some d := by
  rcases h.at_ s hs with ⟨_, _, h3⟩ | ⟨h1, _, _⟩
  · exact h3
  · exact absurd (by rw [wE_nobad hn hg hs hb, hG]; rfl) (h1 hP)
theorem St.kept (h : St S S' G b d P) (hs : s < 2) (hP : ¬ P s) : cont S' G s b = cont S G s b := by
  rcases h.at_ s hs with ⟨h1, _⟩ | ⟨_, h2, _⟩
  · exact absurd h1 hP
  · exact h2
theorem cont_V (h : Pl S) (hs : s < 2) (hb : b < 14) (hG : G s = false) : cont S G s b = some ((S s).V (4 + b)) := by
  unfold cont
  rw [h.pl hs, h.nb s hs (4 + b) (by omega) (by omega), hG]
  simp
theorem garbled_cont (h : Pl S) {u : Nat} (hs : s < 2) (hu : u < 2) {b' : Nat} (hb : b < 14) (hb' : b' < 14) (hGs : G s = false) (hG : G u = false) {t : ByteArray} (ht : cont S G s b = some t) (a : Nat) (y : UInt8) : cont (setV S s (4 + b) (turnB ((S s).V (4 + b)) a y)) G u b' = if u = s ∧ b' = b then some (turnB t a y) else cont S G u b' := by
  rw [cont_V h hs hb hGs] at ht
  injection ht with ht
  rw [setV_cont h hu hb' hG, ht]
end
/-- the pair's devices, in an array -/
def Two2 (w : World) (p pa pb : Nat) : Prop := Has w p 25 [.pointer (some ⟨pa, 0, none⟩), .pointer (some ⟨pb, 0, none⟩)]
theorem fnd_0 {S : Nat → Sd} {b : Nat} {g k : Int} (h : wh (cont S noG 0 b) (b : Int) g k = true) : fnd S noG b g k = some 0 := by
  unfold fnd; rw [al_no, List.find?_cons, h]
theorem fnd_1 {S : Nat → Sd} {b : Nat} {g k : Int} (h0 : wh (cont S noG 0 b) (b : Int) g k = false) (h : wh (cont S noG 1 b) (b : Int) g k = true) : fnd S noG b g k = some 1 := by
  unfold fnd; rw [al_no, List.find?_cons, h0]
  show List.find? _ [1] = some 1
  rw [List.find?_cons, h]
theorem fnd_2 {S : Nat → Sd} {b : Nat} {g k : Int} (h0 : wh (cont S noG 0 b) (b : Int) g k = false) (h : wh (cont S noG 1 b) (b : Int) g k = false) : fnd S noG b g k = none := by
  unfold fnd; rw [al_no, List.find?_cons, h0]
  show List.find? _ [1] = none
  rw [List.find?_cons, h]; rfl
theorem run_minC (P : Program) (w : World) (t : TypeId) (ts : Array TypeId) (a c : Nat) : (Builtin.min_ ts t #[.int .i64 (a : Nat), .int .i64 (c : Nat)]).run P w = .ok (.int .i64 ((min a c : Nat) : Int)) w := by
  have e : ∀ a b : Nat, (if (b : Int) < a then (b : Int) else a) = ((min a b : Nat) : Int) := by intro a b; split <;> omega
  simp only [Builtin.min_, Builtin.min2, List.foldlM, Sem.run_bind, Sem.run_pure, Result.andThen]
  rw [e]
theorem lsE_no : lsE noG = 0 := rfl
theorem lsR_no : lsR noG = 10 := rfl
set_option maxHeartbeats 4000000 in
set_option maxRecDepth 100000 in
theorem wakes_any (w : World) : Calls Tryz.prog 5 #[] w fun e w' => e = .returned (.bool true) ∧ Below w.heap.size w w' := by
  obtain ⟨tx, htx⟩ : ∃ t : ByteArray, t = ⟨#[97, 98, 99]⟩ := ⟨_, rfl⟩
  have hok : Okay 3 1 tx := ⟨by omega, by omega, by omega, by omega, by rw [htx]; decide⟩
  have HOK := Lib.hid hok
  have HTX := Lib.hid htx
  obtain ⟨T, hT⟩ : ∃ T, T = imT 3 1 tx := ⟨_, rfl⟩
  obtain ⟨K, hK⟩ : ∃ K, K = ckT 3 1 tx := ⟨_, rfl⟩
  have HTT := Lib.hid hT
  have HKK := Lib.hid hK
  have HTZ := Lib.hid (show T.size = 128 by rw [hT]; exact hok.size)
  clear hok hT hK
  go_enter Tryz.func5, Tryz.ntmps5
  go_wp2_with fail
  refine (fresh_any w).mono ?_
  rintro e w1 ⟨pa, pb, mm, tb, bb, q, S, rfl, hm, h0, h1⟩
  have HPL := Lib.hid (Pl.new h0 h1)
  have HD := Lib.hid (Has.new w1 [.pointer (some ⟨pa, 0, none⟩), .pointer (some ⟨pb, 0, none⟩)] 25)
  have HM := Lib.hid (hm.new (.cells #[.pointer (some ⟨pa, 0, none⟩), .pointer (some ⟨pb, 0, none⟩)] 25))
  clear hm h0 h1
  obtain ⟨u, hu⟩ : ∃ u, u = w1.heap.size := ⟨_, rfl⟩
  rw [← hu] at HD HM
  go_wp2_with fail
  rw [← hu]
  refine (Sum.make_any _).mono ?_
  rintro e w2 ⟨tt, rfl, htb, htab, hb⟩
  have HM2 := Lib.hid (HM.out.later hb)
  have HD2 := Lib.hid (HD.out.below hb HD.out.lt)
  have HT2 := Lib.hid htab
  clear htb htab hb HM HD hu
  go_wp2_with fail
  rw [show (⟨#[97, 98, 99]⟩ : ByteArray) = tx from HTX.out.symm]
  refine (sealed_any tt 3 1 tx _ HT2.out HOK.out).mono ?_
  rintro e w3 ⟨rfl, hb⟩
  rw [← HTT.out, ← HKK.out]
  have HM3 := Lib.hid ((HM2.out.later hb).new (.cells #[.int .i64 3, .int .u64 1, .int .u32 K] 35))
  have HD3 := Lib.hid ((HD2.out.below hb HD2.out.lt).alloc (.cells #[.int .i64 3, .int .u64 1, .int .u32 K] 35))
  have HP3 := Lib.hid (Has.new w3 [.int .i64 3, .int .u64 1, .int .u32 K] 35)
  obtain ⟨v, hv⟩ : ∃ v, v = w3.heap.size := ⟨_, rfl⟩
  rw [← hv] at HM3 HP3
  clear hb HM2 HD2 HT2
  go_wp2_with fail
  rw [← hv]
  clear hv
  refine (Write_m HM3.out HPL.out.nb (b := 3) (by omega) HTZ.out (by omega)).mono ?_
  rintro e w4 ⟨S1, rfl, hst, hm, hsm⟩
  rw [lsE_no]
  have HPL1 := Lib.hid (HPL.out.st hst)
  have HC0 := Lib.hid (hst.got HPL.out.nb HM3.out.good (s := 0) (by omega) (by omega) (by rw [al_no]; simp) rfl)
  have HC1 := Lib.hid (hst.got HPL.out.nb HM3.out.good (s := 1) (by omega) (by omega) (by rw [al_no]; simp) rfl)
  have HM4 := Lib.hid hm
  have HD4 := Lib.hid (Has.same HD3.out (hsm u (by simp)))
  have HP4 := Lib.hid (Has.same HP3.out (hsm v (by simp)))
  clear hst hm hsm HM3 HD3 HP3 HPL
  go_wp2_with fail
  refine (Flush_m HM4.out (by omega)).mono ?_
  rintro e w5 ⟨rfl, hm, hsm⟩
  rw [lsE_no]
  have HM5 := Lib.hid hm
  have hd5 := Has.same HD4.out (hsm u (by simp))
  have HP5 := Lib.hid (Has.same HP4.out (hsm v (by simp)))
  have d0 := hd5.cell 0
  simp only [List.getElem?_cons_zero] at d0
  clear hm hsm HM4 HD4 HP4 hd5
  go_wp2_with fail
  refine (garble_m HM5.out (s := 0) (by omega) rfl (i := 4 + 3) (by omega) (by omega) (by omega) 30 1 pa rfl 7 rfl 30 rfl).mono ?_
  rintro e w6 ⟨rfl, hm, hsm⟩
  have HM6 := Lib.hid hm
  have hp6 := Has.same HP5.out (hsm v (by simp))
  have x0 := hp6.cell 0
  have x1 := hp6.cell 1
  have x2 := hp6.cell 2
  simp only [List.getElem?_cons_zero, List.getElem?_cons_succ] at x0 x1 x2
  clear hm hsm HM5 HP5 hp6 d0
  obtain ⟨S2, hS2⟩ : ∃ S2, S2 = setV S1 0 (4 + 3) (turnB ((S1 0).V (4 + 3)) (30 % 128) 1) := ⟨_, rfl⟩
  have HPL2 := Lib.hid (show Pl S2 by rw [hS2]; exact HPL1.out.setV _ _ _)
  have hc0 : cont S2 noG 0 3 = some (turnB T 30 1) := by rw [hS2]; exact (garbled_cont HPL1.out (s := 0) (u := 0) (by omega) (by omega) (b := 3) (b' := 3) (by omega) (by omega) rfl rfl HC0.out _ _).trans (if_pos ⟨rfl, rfl⟩)
  have hc1 : cont S2 noG 1 3 = some T := by rw [hS2]; exact ((garbled_cont HPL1.out (s := 0) (u := 1) (by omega) (by omega) (b := 3) (b' := 3) (by omega) (by omega) rfl rfl HC0.out _ _).trans (if_neg (by omega))).trans HC1.out
  have hF : fnd S2 noG 3 1 K = some 1 := by
    refine fnd_1 ?_ ?_
    · rw [hc0, HTT.out]; exact HOK.out.turned (by omega) (by decide) _ _ _
    · rw [hc1, HTT.out, HKK.out]; exact HOK.out.meets
  have HR := Lib.hid (show rdN S2 noG 1 3 = 1 by
    unfold rdN rpN
    rw [if_pos ⟨rfl, rfl⟩, if_pos]
    rw [wE_nobad HPL2.out.nb (fun t ht => by rw [HPL2.out.m t ht]; exact good0) (by omega) (by omega)]; rfl)
  rw [← hS2] at HM6
  have HF := Lib.hid hF
  have HC := Lib.hid hc1
  clear hS2 hc0 hc1 hF HPL1 HC0 HC1
  go_wp2_with fail
  refine (Read_some HM6.out (b := 3) (by omega) (by omega) (by omega) 1 K HF.out HC.out).mono ?_
  rintro e w7 ⟨S3, rfl, hst, hm, hsm⟩
  rw [HR.out] at hm
  obtain ⟨o1, o2, o3, o4, o5, o6⟩ := HOK.out.o
  rw [HTT.out, o2, o6, HTX.out]
  have HM7 := Lib.hid hm
  clear hst hm hsm HM6 x0 x1 x2 o1 o2 o3 o4 o5 o6
  go_wp2_with (first | (go_at_call 23; refine (Repairs_m HM7.out).mono ?_; rintro e w8 ⟨rfl, rfl⟩))
  go_ret
  exact ⟨rfl, HM7.out.below⟩
end Go.Proofs.YtgoampbebjfenaaGreatDoor.Mir

/- An array that came in, opened into its elements. -/
namespace Go.Proofs.YtgoampbebjfenaaGreatDoor
open Go.ChangeShapes Go.WideShapes Go.RowKit Go.Deep
theorem open_arr {H : Type} {enc : TypeId × Value → H} {P : Program} {w W : World} {r : Reach} {base b0 : Nat} {sp : Nat → Bool} {held : Bool} {t e : TypeId} {n : Nat} {v : Value} {d : DataW H} {ps : List MemPlace}
    (ht : P.underlying t = some (.array n e)) (hct : P.cellsOf t = n) (hce : P.cellsOf e = 1) (hval : Value.okWide P W r b0 t v) (hd : DataW.Trod enc P w base sp held t v d ps) :
    ∃ cs : List Value, v = .agg cs.toArray ∧ cs.length = n ∧ ∀ (i : Nat) (c : Value), cs[i]? = some c → ∃ m y, DataW.trod enc P w base sp held m e [c] = some y := by
  unfold Value.okWide at hval
  rw [ht] at hval
  obtain ⟨cs, rfl, hsz, _⟩ := hval
  obtain ⟨fuel, hf⟩ := hd
  obtain ⟨xs, m, _, _, hl, hx, hi⟩ := DataW.trod_array ht hf
  have hn : cs.toList.length = n := by rw [Array.length_toList, hsz, hct]
  refine ⟨cs.toList, by simp, hn, fun i c hc => ?_⟩
  have hin : i < n := by rw [← hn]; exact (List.getElem?_eq_some_iff.1 hc).1
  have := hi i hin
  rw [hce, Nat.mul_one] at this
  have hc' : (Value.agg cs).cells.toList = cs.toList := by simp [Value.cells]
  rw [hc'] at this
  have e1 : (cs.toList.drop i).take 1 = [c] := by
    obtain ⟨h1, h2⟩ := List.getElem?_eq_some_iff.1 hc
    rw [List.drop_eq_getElem_cons h1, h2]; rfl
  rw [e1] at this
  have hxl : i < xs.length := by omega
  exact ⟨m, xs[i], by rw [this, List.getElem?_eq_getElem hxl]⟩
theorem open_str_cell {H : Type} {enc : TypeId × Value → H} {P : Program} {w : World} {base : Nat} {sp : Nat → Bool} {held : Bool} {e : TypeId} {c : Value} (he : P.underlying e = some .string) (h : ∃ m y, DataW.trod enc P w base sp held m e [c] = some y) : ∃ s : ByteArray, c = .string s ∧ s.size ≤ maxLen := by
  obtain ⟨m, y, h⟩ := h
  obtain ⟨s, hs, _, hw⟩ := DataW.trod_string he h
  exact ⟨s, by simpa using hs, hw⟩
theorem open_int_cell {H : Type} {enc : TypeId × Value → H} {P : Program} {w : World} {base : Nat} {sp : Nat → Bool} {held : Bool} {e : TypeId} {c : Value} {k : IntKind} (he : P.underlying e = some (.int k)) (h : ∃ m y, DataW.trod enc P w base sp held m e [c] = some y) : ∃ n : Int, c = .int k n ∧ (Lit.int k n).wf = true := by
  obtain ⟨m, y, h⟩ := h
  obtain ⟨n, hn, _, hw⟩ := DataW.trod_int he h
  exact ⟨n, by simpa using hn, hw⟩
/-- a struct of one-cell fields that came in by value -/
theorem open_struct_cells {H : Type} {enc : TypeId × Value → H} {P : Program} {w W : World} {r : Reach} {base b0 : Nat} {sp : Nat → Bool} {held : Bool} {t : TypeId} {fs : Array Field} {v : Value} {d : DataW H} {ps : List MemPlace}
    (hs : P.underlying t = some (.struct fs)) (hone : oneCellFields P fs = true) (hC : P.cellsOf t = fs.size) (hval : Value.okWide P W r b0 t v) (hd : DataW.Trod enc P w base sp held t v d ps) :
    ∃ cs : List Value, v = .agg cs.toArray ∧ cs.length = fs.size ∧ ∀ (j : Nat) (f : Field) (c : Value), fs[j]? = some f → cs[j]? = some c → ∃ m y, DataW.trod enc P w base sp held m f.type [c] = some y := by
  obtain ⟨cs, rfl, hsz⟩ := okWide_struct hs hval
  obtain ⟨fuel, hf⟩ := hd
  obtain ⟨xs, n, _, hx, _, hlen, hg⟩ := DataW.trod_struct hs hf
  have hn : cs.toList.length = fs.size := by rw [Array.length_toList, hsz, hC]
  refine ⟨cs.toList, by simp, hn, fun j f c hj hc => ?_⟩
  obtain ⟨ho, hk⟩ := hone_of hone j f hj
  have h1 := hg j f hj
  rw [ho, hk] at h1
  have hc' : (Value.agg cs).cells.toList = cs.toList := by simp [Value.cells]
  rw [hc'] at h1
  have e1 : (cs.toList.drop j).take 1 = [c] := by
    obtain ⟨h2, h3⟩ := List.getElem?_eq_some_iff.1 hc
    rw [List.drop_eq_getElem_cons h2, h3]; rfl
  rw [e1] at h1
  have hjl : j < fs.size := (Array.getElem?_eq_some_iff.1 hj).1
  exact ⟨n, _, h1.trans (List.getElem?_eq_getElem (show j < xs.length by omega))⟩
/-- a slice of numbers in a cell -/
theorem open_ints_cell {H : Type} {enc : TypeId × Value → H} {P : Program} {w : World} {held : Bool} {t e : TypeId} {k : IntKind} {c : Value} (ht : P.underlying t = some (.slice e)) (he : P.underlying e = some (.int k)) (hc1 : P.cellsOf e = 1)
    (h : ∃ m y, DataW.trod enc P w 0 (fun _ => true) held m t [c] = some y) : ∃ a len cap zs, c = .slice a len cap ∧ Row k w a len zs ∧ len ≤ cap ∧ cap ≤ maxLen ∧ ∀ n ∈ zs, (Lit.int k n).wf = true := by
  obtain ⟨m, y, h⟩ := h
  rcases open_ints ht he hc1 h with ⟨hcs, _⟩ | ⟨x, l, cap, zs, hcs, _, hl, hm, hz, _, hcell, hwz⟩
  · simp at hcs
    exact ⟨none, 0, 0, [], hcs, ⟨rfl, fun h => absurd h (by decide)⟩, Nat.le_refl _, by unfold maxLen; omega, by simp⟩
  · simp at hcs
    refine ⟨some x, l, cap, zs.take l, hcs, ⟨by simp at hz; simp; omega, fun hpos => ?_⟩, hl, hm, fun n hn => hwz n (List.mem_of_mem_take hn)⟩
    obtain ⟨b, off, spot⟩ := x
    have hzl : zs.length = cap := by simpa using hz
    have h0 := hcell 0 (by omega)
    have hs : spot = none := by simpa [Addr.add] using World.cell?_spot h0
    subst hs
    refine ⟨b, off, rfl, fun i hi => ?_⟩
    have := hcell i (by omega)
    rw [Addr.add_lit] at this
    rw [this]
    simp [List.getD, hi]
end Go.Proofs.YtgoampbebjfenaaGreatDoor

