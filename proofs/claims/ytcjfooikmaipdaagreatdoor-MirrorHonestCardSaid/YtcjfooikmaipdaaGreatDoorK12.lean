/- Layers' contracts, bundled: MirD, MirE, MirF, MirG. -/
import Derived.Test.YtcjfooikmaipdaaGreatDoorK11
import Derived.Deep.DeepCutAuto
import Derived.Deep.Onto
/- Layer 8 (mirror): contracts of find, Heal, Check, Write, Flush. -/
namespace Go.Proofs.YtcjfooikmaipdaaGreatDoor.Mir
open Go Go.RowKit Go.Proofs.YtcjfooikmaipdaaGreatDoor Dev Tab Rem Go.Maps Go.WideMaps
set_option linter.unusedVariables false

theorem find_at {α : Type} [Inhabited α] (L : List α) (z : α) (p : α → Bool) (j : Nat) (hj : j < L.length) (h : ∀ m, m < j → p (L.getD m z) = false) (hp : p (L.getD j z) = true) : L.find? p = some (L.getD j z) := by
  have e : ∀ m (hm : m < L.length), L.getD m z = L[m] := fun m hm => by rw [List.getD_eq_getElem?_getD, List.getElem?_eq_getElem hm]; rfl
  rw [List.find?_eq_some_iff_getElem]
  refine ⟨hp, j, hj, (e j hj).symm, fun m hm => ?_⟩
  have := h m hm
  rw [e m (by omega)] at this
  simp [this]
theorem find_none {α : Type} (L : List α) (z : α) (p : α → Bool) (h : ∀ m, m < L.length → p (L.getD m z) = false) : L.find? p = none := by
  rw [List.find?_eq_none]
  intro x hx
  obtain ⟨m, hm, rfl⟩ := List.getElem_of_mem hx
  have := h m hm
  rw [List.getD_eq_getElem?_getD, List.getElem?_eq_getElem hm] at this
  simpa using this
theorem al_at {G : Nat → Bool} {j : Nat} (hj : j < (al G).length) : (al G).getD j 0 < 2 ∧ G ((al G).getD j 0) = false := by
  rw [List.getD_eq_getElem?_getD, List.getElem?_eq_getElem hj]
  exact al_mem.1 (List.getElem_mem hj)
theorem take_next {L : List Nat} {j : Nat} (hj : j < L.length) : L.take (j + 1) = L.take j ++ [L.getD j 0] := by
  rw [List.getD_eq_getElem?_getD, List.getElem?_eq_getElem hj, List.take_add_one, List.getElem?_eq_getElem hj]; rfl
theorem not_take {L : List Nat} (hn : L.Nodup) {j : Nat} (hj : j < L.length) : L.getD j 0 ∉ L.take j := by
  intro h
  rw [List.getD_eq_getElem?_getD, List.getElem?_eq_getElem hj] at h
  obtain ⟨m, hm, e⟩ := List.getElem_of_mem h
  rw [List.length_take] at hm
  rw [List.getElem_take] at e
  have := (List.getElem_inj hn).1 e
  omega
/-- a row of sides that isn't empty -/
def Lp (w : World) (z : Nat) (L : List Nat) : Prop := ∀ k, k < L.length → w.cell? ⟨z, k, none⟩ = some (.int .i64 (L.getD k 0 : Nat))
theorem Lp.same {w w' : World} {z : Nat} {L : List Nat} (h : Lp w z L) (hk : w'.heap[z]? = w.heap[z]?) : Lp w' z L := fun k hl => (cell_same (a := ⟨z, k, none⟩) hk).trans (h k hl)
theorem Sides.lp {w : World} {a : Option Addr} {L : List Nat} (h : Sides w a L) (hn : L ≠ []) : ∃ z, a = some ⟨z, 0, none⟩ ∧ Lp w z L := by
  rcases h with h | ⟨b, rfl, h⟩
  · exact absurd h hn
  · exact ⟨b, rfl, fun k hk => by rw [h k hk, List.getD_eq_getElem?_getD, List.getElem?_eq_getElem hk]; rfl⟩
/-- the first side whose copy is whole -/
def fnd (S : Nat → Sd) (G : Nat → Bool) (b : Nat) (g k : Int) : Option Nat := (al G).find? fun s => wh (cont S G s b) (b : Int) g k
def fndV (S : Nat → Sd) (G : Nat → Bool) (b : Nat) (g k : Int) : Value := match fnd S G b g k with
  | some s => .tuple #[.int .i64 (s : Nat), .string ((cont S G s b).getD ⟨#[]⟩), .int .i64 0]
  | none => .tuple #[.int .i64 0, .string ⟨#[]⟩, .int .i64 (if al G = [] then 8 else 10)]
section
variable {w0 w w' : World} {X Y Z : List Nat} {q c mm tb bb R s b : Nat} {pd : Nat → Nat} {S : Nat → Sd} {G : Nat → Bool}
set_option maxHeartbeats 2000000 in
set_option maxRecDepth 100000 in
theorem find_no (h : MG w0 Y mm tb bb q pd S G c R w) (a g k : Int) (ha : rfE a = 3) : Calls Tryz.prog 56 #[.pointer (some ⟨mm, 0, none⟩), ptrV a g k] w fun e w' => e = .returned (.tuple #[.int .i64 0, .string ⟨#[]⟩, .int .i64 3]) ∧ Below w.heap.size w w' := by
  have HM := Lib.hid (h.new (.cells #[.int .i64 a, .int .u64 g, .int .u32 k] 35))
  have HB := Lib.hid (Below.refl _ w |>.alloc (Nat.le_refl _) (.cells #[.int .i64 a, .int .u64 g, .int .u32 k] 35))
  clear h
  go_enter Tryz.func56, Tryz.ntmps56
  go_wp2_with fail
  refine (refusal_m HM.out a).mono ?_
  rintro e w1 ⟨rfl, hb⟩
  have HB1 := Lib.hid (HB.out.trans (hb.mono HB.out.size))
  rw [ha]
  clear hb
  go_wp2
  go_ret3
  exact ⟨rfl, HB1.out⟩
set_option maxHeartbeats 2000000 in
set_option maxRecDepth 100000 in
theorem find_m (h : MG w0 Y mm tb bb q pd S G c R w) (hb : b < 14) (hc : c ≤ 1000000) (a g k : Int) (ha : a = (b : Nat)) : Calls Tryz.prog 56 #[.pointer (some ⟨mm, 0, none⟩), ptrV a g k] w fun e w' => e = .returned (fndV S G b g k) ∧ MG w0 Y mm tb bb q pd S G c R w' ∧ Same Y w w' := by
  subst ha
  have HM := Lib.hid (h.new (.cells #[.int .i64 (b : Nat), .int .u64 g, .int .u32 k] 35))
  have hhas := Has.new w [.int .i64 (b : Nat), .int .u64 g, .int .u32 k] 35
  have HC := Lib.hid hc
  have HB := Lib.hid hb
  have HRF := Lib.hid (show rfE (b : Int) = 0 by unfold rfE; rw [if_neg (by omega)])
  have HSM0 := Lib.hid (show Same Y w (w.alloc (.cells #[.int .i64 (b : Nat), .int .u64 g, .int .u32 k] 35)) from fun j hj => (b_new w _).block j (h.y j hj).2)
  obtain ⟨p, hp⟩ : ∃ p, p = w.heap.size := ⟨_, rfl⟩
  rw [← hp] at HM hhas
  have HH := Lib.hid hhas
  have HP := Lib.hid hp
  clear h hc hb hhas hp
  go_enter Tryz.func56, Tryz.ntmps56
  go_wp2_with fail
  refine (refusal_m HM.out (b : Int)).mono ?_
  rintro e w1 ⟨rfl, hb⟩
  rw [HRF.out, ← HP.out]
  have HM1 := Lib.hid (HM.out.later hb)
  have HH1 := Lib.hid (HH.out.below hb HH.out.lt)
  have HSM1 := Lib.hid (show Same Y w w1 from fun j hj => (hb.block j (HM.out.y j (by simp [hj])).2).trans (HSM0.out j hj))
  clear hb HM HH HSM0
  go_wp2_with fail
  refine (alive_m HM1.out).mono ?_
  rintro e w2 ⟨av, cap, rfl, hsd, hfr, hb⟩
  have HM2 := Lib.hid (HM1.out.later hb)
  have HH2 := Lib.hid (HH1.out.below hb HH1.out.lt)
  have HSM2 := Lib.hid (show Same Y w w2 from fun j hj => (hb.block j (HM1.out.y j (by simp [hj])).2).trans (HSM1.out j hj))
  obtain ⟨L, hL⟩ : ∃ L, L = al G := ⟨_, rfl⟩
  rw [← hL] at hsd ⊢
  have HL := Lib.hid hL
  obtain ⟨n, hn⟩ : ∃ n, n = L.length := ⟨_, rfl⟩
  have HN := Lib.hid hn
  have hn2 : n ≤ 2 := by rw [hn, hL]; exact al_le G
  rw [← hn]
  by_cases h0 : n = 0
  · have HV := Lib.hid (show fndV S G b g k = .tuple #[.int .i64 0, .string ⟨#[]⟩, .int .i64 8] by
      have hnil : al G = [] := List.eq_nil_of_length_eq_zero (by rw [← hL, ← hn]; exact h0)
      unfold fndV fnd
      rw [hnil]; rfl)
    subst h0
    clear hsd hfr hb hL hn
    go_wp2
    go_ret3
    exact ⟨by rw [HV.out]; rfl, HM2.out.sub (fun k hk => List.mem_cons_of_mem _ hk), HSM2.out⟩
  · have hne : L ≠ [] := fun e => h0 (by rw [hn, e]; rfl)
    have HNE := Lib.hid hne
    obtain ⟨z, rfl, hlp⟩ := hsd.lp hne
    obtain ⟨hz1, hz2⟩ := hfr z 0 rfl
    have HM3 := Lib.hid (HM1.out.fresh hb hz1 hz2)
    have HLP := Lib.hid hlp
    clear hsd hfr hb hL hn hne hlp hz1 hz2 HM2 HM1 HH1
    have hn0 : ((n : Int) == 0) = false := by simp; omega
    have hn1 : ¬ (n : Int) = 0 := by omega
    go_wp2_with fail
    go_loopw [28] (fun i wr => ∃ j : Nat, j ≤ n ∧ i = .int .i64 j ∧ (∀ m, m < j → wh (cont S G (L.getD m 0) b) (b : Int) g k = false) ∧ MG w0 (z :: p :: Y) mm tb bb q pd S G c R wr ∧ Same (z :: p :: Y) w2 wr) (fun i _ => n - (intOf i).toNat)
    case atStart => exact ⟨0, Nat.zero_le _, rfl, fun m hm => by omega, HM3.out, Same.refl _ _⟩
    case round =>
      obtain ⟨j, hj, rfl, hno, hmr, hsr⟩ := hrel
      have HMr := Lib.hid hmr
      have HSr := Lib.hid hsr
      have HNO := Lib.hid hno
      clear hmr hsr hno
      by_cases hlt : j < n
      · obtain ⟨x, hx⟩ : ∃ x, x = L.getD j 0 := ⟨_, rfl⟩
        have hcell := (HLP.out.same (HSr.out z (by simp))) j (by rw [← HN.out]; exact hlt)
        rw [← hx] at hcell
        have hxx := al_at (G := G) (j := j) (by rw [← HL.out, ← HN.out]; exact hlt)
        rw [← HL.out, ← hx] at hxx
        obtain ⟨hx2, hxg⟩ := hxx
        have HX := Lib.hid hx
        have hxH := Has.same HH2.out (HSr.out p (by simp))
        have x0 := hxH.cell 0
        have x1 := hxH.cell 1
        have x2 := hxH.cell 2
        simp only [List.getElem?_cons_zero, List.getElem?_cons_succ] at x0 x1 x2
        clear hxH hx
        go_wp2_with fail
        refine (readWhole_m HMr.out hx2 HB.out HC.out _ g k rfl).mono ?_
        rintro e w4 ⟨rfl, hm, hsm⟩
        have HM4 := Lib.hid hm
        have HS4 := Lib.hid (HSr.out.trans hsm)
        clear hm hsm hcell x0 x1 x2
        obtain ⟨y, hy⟩ : ∃ y, y = wh (cont S G x b) (b : Int) g k := ⟨_, rfl⟩
        have HY := Lib.hid hy
        rw [← hy]
        clear hy
        cases y with
        | true =>
          have HV := Lib.hid (show fnd S G b g k = some x by
            unfold fnd
            rw [← HL.out, HX.out]
            refine find_at L 0 _ j (by rw [← HN.out]; exact hlt) HNO.out ?_
            show wh (cont S G (L.getD j 0) b) (b : Int) g k = true
            rw [← HX.out]; exact HY.out.symm)
          go_wp2
          go_ret3
          refine ⟨by unfold fndV; rw [HV.out]; rfl, HM4.out.sub (fun k hk => List.mem_cons_of_mem _ (List.mem_cons_of_mem _ hk)), fun k hk => (HS4.out k (by simp [hk])).trans (HSM2.out k hk)⟩
        | false =>
          go_wp2_with fail
          go_roundw
          case rel =>
            have hno' : ∀ m, m < j + 1 → wh (cont S G (L.getD m 0) b) (b : Int) g k = false := fun m hm => by
              by_cases e : m = j
              · rw [e, ← HX.out]; exact HY.out.symm
              · exact HNO.out m (by omega)
            exact ⟨j + 1, by omega, by go_num, hno', HM4.out, HS4.out⟩
          case measure => simp [intOf]; omega
      · obtain rfl : j = n := by omega
        have HV := Lib.hid (show fnd S G b g k = none by
          unfold fnd
          rw [← HL.out]
          exact find_none L 0 _ (fun m hm => HNO.out m (by rw [HN.out]; exact hm)))
        go_wp2
        go_ret3
        refine ⟨by unfold fndV; rw [HV.out, if_neg (by rw [← HL.out]; exact HNE.out)]; rfl, HMr.out.sub (fun k hk => List.mem_cons_of_mem _ (List.mem_cons_of_mem _ hk)), fun k hk => (HSr.out k (by simp [hk])).trans (HSM2.out k hk)⟩
/-! ### Heal -/
def hSum (S : Nat → Sd) (G : Nat → Bool) (b : Nat) (d : ByteArray) (L : List Nat) : Nat := (L.map fun s => hlN S G s b d).sum
theorem rpN_le : rpN S G s b ≤ 1 := by unfold rpN; split <;> omega
theorem hlN_le {d : ByteArray} : hlN S G s b d ≤ 1 := by
  unfold hlN; split
  · omega
  · exact rpN_le
theorem hSum_next {d : ByteArray} {L : List Nat} {j : Nat} (hj : j < L.length) : hSum S G b d (L.take (j + 1)) = hSum S G b d (L.take j) + hlN S G (L.getD j 0) b d := by
  unfold hSum; rw [take_next hj, List.map_append, List.sum_append]; simp
theorem hSum_le {d : ByteArray} : ∀ L : List Nat, hSum S G b d L ≤ L.length
  | [] => by simp [hSum]
  | x :: L => by
    have := hSum_le (d := d) L
    have h1 : hlN S G x b d ≤ 1 := hlN_le
    simp only [hSum, List.map_cons, List.sum_cons, List.length_cons] at this ⊢
    omega
set_option maxHeartbeats 2000000 in
set_option maxRecDepth 100000 in
theorem Heal_no (h : MG w0 Y mm tb bb q pd S G c R w) (b : Int) (d : ByteArray) (hE : irE b d.size ≠ 0) : Calls Tryz.prog 32 #[.pointer (some ⟨mm, 0, none⟩), .int .i64 b, .string d] w fun e w' => e = .returned (.tuple #[.int .i64 0, .int .i64 (irE b d.size)]) ∧ Below w.heap.size w w' := by
  have HM := Lib.hid h
  clear h
  go_enter Tryz.func32, Tryz.ntmps32
  go_wp2_with fail
  refine (irefusal_m HM.out b d).mono ?_
  rintro e w1 ⟨rfl, hb⟩
  have HB := Lib.hid hb
  obtain ⟨x, hx⟩ : ∃ x, x = irE b d.size := ⟨_, rfl⟩
  have HX := Lib.hid hx
  rw [← hx] at hE ⊢
  clear hb hx
  go_wp2
  go_ret2
  exact ⟨by rw [HX.out]; rfl, HB.out⟩
set_option maxHeartbeats 2000000 in
set_option maxRecDepth 100000 in
theorem Heal_m (h : MG w0 Y mm tb bb q pd S G c R w) (hb : b < 14) {d : ByteArray} (hd : d.size = 128) (hc : c ≤ 700000) (hR : R ≤ 900000) : Calls Tryz.prog 32 #[.pointer (some ⟨mm, 0, none⟩), .int .i64 (b : Nat), .string d] w fun e w' => ∃ S', e = .returned (.tuple #[.int .i64 (hSum S G b d (al G) : Nat), .int .i64 0]) ∧ St S S' G b d (fun t => t ∈ al G ∧ cont S G t b ≠ some d) ∧ MG w0 Y mm tb bb q pd S' G (c + 8) (R + hSum S G b d (al G)) w' ∧ Same Y w w' := by
  have HM := Lib.hid h
  have HC := Lib.hid hc
  have HB := Lib.hid hb
  have HD := Lib.hid hd
  have HR := Lib.hid hR
  have HRF := Lib.hid (show irE (b : Int) d.size = 0 by unfold irE rfE; rw [if_neg (by rw [if_neg (by omega)]; simp), if_pos hd])
  clear h hc hb hd hR
  go_enter Tryz.func32, Tryz.ntmps32
  go_wp2_with fail
  refine (irefusal_m HM.out (b : Int) d).mono ?_
  rintro e w1 ⟨rfl, hb⟩
  rw [HRF.out]
  have HM1 := Lib.hid (HM.out.later hb)
  have HSM1 := Lib.hid (Same.of_belowG HM.out.cg hb)
  clear hb
  go_wp2_with fail
  refine (alive_m HM1.out).mono ?_
  rintro e w2 ⟨av, cap, rfl, hsd, hfr, hb⟩
  have HM2 := Lib.hid (HM1.out.later hb)
  have HSM2 := Lib.hid (show Same Y w w2 from fun j hj => (hb.block j (HM1.out.y j hj).2).trans (HSM1.out j (by simp [hj])))
  obtain ⟨L, hL⟩ : ∃ L, L = al G := ⟨_, rfl⟩
  rw [← hL] at hsd ⊢
  have HL := Lib.hid hL
  obtain ⟨n, hn⟩ : ∃ n, n = L.length := ⟨_, rfl⟩
  have HN := Lib.hid hn
  have hn2 : n ≤ 2 := by rw [hn, hL]; exact al_le G
  rw [← hn]
  by_cases h0 : n = 0
  · have hnil : al G = [] := List.eq_nil_of_length_eq_zero (by rw [← hL, ← hn]; exact h0)
    have HV := Lib.hid (show hSum S G b d (al G) = 0 by rw [hnil]; rfl)
    have HST := Lib.hid ((St.none (S := S) (G := G) (b := b) (d := d)).iff (Q := fun t => t ∈ al G ∧ cont S G t b ≠ some d) (fun t ht => by rw [hnil]; simp))
    subst h0
    clear hsd hfr hb hL hn hnil
    go_wp2_with fail
    go_loopw [24, 9] (fun i a wr => i = .int .i64 0 ∧ a = .int .i64 0 ∧ wr = w2) (fun i _ _ => 0)
    case atStart => exact ⟨rfl, rfl, rfl⟩
    case round =>
      obtain ⟨rfl, rfl, rfl⟩ := hrel
      go_wp2
      go_ret2
      exact ⟨S, by rw [HV.out]; rfl, HST.out, by rw [HV.out]; exact HM2.out.mono (by omega), HSM2.out⟩
  · have hne : L ≠ [] := fun e => h0 (by rw [hn, e]; rfl)
    obtain ⟨z, rfl, hlp⟩ := hsd.lp hne
    obtain ⟨hz1, hz2⟩ := hfr z 0 rfl
    have HM3 := Lib.hid (HM1.out.fresh hb hz1 hz2)
    have HLP := Lib.hid hlp
    clear hsd hfr hb hL hn hne hlp hz1 hz2 HM2 HM1
    go_wp2_with fail
    go_loopw [24, 9] (fun i a wr => ∃ (j m : Nat) (S1 : Nat → Sd), j ≤ n ∧ i = .int .i64 j ∧ a = .int .i64 m ∧ m = hSum S G b d (L.take j) ∧ St S S1 G b d (fun t => t ∈ L.take j ∧ cont S G t b ≠ some d) ∧ MG w0 (z :: Y) mm tb bb q pd S1 G (c + 4 * j) (R + m) wr ∧ Same (z :: Y) w2 wr) (fun i _ _ => n - (intOf i).toNat)
    case atStart => exact ⟨0, 0, S, Nat.zero_le _, rfl, rfl, rfl, (St.none).iff (fun t ht => by simp), HM3.out, Same.refl _ _⟩
    case round =>
      obtain ⟨j, m, S1, hj, rfl, rfl, hm, hst, hmr, hsr⟩ := hrel
      have HMr := Lib.hid hmr
      have HSr := Lib.hid hsr
      have HST := Lib.hid hst
      have HMM := Lib.hid hm
      have hm2 : m ≤ 2 := by rw [hm]; have := hSum_le (S := S) (G := G) (b := b) (d := d) (L.take j); rw [List.length_take] at this; omega
      clear hmr hsr hst hm
      by_cases hlt : j < n
      · obtain ⟨x, hx⟩ : ∃ x, x = L.getD j 0 := ⟨_, rfl⟩
        have hcell := (HLP.out.same (HSr.out z (by simp))) j (by rw [← HN.out]; exact hlt)
        rw [← hx] at hcell
        have hxx := al_at (G := G) (j := j) (by rw [← HL.out, ← HN.out]; exact hlt)
        rw [← HL.out, ← hx] at hxx
        obtain ⟨hx2, hxg⟩ := hxx
        have HX := Lib.hid hx
        clear hx
        go_wp2_with fail
        refine (heal_m HMr.out hx2 HB.out HD.out (by have := HC.out; omega) (by have := HR.out; omega)).mono ?_
        rintro e w4 ⟨S2, rfl, hst, hm, hsm⟩
        have hnt : x ∉ L.take j := by rw [HX.out]; exact not_take (by rw [HL.out]; exact al_nodup G) (by rw [← HN.out]; exact hlt)
        obtain ⟨hc1, hc2⟩ : cont S1 G x b = cont S G x b ∧ wE S1 G x b = wE S G x b := by
          rcases HST.out.at_ x hx2 with ⟨h1, -⟩ | ⟨-, h2, h3⟩
          · exact absurd h1.1 hnt
          · exact ⟨h2, h3⟩
        have he : hlN S1 G x b d = hlN S G x b d := by unfold hlN rpN; rw [hc1, hc2]
        obtain ⟨y, hy⟩ : ∃ y, y = hlN S G x b d := ⟨_, rfl⟩
        rw [he, ← hy] at hm ⊢
        have hy1 : y ≤ 1 := by rw [hy]; exact hlN_le
        have HNX := Lib.hid (show m + y = hSum S G b d (L.take (j + 1)) by rw [hSum_next (by rw [← HN.out]; exact hlt), ← HX.out, ← hy, ← HMM.out])
        have HST2 := Lib.hid (show St S S2 G b d (fun t => t ∈ L.take (j + 1) ∧ cont S G t b ≠ some d) from by
          have hcomp : St S1 S2 G b d (fun t => t = x ∧ cont S G x b ≠ some d) := by rw [← hc1]; exact hst
          refine (HST.out.trans hcomp (fun t ht h1 h2 => hnt (by rw [← h2.1]; exact h1.1))).iff (fun t ht => ?_)
          rw [take_next (by rw [← HN.out]; exact hlt), List.mem_append, ← HX.out]
          simp only [List.mem_singleton]
          constructor
          · rintro ⟨h1 | h1, h2⟩
            · exact .inl ⟨h1, h2⟩
            · exact .inr ⟨h1, by rw [← h1]; exact h2⟩
          · rintro (⟨h1, h2⟩ | ⟨h1, h2⟩)
            · exact ⟨.inl h1, h2⟩
            · exact ⟨.inr h1, by rw [h1]; exact h2⟩)
        have HM4 := Lib.hid (hm.mono (d := c + 4 * (j + 1)) (by omega))
        have HS4 := Lib.hid (HSr.out.trans hsm)
        clear hm hsm hcell hst hnt hc1 hc2 he hy
        go_wp2_with fail
        go_roundw
        case rel => exact ⟨j + 1, m + y, S2, by omega, by go_num, by go_num, HNX.out, HST2.out, by have := HM4.out; rwa [Nat.add_assoc] at this, HS4.out⟩
        case measure => simp [intOf]; omega
      · obtain rfl : j = n := by omega
        have HTK := Lib.hid (show L.take j = al G by rw [HN.out, List.take_length, HL.out])
        go_wp2
        go_ret2
        rw [← HTK.out]
        refine ⟨S1, by rw [← HMM.out]; rfl, HST.out, ?_, fun k hk => (HSr.out k (by simp [hk])).trans (HSM2.out k hk)⟩
        rw [← HMM.out]
        exact (HMr.out.sub (fun k hk => List.mem_cons_of_mem _ hk)).mono (by omega)
/-! ### Write, where no sector is bad -/
/-- both sides are gone -/
def lsE (G : Nat → Bool) : Int := if al G = [] then 8 else 0
set_option maxHeartbeats 2000000 in
set_option maxRecDepth 100000 in
theorem Write_no (h : MG w0 Y mm tb bb q pd S G c R w) (b : Int) (d : ByteArray) (hE : irE b d.size ≠ 0) : Calls Tryz.prog 13 #[.pointer (some ⟨mm, 0, none⟩), .int .i64 b, .string d] w fun e w' => e = .returned (.int .i64 (irE b d.size)) ∧ Below w.heap.size w w' := by
  have HM := Lib.hid h
  clear h
  go_enter Tryz.func13, Tryz.ntmps13
  go_wp2_with fail
  refine (irefusal_m HM.out b d).mono ?_
  rintro e w1 ⟨rfl, hb⟩
  have HB := Lib.hid hb
  obtain ⟨x, hx⟩ : ∃ x, x = irE b d.size := ⟨_, rfl⟩
  have HX := Lib.hid hx
  rw [← hx] at hE ⊢
  clear hb hx
  go_wp2
  go_ret
  exact ⟨by rw [HX.out]; rfl, HB.out⟩
set_option maxHeartbeats 2000000 in
set_option maxRecDepth 100000 in
theorem Write_m (h : MG w0 Y mm tb bb q pd S G c R w) (hNB : NoBad S) (hb : b < 14) {d : ByteArray} (hd : d.size = 128) (hc : c ≤ 700000) : Calls Tryz.prog 13 #[.pointer (some ⟨mm, 0, none⟩), .int .i64 (b : Nat), .string d] w fun e w' => ∃ S', e = .returned (.int .i64 (lsE G)) ∧ St S S' G b d (fun t => t ∈ al G) ∧ MG w0 Y mm tb bb q pd S' G (c + 8) R w' ∧ Same Y w w' := by
  have HM := Lib.hid h
  have HC := Lib.hid hc
  have HB := Lib.hid hb
  have HD := Lib.hid hd
  have HNB := Lib.hid hNB
  have HRF := Lib.hid (show irE (b : Int) d.size = 0 by unfold irE rfE; rw [if_neg (by rw [if_neg (by omega)]; simp), if_pos hd])
  clear h hc hb hd hNB
  go_enter Tryz.func13, Tryz.ntmps13
  go_wp2_with fail
  refine (irefusal_m HM.out (b : Int) d).mono ?_
  rintro e w1 ⟨rfl, hb⟩
  rw [HRF.out]
  have HM1 := Lib.hid (HM.out.later hb)
  have HSM1 := Lib.hid (Same.of_belowG HM.out.cg hb)
  clear hb
  go_wp2_with fail
  refine (alive_m HM1.out).mono ?_
  rintro e w2 ⟨av, cap, rfl, hsd, hfr, hb⟩
  have HM2 := Lib.hid (HM1.out.later hb)
  have HSM2 := Lib.hid (show Same Y w w2 from fun j hj => (hb.block j (HM1.out.y j hj).2).trans (HSM1.out j (by simp [hj])))
  obtain ⟨L, hL⟩ : ∃ L, L = al G := ⟨_, rfl⟩
  rw [← hL] at hsd ⊢
  have HL := Lib.hid hL
  obtain ⟨n, hn⟩ : ∃ n, n = L.length := ⟨_, rfl⟩
  have HN := Lib.hid hn
  have hn2 : n ≤ 2 := by rw [hn, hL]; exact al_le G
  rw [← hn]
  by_cases h0 : n = 0
  · have hnil : al G = [] := List.eq_nil_of_length_eq_zero (by rw [← hL, ← hn]; exact h0)
    have HNL := Lib.hid hnil
    have HST := Lib.hid ((St.none (S := S) (G := G) (b := b) (d := d)).iff (Q := fun t => t ∈ al G) (fun t ht => by rw [hnil]; simp))
    subst h0
    clear hsd hfr hb hL hn hnil
    go_wp2
    go_ret
    exact ⟨S, by rw [lsE, if_pos HNL.out]; rfl, HST.out, HM2.out.mono (by omega), HSM2.out⟩
  · have hne : L ≠ [] := fun e => h0 (by rw [hn, e]; rfl)
    have HNE := Lib.hid (show ¬ al G = [] by rw [← hL]; exact hne)
    obtain ⟨z, rfl, hlp⟩ := hsd.lp hne
    obtain ⟨hz1, hz2⟩ := hfr z 0 rfl
    have HM3 := Lib.hid (HM1.out.fresh hb hz1 hz2)
    have HLP := Lib.hid hlp
    clear hsd hfr hb hL hn hne hlp hz1 hz2 HM2 HM1
    have hn0 : ((n : Int) == 0) = false := by simp; omega
    have hn1 : ¬ (n : Int) = 0 := by omega
    go_wp2_with fail
    go_loopw [26, 9] (fun i a wr => ∃ (j : Nat) (S1 : Nat → Sd), j ≤ n ∧ i = .int .i64 j ∧ a = .int .i64 (if j = 0 then 7 else 0) ∧ St S S1 G b d (fun t => t ∈ L.take j) ∧ MG w0 (z :: Y) mm tb bb q pd S1 G (c + 4 * j) R wr ∧ Same (z :: Y) w2 wr) (fun i _ _ => n - (intOf i).toNat)
    case atStart => exact ⟨0, S, Nat.zero_le _, rfl, rfl, (St.none).iff (fun t ht => by simp), HM3.out, Same.refl _ _⟩
    case round =>
      obtain ⟨j, S1, hj, rfl, rfl, hst, hmr, hsr⟩ := hrel
      have HMr := Lib.hid hmr
      have HSr := Lib.hid hsr
      have HST := Lib.hid hst
      clear hmr hsr hst
      obtain ⟨an, han⟩ : ∃ an : Int, an = if j = 0 then 7 else 0 := ⟨_, rfl⟩
      have HAN := Lib.hid han
      rw [← han]
      clear han
      by_cases hlt : j < n
      · obtain ⟨x, hx⟩ : ∃ x, x = L.getD j 0 := ⟨_, rfl⟩
        have hcell := (HLP.out.same (HSr.out z (by simp))) j (by rw [← HN.out]; exact hlt)
        rw [← hx] at hcell
        have hxx := al_at (G := G) (j := j) (by rw [← HL.out, ← HN.out]; exact hlt)
        rw [← HL.out, ← hx] at hxx
        obtain ⟨hx2, hxg⟩ := hxx
        have HX := Lib.hid hx
        have HE := Lib.hid (show wE S1 G x b = 0 by rw [wE_nobad (HST.out.nb HNB.out) HMr.out.good hx2 HB.out, hxg]; rfl)
        clear hx
        go_wp2_with fail
        refine (put_m HMr.out hx2 HB.out HD.out (by have := HC.out; omega)).mono ?_
        rintro e w4 ⟨S2, rfl, hst, hm, hsm⟩
        rw [HE.out]
        have hnt : x ∉ L.take j := by rw [HX.out]; exact not_take (by rw [HL.out]; exact al_nodup G) (by rw [← HN.out]; exact hlt)
        have HST2 := Lib.hid (show St S S2 G b d (fun t => t ∈ L.take (j + 1)) from by
          refine (HST.out.trans hst (fun t ht h1 h2 => hnt (by rw [← h2]; exact h1))).iff (fun t ht => ?_)
          rw [take_next (by rw [← HN.out]; exact hlt), List.mem_append, ← HX.out]
          simp only [List.mem_singleton])
        have HM4 := Lib.hid (hm.mono (d := c + 4 * (j + 1)) (by omega))
        have HS4 := Lib.hid (HSr.out.trans hsm)
        clear hm hsm hcell hst hnt
        go_wp2_with fail
        go_roundw
        case rel => exact ⟨j + 1, S2, by omega, by go_num, by rw [if_neg (by omega)], HST2.out, HM4.out, HS4.out⟩
        case measure => simp [intOf]; omega
      · obtain rfl : j = n := by omega
        have HTK := Lib.hid (show L.take j = al G by rw [HN.out, List.take_length, HL.out])
        go_wp2
        go_ret
        refine ⟨S1, by rw [lsE, if_neg HNE.out, HAN.out, if_neg h0]; rfl, by rw [← HTK.out]; exact HST.out, ?_, fun k hk => (HSr.out k (by simp [hk])).trans (HSM2.out k hk)⟩
        exact (HMr.out.sub (fun k hk => List.mem_cons_of_mem _ hk)).mono (by omega)
/-! ### Flush -/
theorem Flush_n (w : World) : Calls Tryz.prog 14 #[.pointer none] w fun e w' => e = .returned (.int .i64 1) ∧ w = w' := by
  go_enter Tryz.func14, Tryz.ntmps14
  go_wp2
  go_ret
  exact ⟨rfl, rfl⟩
set_option maxHeartbeats 2000000 in
set_option maxRecDepth 100000 in
theorem Flush_m (h : MG w0 Y mm tb bb q pd S G c R w) (hc : c ≤ 700000) : Calls Tryz.prog 14 #[.pointer (some ⟨mm, 0, none⟩)] w fun e w' => e = .returned (.int .i64 (lsE G)) ∧ MG w0 Y mm tb bb q pd S G c R w' ∧ Same Y w w' := by
  have HM := Lib.hid h
  have HC := Lib.hid hc
  clear h hc
  go_enter Tryz.func14, Tryz.ntmps14
  go_wp2_with fail
  refine (alive_m HM.out).mono ?_
  rintro e w2 ⟨av, cap, rfl, hsd, hfr, hb⟩
  have HM2 := Lib.hid (HM.out.later hb)
  have HSM2 := Lib.hid (show Same Y w w2 from fun j hj => hb.block j (HM.out.y j hj).2)
  obtain ⟨L, hL⟩ : ∃ L, L = al G := ⟨_, rfl⟩
  rw [← hL] at hsd ⊢
  have HL := Lib.hid hL
  obtain ⟨n, hn⟩ : ∃ n, n = L.length := ⟨_, rfl⟩
  have HN := Lib.hid hn
  have hn2 : n ≤ 2 := by rw [hn, hL]; exact al_le G
  rw [← hn]
  by_cases h0 : n = 0
  · have HNL := Lib.hid (show al G = [] from List.eq_nil_of_length_eq_zero (by rw [← hL, ← hn]; exact h0))
    subst h0
    clear hsd hfr hb hL hn
    go_wp2
    go_ret
    exact ⟨by rw [lsE, if_pos HNL.out]; rfl, HM2.out, HSM2.out⟩
  · have hne : L ≠ [] := fun e => h0 (by rw [hn, e]; rfl)
    have HNE := Lib.hid (show ¬ al G = [] by rw [← hL]; exact hne)
    obtain ⟨z, rfl, hlp⟩ := hsd.lp hne
    obtain ⟨hz1, hz2⟩ := hfr z 0 rfl
    have HM3 := Lib.hid (HM.out.fresh hb hz1 hz2)
    have HLP := Lib.hid hlp
    clear hsd hfr hb hL hn hne hlp hz1 hz2 HM2 HM
    have hn0 : ((n : Int) == 0) = false := by simp; omega
    have hn1 : ¬ (n : Int) = 0 := by omega
    go_wp2_with fail
    go_loopw [16] (fun i wr => ∃ (j : Nat), j ≤ n ∧ i = .int .i64 j ∧ MG w0 (z :: Y) mm tb bb q pd S G c R wr ∧ Same (z :: Y) w2 wr) (fun i _ => n - (intOf i).toNat)
    case atStart => exact ⟨0, Nat.zero_le _, rfl, HM3.out, Same.refl _ _⟩
    case round =>
      obtain ⟨j, hj, rfl, hmr, hsr⟩ := hrel
      have HMr := Lib.hid hmr
      have HSr := Lib.hid hsr
      have c0 := hmr.c0
      clear hmr hsr
      by_cases hlt : j < n
      · obtain ⟨x, hx⟩ : ∃ x, x = L.getD j 0 := ⟨_, rfl⟩
        have hcell := (HLP.out.same (HSr.out z (by simp))) j (by rw [← HN.out]; exact hlt)
        rw [← hx] at hcell
        have hxx := al_at (G := G) (j := j) (by rw [← HL.out, ← HN.out]; exact hlt)
        rw [← HL.out, ← hx] at hxx
        obtain ⟨hx2, hxg⟩ := hxx
        clear hx
        go_wp2_with fail
        refine (flush_g HMr.out.cg hx2 (by have := HC.out; omega)).mono ?_
        rintro e w4 ⟨rfl, hcg, hsm⟩
        rw [hxg, if_neg (by decide)]
        have HM4 := Lib.hid (HMr.out.read hcg hsm)
        have HS4 := Lib.hid (HSr.out.trans (same_y hsm))
        clear hcg hsm hcell
        go_wp2_with fail
        go_roundw
        case rel => exact ⟨j + 1, by omega, by go_num, HM4.out, HS4.out⟩
        case measure => simp [intOf]; omega
      · obtain rfl : j = n := by omega
        go_wp2
        go_ret
        exact ⟨by rw [lsE, if_neg HNE.out]; rfl, HMr.out.sub (fun k hk => List.mem_cons_of_mem _ hk), fun k hk => (HSr.out k (by simp [hk])).trans (HSM2.out k hk)⟩
end
end Go.Proofs.YtcjfooikmaipdaaGreatDoor.Mir

/- Layer 8 (mirror): contracts of New, Pair, Read, Check, Repairs, Degraded, and of a nil mirror. -/
namespace Go.Proofs.YtcjfooikmaipdaaGreatDoor.Mir
open Go Go.RowKit Go.Proofs.YtcjfooikmaipdaaGreatDoor Dev Tab Rem Go.Maps Go.WideMaps
set_option linter.unusedVariables false

def lsR (G : Nat → Bool) : Int := if al G = [] then 8 else 10
theorem fndV_none {S : Nat → Sd} {G : Nat → Bool} {b : Nat} {g k : Int} (h : fnd S G b g k = none) : fndV S G b g k = .tuple #[.int .i64 0, .string ⟨#[]⟩, .int .i64 (lsR G)] := by unfold fndV lsR; rw [h]
theorem fndV_some {S : Nat → Sd} {G : Nat → Bool} {b : Nat} {g k : Int} {s : Nat} {t : ByteArray} (h : fnd S G b g k = some s) (ht : cont S G s b = some t) : fndV S G b g k = .tuple #[.int .i64 (s : Nat), .string t, .int .i64 0] := by unfold fndV; rw [h]; simp only [ht]; rfl
theorem lsR_ne (G : Nat → Bool) : lsR G ≠ 0 := by unfold lsR; split <;> decide
theorem fnd_mem {S : Nat → Sd} {G : Nat → Bool} {b : Nat} {g k : Int} {s : Nat} (h : fnd S G b g k = some s) : s < 2 ∧ G s = false ∧ wh (cont S G s b) (b : Int) g k = true :=
  ⟨(al_mem.1 (List.mem_of_find?_eq_some h)).1, (al_mem.1 (List.mem_of_find?_eq_some h)).2, by simpa using List.find?_some h⟩
section
variable {w0 w w' : World} {X Y Z : List Nat} {q c mm tb bb R s b : Nat} {pd : Nat → Nat} {S : Nat → Sd} {G : Nat → Bool}
set_option maxHeartbeats 2000000 in
set_option maxRecDepth 100000 in
theorem Read_no (h : MG w0 Y mm tb bb q pd S G c R w) (a g k : Int) (ha : rfE a = 3) : Calls Tryz.prog 19 #[.pointer (some ⟨mm, 0, none⟩), ptrV a g k] w fun e w' => e = .returned (.tuple #[.int .u8 0, .string ⟨#[]⟩, .int .i64 3]) ∧ Below w.heap.size w w' := by
  have HM := Lib.hid (h.new (.cells #[.int .i64 a, .int .u64 g, .int .u32 k] 35))
  have HB := Lib.hid (b_new w (.cells #[.int .i64 a, .int .u64 g, .int .u32 k] 35))
  clear h
  go_enter Tryz.func19, Tryz.ntmps19
  go_wp2_with fail
  refine (find_no HM.out a g k ha).mono ?_
  rintro e w1 ⟨rfl, hb⟩
  have HB1 := Lib.hid (HB.out.trans (hb.mono HB.out.size))
  clear hb
  go_wp2
  go_ret3
  exact ⟨rfl, HB1.out⟩
set_option maxHeartbeats 2000000 in
set_option maxRecDepth 100000 in
theorem Read_none (h : MG w0 Y mm tb bb q pd S G c R w) (hb : b < 14) (hc : c ≤ 700000) (g k : Int) (hF : fnd S G b g k = none) : Calls Tryz.prog 19 #[.pointer (some ⟨mm, 0, none⟩), ptrV (b : Nat) g k] w fun e w' => e = .returned (.tuple #[.int .u8 0, .string ⟨#[]⟩, .int .i64 (lsR G)]) ∧ MG w0 Y mm tb bb q pd S G c R w' ∧ Same Y w w' := by
  have HM := Lib.hid (h.new (.cells #[.int .i64 (b : Nat), .int .u64 g, .int .u32 k] 35))
  have HS := Lib.hid (show Same Y w (w.alloc (.cells #[.int .i64 (b : Nat), .int .u64 g, .int .u32 k] 35)) from fun j hj => (b_new w _).block j (h.y j hj).2)
  have HF := Lib.hid (fndV_none hF)
  have HB := Lib.hid hb
  have HC := Lib.hid hc
  have hl := lsR_ne G
  obtain ⟨x, hx⟩ : ∃ x, x = lsR G := ⟨_, rfl⟩
  rw [← hx] at hl
  have HX := Lib.hid hx
  clear h hF hb hc hx
  go_enter Tryz.func19, Tryz.ntmps19
  go_wp2_with fail
  refine (find_m HM.out HB.out (by have := HC.out; omega) _ g k rfl).mono ?_
  rintro e w1 ⟨rfl, hm, hsm⟩
  rw [HF.out, ← HX.out]
  have HM1 := Lib.hid (hm.sub (Z := Y) (fun k hk => List.mem_cons_of_mem _ hk))
  have HS1 := Lib.hid (show Same Y w w1 from fun j hj => (hsm j (by simp [hj])).trans (HS.out j hj))
  clear hm hsm
  go_wp2
  go_ret3
  exact ⟨by rw [← HX.out]; rfl, HM1.out, HS1.out⟩
theorem mg_fin {p : Nat} {w2 w3 : World} (h : MG w0 (p :: Y) mm tb bb q pd S G c R w2) (hs : Same Y w w2) (hb : Below w2.heap.size w2 w3) : MG w0 Y mm tb bb q pd S G c R w3 ∧ Same Y w w3 :=
  ⟨(h.later hb).sub (fun k hk => List.mem_cons_of_mem _ hk), fun j hj => (hb.block j (h.y j (by simp [hj])).2).trans (hs j hj)⟩
/-- which side's copy Read writes anew, when it finds the side s's -/
def rdP (G : Nat → Bool) (s : Nat) : Nat → Prop := fun u => u = 0 ∧ s = 1 ∧ G 0 = false
/-- how many copies Read writes anew, when it finds the side s's -/
def rdN (S : Nat → Sd) (G : Nat → Bool) (s b : Nat) : Nat := if s = 1 ∧ G 0 = false then rpN S G 0 b else 0
theorem rdN_le : rdN S G s b ≤ 1 := by unfold rdN; split
                                       · exact rpN_le
                                       · omega
set_option maxHeartbeats 2000000 in
set_option maxRecDepth 100000 in
theorem Read_some (h : MG w0 Y mm tb bb q pd S G c R w) (hb : b < 14) (hc : c ≤ 700000) (hR : R ≤ 900000) (g k : Int) {s : Nat} {t : ByteArray} (hF : fnd S G b g k = some s) (ht : cont S G s b = some t) : Calls Tryz.prog 19 #[.pointer (some ⟨mm, 0, none⟩), ptrV (b : Nat) g k] w fun e w' => ∃ S', e = .returned (.tuple #[.int .u8 (Env.oK t.data.toList), .string (Env.oP t.data.toList), .int .i64 0]) ∧ St S S' G b t (rdP G s) ∧ MG w0 Y mm tb bb q pd S' G (c + 4) (R + rdN S G s b) w' ∧ Same Y w w' := by
  have HM := Lib.hid (h.new (.cells #[.int .i64 (b : Nat), .int .u64 g, .int .u32 k] 35))
  have hhas := Has.new w [.int .i64 (b : Nat), .int .u64 g, .int .u32 k] 35
  have HS := Lib.hid (show Same Y w (w.alloc (.cells #[.int .i64 (b : Nat), .int .u64 g, .int .u32 k] 35)) from fun j hj => (b_new w _).block j (h.y j hj).2)
  have HFV := Lib.hid (fndV_some hF ht)
  obtain ⟨hs2, hsg, -⟩ := fnd_mem hF
  have HTZ := Lib.hid (cont_size h.cg hs2 hb ht)
  have HB := Lib.hid hb
  have HC := Lib.hid hc
  have HRR := Lib.hid hR
  obtain ⟨p, hp⟩ : ∃ p, p = w.heap.size := ⟨_, rfl⟩
  rw [← hp] at HM hhas
  have HH := Lib.hid hhas
  have HP := Lib.hid hp
  have HO := Lib.hid (show Env.open3V t.data.toList = .tuple #[.agg #[.int .u8 (Env.oK t.data.toList), .int .i64 (Env.oA t.data.toList), .int .u64 (Env.oG t.data.toList)], .string (Env.oP t.data.toList), .int .i64 (Env.opE t.data.toList)] from rfl)
  obtain ⟨k1, hk1⟩ : ∃ x, x = Env.oK t.data.toList := ⟨_, rfl⟩
  obtain ⟨k2, hk2⟩ : ∃ x, x = Env.oA t.data.toList := ⟨_, rfl⟩
  obtain ⟨k3, hk3⟩ : ∃ x, x = Env.oG t.data.toList := ⟨_, rfl⟩
  obtain ⟨k4, hk4⟩ : ∃ x, x = Env.oP t.data.toList := ⟨_, rfl⟩
  obtain ⟨k5, hk5⟩ : ∃ x, x = Env.opE t.data.toList := ⟨_, rfl⟩
  rw [← hk1, ← hk2, ← hk3, ← hk4, ← hk5] at HO
  rw [← hk1, ← hk4]
  clear h hF hb hc hR hhas hp hk1 hk2 hk3 hk4 hk5
  go_enter Tryz.func19, Tryz.ntmps19
  go_wp2_with fail
  refine (find_m HM.out HB.out (by have := HC.out; omega) _ g k rfl).mono ?_
  rintro e w1 ⟨rfl, hm, hsm⟩
  rw [HFV.out, ← HP.out]
  have HM1 := Lib.hid hm
  have HH1 := Lib.hid (Has.same HH.out (hsm p (by simp)))
  have HS1 := Lib.hid (show Same Y w w1 from fun j hj => (hsm j (by simp [hj])).trans (HS.out j hj))
  have c0 := hm.c0
  have c1 := hm.c1
  clear hm hsm HM HH HS
  rcases (show s = 0 ∨ s = 1 by omega) with rfl | rfl
  · have HN := Lib.hid (show rdN S G 0 b = 0 by unfold rdN; rw [if_neg (by omega)])
    have HST := Lib.hid ((St.none (S := S) (G := G) (b := b) (d := t)).iff (Q := rdP G 0) (fun u hu => ⟨fun h => (by have := h.2.1; omega), fun h => h.elim⟩))
    go_wp2_with fail
    refine (Env.open_any tb t _ HM1.out.tab (by rw [HTZ.out]; omega)).mono ?_
    rintro e w2 ⟨rfl, hb⟩
    rw [HO.out]
    have HM2 := Lib.hid (HM1.out.later hb)
    have HS2 := Lib.hid (show Same Y w w2 from fun j hj => (hb.block j (HM1.out.y j (by simp [hj])).2).trans (HS1.out j hj))
    clear hb
    go_wp2
    go_ret3
    rw [HN.out]
    exact ⟨S, rfl, HST.out, mg_fin (HM2.out.mono (by omega)) HS2.out (by
      repeat (first | exact Below.refl _ _ | apply Env.below_nw | refine Env.below_st ?_ (Nat.le_refl _) _))⟩
  · cases hG : G 0 with
    | true =>
      have HN := Lib.hid (show rdN S G 1 b = 0 by unfold rdN; rw [if_neg (by rw [hG]; simp)])
      have HST := Lib.hid ((St.none (S := S) (G := G) (b := b) (d := t)).iff (Q := rdP G 1) (fun u hu => ⟨fun h => (by have h2 := h.2.2; rw [hG] at h2; cases h2), fun h => h.elim⟩))
      go_wp2_with fail
      refine (alive_g HM1.out.cg (s := 0) (by omega)).mono ?_
      rintro e w2 ⟨rfl, rfl⟩
      rw [hG]
      go_wp2_with fail
      refine (Env.open_any tb t _ HM1.out.tab (by rw [HTZ.out]; omega)).mono ?_
      rintro e w2 ⟨rfl, hb⟩
      rw [HO.out]
      have HM2 := Lib.hid (HM1.out.later hb)
      have HS2 := Lib.hid (show Same Y w w2 from fun j hj => (hb.block j (HM1.out.y j (by simp [hj])).2).trans (HS1.out j hj))
      clear hb
      go_wp2
      go_ret3
      rw [HN.out]
      exact ⟨S, rfl, HST.out, mg_fin (HM2.out.mono (by omega)) HS2.out (by
        repeat (first | exact Below.refl _ _ | apply Env.below_nw | refine Env.below_st ?_ (Nat.le_refl _) _))⟩
    | false =>
      have HN := Lib.hid (show rdN S G 1 b = rpN S G 0 b by unfold rdN; rw [if_pos ⟨rfl, hG⟩])
      go_wp2_with fail
      refine (alive_g HM1.out.cg (s := 0) (by omega)).mono ?_
      rintro e w2 ⟨rfl, rfl⟩
      rw [hG]
      have x0 := HH1.out.cell 0
      simp only [List.getElem?_cons_zero] at x0
      go_wp2_with fail
      refine (repair_m HM1.out (s := 0) (by omega) HB.out HTZ.out (by have := HC.out; omega) (by have := HRR.out; omega)).mono ?_
      rintro e w2 ⟨S1, rfl, hst, hm, hsm⟩
      have HST := Lib.hid (hst.iff (Q := rdP G 1) (fun u hu => ⟨fun h => h.1, fun h => ⟨h, rfl, hG⟩⟩))
      have HM2 := Lib.hid hm
      have HS2 := Lib.hid (show Same Y w w2 from fun j hj => (hsm j (by simp [hj])).trans (HS1.out j hj))
      have c1 := hm.c1
      clear hst hm hsm x0 c0
      go_wp2_with fail
      refine (Env.open_any tb t _ HM2.out.tab (by rw [HTZ.out]; omega)).mono ?_
      rintro e w3 ⟨rfl, hb⟩
      rw [HO.out]
      have HM3 := Lib.hid (HM2.out.later hb)
      have HS3 := Lib.hid (show Same Y w w3 from fun j hj => (hb.block j (HM2.out.y j (by simp [hj])).2).trans (HS2.out j hj))
      clear hb
      go_wp2
      go_ret3
      rw [HN.out]
      exact ⟨S1, rfl, HST.out, mg_fin HM3.out HS3.out (by
        repeat (first | exact Below.refl _ _ | apply Env.below_nw | refine Env.below_st ?_ (Nat.le_refl _) _))⟩
set_option maxHeartbeats 2000000 in
set_option maxRecDepth 100000 in
theorem Check_no (h : MG w0 Y mm tb bb q pd S G c R w) (a g k : Int) (ha : rfE a = 3) : Calls Tryz.prog 20 #[.pointer (some ⟨mm, 0, none⟩), ptrV a g k] w fun e w' => e = .returned (.tuple #[.int .i64 0, .int .i64 3]) ∧ Below w.heap.size w w' := by
  have HM := Lib.hid (h.new (.cells #[.int .i64 a, .int .u64 g, .int .u32 k] 35))
  have HB := Lib.hid (b_new w (.cells #[.int .i64 a, .int .u64 g, .int .u32 k] 35))
  clear h
  go_enter Tryz.func20, Tryz.ntmps20
  go_wp2_with fail
  refine (find_no HM.out a g k ha).mono ?_
  rintro e w1 ⟨rfl, hb⟩
  have HB1 := Lib.hid (HB.out.trans (hb.mono HB.out.size))
  clear hb
  go_wp2
  go_ret2
  exact ⟨rfl, HB1.out⟩
set_option maxHeartbeats 2000000 in
set_option maxRecDepth 100000 in
theorem Check_none (h : MG w0 Y mm tb bb q pd S G c R w) (hb : b < 14) (hc : c ≤ 700000) (g k : Int) (hF : fnd S G b g k = none) : Calls Tryz.prog 20 #[.pointer (some ⟨mm, 0, none⟩), ptrV (b : Nat) g k] w fun e w' => e = .returned (.tuple #[.int .i64 0, .int .i64 (lsR G)]) ∧ MG w0 Y mm tb bb q pd S G c R w' ∧ Same Y w w' := by
  have HM := Lib.hid (h.new (.cells #[.int .i64 (b : Nat), .int .u64 g, .int .u32 k] 35))
  have HS := Lib.hid (show Same Y w (w.alloc (.cells #[.int .i64 (b : Nat), .int .u64 g, .int .u32 k] 35)) from fun j hj => (b_new w _).block j (h.y j hj).2)
  have HF := Lib.hid (fndV_none hF)
  have HB := Lib.hid hb
  have HC := Lib.hid hc
  have hl := lsR_ne G
  obtain ⟨x, hx⟩ : ∃ x, x = lsR G := ⟨_, rfl⟩
  rw [← hx] at hl
  have HX := Lib.hid hx
  clear h hF hb hc hx
  go_enter Tryz.func20, Tryz.ntmps20
  go_wp2_with fail
  refine (find_m HM.out HB.out (by have := HC.out; omega) _ g k rfl).mono ?_
  rintro e w1 ⟨rfl, hm, hsm⟩
  rw [HF.out, ← HX.out]
  have HM1 := Lib.hid (hm.sub (Z := Y) (fun k hk => List.mem_cons_of_mem _ hk))
  have HS1 := Lib.hid (show Same Y w w1 from fun j hj => (hsm j (by simp [hj])).trans (HS.out j hj))
  clear hm hsm
  go_wp2
  go_ret2
  exact ⟨by rw [← HX.out]; rfl, HM1.out, HS1.out⟩
set_option maxHeartbeats 2000000 in
set_option maxRecDepth 100000 in
theorem Check_some (h : MG w0 Y mm tb bb q pd S G c R w) (hb : b < 14) (hc : c ≤ 700000) (hR : R ≤ 900000) (g k : Int) {s : Nat} {t : ByteArray} (hF : fnd S G b g k = some s) (ht : cont S G s b = some t) : Calls Tryz.prog 20 #[.pointer (some ⟨mm, 0, none⟩), ptrV (b : Nat) g k] w fun e w' => ∃ S', e = .returned (.tuple #[.int .i64 (hSum S G b t (al G) : Nat), .int .i64 0]) ∧ St S S' G b t (fun u => u ∈ al G ∧ cont S G u b ≠ some t) ∧ MG w0 Y mm tb bb q pd S' G (c + 8) (R + hSum S G b t (al G)) w' ∧ Same Y w w' := by
  have HM := Lib.hid (h.new (.cells #[.int .i64 (b : Nat), .int .u64 g, .int .u32 k] 35))
  have hhas := Has.new w [.int .i64 (b : Nat), .int .u64 g, .int .u32 k] 35
  have HS := Lib.hid (show Same Y w (w.alloc (.cells #[.int .i64 (b : Nat), .int .u64 g, .int .u32 k] 35)) from fun j hj => (b_new w _).block j (h.y j hj).2)
  have HFV := Lib.hid (fndV_some hF ht)
  obtain ⟨hs2, hsg, -⟩ := fnd_mem hF
  have HTZ := Lib.hid (cont_size h.cg hs2 hb ht)
  have HB := Lib.hid hb
  have HC := Lib.hid hc
  have HRR := Lib.hid hR
  obtain ⟨p, hp⟩ : ∃ p, p = w.heap.size := ⟨_, rfl⟩
  rw [← hp] at HM hhas
  have HH := Lib.hid hhas
  have HP := Lib.hid hp
  clear h hF hb hc hR hhas hp
  go_enter Tryz.func20, Tryz.ntmps20
  go_wp2_with fail
  refine (find_m HM.out HB.out (by have := HC.out; omega) _ g k rfl).mono ?_
  rintro e w1 ⟨rfl, hm, hsm⟩
  rw [HFV.out, ← HP.out]
  have HM1 := Lib.hid hm
  have x0 := (Has.same HH.out (hsm p (by simp))).cell 0
  simp only [List.getElem?_cons_zero] at x0
  have HS1 := Lib.hid (show Same Y w w1 from fun j hj => (hsm j (by simp [hj])).trans (HS.out j hj))
  clear hm hsm HM HH HS
  go_wp2_with fail
  refine (Heal_m HM1.out HB.out HTZ.out HC.out HRR.out).mono ?_
  rintro e w2 ⟨S1, rfl, hst, hm, hsm⟩
  have HST := Lib.hid hst
  have HM2 := Lib.hid (hm.sub (Z := Y) (fun k hk => List.mem_cons_of_mem _ hk))
  have HS2 := Lib.hid (show Same Y w w2 from fun j hj => (hsm j (by simp [hj])).trans (HS1.out j hj))
  clear hst hm hsm
  go_wp2
  go_ret2
  exact ⟨S1, rfl, HST.out, HM2.out, HS2.out⟩
/-! ### small ones -/
theorem Pair_m (h : MG w0 Y mm tb bb q pd S G c R w) : Calls Tryz.prog 22 #[.pointer (some ⟨mm, 0, none⟩)] w fun e w' => e = .returned (.pointer (some ⟨q, 0, none⟩)) ∧ w = w' := by
  have c0 := h.c0
  clear h
  go_enter Tryz.func22, Tryz.ntmps22
  go_wp2
  go_ret
  exact ⟨rfl, rfl⟩
theorem Repairs_m (h : MG w0 Y mm tb bb q pd S G c R w) : Calls Tryz.prog 25 #[.pointer (some ⟨mm, 0, none⟩)] w fun e w' => e = .returned (.int .i64 (R : Nat)) ∧ w = w' := by
  have c2 := h.c2
  clear h
  go_enter Tryz.func25, Tryz.ntmps25
  go_wp2
  go_ret
  exact ⟨rfl, rfl⟩
theorem Degraded_m (h : MG w0 Y mm tb bb q pd S G c R w) : Calls Tryz.prog 26 #[.pointer (some ⟨mm, 0, none⟩)] w fun e w' => e = .returned (.bool (decide ((al G).length < 2))) ∧ Below w.heap.size w w' := by
  have HM := Lib.hid h
  clear h
  go_enter Tryz.func26, Tryz.ntmps26
  go_wp2_with fail
  refine (alive_m HM.out).mono ?_
  rintro e w2 ⟨av, cap, rfl, hsd, hfr, hb⟩
  have HB := Lib.hid hb
  obtain ⟨n, hn⟩ : ∃ n, n = (al G).length := ⟨_, rfl⟩
  have HN := Lib.hid hn
  rw [← hn]
  clear hsd hfr hb hn
  go_wp2
  go_ret
  exact ⟨by rw [← HN.out]; simp; omega, HB.out⟩
theorem Pair_n (w : World) : Calls Tryz.prog 22 #[.pointer none] w fun e w' => e = .returned (.pointer none) ∧ w = w' := by
  go_enter Tryz.func22, Tryz.ntmps22
  go_wp2
  go_ret
  exact ⟨rfl, rfl⟩
theorem Repairs_n (w : World) : Calls Tryz.prog 25 #[.pointer none] w fun e w' => e = .returned (.int .i64 0) ∧ w = w' := by
  go_enter Tryz.func25, Tryz.ntmps25
  go_wp2
  go_ret
  exact ⟨rfl, rfl⟩
theorem Bad_n (w : World) : Calls Tryz.prog 21 #[.pointer none] w fun e w' => e = .returned (.slice none 0 0) ∧ w = w' := by
  go_enter Tryz.func21, Tryz.ntmps21
  go_wp2
  go_ret
  exact ⟨rfl, rfl⟩
theorem Degraded_n (w : World) : Calls Tryz.prog 26 #[.pointer none] w fun e w' => e = .returned (.bool false) ∧ w = w' := by
  go_enter Tryz.func26, Tryz.ntmps26
  go_wp2
  go_ret
  exact ⟨rfl, rfl⟩
theorem Write_n (b : Int) (t : ByteArray) (w : World) : Calls Tryz.prog 13 #[.pointer none, .int .i64 b, .string t] w fun e w' => e = .returned (.int .i64 1) ∧ w = w' := by
  go_enter Tryz.func13, Tryz.ntmps13
  go_wp2_with fail
  refine (irefusal_n b t w).mono ?_
  rintro e w' ⟨rfl, rfl⟩
  go_wp2
  go_ret
  exact ⟨rfl, rfl⟩
theorem Heal_n (b : Int) (t : ByteArray) (w : World) : Calls Tryz.prog 32 #[.pointer none, .int .i64 b, .string t] w fun e w' => e = .returned (.tuple #[.int .i64 0, .int .i64 1]) ∧ w = w' := by
  go_enter Tryz.func32, Tryz.ntmps32
  go_wp2_with fail
  refine (irefusal_n b t w).mono ?_
  rintro e w' ⟨rfl, rfl⟩
  go_wp2
  go_ret2
  exact ⟨rfl, rfl⟩
theorem Images_n (b : Int) (w : World) : Calls Tryz.prog 30 #[.pointer none, .int .i64 b] w fun e w' => e = .returned (.tuple #[.slice none 0 0, .int .i64 1]) ∧ w = w' := by
  go_enter Tryz.func30, Tryz.ntmps30
  go_wp2_with fail
  refine (refusal_n b w).mono ?_
  rintro e w' ⟨rfl, rfl⟩
  go_wp2
  go_ret2
  exact ⟨rfl, rfl⟩
theorem find_n (a g k : Int) (w : World) : Calls Tryz.prog 56 #[.pointer none, ptrV a g k] w fun e w' => e = .returned (.tuple #[.int .i64 0, .string ⟨#[]⟩, .int .i64 1]) ∧ Below w.heap.size w w' := by
  go_enter Tryz.func56, Tryz.ntmps56
  go_wp2_with fail
  refine (refusal_n a _).mono ?_
  rintro e w' ⟨rfl, rfl⟩
  go_wp2
  go_ret3
  exact ⟨rfl, b_new _ _⟩
theorem Check_n (a g k : Int) (w : World) : Calls Tryz.prog 20 #[.pointer none, ptrV a g k] w fun e w' => e = .returned (.tuple #[.int .i64 0, .int .i64 1]) ∧ Below w.heap.size w w' := by
  have HB := Lib.hid (b_new w (.cells #[.int .i64 a, .int .u64 g, .int .u32 k] 35))
  go_enter Tryz.func20, Tryz.ntmps20
  go_wp2_with fail
  refine (find_n a g k _).mono ?_
  rintro e w' ⟨rfl, hb⟩
  have HB1 := Lib.hid (HB.out.trans (hb.mono HB.out.size))
  clear hb
  go_wp2
  go_ret2
  exact ⟨rfl, HB1.out⟩
theorem Read_n (a g k : Int) (w : World) : Calls Tryz.prog 19 #[.pointer none, ptrV a g k] w fun e w' => e = .returned (.tuple #[.int .u8 0, .string ⟨#[]⟩, .int .i64 1]) ∧ Below w.heap.size w w' := by
  have HB := Lib.hid (b_new w (.cells #[.int .i64 a, .int .u64 g, .int .u32 k] 35))
  go_enter Tryz.func19, Tryz.ntmps19
  go_wp2_with fail
  refine (find_n a g k _).mono ?_
  rintro e w' ⟨rfl, hb⟩
  have HB1 := Lib.hid (HB.out.trans (hb.mono HB.out.size))
  clear hb
  go_wp2
  go_ret3
  exact ⟨rfl, HB1.out⟩
end
end Go.Proofs.YtcjfooikmaipdaaGreatDoor.Mir

/- Layer 8 (mirror): contracts of New, Images, Whole. -/
namespace Go.Proofs.YtcjfooikmaipdaaGreatDoor.Mir
open Go Go.RowKit Go.Proofs.YtcjfooikmaipdaaGreatDoor Dev Tab Rem Go.Maps Go.WideMaps
set_option linter.unusedVariables false

def noG : Nat → Bool := fun _ => false
theorem al_no : al noG = [0, 1] := rfl
theorem isTab_lt {w : World} {b : Nat} (h : Sum.IsTab w b) : b < w.heap.size := by
  have := h 0 (by omega)
  rcases Nat.lt_or_ge b w.heap.size with h1 | h1
  · exact h1
  · unfold World.cell? at this; rw [Array.getElem?_eq_none h1] at this; cases this
section
variable {w0 w w' : World} {X Y Z : List Nat} {q c mm tb bb R s b : Nat} {pd : Nat → Nat} {S : Nat → Sd} {G : Nat → Bool}
theorem New_n (w : World) : Calls Tryz.prog 33 #[.pointer none] w fun e w' => e = .returned (.tuple #[.pointer none, .int .i64 1]) ∧ w = w' := by
  go_enter Tryz.func33, Tryz.ntmps33
  go_wp2
  go_ret2
  exact ⟨rfl, rfl⟩
set_option maxRecDepth 100000 in
theorem New_m (h : CP w0 Y q pd S c w) (hS : ∀ t, t < 2 → Spare (S t)) : Calls Tryz.prog 33 #[.pointer (some ⟨q, 0, none⟩)] w fun e w' => ∃ mm tb bb, e = .returned (.tuple #[.pointer (some ⟨mm, 0, none⟩), .int .i64 0]) ∧ MG w0 Y mm tb bb q pd S noG c 0 w' ∧ Same Y w w' := by
  have HC := Lib.hid h.cg
  have HS := Lib.hid hS
  clear h hS
  go_enter Tryz.func33, Tryz.ntmps33
  go_wp2_with fail
  refine (Sum.make_any w).mono ?_
  rintro e w1 ⟨tb, rfl, htb, htab, hb⟩
  have hlt := isTab_lt htab
  have HC1 := Lib.hid (HC.out.fresh hb htb hlt)
  have HB1 := Lib.hid hb
  have HT := Lib.hid htab
  have HLT := Lib.hid (And.intro htb hlt)
  clear htb hlt hb htab
  have hmm := @run_makeMap Tryz.prog
  go_wp2

  go_ret2
  have hc2 := (HC1.out.new (.map #[] 0)).new (.cells (mrow q tb w1.heap.size 0).toArray 108)
  obtain ⟨ht1, ht2⟩ := HLT.out
  have hnY : ∀ k, w.heap.size ≤ k → k ∉ Y := fun k hk e => by have := (HC.out.x k e).2; omega
  have hsz : (w1.alloc (.map #[] 0)).heap.size = w1.heap.size + 1 := by simp
  refine ⟨w1.heap.size + 1, tb, w1.heap.size, by simp, ?_, ?_⟩
  · refine ⟨?_, ⟨HS.out, .inl (fun t ht => rfl)⟩, ?_, ?_, by omega, ⟨hnY _ (by have := HB1.out.size; omega), hnY _ ht1, hnY _ HB1.out.size⟩, 0, .map [], Nat.zero_le _, ?_, ?_⟩
    · have := hc2.sub (Y := (w1.heap.size + 1) :: tb :: w1.heap.size :: Y) (fun k hk => by rw [hsz]; simp at hk ⊢; rcases hk with rfl | rfl | rfl | hk <;> simp [*])
      exact this
    · have := Has.new (w1.alloc (.map #[] 0)) (mrow q tb w1.heap.size 0) 108
      rw [hsz] at this
      exact this
    · refine tab_same HT.out ?_
      rw [Below.heap_alloc _ _ _ (by rw [hsz]; omega), Below.heap_alloc _ _ _ ht2]
    · have := World.ownsMap_made (H := Unit) w1 Tryz.prog 144 badR
      exact mapB_same this (Below.heap_alloc _ _ _ (by rw [hsz]; omega))
    · exact ⟨isMap_empty, fun z hz => by cases hz⟩
  · intro k hk
    have := (HC.out.x k hk).2
    have := HB1.out.size
    rw [Below.heap_alloc _ _ _ (by rw [hsz]; omega), Below.heap_alloc _ _ _ (by omega)]
    exact HB1.out.block k (HC.out.x k hk).2
/-! ### Images, of blocks that both sides read -/
theorem own_same {w w' : World} {B n sz : Nat} {e : TypeId} {v : Value} {xs : List Value} (h : w.ownsRow B e sz v n xs) (hk : ∀ k, v.ownBlock = some k → w'.heap[k]? = w.heap[k]?) : w'.ownsRow B e sz v n xs := by
  refine ⟨h.1, ?_⟩
  rcases h.2 with h2 | ⟨g, cap, cur, rfl, hb, hc, h3⟩
  · exact .inl h2
  · exact .inr ⟨g, cap, cur, rfl, hb, (hk g rfl).trans hc, h3⟩
theorem _root_.Go.Proofs.YtcjfooikmaipdaaGreatDoor.Mir.MG.grow {w0 w w' : World} {Y : List Nat} {q c mm tb bb R : Nat} {pd : Nat → Nat} {S : Nat → Sd} {G : Nat → Bool} {row : Option Nat} (h : MG w0 Y mm tb bb q pd S G c R w) (hg : w.grownBy w' row) (hr : ∀ k, row = some k → k ∈ Y) : MG w0 Y mm tb bb q pd S G c R w' := by
  have hblk : ∀ k, k ∉ Y → k < w.heap.size → w'.heap[k]? = w.heap[k]? := fun k h1 h2 => hg.block k h2 (fun e => h1 (hr k e.symm))
  obtain ⟨n, D, h1, h2, h3⟩ := h.map
  exact ⟨h.cg.chg ((Chg.refl _ w).grown hg (fun k _ hk => by simp [hr k hk])), h.fit, Has.same h.row (hblk mm h.my.1 h.lt), tab_same h.tab (hblk tb h.my.2.1 (h.cg.x tb (by simp)).2), h.mt, h.my, n, D, h1, mapB_same h2 (hblk bb h.my.2.2 (h.cg.x bb (by simp)).2), h3⟩
theorem info_str8 : (Tryz.prog.info? 9).map (fun i => (i.zero, i.size, i.bytes)) = some (some (.string ⟨#[]⟩), 1, 16) := by kernel_rfl
theorem Images_no (h : MG w0 Y mm tb bb q pd S G c R w) (b : Int) (hb : rfE b = 3) : Calls Tryz.prog 30 #[.pointer (some ⟨mm, 0, none⟩), .int .i64 b] w fun e w' => e = .returned (.tuple #[.slice none 0 0, .int .i64 3]) ∧ Below w.heap.size w w' := by
  have HM := Lib.hid h
  clear h
  go_enter Tryz.func30, Tryz.ntmps30
  go_wp2_with fail
  refine (refusal_m HM.out b).mono ?_
  rintro e w' ⟨rfl, h⟩
  rw [hb]
  have HB := Lib.hid h
  clear h
  go_wp2
  go_ret2
  exact ⟨rfl, HB.out⟩
set_option maxHeartbeats 2000000 in
set_option maxRecDepth 100000 in
theorem Images_m (h : MG w0 Y mm tb bb q pd S noG c R w) (hb : b < 14) (hc : c ≤ 700000) {x0 x1 : ByteArray} (h0 : cont S noG 0 b = some x0) (h1 : cont S noG 1 b = some x1) : Calls Tryz.prog 30 #[.pointer (some ⟨mm, 0, none⟩), .int .i64 (b : Nat)] w fun e w' => ∃ z cap, e = .returned (.tuple #[.slice (some ⟨z, 0, none⟩) 2 cap, .int .i64 0]) ∧ w'.cell? ⟨z, 0, none⟩ = some (.string x0) ∧ w'.cell? ⟨z, 1, none⟩ = some (.string x1) ∧ z < w'.heap.size ∧ MG w0 Y mm tb bb q pd S noG c R w' ∧ Same Y w w' := by
  obtain ⟨i0, hi, hz0, hz1, hz2⟩ := info_parts info_str8
  have HM := Lib.hid h
  have HC := Lib.hid hc
  have HB := Lib.hid hb
  have H0 := Lib.hid h0
  have H1 := Lib.hid h1
  have HRF := Lib.hid (show rfE (b : Int) = 0 by unfold rfE; rw [if_neg (by omega)])
  clear h hc hb h0 h1
  go_enter Tryz.func30, Tryz.ntmps30
  go_wp2_with fail
  refine (refusal_m HM.out (b : Int)).mono ?_
  rintro e w1 ⟨rfl, hb⟩
  rw [HRF.out]
  have HM1 := Lib.hid (HM.out.later hb)
  have HSM1 := Lib.hid (Same.of_belowG HM.out.cg hb)
  have HW1 := Lib.hid hb.size
  clear hb
  go_wp2_with fail
  refine (alive_m HM1.out).mono ?_
  rintro e w2 ⟨av, cap, rfl, hsd, hfr, hb⟩
  have HSM2 := Lib.hid (show Same Y w w2 from fun j hj => (hb.block j (HM1.out.y j hj).2).trans (HSM1.out j (by simp [hj])))
  rw [al_no] at hsd
  have hlen : (al noG).length = 2 := rfl
  rw [hlen]
  obtain ⟨z, rfl, hlp⟩ := hsd.lp (by simp)
  obtain ⟨hz1', hz2'⟩ := hfr z 0 rfl
  have HM3 := Lib.hid (HM1.out.fresh hb hz1' hz2')
  have HLP := Lib.hid hlp
  have HW2 := Lib.hid (Nat.le_trans HW1.out hb.size)
  clear hsd hfr hb hlp hz1' hz2' HM1 hlen
  go_wp2_with fail
  go_loopw [22, 7] (fun i v wr => ∃ j : Nat, j ≤ 2 ∧ i = .int .i64 j ∧ Same (z :: Y) w2 wr ∧
    ((j = 0 ∧ v = .slice none 0 0 ∧ MG w0 (z :: Y) mm tb bb q pd S noG c R wr) ∨
     (j = 1 ∧ ∃ y cap, v = .slice (some ⟨y, 0, none⟩) 1 cap ∧ y ∉ z :: Y ∧ wr.ownsRow 0 9 1 v 1 [.string x0] ∧ MG w0 (y :: z :: Y) mm tb bb q pd S noG c R wr) ∨
     (j = 2 ∧ wr.ownsRow 0 9 1 v 2 [.string x0, .string x1] ∧ MG w0 (z :: Y) mm tb bb q pd S noG c R wr))) (fun i _ _ => 2 - (intOf i).toNat)
  case atStart => exact ⟨0, Nat.zero_le _, rfl, Same.refl _ _, .inl ⟨rfl, rfl, HM3.out⟩⟩
  case round =>
    obtain ⟨j, hj, rfl, hsr, hcase⟩ := hrel
    have HSr := Lib.hid hsr
    clear hsr
    rcases hcase with ⟨rfl, rfl, hmr⟩ | ⟨rfl, y, cap2, rfl, hyn, hown, hmr⟩ | ⟨rfl, hown, hmr⟩
    · have HMr := Lib.hid hmr
      have hcell := (HLP.out.same (HSr.out z (by simp))) 0 (by simp)
      simp only [List.getD_cons_zero] at hcell
      rw [show ((0 : Nat) : Int) = 0 from rfl] at hcell ⊢
      clear hmr
      go_wp2_with fail
      refine (read_m HMr.out (s := 0) (by omega) HB.out (by have := HC.out; omega)).mono ?_
      rintro e w4 ⟨rfl, hm, hsm⟩
      rw [H0.out]
      have hgt : (some x0).getD ⟨#[]⟩ = x0 := rfl
      have his : (some x0).isSome = true := rfl
      rw [hgt, his]
      have HM4 := Lib.hid hm
      have HS4 := Lib.hid (HSr.out.trans hsm)
      have hown := World.ownsRow_nil (w4.alloc (.cells #[.string x0] 9)) w4.heap.size 9 1
      clear hm hsm hcell
      go_wp2_with (at_builtin; refine wpList_append_own _ rfl _ _ 22 rfl w4.heap.size 9 i0 (.string ⟨#[]⟩) 1 16 Tryz.underlying22 hi hz0 hz1 hz2 rfl (by decide) _ _ _ rfl hown ⟨w4.heap.size, 0, none⟩ 1 1 [.string x0] rfl rfl ?c1 ?c2 ?c3 ?c4 ?c5 ?_)
      case c1 =>
        intro j q hj
        match j, hj with
        | 0, hj => simp at hj; subst hj; simp [Addr.add]
      case c2 => intro q hq; simp at hq; subst hq; rfl
      case c3 => unfold maxLen; omega
      case c4 => omega
      case c5 => simp
      intro v' w6 hown' hgrow _
      obtain ⟨y, cap2, rfl, _, hy1⟩ := own_some hown' (by omega)
      have hy2 := (hown'.lt y rfl).2
      have hbel : Below w4.heap.size w4 w6 := ((Below.refl _ w4).alloc (Nat.le_refl _) _).grown hgrow (by simp) (fun q hq => by cases hq)
      have HM6 := Lib.hid (HM4.out.fresh hbel hy1 hy2)
      have HOW := Lib.hid (hown'.mono (Nat.zero_le _))
      have HS6 := Lib.hid (show Same (z :: Y) w2 w6 from fun k hk => (hbel.block k (HM4.out.y k hk).2).trans (HS4.out k hk))
      have HYN := Lib.hid (show y ∉ z :: Y from fun e => by have := (HM4.out.y y e).2; omega)
      clear hown' hgrow hy2 hbel hown hy1
      go_wp2_with fail
      go_roundw
      case rel => exact ⟨1, by omega, by go_num, HS6.out, .inr (.inl ⟨rfl, y, cap2, rfl, HYN.out, HOW.out, HM6.out⟩)⟩
      case measure => simp [intOf]
    · have HMr := Lib.hid hmr
      have hcell := (HLP.out.same (HSr.out z (by simp))) 1 (by simp)
      simp only [List.getD_cons_succ, List.getD_cons_zero] at hcell
      rw [show ((1 : Nat) : Int) = 1 from rfl] at hcell ⊢
      have HOW := Lib.hid hown
      have HYN := Lib.hid hyn
      clear hmr hown hyn
      go_wp2_with fail
      refine (read_m HMr.out (s := 1) (by omega) HB.out (by have := HC.out; omega)).mono ?_
      rintro e w4 ⟨rfl, hm, hsm⟩
      rw [H1.out]
      have hgt : (some x1).getD ⟨#[]⟩ = x1 := rfl
      have his : (some x1).isSome = true := rfl
      rw [hgt, his]
      have HM4 := Lib.hid hm
      have HS4 := Lib.hid (show Same (z :: Y) w2 w4 from fun k hk => (hsm k (List.mem_cons_of_mem _ hk)).trans (HSr.out k hk))
      have hown := own_same HOW.out (fun k hk => by cases hk; exact hsm y (by simp))
      clear hm hsm hcell
      go_wp2_with (at_builtin; refine wpList_append_own _ rfl _ _ 22 rfl 0 9 i0 (.string ⟨#[]⟩) 1 16 Tryz.underlying22 hi hz0 hz1 hz2 rfl (by decide) _ _ _ rfl (hown.alloc _) ⟨w4.heap.size, 0, none⟩ 1 1 [.string x1] rfl rfl ?d1 ?d2 ?d3 ?d4 ?d5 ?_)
      case d1 =>
        intro j q hj
        match j, hj with
        | 0, hj => simp at hj; subst hj; simp [Addr.add]
      case d2 => intro q hq; simp at hq; subst hq; rfl
      case d3 => unfold maxLen; omega
      case d4 => omega
      case d5 => exact Nat.zero_le _
      intro v' w6 hown' hgrow _
      have HM6 := Lib.hid (((HM4.out.new (.cells #[.string x1] 9)).grow hgrow (fun k hk => by cases hk; simp)).sub (Z := z :: Y) (fun k hk => by simp at hk ⊢; rcases hk with rfl | hk <;> simp [*]))
      have HOW6 := Lib.hid hown'
      have HS6 := Lib.hid (show Same (z :: Y) w2 w6 from fun k hk => by
        have hk2 := (HM4.out.y k (List.mem_cons_of_mem _ hk)).2
        refine (hgrow.block k (by simp; omega) (fun e => HYN.out ?_)).trans ((Below.heap_alloc _ _ _ hk2).trans (HS4.out k hk))
        cases e; exact hk)
      clear hown' hgrow hown
      go_wp2_with fail
      go_roundw
      case rel => exact ⟨2, by omega, by go_num, HS6.out, .inr (.inr ⟨rfl, HOW6.out, HM6.out⟩)⟩
      case measure => simp [intOf]
    · have HMr := Lib.hid hmr
      have HOW := Lib.hid hown
      obtain ⟨y, cap2, rfl, _, _⟩ := own_some hown (by omega)
      clear hmr hown
      go_wp2
      go_ret2
      have k0 := HOW.out.cells (g := y) rfl 0 (.string x0) rfl
      have k1 := HOW.out.cells (g := y) rfl 1 (.string x1) rfl
      exact ⟨y, cap2, rfl, k0, k1, (HOW.out.lt y rfl).2, HMr.out.sub (fun k hk => List.mem_cons_of_mem _ hk), fun k hk => (HSr.out k (by simp [hk])).trans (HSM2.out k hk)⟩
end
end Go.Proofs.YtcjfooikmaipdaaGreatDoor.Mir

/- Layer 8 (mirror): contract of Whole, where no side is gone. -/
namespace Go.Proofs.YtcjfooikmaipdaaGreatDoor.Mir
open Go Go.RowKit Go.Proofs.YtcjfooikmaipdaaGreatDoor Dev Tab Rem Go.Maps Go.WideMaps
set_option linter.unusedVariables false
section
variable {w0 w w' : World} {X Y Z : List Nat} {q c mm tb bb R s b : Nat} {pd : Nat → Nat} {S : Nat → Sd} {G : Nat → Bool}
theorem MG.chg (h : MG w0 Y mm tb bb q pd S G c R w) (hc : Chg (fun k => k ∈ Y) w w') : MG w0 Y mm tb bb q pd S G c R w' := by
  have hblk : ∀ k, k ∉ Y → k < w.heap.size → w'.heap[k]? = w.heap[k]? := fun k h1 h2 => hc.block k h2 h1
  obtain ⟨n, D, h1, h2, h3⟩ := h.map
  exact ⟨h.cg.chg (hc.mono (fun k _ hk => by simp [hk])), h.fit, Has.same h.row (hblk mm h.my.1 h.lt), tab_same h.tab (hblk tb h.my.2.1 (h.cg.x tb (by simp)).2), h.mt, h.my, n, D, h1, mapB_same h2 (hblk bb h.my.2.2 (h.cg.x bb (by simp)).2), h3⟩
theorem Whole_n (a g k : Int) (w : World) : Calls Tryz.prog 34 #[.pointer none, ptrV a g k] w fun e w' => e = .returned (.tuple #[.agg #[.bool false, .bool false], .int .i64 1]) ∧ Below w.heap.size w w' := by
  go_enter Tryz.func34, Tryz.ntmps34
  go_wp2_with fail
  refine (refusal_n a _).mono ?_
  rintro e w' ⟨rfl, rfl⟩
  go_wp2
  refine bodyPost_ret (v := .tuple #[.agg #[.bool false, .bool false], .int .i64 1]) (by simp [results, Tryz.results34, go_sem]) rfl ⟨rfl, ?_⟩
  repeat (first | exact Below.refl _ _ | apply Env.below_nw | refine Env.below_st ?_ (by simp) _)
set_option maxHeartbeats 2000000 in
set_option maxRecDepth 100000 in
theorem Whole_no (h : MG w0 Y mm tb bb q pd S G c R w) (a g k : Int) (ha : rfE a = 3) : Calls Tryz.prog 34 #[.pointer (some ⟨mm, 0, none⟩), ptrV a g k] w fun e w' => e = .returned (.tuple #[.agg #[.bool false, .bool false], .int .i64 3]) ∧ Below w.heap.size w w' := by
  have HM := Lib.hid ((h.new (.cells #[.int .i64 a, .int .u64 g, .int .u32 k] 35)).new (.cells #[.bool false, .bool false] 86))
  have HB := Lib.hid (Env.below_nw (b_new w (.cells #[.int .i64 a, .int .u64 g, .int .u32 k] 35)) (.cells #[.bool false, .bool false] 86))
  clear h
  go_enter Tryz.func34, Tryz.ntmps34
  go_wp2_with fail
  refine (refusal_m HM.out a).mono ?_
  rintro e w1 ⟨rfl, hb⟩
  rw [ha]
  have H1 := Lib.hid (Has.below (Has.new (w.alloc (.cells #[.int .i64 a, .int .u64 g, .int .u32 k] 35)) [.bool false, .bool false] 86) hb (by simp))
  have HB1 := Lib.hid (HB.out.trans (hb.mono HB.out.size))
  simp only [World.size_alloc] at H1
  obtain ⟨p, hp⟩ : ∃ p, p = w.heap.size + 1 := ⟨_, rfl⟩
  rw [← hp] at H1
  have e0 := H1.out.cell 0
  have e1 := H1.out.cell 1
  simp only [List.getElem?_cons_zero, List.getElem?_cons_succ] at e0 e1
  have f0 := Has.frozen H1.out 0
  have f1 := Has.frozen H1.out 1
  rw [hp] at e0 e1 f0 f1
  clear hb
  go_wp2
  rw [setCell_self e0, setCell_self e1]
  refine bodyPost_ret (v := .tuple #[.agg #[.bool false, .bool false], .int .i64 3]) (by simp [results, Tryz.results34, go_sem, e0, e1]) rfl ⟨rfl, ?_⟩
  repeat (first | exact HB1.out | apply Env.below_nw | refine Env.below_st ?_ (by simp) _)
/-- what was told so far -/
def wv (a0 a1 : Bool) (j : Nat) : List Value := if j = 0 then [.bool false, .bool false] else if j = 1 then [.bool a0, .bool false] else [.bool a0, .bool a1]
set_option maxHeartbeats 2000000 in
set_option maxRecDepth 100000 in
theorem Whole_m (h : MG w0 Y mm tb bb q pd S noG c R w) (hb : b < 14) (hc : c ≤ 700000) (g k : Int) : Calls Tryz.prog 34 #[.pointer (some ⟨mm, 0, none⟩), ptrV (b : Nat) g k] w fun e w' => e = .returned (.tuple #[.agg #[.bool (wh (cont S noG 0 b) b g k), .bool (wh (cont S noG 1 b) b g k)], .int .i64 0]) ∧ MG w0 Y mm tb bb q pd S noG c R w' ∧ Same Y w w' := by
  have HM := Lib.hid ((h.new (.cells #[.int .i64 (b : Nat), .int .u64 g, .int .u32 k] 35)).new (.cells #[.bool false, .bool false] 86))
  have hB := Env.below_nw (b_new w (.cells #[.int .i64 (b : Nat), .int .u64 g, .int .u32 k] 35)) (.cells #[.bool false, .bool false] 86)
  have HP := Lib.hid ((Has.new w [.int .i64 (b : Nat), .int .u64 g, .int .u32 k] 35).alloc (.cells #[.bool false, .bool false] 86))
  have HQ := Lib.hid (Has.new (w.alloc (.cells #[.int .i64 (b : Nat), .int .u64 g, .int .u32 k] 35)) [.bool false, .bool false] 86)
  have HY := Lib.hid (fun k hk => (h.y k hk).2)
  have HS0 := Lib.hid (show Same Y w _ from fun k hk => hB.block k (HY.out k hk))
  have HC := Lib.hid hc
  have HB := Lib.hid hb
  have HRF := Lib.hid (show rfE (b : Int) = 0 by unfold rfE; rw [if_neg (by omega)])
  simp only [World.size_alloc] at HM HQ
  obtain ⟨p, hp⟩ : ∃ p, p = w.heap.size := ⟨_, rfl⟩
  rw [← hp] at HM HP HQ
  have hp1 := HP.out.cell 0
  simp only [List.getElem?_cons_zero] at hp1
  rw [hp] at hp1
  obtain ⟨a0, ha0⟩ : ∃ x, x = wh (cont S noG 0 b) (b : Int) g k := ⟨_, rfl⟩
  obtain ⟨a1, ha1⟩ : ∃ x, x = wh (cont S noG 1 b) (b : Int) g k := ⟨_, rfl⟩
  rw [← ha0, ← ha1]
  have HA0 := Lib.hid ha0
  have HA1 := Lib.hid ha1
  have HPW := Lib.hid hp
  clear h hc hb hB ha0 ha1
  go_enter Tryz.func34, Tryz.ntmps34
  go_wp2_with fail
  refine (refusal_m HM.out (b : Int)).mono ?_
  rintro e w1 ⟨rfl, hb⟩
  rw [HRF.out, ← hp]
  have HM1 := Lib.hid (HM.out.later hb)
  have HP1 := Lib.hid (HP.out.below hb HP.out.lt)
  have HQ1 := Lib.hid (HQ.out.below hb HQ.out.lt)
  have HS1 := Lib.hid (show Same Y w w1 from fun k hk => (hb.block k (HM.out.y k (by simp [hk])).2).trans (HS0.out k hk))
  clear hb HM HP HQ HS0 hp1 hp
  have HM1b := Lib.hid (HM1.out.new (.cells #[.bool false, .bool false] 86))
  have HP1b := Lib.hid (HP1.out.alloc (.cells #[.bool false, .bool false] 86))
  have HQ1b := Lib.hid (HQ1.out.alloc (.cells #[.bool false, .bool false] 86))
  have HZ1b := Lib.hid (Has.new w1 [.bool false, .bool false] 86)
  have HS1b := Lib.hid (show Same Y w (w1.alloc (.cells #[.bool false, .bool false] 86)) from fun k hk => (Below.heap_alloc _ _ _ (HM1.out.y k (by simp [hk])).2).trans (HS1.out k hk))
  obtain ⟨u, hu⟩ : ∃ u, u = w1.heap.size := ⟨_, rfl⟩
  rw [← hu] at HM1b HZ1b
  have HUP := Lib.hid (show u ≠ p ∧ u ≠ p + 1 from by
    have h1 := HP1.out.lt
    have h2 := HQ1.out.lt
    omega)
  have HUY := Lib.hid (show u ∉ Y ∧ p ∉ Y ∧ p + 1 ∉ Y from by
    refine ⟨fun e => ?_, fun e => ?_, fun e => ?_⟩
    · have := (HM1.out.y u (by simp [e])).2; omega
    · have := HY.out p e; have := HPW.out; omega
    · have := HY.out (p + 1) e; have := HPW.out; omega)
  clear HM1 HP1 HQ1 HS1
  go_wp2_with fail
  rw [← hu]
  clear hu
  refine (alive_m HM1b.out).mono ?_
  rintro e w2 ⟨av, cap, rfl, hsd, hfr, hb⟩
  have HS2 := Lib.hid (show Same Y w w2 from fun j hj => (hb.block j (HM1b.out.y j (by simp [hj])).2).trans (HS1b.out j hj))
  rw [al_no] at hsd
  have hlen : (al noG).length = 2 := rfl
  rw [hlen]
  obtain ⟨z, rfl, hlp⟩ := hsd.lp (by simp)
  obtain ⟨hz1', hz2'⟩ := hfr z 0 rfl
  have HM3 := Lib.hid (HM1b.out.fresh hb hz1' hz2')
  have HP3 := Lib.hid (HP1b.out.below hb HP1b.out.lt)
  have HQ3 := Lib.hid (HQ1b.out.below hb HQ1b.out.lt)
  have HZ3 := Lib.hid (HZ1b.out.below hb HZ1b.out.lt)
  have HLP := Lib.hid hlp
  have HZN := Lib.hid (show z ≠ u ∧ z ≠ p ∧ z ≠ p + 1 from by
    have h1 := HP1b.out.lt
    have h2 := HQ1b.out.lt
    have h3 := HZ1b.out.lt
    omega)
  clear hsd hfr hb hlp hz1' hz2' hlen HM1b HP1b HQ1b HZ1b HS1b
  go_wp2_with fail
  go_loopw [24] (fun i wr => ∃ j : Nat, j ≤ 2 ∧ i = .int .i64 j ∧ Same (z :: (p + 1) :: p :: Y) w2 wr ∧ Has wr u 86 (wv a0 a1 j) ∧ MG w0 (z :: u :: (p + 1) :: p :: Y) mm tb bb q pd S noG c R wr) (fun i _ => 2 - (intOf i).toNat)
  case atStart => exact ⟨0, Nat.zero_le _, rfl, Same.refl _ _, HZ3.out, HM3.out⟩
  case round =>
    obtain ⟨j, hj, rfl, hsr, hzr, hmr⟩ := hrel
    have HSr := Lib.hid hsr
    have HZr := Lib.hid hzr
    have HMr := Lib.hid hmr
    have hpr := Has.same HP3.out (hsr p (by simp))
    have x0 := hpr.cell 0
    have x1 := hpr.cell 1
    have x2 := hpr.cell 2
    simp only [List.getElem?_cons_zero, List.getElem?_cons_succ] at x0 x1 x2
    clear hsr hzr hmr hpr
    rcases (show j = 0 ∨ j = 1 ∨ j = 2 by omega) with rfl | rfl | rfl
    · have hcell : wr.cell? ⟨z, 0, none⟩ = some (.int .i64 0) := (HLP.out.same (HSr.out z (by simp))) 0 (by simp)
      rw [show ((0 : Nat) : Int) = 0 from rfl]
      go_wp2_with fail
      refine (readWhole_m HMr.out (s := 0) (by omega) HB.out (by have := HC.out; omega) _ g k rfl).mono ?_
      rintro e w4 ⟨rfl, hm, hsm⟩
      rw [← HA0.out]
      have HM4 := Lib.hid hm
      have HZ4 := Lib.hid (Has.same HZr.out (hsm u (by simp)))
      have HS4 := Lib.hid (show Same (z :: (p + 1) :: p :: Y) w2 w4 from fun k hk => (hsm k (by simp at hk ⊢; rcases hk with rfl | rfl | rfl | hk <;> simp [*])).trans (HSr.out k hk))
      have z0 : w4.cell? ⟨u, 0, none⟩ = some (.bool false) := (HZ4.out.cell 0).trans rfl
      have zf := Has.frozen HZ4.out 0
      have HZ5 := Lib.hid (show Has (w4.setCell ⟨u, 0, none⟩ (.bool a0)) u 86 (wv a0 a1 (0 + 1)) from HZ4.out.set 0 (.bool a0))
      have HM5 := Lib.hid (HM4.out.chg ((Chg.refl _ w4).setCell (p := ⟨u, 0, none⟩) (fun _ => by simp) (.bool a0)))
      have HS5 := Lib.hid (show Same (z :: (p + 1) :: p :: Y) w2 (w4.setCell ⟨u, 0, none⟩ (.bool a0)) from fun k hk => (Below.heap_setCell _ _ _ _ (show k ≠ u from fun e => by
        obtain ⟨u1, u2⟩ := HUP.out
        obtain ⟨u3, -, -⟩ := HUY.out
        simp at hk
        rcases hk with rfl | rfl | rfl | hk
        · exact HZN.out.1 e
        · exact u2 e.symm
        · exact u1 e.symm
        · exact u3 (e ▸ hk))).trans (HS4.out k hk))
      clear hm hsm hcell x0 x1 x2
      go_wp2_with fail
      go_roundw
      case rel => exact ⟨0 + 1, by omega, by go_num, HS5.out, HZ5.out, HM5.out⟩
      case measure => simp [intOf]
    · have hcell : wr.cell? ⟨z, 1, none⟩ = some (.int .i64 1) := (HLP.out.same (HSr.out z (by simp))) 1 (by simp)
      rw [show ((1 : Nat) : Int) = 1 from rfl]
      go_wp2_with fail
      refine (readWhole_m HMr.out (s := 1) (by omega) HB.out (by have := HC.out; omega) _ g k rfl).mono ?_
      rintro e w4 ⟨rfl, hm, hsm⟩
      rw [← HA1.out]
      have HM4 := Lib.hid hm
      have HZ4 := Lib.hid (Has.same HZr.out (hsm u (by simp)))
      have HS4 := Lib.hid (show Same (z :: (p + 1) :: p :: Y) w2 w4 from fun k hk => (hsm k (by simp at hk ⊢; rcases hk with rfl | rfl | rfl | hk <;> simp [*])).trans (HSr.out k hk))
      have z0 : w4.cell? ⟨u, 1, none⟩ = some (.bool false) := (HZ4.out.cell 1).trans rfl
      have zf := Has.frozen HZ4.out 1
      have HZ5 := Lib.hid (show Has (w4.setCell ⟨u, 1, none⟩ (.bool a1)) u 86 (wv a0 a1 (1 + 1)) from HZ4.out.set 1 (.bool a1))
      have HM5 := Lib.hid (HM4.out.chg ((Chg.refl _ w4).setCell (p := ⟨u, 1, none⟩) (fun _ => by simp) (.bool a1)))
      have HS5 := Lib.hid (show Same (z :: (p + 1) :: p :: Y) w2 (w4.setCell ⟨u, 1, none⟩ (.bool a1)) from fun k hk => (Below.heap_setCell _ _ _ _ (show k ≠ u from fun e => by
        obtain ⟨u1, u2⟩ := HUP.out
        obtain ⟨u3, -, -⟩ := HUY.out
        simp at hk
        rcases hk with rfl | rfl | rfl | hk
        · exact HZN.out.1 e
        · exact u2 e.symm
        · exact u1 e.symm
        · exact u3 (e ▸ hk))).trans (HS4.out k hk))
      clear hm hsm hcell x0 x1 x2
      go_wp2_with fail
      go_roundw
      case rel => exact ⟨1 + 1, by omega, by go_num, HS5.out, HZ5.out, HM5.out⟩
      case measure => simp [intOf]
    · have HQr := Lib.hid (Has.same HQ3.out (HSr.out (p + 1) (by simp)))
      have z0 : wr.cell? ⟨u, 0, none⟩ = some (.bool a0) := (HZr.out.cell 0).trans rfl
      have z1 : wr.cell? ⟨u, 1, none⟩ = some (.bool a1) := (HZr.out.cell 1).trans rfl
      have q0 := HQr.out.cell 0
      have q1 := HQr.out.cell 1
      simp only [List.getElem?_cons_zero, List.getElem?_cons_succ] at q0 q1
      have f0 := Has.frozen HQr.out 0
      have f1 := Has.frozen HQr.out 1
      have h2 := (HQr.out.set 0 (.bool a0)).set 1 (.bool a1)
      have r0 := h2.cell 0
      have r1 := h2.cell 1
      have HM5 := Lib.hid (HMr.out.chg (((Chg.refl _ wr).setCell (p := ⟨p + 1, 0, none⟩) (fun _ => by simp) (.bool a0)).setCell (p := ⟨p + 1, 1, none⟩) (fun _ => by simp) (.bool a1)))
      have HS5 := Lib.hid (show Same Y w ((wr.setCell ⟨p + 1, 0, none⟩ (.bool a0)).setCell ⟨p + 1, 1, none⟩ (.bool a1)) from fun k hk => by
        have hne : k ≠ p + 1 := fun e => HUY.out.2.2 (e ▸ hk)
        exact (Below.heap_setCell _ _ _ _ hne).trans ((Below.heap_setCell _ _ _ _ hne).trans ((HSr.out k (by simp [hk])).trans (HS2.out k hk)))
      )
      simp only [List.set_cons_zero, List.set_cons_succ, List.getElem?_cons_zero, List.getElem?_cons_succ] at r0 r1
      clear h2 x0 x1 x2
      go_wp2
      refine bodyPost_ret (v := .tuple #[.agg #[.bool a0, .bool a1], .int .i64 0]) (by simp [results, Tryz.results34, go_sem, r0, r1]) rfl ⟨rfl, HM5.out.sub (fun k hk => by simp [hk]), HS5.out⟩
end
end Go.Proofs.YtcjfooikmaipdaaGreatDoor.Mir

