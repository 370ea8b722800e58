/- Layer 11 (cache): the cache; nextUse, Drop. -/
import Derived.Test.YtbdiadbaapfdgaaCaK
namespace Go.Proofs.Ytbdiadbaapfdgaa.Ca
open Go Go.RowKit Go.Proofs.Ytbdiadbaapfdgaa Go.Maps
set_option linter.unusedVariables false

def in64 (x : Int) : Prop := -9223372036854775808 ≤ x ∧ x ≤ 9223372036854775807
/-- the cache's blocks -/
def reg (p mb : Nat) (v : Value) (H : List Sl) (k : Nat) : Prop := k = p ∨ k = mb ∨ ft v H k
/-- the cache at p: n slots, of which l are in use, the one that was used last first; u uses, f found, m missed -/
structure CaI (w : World) (p mb : Nat) (v : Value) (H : List Sl) (n : Nat) (l : List Sl) (u f m : Nat) : Prop where
  hp : Hp w p ⟨n, mb, u, f, m⟩ v H
  perm : H.Perm l
  heap : IsH H.length (useK H)
  map : MS w mb l
  dec : l.Pairwise fun a b => b.use < a.use
  top : ∀ s ∈ l, s.use ≤ u
  len : l.length ≤ n
  n1 : 1 ≤ n
  n2 : n ≤ 4096
  wf : ∀ s ∈ l, in64 s.addr
/-- what a call leaves: a cache of the same block; its blocks are its own, or new -/
def KI (w : World) (p mb : Nat) (v : Value) (H : List Sl) (n : Nat) (l : List Sl) (u f m : Nat) (w' : World) : Prop := ∃ v' H', CaI w' p mb v' H' n l u f m ∧ (∀ k, ft v' H' k → ft v H k ∨ w.heap.size ≤ k) ∧ Chg (reg p mb v H) w w'
section
variable {w w' w'' : World} {p mb : Nat} {v v' : Value} {H H' : List Sl} {n : Nat} {l l' : List Sl} {u f m u' f' m' : Nat}
theorem KI.refl (h : CaI w p mb v H n l u f m) : KI w p mb v H n l u f m w := ⟨v, H, h, fun _ hk => .inl hk, Chg.refl _ w⟩
theorem ft_row {w : World} {p : Nat} {C : Hd} {v : Value} {H : List Sl} {mb : Nat} {l : List Sl} (hm : MS w mb l) (h : Hp w p C v H) {k : Nat} (hk : ft v H k) : k ≠ mb ∧ k ≠ p := by
  rcases hk with hk | ⟨i, hi, rfl⟩
  · rcases h.row.2 with ⟨e, _⟩ | ⟨g', cap', cur, e, _, hg, _⟩
    · rw [e] at hk; cases hk
    · rw [e] at hk
      injection hk with hk
      have hk : g' = k := hk
      subst hk
      refine ⟨fun e => ?_, fun e => ?_⟩
      · obtain ⟨D, ⟨es, clock, hb, _⟩, _⟩ := hm
        rw [e, hb] at hg; cases hg
      · subst e; exact absurd (blk_ty hg h.main) (by decide)
  · exact ⟨hm.ne (h.slot i hi), h.pne hi⟩
theorem Hp.lt {C : Hd} (h : Hp w p C v H) {k : Nat} (hk : ft v H k) : k < w.heap.size := by
  rcases hk with hk | ⟨i, hi, rfl⟩
  · exact (h.row.lt k hk).2
  · exact (h.slot i hi).lt
theorem CaI.lt (h : CaI w p mb v H n l u f m) {k : Nat} (hk : reg p mb v H k) : k < w.heap.size := by
  rcases hk with rfl | rfl | hk
  · exact h.hp.main.lt
  · exact h.map.lt
  · exact h.hp.lt hk
theorem CaI.same (h : CaI w p mb v H n l u f m) (hk : ∀ k, reg p mb v H k → w'.heap[k]? = w.heap[k]?) : CaI w' p mb v H n l u f m :=
  ⟨h.hp.same fun k e => hk k (e.elim .inl fun e => .inr (.inr e)), h.perm, h.heap, h.map.same (hk mb (.inr (.inl rfl))), h.dec, h.top, h.len, h.n1, h.n2, h.wf⟩
theorem CaI.pmb (h : CaI w p mb v H n l u f m) : p ≠ mb := h.map.ne h.hp.main
theorem KI.trans {H1 : List Sl} {v1 : Value} (hs : ∀ k, ft v1 H1 k → ft v H k ∨ w.heap.size ≤ k) (hc : Chg (reg p mb v H) w w') (h2 : KI w' p mb v1 H1 n l u f m w'') : KI w p mb v H n l u f m w'' := by
  obtain ⟨v2, H2, a, b, c⟩ := h2
  refine ⟨v2, H2, a, fun k hk => ?_, hc.trans c fun k hk hr => ?_⟩
  · rcases b k hk with e | e
    · exact hs k e
    · exact .inr (Nat.le_trans hc.size e)
  · rcases hr with e | e | e
    · exact .inl e
    · exact .inr (.inl e)
    · rcases hs k e with e | e
      · exact .inr (.inr e)
      · omega
theorem rmv_len (hn : (l.map Sl.addr).Nodup) {s : Sl} (hs : s ∈ l) : (rmv l s.addr).length + 1 = l.length := by
  have := (rmv_perm hn hs).length_eq
  simpa using this
theorem uses_nodup (hd : l.Pairwise fun a b => b.use < a.use) {i j : Nat} (hi : i < l.length) (hj : j < l.length) (e : (sg l i).use = (sg l j).use) : i = j := by
  rcases Nat.lt_trichotomy i j with h | h | h
  · have := List.pairwise_iff_getElem.1 hd i j hi hj h
    rw [sg_eq hi, sg_eq hj] at e; omega
  · exact h
  · have := List.pairwise_iff_getElem.1 hd j i hj hi h
    rw [sg_eq hi, sg_eq hj] at e; omega
end
section
variable {w : World} {p : Nat} {C : Hd} {v : Value} {H : List Sl}
theorem hp_use (h : Hp w p C v H) (u : Nat) : Hp (w.setCell ⟨p, 3, none⟩ (.int .u64 (u : Int))) p { C with uses := u } v H :=
  ⟨h.main.set 3 _, row_other h.row h.main (by decide) _ _, fun i hi => (h.slot i hi).setOther (a := ⟨p, 3, none⟩) (fun e => h.pne hi e.symm) _, h.few⟩
set_option maxRecDepth 100000 in
theorem next_any (h : Hp w p C v H) (hu : C.uses < 9223372036854775807) (z : Int) (hz : z = ((C.uses + 1 : Nat) : Int)) : Calls Try.prog 18 #[.pointer (some ⟨p, 0, none⟩)] w fun e w' => e = .returned (.int .u64 z) ∧ w' = w.setCell ⟨p, 3, none⟩ (.int .u64 z) := by
  have c3 := h.main.cell 3
  have z3 := h.main.frozen 3
  simp only [cc, List.getElem?_cons_zero, List.getElem?_cons_succ] at c3
  have c4 := (hp_use h (C.uses + 1)).main.cell 3
  simp only [cc, List.getElem?_cons_zero, List.getElem?_cons_succ] at c4
  generalize C.uses = u at *
  have hq : (u : Int) + 1 = z := by omega
  rw [← hz] at c4
  clear hz
  clear h
  go_enter Try.func18, Try.ntmps18
  go_wp2
  go_ret
  exact ⟨rfl, rfl⟩
end
section
variable {w w' w'' : World} {p mb : Nat} {v v' : Value} {H H' : List Sl} {n : Nat} {l l' : List Sl} {u f m u' f' m' : Nat}
theorem rmv_sub {a : Int} : ∀ s ∈ rmv l a, s ∈ l := fun s hs => (rmv_mem.1 hs).1
/-- what is left behind a Remove and a delete -/
theorem drop_of {s : Sl} {i : Nat} {w2 w3 : World} (h : CaI w p mb v H n l u f m) (hi : i < H.length) (hs : sg H i = s) (hr : ReP w p ⟨n, mb, u, f, m⟩ v H i w2) (hm : MS w3 mb (rmv l s.addr)) (hg : w2.grownBy w3 (some mb)) : KI w p mb v H n (rmv l s.addr) u f m w3 := by
  obtain ⟨v', H', h1, h2, h3, h4, h5⟩ := hr
  rw [hs] at h2
  have hsl : s ∈ l := h.perm.mem_iff.1 (h2.mem_iff.1 (List.mem_cons_self ..))
  have hp2 : H'.Perm (rmv l s.addr) := by
    have := (h2.trans h.perm).trans (rmv_perm h.map.nodup hsl).symm
    exact List.Perm.cons_inv this
  have hsub : ∀ k, ft v' H' k → ft v H k := fun k hk => by
    rcases hk with hk | ⟨j, hj, rfl⟩
    · exact .inl (h4 ▸ hk)
    · obtain ⟨x, hx, e⟩ := mem_sg (h2.mem_iff.1 (List.mem_cons_of_mem _ (sg_mem hj)))
      exact .inr ⟨x, hx, by rw [e]⟩
  refine ⟨v', H', ⟨h1.same fun k hk => ?_, hp2, h3, hm, h.dec.sublist List.filter_sublist, fun t ht => h.top t (rmv_sub t ht), Nat.le_trans (List.length_filter_le _ _) h.len, h.n1, h.n2, fun t ht => h.wf t (rmv_sub t ht)⟩, fun k hk => .inl (hsub k hk), ?_⟩
  · have hne : k ≠ mb := by
      rcases hk with rfl | hk
      · exact h.pmb
      · exact (ft_row h.map h.hp (hsub k hk)).1
    have hlt : k < w2.heap.size := by
      rcases hk with rfl | hk
      · exact h1.main.lt
      · exact h1.lt hk
    exact hg.block k hlt (fun e => hne (Option.some.inj e))
  · exact (h5.mono fun k _ hk => hk.elim .inl fun e => .inr (.inr e)).grown hg fun k _ e => .inr (.inl (Option.some.inj e).symm)
end
theorem rep_drew {w w2 : World} {p : Nat} {C : Hd} {v : Value} {H : List Sl} {i : Nat} (h : ReP w.drew p C v H i w2) : ReP w p C v H i w2 := by
  obtain ⟨v', H', h1, h2, h3, h4, h5⟩ := h
  exact ⟨v', H', h1, h2, h3, h4, ⟨h5.os, h5.tape, h5.output, h5.size, h5.block⟩⟩
section
variable {w w' w'' : World} {p mb : Nat} {v v' : Value} {H H' : List Sl} {n : Nat} {l l' : List Sl} {u f m u' f' m' : Nat}
set_option maxRecDepth 100000 in
set_option maxHeartbeats 1000000 in
theorem drop_i (h : CaI w p mb v H n l u f m) (a : Int) (ha : in64 a) : Calls Try.prog 14 #[.pointer (some ⟨p, 0, none⟩), .int .i64 a] w fun e w' => e = .returned (.tuple #[]) ∧ KI w p mb v H n (rmv l a) u f m w' := by
  have hlook := h.map.look ha.1 ha.2
  have c1 := h.hp.main.cell 1
  simp only [cc, List.getElem?_cons_zero, List.getElem?_cons_succ] at c1
  cases e : fnd l a with
  | none =>
    rw [e] at hlook
    have HR := Lib.hid (show KI w p mb v H n (rmv l a) u f m w by rw [rmv_none (fnd_none e)]; exact KI.refl h)
    clear h e
    dsimp only [lkV] at hlook
    go_enter Try.func14, Try.ntmps14
    go_wp2
    go_end0
    exact ⟨rfl, HR.out⟩
  | some s =>
    rw [e] at hlook
    obtain ⟨hsl, rfl⟩ := fnd_some e
    obtain ⟨i, hi, hsi⟩ := mem_sg (h.perm.mem_iff.2 hsl)
    have cp := (h.hp.slot i hi).cell 6
    rw [hsi] at cp
    simp only [sc, List.getElem?_cons_zero, List.getElem?_cons_succ] at cp
    have HRE := Lib.hid (fun (w0 : World) (e : w0 = w.drew) => by rw [e]; exact remove_any (h.hp.drewN 1) h.heap i hi : ∀ w0, w0 = w.drew → Calls Try.prog 21 #[hp p, .int .i64 i] w0 fun e w' => e = .returned (.iface 65 (ptr (sg H i))) ∧ ReP w.drew p ⟨n, mb, u, f, m⟩ v H i w')
    have HH := Lib.hid h
    have HSI := Lib.hid hsi
    have HI := Lib.hid hi
    have HSL := Lib.hid hsl
    have CP := Lib.hid cp
    dsimp only [lkV, ptr] at hlook
    rw [hsi] at HRE
    obtain ⟨b, hb⟩ : ∃ b, b = s.blk := ⟨_, rfl⟩
    obtain ⟨ad, had⟩ : ∃ b, b = s.addr := ⟨_, rfl⟩
    dsimp only [ptr] at HRE
    rw [← hb] at hlook CP HRE
    rw [← had] at hlook ha ⊢
    have HB := Lib.hid hb
    have HAD := Lib.hid had
    clear h e hsi hi hsl cp hb had
    go_enter Try.func14, Try.ntmps14
    go_upto_region 3 with fail
    refine Reg.region_vals (by kernel_rfl) [(15, .pointer (some ⟨p, 0, none⟩)), (16, .pointer (some ⟨p, 0, none⟩)), (17, .pointer (some ⟨p, 2, none⟩)), (18, hp p), (19, .pointer (some ⟨b, 0, none⟩)), (20, .pointer (some ⟨b, 0, none⟩)), (21, .pointer (some ⟨b, 6, none⟩)), (22, .int .i64 (i : Nat)), (23, .iface 65 (.pointer (some ⟨b, 0, none⟩)))] (fun l wy => bif l 8 then ReP w.drew p ⟨n, mb, u, f, m⟩ v H i wy else wy = w.drew) (by kernel_rfl) (by kernel_rfl) (by kernel_rfl) (rfl) ⟨?_, ?_, ?_, ?_, ?_, ?_, ?_, ?_, ?_, trivial⟩ ?hend
    · -- 0: 15 := Op.move t0
      intro aq wq lq hI hl hdone hlater hold hd ho
      have h0 : aq.tmps.getD 0 undef = .pointer (some ⟨p, 0, none⟩) := ho 0 (by kernel_rfl)
      clear hd ho hdone hlater hold
      exact Reg.step2_move (.tmp 0) rfl h0 hI trivial
    · -- 1: 16 := Op.nilCheck t15
      intro aq wq lq hI hl hdone hlater hold hd ho
      have h15 : aq.tmps.getD 15 undef = .pointer (some ⟨p, 0, none⟩) := hd 15 (by kernel_rfl)
      clear hd ho hdone hlater hold
      rw [Array.getD_eq_getD_getElem?] at h15
      refine Reg.step2_val (.pointer (some ⟨p, 0, none⟩)) ?_ rfl hI trivial
      go_simp
    · -- 2: 17 := Op.fieldAddr 62 t16 2
      intro aq wq lq hI hl hdone hlater hold hd ho
      have h16 : aq.tmps.getD 16 undef = .pointer (some ⟨p, 0, none⟩) := hd 16 (by kernel_rfl)
      clear hd ho hdone hlater hold
      rw [Array.getD_eq_getD_getElem?] at h16
      refine Reg.step2_val (.pointer (some ⟨p, 2, none⟩)) ?_ rfl hI trivial
      go_simp
    · -- 3: 18 := Op.makeInterface 68 t17
      intro aq wq lq hI hl hdone hlater hold hd ho
      have h17 : aq.tmps.getD 17 undef = .pointer (some ⟨p, 2, none⟩) := hd 17 (by kernel_rfl)
      clear hd ho hdone hlater hold
      rw [Array.getD_eq_getD_getElem?] at h17
      refine Reg.step2_val (hp p) ?_ rfl hI trivial
      simp [execOp, Act.eval, h17]
      try go_simp
    · -- 4: 19 := Op.move t4
      intro aq wq lq hI hl hdone hlater hold hd ho
      have h4 : aq.tmps.getD 4 undef = .pointer (some ⟨b, 0, none⟩) := ho 4 (by kernel_rfl)
      clear hd ho hdone hlater hold
      exact Reg.step2_move (.tmp 4) rfl h4 hI trivial
    · -- 5: 20 := Op.nilCheck t19
      intro aq wq lq hI hl hdone hlater hold hd ho
      have h19 : aq.tmps.getD 19 undef = .pointer (some ⟨b, 0, none⟩) := hd 19 (by kernel_rfl)
      clear hd ho hdone hlater hold
      rw [Array.getD_eq_getD_getElem?] at h19
      refine Reg.step2_val (.pointer (some ⟨b, 0, none⟩)) ?_ rfl hI trivial
      go_simp
    · -- 6: 21 := Op.fieldAddr 64 t20 4
      intro aq wq lq hI hl hdone hlater hold hd ho
      have h20 : aq.tmps.getD 20 undef = .pointer (some ⟨b, 0, none⟩) := hd 20 (by kernel_rfl)
      clear hd ho hdone hlater hold
      rw [Array.getD_eq_getD_getElem?] at h20
      refine Reg.step2_val (.pointer (some ⟨b, 6, none⟩)) ?_ rfl hI trivial
      go_simp
    · -- 7: 22 := Op.load 3 t21
      intro aq wq lq hI hl hdone hlater hold hd ho
      have h21 : aq.tmps.getD 21 undef = .pointer (some ⟨b, 6, none⟩) := hd 21 (by kernel_rfl)
      have gl8 : lq 8 = false := hlater 8 (by kernel_rfl)
      clear hd ho hdone hlater hold
      rw [Array.getD_eq_getD_getElem?] at h21
      have hJ := hI
      rw [gl8] at hJ
      have hw : wq = w.drew := hJ
      have e0 : wq.cell? ⟨b, 6, none⟩ = some (.int .i64 (i : Nat)) := by rw [hw]; exact CP.out
      refine Reg.step2_val (.int .i64 (i : Nat)) ?_ rfl hI trivial
      clear hI hJ hw
      go_simp
    · -- 8: 23 := Op.call ( value (Operand.func 21), args := #(t18, t22), argT
      intro aq wq lq hI hl hdone hlater hold hd ho
      have h18 : aq.tmps.getD 18 undef = hp p := hd 18 (by kernel_rfl)
      have h22 : aq.tmps.getD 22 undef = .int .i64 (i : Nat) := hd 22 (by kernel_rfl)
      clear hd ho hdone hlater hold
      rw [Array.getD_eq_getD_getElem?] at h18 h22
      have hJ := hI
      rw [show lq 8 = false from hl] at hJ
      have hw : wq = w.drew := hJ
      clear hI hJ
      refine Reg.step2_call 21 #[hp p, .int .i64 (i : Nat)] ?_ ((HRE.out wq hw).mono ?_)
      · clear hw
        simp [execOp]
        go_simp
      · rintro e w' ⟨rfl, hr⟩
        exact ⟨_, rfl, rfl, hr, trivial⟩
    case hend =>
    intro w2 hI
    simp only [Reg.fill, List.foldl_cons, List.foldl_nil, List.setIfInBounds_toArray, List.set_cons_zero, List.set_cons_succ]
    have hr : ReP w p ⟨n, mb, u, f, m⟩ v H i w2 := rep_drew hI
    have hm2 : MS w2 mb (s :: rmv l s.addr) := by
      obtain ⟨v', H', h1, h2, h3, h4, h5⟩ := hr
      refine (HH.out.map.same (h5.block mb HH.out.map.lt fun hk => ?_)).perm (rmv_perm HH.out.map.nodup HSL.out).symm
      rcases hk with hk | hk
      · exact HH.out.pmb hk.symm
      · exact (ft_row HH.out.map HH.out.hp hk).1 rfl
    have c2 : w2.cell? ⟨p, 1, none⟩ = some (.map (some mb)) := by obtain ⟨v', H', h1, h2, h3, h4, h5⟩ := hr; exact h1.main.cell 1
    have HR := Lib.hid hr
    clear hr hI HRE
    rw [HAD.out] at ha ⊢
    obtain ⟨w3, hrun, hm3, hg3⟩ := hm2.drop ha.1 ha.2 0
    have HK := Lib.hid (drop_of HH.out HI.out HSI.out HR.out hm3 hg3)
    clear hm3 hg3 hm2
    go_wp2
    go_end0
    exact ⟨rfl, by rw [HAD.out]; exact HK.out⟩
end
end Go.Proofs.Ytbdiadbaapfdgaa.Ca
