/- Contracts of the reference of layer 3: burn, Read. -/
import Derived.Deep.DeepCutAuto
import Derived.Test.YtlnocdmechidfaaRefDev
namespace Go.Proofs.Ytlnocdmechidfaa.Dev
open Go Go.RowKit Go.Proofs.Ytlnocdmechidfaa
set_option linter.unusedVariables false

section
variable {w w' : World} {p : Nat} {B : RB} {cv : Value} {D : Dv}
theorem RefAt.cv_slice (h : RefAt w p B cv D) : ∃ a cap, cv = .slice a D.cache.length cap ∧ (0 < D.cache.length → ∃ g, a = some ⟨g, 0, none⟩) := by
  rcases h.cache.2 with ⟨rfl, h0⟩ | ⟨g, cap, cur, rfl, _⟩
  · exact ⟨none, 0, by rw [h0], fun h => by omega⟩
  · exact ⟨_, cap, rfl, fun _ => ⟨g, rfl⟩⟩
theorem RefAt.cw {g len cap : Nat} {x : Nat × ByteArray} (h : RefAt w p B (.slice (some ⟨g, 0, none⟩) len cap) D) (hl : len = D.cache.length) (k : Nat) (hx : D.cache[k]? = some x) : w.cell? ⟨g, k * 2, none⟩ = some (.int .i64 (x.1 : Nat)) ∧ w.cell? ⟨g, k * 2 + 1, none⟩ = some (.string x.2) := by
  subst hl
  obtain ⟨hk, rfl⟩ := List.getElem?_eq_some_iff.1 hx
  constructor
  · rw [h.cache.cellAt (k * 2) (by omega), flatW, flat2_get0 (fun x : Nat × ByteArray => Value.int .i64 (x.1 : Nat)) (fun x => Value.string x.2), List.getElem?_eq_getElem hk]; rfl
  · rw [h.cache.cellAt (k * 2 + 1) (by omega), flatW, flat2_get1 (fun x : Nat × ByteArray => Value.int .i64 (x.1 : Nat)) (fun x => Value.string x.2), List.getElem?_eq_getElem hk]; rfl
end
/-- what a sector reads, of the cache's first k writes -/
def readsK (D : Dv) (i k : Nat) : ByteArray := match (D.cache.take k).reverse.find? (fun x => x.1 == i) with | some x => x.2 | none => mediaG D i
theorem readsK_zero (D : Dv) (i : Nat) : readsK D i 0 = mediaG D i := rfl
theorem readsK_all (D : Dv) (i : Nat) : readsK D i D.cache.length = D.reads i := by unfold readsK; rw [List.take_length]; exact rfl
theorem readsK_hit (D : Dv) (k : Nat) (x : Nat × ByteArray) (hx : D.cache[k]? = some x) : readsK D x.1 (k + 1) = x.2 := by
  obtain ⟨hk, rfl⟩ := List.getElem?_eq_some_iff.1 hx
  unfold readsK
  rw [List.take_succ_eq_append_getElem hk]; simp only [List.reverse_append, List.reverse_cons, List.reverse_nil, List.nil_append, List.singleton_append, List.find?_cons, beq_self_eq_true]
theorem readsK_miss (D : Dv) (i k : Nat) (x : Nat × ByteArray) (hx : D.cache[k]? = some x) (h : x.1 ≠ i) : readsK D i (k + 1) = readsK D i k := by
  obtain ⟨hk, rfl⟩ := List.getElem?_eq_some_iff.1 hx
  unfold readsK
  have : ((D.cache[k]).1 == i) = false := by simpa using h
  rw [List.take_succ_eq_append_getElem hk]; simp only [List.reverse_append, List.reverse_cons, List.reverse_nil, List.nil_append, List.singleton_append, List.find?_cons, this]

theorem burn_any {p : Nat} {B : RB} {cv : Value} {D : Dv} (w : World) (h : RefAt w p B cv D) (ho : D.off = false) :
    Calls Try.prog 35 #[.pointer (some ⟨p, 0, none⟩)] w fun e w' => e = .returned (.bool (stk D.fuse)) ∧ Chg (rfoot p B cv) w w' ∧ RefAt w' p B cv D.blow := by
  have c4 := h.c4
  have f4 := h.fz 4
  have f8 := h.fz 8
  have c8 := h.c8
  rw [ho] at c8
  match hf : D.fuse with
  | 0 =>
    have e : D.blow = D := by
      obtain ⟨size, secs, cache, dead, off, fuse, lose, stray, tgt, nr, nw, nf⟩ := D
      simp only at ho hf
      subst ho; subst hf; rfl
    rw [e]
    have HD := Lib.hid h
    rw [hf] at c4
    clear h e hf ho f4 f8 c8
    go_enter Try.func35, Try.ntmps35
    go_wp2
    go_ret
    exact ⟨rfl, Chg.refl _ _, HD.out⟩
  | 1 =>
    have h1 := h.set 4 (.int .i64 (0 : Nat)) { D with fuse := 0 } rfl rfl rfl ⟨h.ok.n8, h.ok.n4096, h.ok.s128, h.ok.s1024, h.ok.media, h.ok.text, h.ok.sector, Nat.zero_le _, h.ok.lose, h.ok.stray⟩
    have h2 := h1.set 8 (.bool true) D.blow (by unfold Dv.blow Dv.rcells; rw [hf]; rfl) rfl rfl ⟨h.ok.n8, h.ok.n4096, h.ok.s128, h.ok.s1024, h.ok.media, h.ok.text, h.ok.sector, by have := h.ok.fuse; show D.fuse - 1 ≤ _; omega, h.ok.lose, h.ok.stray⟩
    have HD := Lib.hid h2
    have HC := Lib.hid ((((Chg.refl (rfoot p B cv) w).setCell (p := ⟨p, 4, none⟩) (fun _ => .inl rfl) (.int .i64 (0 : Nat)))).setCell (p := ⟨p, 8, none⟩) (fun _ => .inl rfl) (.bool true))
    rw [hf] at c4
    clear h h1 h2 hf ho
    go_enter Try.func35, Try.ntmps35
    go_wp2
    go_ret
    exact ⟨rfl, HC.out, HD.out⟩
  | k + 2 =>
    obtain ⟨m, hm⟩ : ∃ m, m = k + 1 := ⟨_, rfl⟩
    have hf' : D.fuse = m + 1 := by omega
    have hk := h.ok.fuse
    rw [hf'] at hk c4
    have h1 := h.set 4 (.int .i64 (m : Nat)) D.blow (by unfold Dv.blow Dv.rcells; rw [hf', ho]; have : stk (m + 1) = false := by { unfold stk; simp; omega }; rw [this]; rfl) rfl rfl ⟨h.ok.n8, h.ok.n4096, h.ok.s128, h.ok.s1024, h.ok.media, h.ok.text, h.ok.sector, by have := h.ok.fuse; show D.fuse - 1 ≤ _; omega, h.ok.lose, h.ok.stray⟩
    have HD := Lib.hid h1
    have HC := Lib.hid ((Chg.refl (rfoot p B cv) w).setCell (p := ⟨p, 4, none⟩) (fun _ => .inl rfl) (.int .i64 (m : Nat)))
    have q1 : (((m + 1 : Nat) : Int) == 0) = false := by simp; omega
    have q2 : (((m : Nat) : Int) == 0) = false := by simp; omega
    have HQ := Lib.hid (show stk (k + 2) = false by unfold stk; simp)
    clear h h1 hf ho hm hf'
    go_enter Try.func35, Try.ntmps35
    go_wp2
    go_ret
    exact ⟨ret_b HQ.out.symm, HC.out, HD.out⟩

set_option maxRecDepth 100000 in
set_option maxHeartbeats 2000000 in
theorem refread_any {p : Nat} {B : RB} {cv : Value} {D : Dv} (i : Int) (w : World) (h : RefAt w p B cv D) (hl : D.cache.length ≤ 1000000000) :
    Calls Try.prog 13 #[.pointer (some ⟨p, 0, none⟩), .int .i64 i] w fun e w' => e = .returned (.tuple #[.string (D.readT i), .int .i64 (D.readE i)]) ∧ Chg (rfoot p B cv) w w' ∧ RefAt w' p B cv (D.readD i) := by
  obtain ⟨r, hr⟩ : ∃ r, r = refuse D := ⟨_, rfl⟩
  have HR := Lib.hid hr
  have hn4 := h.ok.n4096
  have c1 := h.c1
  by_cases h0 : r = 0
  · cases hh : hasB D i with
    | false =>
      have e1 : D.readE i = 3 := by unfold Dv.readE; rw [← hr, h0, hh]; rfl
      have e2 : D.readT i = ⟨#[]⟩ := by unfold Dv.readT; rw [e1]; rfl
      have e3 : D.readD i = D := by unfold Dv.readD; rw [e1]; rfl
      rw [e1, e2, e3]
      have hrr : ¬ (0 ≤ i ∧ i < D.n) := by unfold hasB at hh; simpa using hh
      have HZ := Lib.hid h0
      have HD := Lib.hid h
      clear e1 e2 e3 hh h0 hr h
      by_cases hneg : i < 0
      · clear hrr
        go_enter Try.func13, Try.ntmps13
        go_wp2_with fail
        refine (ready_any _ HD.out).mono ?_
        rintro e w' ⟨rfl, rfl⟩
        rw [← HR.out, HZ.out]
        go_wp2
        go_ret2
        exact ⟨rfl, Chg.refl _ _, HD.out⟩
      · have hge : (D.n : Int) ≤ i := by omega
        clear hrr
        go_enter Try.func13, Try.ntmps13
        go_wp2_with fail
        refine (ready_any _ HD.out).mono ?_
        rintro e w' ⟨rfl, rfl⟩
        rw [← HR.out, HZ.out]
        go_wp2
        go_ret2
        exact ⟨rfl, Chg.refl _ _, HD.out⟩
    | true =>
      have hrr : 0 ≤ i ∧ i < D.n := by unfold hasB at hh; simpa using hh
      obtain ⟨q, rfl⟩ := Int.eq_ofNat_of_zero_le hrr.1
      have hq : q < D.n := by omega
      have hqi : (q : Int) < (D.n : Int) := hrr.2
      have c2 := h.c2
      have hb := h.bad q hq
      have hbe : badB D q = (D.secs[q]'hq).2 := by unfold badB; rw [Int.toNat_natCast, List.getElem?_eq_getElem hq]; rfl
      cases hbb : (D.secs[q]'hq).2 with
      | true =>
        have e1 : D.readE q = 7 := by unfold Dv.readE; rw [← hr, h0, hh, hbe, hbb]; rfl
        have e2 : D.readT q = ⟨#[]⟩ := by unfold Dv.readT; rw [e1]; rfl
        have e3 : D.readD q = D := by unfold Dv.readD; rw [e1]; rfl
        rw [e1, e2, e3]
        rw [hbb] at hb
        have HZ := Lib.hid h0
        have HD := Lib.hid h
        clear e1 e2 e3 hh h0 hr h hbb hbe hrr
        go_enter Try.func13, Try.ntmps13
        go_wp2_with fail
        refine (ready_any _ HD.out).mono ?_
        rintro e w' ⟨rfl, rfl⟩
        rw [← HR.out, HZ.out]
        go_wp2
        go_ret2
        exact ⟨rfl, Chg.refl _ _, HD.out⟩
      | false =>
        have e1 : D.readE q = 0 := by unfold Dv.readE; rw [← hr, h0, hh, hbe, hbb]; rfl
        have e2 : D.readT q = D.reads q := by unfold Dv.readT; rw [e1, Int.toNat_natCast]; rfl
        have e3 : D.readD q = { D with nr := bump D.nr } := by unfold Dv.readD; rw [e1]; rfl
        rw [e1, e2, e3]
        rw [hbb] at hb
        have c10 := h.c10
        have f10 := h.fz 10
        have hme := h.med q hq
        have hpm : ¬ B.mb = p := fun e => h.pm e.symm
        have c3' := h.c3
        have hmg : (D.secs[q]'hq).1 = readsK D q 0 := by rw [readsK_zero]; unfold mediaG; rw [List.getElem?_eq_getElem hq]; rfl
        rw [hmg] at hme
        have HD2 := Lib.hid (h.set 10 (.int .i64 (bump D.nr)) { D with nr := bump D.nr } rfl rfl rfl ⟨h.ok.n8, h.ok.n4096, h.ok.s128, h.ok.s1024, h.ok.media, h.ok.text, h.ok.sector, h.ok.fuse, h.ok.lose, h.ok.stray⟩)
        have HC := Lib.hid ((Chg.refl (rfoot p B cv) w).setCell (p := ⟨p, 10, none⟩) (fun _ => .inl rfl) (.int .i64 (bump D.nr)))
        obtain ⟨sa, cap, rfl, hsa⟩ := h.cv_slice
        obtain ⟨n, hn⟩ : ∃ n, n = D.cache.length := ⟨_, rfl⟩
        rw [← hn] at h HD2 HC hl hsa c3' ⊢
        have HN := Lib.hid hn
        have HZ := Lib.hid h0
        have HD := Lib.hid h
        clear e1 e2 e3 hh h0 hr h hbb hbe hrr hmg hn
        go_enter Try.func13, Try.ntmps13
        go_wp2_with fail
        refine (ready_any _ HD.out).mono ?_
        rintro e w' ⟨rfl, rfl⟩
        rw [← HR.out, HZ.out]
        go_wp2_with fail
        clear hme c10 f10 hb c1 c2 c3' hpm
        obtain ⟨wx, hwx⟩ : ∃ wx, wx = w.setCell ⟨p, 10, none⟩ (.int .i64 (bump D.nr)) := ⟨_, rfl⟩
        rw [← hwx] at HD2 HC
        have HW := Lib.hid hwx
        clear hwx
        go_loopw [7, 8] (fun s i wr => ∃ k : Nat, k ≤ n ∧ i = .int .i64 k ∧ s = .string (readsK D q k) ∧ wx = wr) (fun _ i _ => n - (intOf i).toNat)
        case atStart => exact ⟨0, Nat.zero_le _, rfl, rfl, HW.out⟩
        case round =>
          obtain ⟨k, hk, rfl, rfl, rfl⟩ := hrel
          clear HW
          have c3 := HD2.out.c3
          by_cases hlt : k < n
          · obtain ⟨g, rfl⟩ := hsa (by omega)
            have hki : (k : Int) < (n : Int) := by omega
            obtain ⟨⟨si, st⟩, hx⟩ : ∃ x, D.cache[k]? = some x := ⟨_, List.getElem?_eq_getElem (by rw [← HN.out]; exact hlt)⟩
            obtain ⟨hx0, hx1⟩ := HD2.out.cw HN.out k hx
            simp only at hx0 hx1
            by_cases he : si = q
            · subst he
              have e1 : readsK D si (k + 1) = st := readsK_hit D k _ hx
              have HE := Lib.hid e1
              clear e1 hx
              go_wp2_with fail
              go_roundw
              case rel => exact ⟨k + 1, by omega, by go_num, by rw [HE.out], trivial⟩
              case measure => simp [intOf]; omega
            · have e1 : readsK D q (k + 1) = readsK D q k := readsK_miss D q k _ hx he
              have hne : ((si : Int) == (q : Int)) = false := by simp; omega
              have HE := Lib.hid e1
              clear e1 hx
              go_wp2_with fail
              go_roundw
              case rel => exact ⟨k + 1, by omega, by go_num, by rw [HE.out], trivial⟩
              case measure => simp [intOf]; omega
          · obtain rfl : k = n := by omega
            have e1 : readsK D q k = D.reads q := by rw [HN.out]; exact readsK_all D q
            rw [e1]
            clear e1
            go_wp2_with fail
            go_ret2
            exact ⟨rfl, HC.out, HD2.out⟩
  · have e1 : D.readE i = r := by unfold Dv.readE; rw [← hr, if_pos h0]
    have e2 : D.readT i = ⟨#[]⟩ := by unfold Dv.readT; rw [e1, if_neg h0]
    have e3 : D.readD i = D := by unfold Dv.readD; rw [e1, if_neg h0]
    rw [e1, e2, e3]
    have hb : (r != 0) = true := by simpa using h0
    have HD := Lib.hid h
    clear e1 e2 e3 h0 hr h
    go_enter Try.func13, Try.ntmps13
    go_wp2_with fail
    refine (ready_any _ HD.out).mono ?_
    rintro e w' ⟨rfl, rfl⟩
    rw [← HR.out]
    go_wp2
    go_ret2
    exact ⟨rfl, Chg.refl _ _, HD.out⟩
end Go.Proofs.Ytlnocdmechidfaa.Dev
