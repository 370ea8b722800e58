/- Contracts of the reference of layer 3: Stick. -/
import Derived.Deep.DeepCutAuto
import Derived.Test.YtlnocdmechidfaaRefDevF
namespace Go.Proofs.Ytlnocdmechidfaa.Dev
open Go Go.RowKit Go.Proofs.Ytlnocdmechidfaa
set_option linter.unusedVariables false

theorem info_rwrite : (Try.prog.info? 79).map (fun i => (i.zero, i.size, i.bytes)) = some (some (.agg #[.int .i64 0, .string ⟨#[]⟩]), 2, 24) := by kernel_rfl
theorem owns_base {w : World} {base base' : Nat} {e : TypeId} {size : Nat} {v : Value} {n : Nat} {xs : List Value} (h : w.ownsRow base e size v n xs) (hb : base' ≤ base) : w.ownsRow base' e size v n xs := by
  refine ⟨h.1, ?_⟩
  rcases h.2 with hn | ⟨g, cap, cur, rfl, hg, rest⟩
  · exact .inl hn
  · exact .inr ⟨g, cap, cur, rfl, Nat.le_trans hb hg, rest⟩
theorem filter_take (l : List (Nat × ByteArray)) (q k : Nat) (x : Nat × ByteArray) (hx : l[k]? = some x) : (l.take (k + 1)).filter (keeps q) = (l.take k).filter (keeps q) ++ (if x.1 = q then [] else [x]) := by
  obtain ⟨hk, rfl⟩ := List.getElem?_eq_some_iff.1 hx
  rw [List.take_succ_eq_append_getElem hk, List.filter_append]
  congr 1
  by_cases e : (l[k]).1 = q
  · rw [if_pos e]; simp [keeps, e]
  · rw [if_neg e]; simp [keeps, e]
theorem flatW_append (a b : List (Nat × ByteArray)) : flatW (a ++ b) = flatW a ++ flatW b := by unfold flatW; rw [List.flatMap_append]
/-- the cache is another one, in a block of its own -/
theorem RefAt.recache {w : World} {p : Nat} {B : RB} {cv v : Value} {D : Dv} {b : Nat} (h : RefAt w p B cv D) (c : List (Nat × ByteArray)) (hb : ∀ k, rfoot p B cv k → k < b) (ho : w.ownsRow b 79 2 v c.length (flatW c)) (hc : ∀ x ∈ c, x ∈ D.cache) :
    RefAt (w.setCell ⟨p, 3, none⟩ v) p B v { D with cache := c } ∧ ∀ k, rfoot p B v k → rfoot p B cv k ∨ b ≤ k := by
  have hv : ∀ k, v.ownBlock = some k → b ≤ k := fun k e => (ho.lt k e).1
  have hne : ∀ k, rfoot p B cv k → v.ownBlock ≠ some k := fun k hk e => by have := hv k e; have := hb k hk; omega
  refine ⟨⟨h.main.set 3 v, h.meds.setOther h.pm _, h.bads.setOther h.pb _, owns_same (owns_base ho (Nat.zero_le _)) fun k e => Below.heap_setCell _ _ _ _ (fun e' => hne p (.inl rfl) (by rw [e]; exact congrArg some e')), h.pm, h.pb, h.mb, hne p (.inl rfl), hne _ (.inr (.inl rfl)), hne _ (.inr (.inr (.inl rfl))),
    ⟨h.ok.n8, h.ok.n4096, h.ok.s128, h.ok.s1024, h.ok.media, fun x hx => h.ok.text x (hc x hx), fun x hx => h.ok.sector x (hc x hx), h.ok.fuse, h.ok.lose, h.ok.stray⟩⟩, ?_⟩
  rintro k (rfl | rfl | rfl | e)
  · exact .inl (.inl rfl)
  · exact .inl (.inr (.inl rfl))
  · exact .inl (.inr (.inr (.inl rfl)))
  · exact .inr (hv k e)
set_option maxRecDepth 100000 in
set_option maxHeartbeats 4000000 in
theorem refstick_any {p : Nat} {B : RB} {cv : Value} {D : Dv} (i : Int) (w : World) (h : RefAt w p B cv D) (hl : D.cache.length ≤ 1000000000) :
    Calls Try.prog 15 #[.pointer (some ⟨p, 0, none⟩), .int .i64 i] w fun e w' => e = .returned (.tuple #[]) ∧ RNow p B cv w (D.stickD i) w' := by
  have hn4 := h.ok.n4096
  have c1 := h.c1
  cases hh : hasB D i with
  | false =>
    have e1 : D.stickD i = D := by unfold Dv.stickD; rw [hh]; rfl
    rw [e1]
    have hrr : ¬ (0 ≤ i ∧ i < D.n) := by unfold hasB at hh; simpa using hh
    have HD := Lib.hid h
    clear e1 hh h
    by_cases hneg : i < 0
    · clear hrr
      go_enter Try.func15, Try.ntmps15
      go_wp2
      refine bodyPost_ret (results_none rfl _ _ _) rfl ?_
      exact ⟨rfl, .same (Chg.refl _ _) HD.out⟩
    · have hge : (D.n : Int) ≤ i := by omega
      clear hrr
      go_enter Try.func15, Try.ntmps15
      go_wp2
      refine bodyPost_ret (results_none rfl _ _ _) rfl ?_
      exact ⟨rfl, .same (Chg.refl _ _) HD.out⟩
  | true =>
    have hrr : 0 ≤ i ∧ i < D.n := by unfold hasB at hh; simpa using hh
    obtain ⟨q, rfl⟩ := Int.eq_ofNat_of_zero_le hrr.1
    have hq : q < D.n := by omega
    have hqi : (q : Int) < (D.n : Int) := hrr.2
    have c2 := h.c2
    obtain ⟨bo, hbo⟩ : ∃ bo, w.cell? ⟨B.bb, q, none⟩ = some (.bool bo) := ⟨_, h.bad q hq⟩
    have hbf := h.bfz q
    have e1 : D.stickD q = { D.spoiled q with cache := D.cache.filter (keeps q) } := by unfold Dv.stickD; rw [hh, Int.toNat_natCast]; rfl
    have hcache : (D.spoiled q).cache = D.cache := by rw [D.spoiled_eq q hq]
    rw [e1]
    have hd0 := h.setBad q hq true _ (D.spoiled_eq q hq) (D.spoiled_ok h.ok q hq)
    obtain ⟨sa, cap, hcv, hsa⟩ := h.cv_slice
    subst hcv
    obtain ⟨n, hn⟩ : ∃ n, n = D.cache.length := ⟨_, rfl⟩
    rw [← hn] at h hl hsa hd0 ⊢
    obtain ⟨w1, hw1⟩ : ∃ w1, w1 = w.setCell ⟨B.bb, q, none⟩ (.bool true) := ⟨_, rfl⟩
    rw [← hw1] at hd0
    have HC1 := Lib.hid (show Chg (rfoot p B (.slice sa n cap)) w w1 by rw [hw1]; exact (Chg.refl _ w).setCell (p := ⟨B.bb, q, none⟩) (fun _ => .inr (.inr (.inl rfl))) (.bool true))
    have HD1 := Lib.hid hd0
    have HN := Lib.hid hn
    have HCA := Lib.hid hcache
    have HW1 := Lib.hid hw1
    clear e1 hh h hrr hd0 hcache hw1 hn
    have hdq : decide ((q : Int) < 0) = false := by simp
    have hdn : decide ((D.n : Int) ≤ (q : Int)) = false := by simp; omega
    have hdm : decide (D.n ≤ q) = false := by simp; omega
    go_enter Try.func15, Try.ntmps15
    go_wp2_with fail
    rw [← HW1.out]
    clear c1 c2 hbo hbf
    go_loopw [4, 5] (fun v i wr => ∃ k : Nat, k ≤ n ∧ i = .int .i64 k ∧ wr.ownsRow w1.heap.size 79 2 v ((D.cache.take k).filter (keeps q)).length (flatW ((D.cache.take k).filter (keeps q))) ∧ Below w1.heap.size w1 wr) (fun _ i _ => n - (intOf i).toNat)
    case atStart => exact ⟨0, Nat.zero_le _, rfl, World.ownsRow_nil _ _ _ _, Below.refl _ _⟩
    case round =>
      obtain ⟨k, hk, rfl, hown, hbel⟩ := hrel
      have hd := HD1.out.below hbel (Nat.le_refl _)
      have c3 := hd.c3
      by_cases hlt : k < n
      · obtain ⟨g, rfl⟩ := hsa (by omega)
        obtain ⟨⟨si, st⟩, hx⟩ : ∃ x, D.cache[k]? = some x := ⟨_, List.getElem?_eq_getElem (by rw [← HN.out]; omega)⟩
        have hki : (k : Int) < (n : Int) := by omega
        obtain ⟨hx0, hx1⟩ := hd.cw (by rw [HCA.out]; exact HN.out) k (by rw [HCA.out]; exact hx)
        simp only at hx0 hx1
        have hft := filter_take D.cache q k _ hx
        simp only at hft
        have hlen : ((D.cache.take k).filter (keeps q)).length ≤ 1000000000 := by
          have h1 := List.length_filter_le (keeps q) (D.cache.take k)
          have h2 := List.length_take_le k D.cache
          omega
        by_cases he : si = q
        · subst he
          rw [if_pos rfl, List.append_nil] at hft
          have HFT := Lib.hid hft
          have HO := Lib.hid hown
          have HB := Lib.hid hbel
          clear hft hown hbel hd hx hlen
          go_wp2_with fail
          go_roundw
          case rel => exact ⟨k + 1, by omega, by go_num, by rw [HFT.out]; exact HO.out, HB.out⟩
          case measure => simp [intOf]; omega
        · rw [if_neg he] at hft
          have hne : ((si : Int) != (q : Int)) = true := by simp; omega
          have HFT := Lib.hid hft
          have HB := Lib.hid hbel
          have hsz := hbel.size
          have HLEN := Lib.hid hlen
          obtain ⟨L, hL⟩ : ∃ L, L = (D.cache.take k).filter (keeps q) := ⟨_, rfl⟩
          rw [← hL] at HFT HLEN hown
          obtain ⟨i0, hi, hz0, hz1, hz2⟩ := info_parts info_rwrite
          clear hft hbel hd hx hL hlen
          go_wp2_with (at_builtin; refine wpList_append_own _ rfl _ _ 50 rfl w1.heap.size 79 i0 (.agg #[.int .i64 0, .string ⟨#[]⟩]) 2 24 Try.underlying50 hi hz0 hz1 hz2 rfl (by decide) _ _ _ rfl (hown.alloc _) ⟨wr.heap.size, 0, none⟩ 1 1 [.int .i64 (si : Nat), .string st] rfl rfl ?c1 ?c2 ?c3 ?c4 ?c5 ?_)
          case c1 =>
            intro j u hj
            match j, hj with
            | 0, hj => simp at hj; subst hj; simp [Addr.add]
            | 1, hj => simp at hj; subst hj; simp [Addr.add]
          case c2 => intro u hu; simp at hu; rcases hu with rfl | rfl <;> rfl
          case c3 => have := HLEN.out; unfold maxLen; omega
          case c4 => have := HLEN.out; omega
          case c5 => simp; omega
          intro v' wn hown' hgrow _
          have HO' := Lib.hid hown'
          have HB' := Lib.hid (show Below w1.heap.size w1 wn from (HB.out.alloc (by omega) _).grown hgrow (by simp; omega) (fun q hq => (hown.lt q hq).1))
          clear hown' hgrow hown HB hx0 hx1 c3
          go_wp2_with fail
          go_roundw
          case rel => exact ⟨k + 1, by omega, by go_num, by rw [HFT.out, List.length_append, flatW_append]; exact HO'.out, HB'.out⟩
          case measure => simp [intOf]; omega
      · obtain rfl : k = n := by omega
        have htk : D.cache.take k = D.cache := List.take_of_length_le (by rw [← HN.out]; exact Nat.le_refl _)
        rw [htk] at hown
        have f3 := hd.fz 3
        obtain ⟨hR, hF⟩ := hd.recache (b := w1.heap.size) _ (fun j hj => HD1.out.lt j hj) hown (fun x hx => by rw [HCA.out]; exact (List.mem_filter.1 hx).1)
        have HR := Lib.hid hR
        have HF := Lib.hid hF
        have hsl : ∃ x l c, u4 = .slice x l c := by
          rcases hown.2 with ⟨e, _⟩ | ⟨g', cap', _, e, _⟩
          · exact ⟨_, _, _, e⟩
          · exact ⟨_, _, _, e⟩
        have HC := Lib.hid ((HC1.out.trans (Chg.of_below hbel (Nat.le_refl _)) (fun _ _ h => h)).setCell (p := ⟨p, 3, none⟩) (fun _ => .inl rfl) u4)
        have HSZ := Lib.hid HC1.out.size
        clear hR hF hown hbel hd
        obtain ⟨sx, sl, sc, rfl⟩ := hsl
        go_wp2_with fail
        first | go_end0 | go_ret
        exact ⟨rfl, _, HC.out, HR.out, fun j hj => (HF.out j hj).imp id (fun h => Nat.le_trans HSZ.out h)⟩
end Go.Proofs.Ytlnocdmechidfaa.Dev
