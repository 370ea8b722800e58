/- Layer 16 (leaf): the place of a key; Len, List, Get. -/
import Derived.Test.YtfmbjepjmjcgeaaEnts
import Derived.Test.YtfmbjepjmjcgeaaLeMath
namespace Go.Proofs.Ytfmbjepjmjcgeaa.Leaf
open Go Go.RowKit Go.Proofs.Ytfmbjepjmjcgeaa Go.Proofs.Ytfmbjepjmjcgeaa.Lend Go.Proofs.Ytfmbjepjmjcgeaa.Rec Go.Proofs.Ytfmbjepjmjcgeaa.Msg Go.Proofs.Ytfmbjepjmjcgeaa.Buf
set_option linter.unusedVariables false

theorem bl_str (a b : List UInt8) : Op.bytesLess (Lend.strOf a).toList (Lend.strOf b).toList = kLt a b := by
  rw [ByteArray.toList_eq, ByteArray.toList_eq]; rfl
theorem eq_str (a b : List UInt8) : ((Lend.strOf a).toList == (Lend.strOf b).toList) = (a == b) := by
  rw [ByteArray.toList_eq, ByteArray.toList_eq]; rfl
theorem bel_q {w w' : World} {q : Nat} (h : Below w.heap.size w w') : Below w.heap.size w (w'.drewN q) := ⟨h.os, h.tape, h.output, h.size, h.block⟩
theorem own_base {w : World} {base base' : Nat} {e : TypeId} {size : Nat} {v : Value} {n : Nat} {xs : List Value} (h : w.ownsRow base e size v n xs) (hb : base' ≤ base) : w.ownsRow base' e size v n xs := by
  refine ⟨h.1, ?_⟩
  rcases h.2 with h | ⟨g, cap, cur, a, b, rest⟩
  · exact .inl h
  · exact .inr ⟨g, cap, cur, a, Nat.le_trans hb b, rest⟩
theorem bel_st {w w' : World} {i : Nat} {v : Value} (h : Below w.heap.size w w') : Below w.heap.size w (w'.setCell ⟨w.heap.size, i, none⟩ v) := h.setCell (Nat.le_refl _) v
/-- the cells of an entry -/
theorem er_key {w : World} {g off m c : Nat} {l : List Up} (h : ER w (.slice (some ⟨g, off, none⟩) m c) l) (i : Nat) (hi : i < l.length) : w.cell? ⟨g, off + i * 2, none⟩ = some (.string (Lend.strOf l[i].key)) := by
  obtain ⟨g', off', he, hc⟩ := ER.at_ h (by omega)
  simp only [Option.some.injEq, Addr.mk.injEq, and_true] at he
  obtain ⟨rfl, rfl⟩ := he
  exact hc i hi 0 (by omega)
theorem er_val {w : World} {g off m c : Nat} {l : List Up} (h : ER w (.slice (some ⟨g, off, none⟩) m c) l) (i : Nat) (hi : i < l.length) : w.cell? ⟨g, off + i * 2 + 1, none⟩ = some (.string (Lend.strOf l[i].val)) := by
  obtain ⟨g', off', he, hc⟩ := ER.at_ h (by omega)
  simp only [Option.some.injEq, Addr.mk.injEq, and_true] at he
  obtain ⟨rfl, rfl⟩ := he
  exact hc i hi 1 (by omega)
/-- entries and a key, each in its box -/
structure Bk (w : World) (pb pk : Nat) (v : Value) (key : List UInt8) (l : List Up) : Prop where
  b : Has w pb 23 [v]
  k : Has w pk 9 [.string (Lend.strOf key)]
  ur : ER w v l
theorem Bk.drewN {w : World} {pb pk : Nat} {v : Value} {key : List UInt8} {l : List Up} (h : Bk w pb pk v key l) (n : Nat) : Bk (w.drewN n) pb pk v key l := ⟨h.b.drewN n, h.k.drewN n, by
  obtain ⟨a, cap, he, hc⟩ := h.ur.form
  exact ⟨a, cap, he, hc⟩⟩
set_option maxRecDepth 100000 in
set_option maxHeartbeats 4000000 in
theorem closure_any {w : World} {pb pk : Nat} {v : Value} {key : List UInt8} {l : List Up} (h : Bk w pb pk v key l) (hs : Srt l) (hl : l.length ≤ 1000000) (i : Nat) (hi : i < l.length) :
    Calls Try.prog 56 #[.int .i64 i, .pointer (some ⟨pb, 0, none⟩), .pointer (some ⟨pk, 0, none⟩)] w fun e w' => e = .returned (.bool (!decide (i < plK l key))) ∧ ∃ q, w' = w.drewN q := by
  obtain ⟨a, cap, rfl, _⟩ := h.ur.form
  obtain ⟨g, off, rfl⟩ := er_some h.ur (by omega)
  have cb := h.b.cell 0
  have ck := h.k.cell 0
  have cc := er_key h.ur i hi
  have hb := bl_str l[i].key key
  rw [plK_get hs i hi] at hb
  simp only [List.getElem?_cons_zero] at cb ck
  obtain ⟨n, hn⟩ : ∃ n, n = l.length := ⟨_, rfl⟩
  have hin : (i : Int) < (n : Int) := by omega
  rw [← hn] at cb hl
  generalize Lend.strOf l[i].key = K0 at *
  generalize Lend.strOf key = K1 at *
  cases hp : decide (i < plK l key)
  all_goals
    rw [hp] at hb
    clear hp h hs hn hi
    go_enter Try.func56, Try.ntmps56
    go_wp2_with fail
    go_quiet (fail)
    go_wp2_with fail
    go_ret
    exact ⟨rfl, _, rfl⟩
set_option maxRecDepth 100000 in
set_option maxHeartbeats 4000000 in
theorem search_any {w : World} {pb pk : Nat} {v : Value} {key : List UInt8} {l : List Up} (n : Nat) (h : Bk w pb pk v key l) (hs : Srt l) (hl : l.length ≤ 1000000) (hn : n = l.length) :
    Calls Try.prog 55 #[.int .i64 n, .func (.func 56) #[] #[.pointer (some ⟨pb, 0, none⟩), .pointer (some ⟨pk, 0, none⟩)]] w fun e w' => e = .returned (.int .i64 (plK l key : Nat)) ∧ ∃ q, w' = w.drewN q := by
  have HB := Lib.hid h
  have HS := Lib.hid hs
  have HL := Lib.hid hl
  have HN := Lib.hid hn
  have hnl : n ≤ 1000000 := by omega
  have hpn : plK l key ≤ n := by rw [hn]; exact plK_le l key
  obtain ⟨p, hp⟩ : ∃ p, p = plK l key := ⟨_, rfl⟩
  have HC := Lib.hid (fun (q i : Nat) (hi : i < l.length) => closure_any (HB.out.drewN q) HS.out HL.out i hi)
  rw [← hp] at HC hpn ⊢
  clear h hs hl hn hp
  go_enter Try.func55, Try.ntmps55
  go_wp2_with fail
  go_loopw [5, 6] (fun lo hi wr => ∃ i j q : Nat, lo = .int .i64 i ∧ hi = .int .i64 j ∧ i ≤ p ∧ p ≤ j ∧ j ≤ n ∧ wr = w.drewN q) (fun lo hi _ => (intOf hi).toNat - (intOf lo).toNat)
  case atStart => exact ⟨0, n, 0, rfl, rfl, Nat.zero_le _, hpn, Nat.le_refl _, rfl⟩
  case round =>
    obtain ⟨i, j, q, rfl, rfl, hip, hpj, hjn, hw⟩ := hrel
    rename World => wr
    have HW := Lib.hid hw
    have hc := HC.out q ((i + j) / 2)
    rw [← hw] at hc
    have HN' := HN.out
    clear hw
    by_cases hlt : i < j
    · have hij : (i : Int) < (j : Int) := by omega
      have hc := hc (by omega)
      rw [show (((i + j) / 2 : Nat) : Int) = ((i : Int) + (j : Int)) / 2 by omega] at hc
      clear HN'
      by_cases hm : (i + j) / 2 < p
      · rw [show decide ((i + j) / 2 < p) = true by simpa using hm] at hc
        have HC2 := Lib.hid hc
        clear hc
        go_wp2_with fail
        refine HC2.out.mono ?_
        rintro e w2 ⟨rfl, q2, hw2⟩
        have HW2 := Lib.hid hw2
        clear hw2
        go_wp2_with fail
        go_roundw
        case rel => exact ⟨(i + j) / 2 + 1, j, q + q2, by rw [show ((i : Int) + (j : Int)) / 2 + 1 = (((i + j) / 2 + 1 : Nat) : Int) by omega], rfl, by omega, hpj, hjn, by rw [HW2.out, HW.out, World.drewN_drewN]⟩
        case measure => simp [intOf]; omega
      · rw [show decide ((i + j) / 2 < p) = false by simpa using hm] at hc
        have HC2 := Lib.hid hc
        clear hc
        go_wp2_with fail
        refine HC2.out.mono ?_
        rintro e w2 ⟨rfl, q2, hw2⟩
        have HW2 := Lib.hid hw2
        clear hw2
        go_wp2_with fail
        go_roundw
        case rel => exact ⟨i, (i + j) / 2, q + q2, rfl, by rw [show ((i : Int) + (j : Int)) / 2 = (((i + j) / 2 : Nat) : Int) by omega], hip, by omega, by omega, by rw [HW2.out, HW.out, World.drewN_drewN]⟩
        case measure => simp [intOf]; omega
    · have hij : ¬ ((i : Int) < (j : Int)) := by omega
      obtain rfl : i = p := by omega
      clear hc HN'
      go_wp2_with fail
      go_ret
      exact ⟨rfl, q, HW.out⟩
theorem bk_new (w : World) (v : Value) (key : List UInt8) {l : List Up} (h : ER w v l) :
    Bk ((w.alloc (.cells #[v] 23)).alloc (.cells #[.string (Lend.strOf key)] 9)) w.heap.size (w.heap.size + 1) v key l := by
  have h1 := Has.new w [v] 23
  have h2 := Has.new (w.alloc (.cells #[v] 23)) [.string (Lend.strOf key)] 9
  simp only [World.size_alloc] at h2
  exact ⟨h1.alloc _, h2, (h.below (below_new w _)).below (below_new _ _)⟩
set_option maxRecDepth 100000 in
set_option maxHeartbeats 4000000 in
theorem place_any {w : World} {v : Value} {l : List Up} (key : List UInt8) (h : ER w v l) (hs : Srt l) (hl : l.length ≤ 1000000) :
    Calls Try.prog 37 #[v, .string (Lend.strOf key)] w fun e w' => e = .returned (.tuple #[.int .i64 (plK l key : Nat), .bool (thK l key)]) ∧ Below w.heap.size w w' := by
  have HBK := Lib.hid (bk_new w v key h)
  have HB := Lib.hid (below_nw (below_new w (.cells #[v] 23)) (.cells #[.string (Lend.strOf key)] 9))
  obtain ⟨a, cap, rfl, _⟩ := h.form
  obtain ⟨w1, hw1⟩ : ∃ x, x = (w.alloc (.cells #[.slice a l.length cap] 23)).alloc (.cells #[.string (Lend.strOf key)] 9) := ⟨_, rfl⟩
  rw [← hw1] at HBK HB
  have cb := HBK.out.b.cell 0
  simp only [List.getElem?_cons_zero] at cb
  have HSE := Lib.hid (search_any _ HBK.out hs hl rfl)
  obtain ⟨n, hn⟩ : ∃ n, n = l.length := ⟨_, rfl⟩
  obtain ⟨p, hp⟩ : ∃ p, p = plK l key := ⟨_, rfl⟩
  have hpn : p ≤ n := by rw [hn, hp]; exact plK_le l key
  have hT : thK l key = match l[p]? with | some x => x.key == key | none => false := by rw [hp]; rfl
  rw [← hn, ← hp] at HSE
  rw [← hn] at cb hw1 hl ⊢
  rw [← hp]
  have HP := Lib.hid hpn
  clear hp hpn h hs
  by_cases hlt : p < n
  · have hpl : p < l.length := by omega
    rw [List.getElem?_eq_getElem hpl] at hT
    replace hT : thK l key = (l[p].key == key) := hT
    obtain ⟨g, off, rfl⟩ := er_some HBK.out.ur (by omega)
    have HCC := Lib.hid (er_key HBK.out.ur p hpl)
    have he := eq_str l[p].key key
    rw [← hT] at he
    have ck := HBK.out.k.cell 0
    simp only [List.getElem?_cons_zero] at ck
    have hpi : (p : Int) < (n : Int) := by omega
    have hpi' : decide ((p : Int) < (n : Int)) = true := by simpa using hlt
    generalize Lend.strOf l[p].key = K0 at *
    generalize Lend.strOf key = K1 at *
    clear hn
    cases ht : thK l key
    all_goals
      rw [ht] at he
      clear hT ht
      go_enter Try.func37, Try.ntmps37
      go_wp2_with fail
      rw [← hw1]
      clear hw1
      go_wp2_with fail
      refine HSE.out.mono ?_
      rintro e w2 ⟨rfl, q, hw2⟩
      have HB2 := Lib.hid (show Below w.heap.size w w2 by rw [hw2]; exact bel_q HB.out)
      have c0 : w2.cell? ⟨w.heap.size, 0, none⟩ = some (.slice (some ⟨g, off, none⟩) n cap) := by rw [hw2]; exact cb
      have c1 : w2.cell? ⟨w.heap.size + 1, 0, none⟩ = some (.string K1) := by rw [hw2]; exact ck
      have c2 : w2.cell? ⟨g, off + p * 2, none⟩ = some (.string K0) := by rw [hw2]; exact HCC.out
      clear hw2 cb ck
      go_wp2_with fail
      go_quiet (fail)
      go_wp2_with fail
      go_ret2
      exact ⟨rfl, bel_q HB2.out⟩
  · have hpl : l[p]? = none := List.getElem?_eq_none (by omega)
    rw [hpl] at hT
    replace hT : thK l key = false := hT
    have hpi : ¬ ((p : Int) < (n : Int)) := by omega
    have hpi' : decide ((p : Int) < (n : Int)) = false := by simpa using hlt
    rw [hT]
    generalize Lend.strOf key = K1 at *
    clear hn hpl hT
    go_enter Try.func37, Try.ntmps37
    go_wp2_with fail
    rw [← hw1]
    clear hw1
    go_wp2_with fail
    refine HSE.out.mono ?_
    rintro e w2 ⟨rfl, q, hw2⟩
    have HB2 := Lib.hid (show Below w.heap.size w w2 by rw [hw2]; exact bel_q HB.out)
    have c0 : w2.cell? ⟨w.heap.size, 0, none⟩ = some (.slice a n cap) := by rw [hw2]; exact cb
    clear hw2 cb
    go_wp2_with fail
    go_quiet (fail)
    go_wp2_with fail
    go_ret2
    exact ⟨rfl, bel_q HB2.out⟩
theorem ret_len {a b : Int} (h : a = b) : Ending.returned (.int .i64 a) = .returned (.int .i64 b) := by rw [h]
theorem elen_any {w : World} {v : Value} {l : List Up} (h : ER w v l) : Calls Try.prog 19 #[.agg #[v]] w fun e w' => e = .returned (.int .i64 (l.length : Nat)) ∧ Below w.heap.size w w' := by
  obtain ⟨a, cap, rfl⟩ := h.slice
  clear h
  generalize l.length = n
  go_enter Try.func19, Try.ntmps19
  go_wp2_with fail
  go_ret
  exact ⟨rfl, below_new _ _⟩
theorem elist_any {w : World} {v : Value} {l : List Up} (h : ER w v l) (hl : l.length ≤ 1000000) : Calls Try.prog 23 #[.agg #[v]] w fun e w' => ∃ v', e = .returned v' ∧ EA w' w.heap.size v' l ∧ Below w.heap.size w w' := by
  have HB0 := Lib.hid (below_new w (.cells #[v] 25))
  have HC := Lib.hid (eclone_any (h.below HB0.out) hl)
  clear h hl
  go_enter Try.func23, Try.ntmps23
  go_wp2_with fail
  refine HC.out.mono ?_
  rintro e w1 ⟨v1, rfl, hr, hb⟩
  have HB1 := Lib.hid (below_on HB0.out hb)
  have HR := Lib.hid (own_base hr HB0.out.size)
  clear hr hb
  go_wp2_with fail
  go_ret
  exact ⟨_, rfl, HR.out, HB1.out⟩
/-- what Get answers -/
def gvE (s : Sv) : Ending := .returned (.tuple #[.string (Lend.strOf s.1), .bool s.2])
set_option maxRecDepth 100000 in
set_option maxHeartbeats 4000000 in
theorem eget_any {w : World} {v : Value} {l : List Up} (key : List UInt8) (h : ER w v l) (hs : Srt l) (hl : l.length ≤ 1000000) :
    Calls Try.prog 14 #[.agg #[v], .string (Lend.strOf key)] w fun e w' => e = gvE (svK l key) ∧ Below w.heap.size w w' := by
  obtain ⟨w1, hw1⟩ : ∃ x, x = w.alloc (.cells #[v] 25) := ⟨_, rfl⟩
  have HV := Lib.hid (show Has w1 w.heap.size 25 [v] by rw [hw1]; exact Has.new w [v] _)
  have HB := Lib.hid (show Below w.heap.size w w1 by rw [hw1]; exact below_new w _)
  have HU := Lib.hid (h.below HB.out)
  have HPL := Lib.hid (place_any key HU.out hs hl)
  have cb := HV.out.cell 0
  simp only [List.getElem?_cons_zero] at cb
  cases ht : thK l key with
  | true =>
    have hp := (thK_yes ht).1
    rw [svK_yes ht]
    rw [ht] at HPL
    obtain ⟨u, hu⟩ : ∃ u, u = l[plK l key]'hp := ⟨_, rfl⟩
    obtain ⟨a, cap, rfl⟩ := h.slice
    obtain ⟨g, off, rfl⟩ := er_some h (by omega)
    have HCC := Lib.hid (er_val HU.out (plK l key) hp)
    rw [← hu] at HCC ⊢
    obtain ⟨p, hpe⟩ : ∃ p, p = plK l key := ⟨_, rfl⟩
    obtain ⟨n, hn⟩ : ∃ n, n = l.length := ⟨_, rfl⟩
    rw [← hpe] at HCC HPL hp
    rw [← hn] at hp hl cb HPL hw1 ⊢
    have hpi : (p : Int) < (n : Int) := by omega
    show Calls _ _ _ _ fun e w' => e = .returned (.tuple #[.string (Lend.strOf u.val), .bool true]) ∧ _
    generalize Lend.strOf key = K at *
    generalize Lend.strOf u.val = V0 at *
    clear h hs hn hu hpe ht
    go_enter Try.func14, Try.ntmps14
    go_wp2_with fail
    rw [← hw1]
    clear hw1
    go_wp2_with fail
    refine HPL.out.mono ?_
    rintro e w2 ⟨rfl, hb2⟩
    have HB2 := Lib.hid (below_on HB.out hb2)
    have cb2 := keep1 cb hb2
    have c0 := keep1 HCC.out hb2
    clear hb2 cb
    go_wp2_with fail
    go_ret2
    exact ⟨rfl, HB2.out⟩
  | false =>
    rw [svK_no ht]
    rw [ht] at HPL
    obtain ⟨a, cap, rfl⟩ := h.slice
    obtain ⟨p, hpe⟩ : ∃ p, p = plK l key := ⟨_, rfl⟩
    obtain ⟨n, hn⟩ : ∃ n, n = l.length := ⟨_, rfl⟩
    rw [← hpe] at HPL
    rw [← hn] at hl cb HPL hw1 ⊢
    show Calls _ _ _ _ fun e w' => e = .returned (.tuple #[.string ⟨#[]⟩, .bool false]) ∧ _
    generalize Lend.strOf key = K at *
    clear h hs hn hpe ht
    go_enter Try.func14, Try.ntmps14
    go_wp2_with fail
    rw [← hw1]
    clear hw1
    go_wp2_with fail
    refine HPL.out.mono ?_
    rintro e w2 ⟨rfl, hb2⟩
    have HB2 := Lib.hid (below_on HB.out hb2)
    clear hb2 cb
    go_wp2_with fail
    go_ret2
    exact ⟨rfl, HB2.out⟩
end Go.Proofs.Ytfmbjepjmjcgeaa.Leaf
