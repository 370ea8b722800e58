/-
  The law CacheLast holds: of blocks that are put one by one the last ones are found, as many as there are slots, with what was put last; by another generation or check none is. Conditions: none but the row's own.
-/
import Derived.Test.YtbdiadbaapfdgaaRows
import Derived.Test.YtbdiadbaapfdgaaCaZ
import Derived.Deep.CutBlock
import Derived.WalkKit
import Derived.ProofKit
import Derived.OpenShut
import Derived.ShutString
import Derived.ChangeOld
import Derived.Below
namespace Go.Proofs.Ytbdiadbaapfdgaa.cacheLast
open Go.ChangeShapes Go.WideShapes Go.ChangeAt Go.RowKit
open Go.ChangeMaps (open_string shut_string)
set_option linter.unusedVariables false

theorem own : ownKnob Try.prog.godebug = none := by kernel_rfl
theorem laidOut : laidOutB Try.prog = true := by kernel_rfl

/-- WHAT THE WALK IS TOLD OF A SLICE OF INTEGERS THAT CAME IN: it is nil; or it leads to a row of 'cap' cells, the numbers 'zs' (the first 'len' are its elements, the rest its spare room), each fitting its kind. -/
def IsRow (k : IntKind) (w : World) (a : Option Addr) (len cap : Nat) (zs : List Int) : Prop :=
  (a = none ∧ len = 0 ∧ cap = 0 ∧ zs = []) ∨
  ∃ x, a = some x ∧ len ≤ cap ∧ cap ≤ maxLen ∧ zs.length = cap ∧ (∀ i, i < zs.length → w.cell? (x.add i) = some (.int k (zs.getD i 0))) ∧ ∀ n ∈ zs, (Lit.int k n).wf = true

theorem isRow_row {k : IntKind} {w : World} {a : Option Addr} {len cap : Nat} {zs : List Int} (h : IsRow k w a len cap zs) :
    Row k w a len (zs.take len) ∧ len ≤ cap ∧ cap ≤ maxLen ∧ (∀ n ∈ zs.take len, (Lit.int k n).wf = true) := by
  rcases h with ⟨rfl, rfl, rfl, rfl⟩ | ⟨x, rfl, hl, hm, hz, hc, hwf⟩
  · exact ⟨⟨rfl, fun h => absurd h (by decide)⟩, Nat.le_refl _, by unfold maxLen; omega, by simp⟩
  · refine ⟨⟨by simp; omega, fun h => ?_⟩, hl, hm, fun n hn => hwf n (List.mem_of_mem_take hn)⟩
    obtain ⟨b, off, spot⟩ := x
    have h0 := hc 0 (by omega)
    have hs : spot = none := by simpa [Addr.add] using World.cell?_spot h0
    subst hs
    refine ⟨b, off, rfl, fun i hi => ?_⟩
    have := hc i (by omega)
    rw [Addr.add_lit] at this
    rw [this]
    simp [List.getD, hi]

theorem walk_wf {zs : List Int} (h : ∀ n ∈ zs, (Lit.int .u64 n).wf = true) : ∀ n ∈ zs, 0 ≤ n ∧ n < 18446744073709551616 := by
  intro n hn
  have := bounds_u64 (h n hn)
  omega
open Go.Proofs.Ytbdiadbaapfdgaa.Ca

/-! ### STEP 1: THE WALK: the Go text returns true, AND WRITES NOTHING THAT WAS THERE: 'Below w.heap.size w w'' (Derived/Below.lean: '.refl', '.alloc', '.drew', '.setCell' at a new block, '.trans'). Open each 'IsRow' by 'rcases' AHEAD of 'go_enter'; part every test ahead of the walk. -/
set_option maxHeartbeats 8000000 in
set_option maxRecDepth 100000 in
theorem walk (a0 : Option Addr) (len0 cap0 : Nat) (z0 : List Int) (a1 : Int) (w : World) (w0 : IsRow .u8 w a0 len0 cap0 z0) (w1 : (Lit.int .u8 a1).wf = true) :
    Calls Try.prog 5 #[.slice a0 len0 cap0, .int .u8 a1] w fun e w' => e = .returned (.bool true) ∧ Below w.heap.size w w' := by
  obtain ⟨hr0, hlc0, hcm0, hwf0⟩ := isRow_row w0
  have R0 := Lib.hid hr0
  have WF := Lib.hid hwf0
  have HLZ := Lib.hid hr0.len_eq
  have hb8 := bounds_u8 w1
  obtain ⟨hb80, hb81⟩ := hb8
  clear hr0 hwf0 w1 w0
  unfold maxLen at hcm0
  have hmm := @run_makeMap Try.prog
  have HMM := Lib.hid hmm
  obtain ⟨n, hn, hn1, hn12⟩ : ∃ n : Nat, 1 + a1 % 20 = (n : Int) ∧ 1 ≤ n ∧ n ≤ 20 := ⟨(1 + a1 % 20).toNat, by omega, by omega, by omega⟩
  clear hmm
  go_enter Try.func5, Try.ntmps5
  go_wp2_with fail
  try rw [hn]
  refine (new_yes n _ hn1 (by omega)).mono ?_
  rintro e w1 ⟨p, R, rfl, hs, hR, hb⟩
  have O1 := Lib.hid (Own.of hs hR (Below.refl _ w) hb)
  clear hs hR hb
  go_wp2_with fail
  refine (wakes_any _).mono ?_
  rintro e w2 ⟨rfl, hb⟩
  have O2 := Lib.hid (O1.out.on hb)
  clear hb O1
  obtain ⟨mm, hm⟩ : ∃ mm, mm = min len0 60 := ⟨_, rfl⟩
  have hmin : ∀ W ts, (Builtin.min_ ts 3 #[.int .i64 (len0 : Nat), .int .i64 60]).run Try.prog W = .ok (.int .i64 (mm : Int)) W := by
    intro W ts; rw [hm]; exact run_minC _ _ _ _ len0 60
  have hm60 : mm ≤ 60 := by omega
  have hml : mm ≤ len0 := by omega
  have hml' : mm ≤ cap0 := by omega
  clear hm
  have hmm := HMM.out
  obtain ⟨mb, hmb⟩ : ∃ b, b = w2.heap.size := ⟨_, rfl⟩
  obtain ⟨W3, hW3⟩ : ∃ W, W = w2.alloc (.map #[] 0) := ⟨_, rfl⟩
  have HT3 := Lib.hid (show Tw w (fun b => b = mb ∨ (Value.slice none 0 0).ownBlock = some b) p n (([] : List En).take n) [] (.slice none 0 0) 0 0 0 W3 by
    rw [List.take_nil, hW3, hmb]
    refine ((Tw.start O2.out).more (.map #[] 0)).less fun k hk => ?_
    rcases hk with hk | hk
    · exact .inr hk
    · cases hk)
  have HS3 := Lib.hid (show LM W3 mb 0 [] by rw [hW3, hmb]; exact LM.made w2)
  have HMB := Lib.hid (show w.heap.size ≤ mb by rw [hmb]; exact O2.out.bel.size)
  clear O2
  go_wp2_with fail
  rw [← hmb, ← hW3]
  clear hmin hmm hmb hW3 HMM
  go_loopw [8, 50] (fun u i wr => ∃ (v : Value) (k c : Nat) (F : List En), v = u ∧ k ≤ mm ∧ i = .int .i64 k ∧ c ≤ k ∧ Lst F k ∧ Tw w (fun b => b = mb ∨ v.ownBlock = some b) p n (F.take n) [] (.slice none 0 0) c 0 0 wr ∧ wr.ownsRow w.heap.size 3 1 v F.length (adr F) ∧ LM wr mb k F) (fun _ i _ => mm - (intOf i).toNat)
  case atStart => exact ⟨_, 0, 0, [], rfl, Nat.zero_le _, rfl, Nat.le_refl _, Lst.start, HT3.out, World.ownsRow_nil _ _ _ _, HS3.out⟩
  case round =>
    obtain ⟨v, k, c, F, rfl, hk, rfl, hc, hF, ht, hrow, hlm⟩ := hrel
    clear HT3 HS3
    by_cases hlt : k < mm
    · obtain ⟨zb, zo, rfl, hcell⟩ := (R0.out.below ht.bel (Nat.le_refl _)).at_ (by omega)
      have hz := hcell k (by omega)
      obtain ⟨y, hy⟩ : ∃ y, y = (z0.take len0).getD k 0 := ⟨_, rfl⟩
      have hyb : 0 ≤ y ∧ y ≤ 255 := by
        have := bounds_u8 (WF.out y (by rw [hy, List.getD_eq_getElem?_getD, List.getElem?_eq_getElem (by rw [HLZ.out]; omega)]; exact List.getElem_mem _))
        omega
      rw [← hy] at hz
      obtain ⟨hy0, hy1⟩ := hyb
      obtain ⟨a, ha⟩ : ∃ a : Int, y % 40 = a := ⟨_, rfl⟩
      have ha0 : 0 ≤ a := by omega
      have ha1 : a < 40 := by omega
      have HAI := Lib.hid (show in64 a by unfold in64; omega)
      have HF := Lib.hid hF
      have HRW := Lib.hid hrow
      have HLM := Lib.hid hlm
      have HT := Lib.hid ht
      clear hcell hy hF ht hrow hlm
      obtain ⟨e, he⟩ : ∃ e : En, e = ⟨a, (k : Int), 0, 4, Utf8.encode (97 + (k : Int) % 20)⟩ := ⟨_, rfl⟩
      have HE := Lib.hid he
      have HEA := Lib.hid (show e.addr = a by rw [he])
      have HFN := Lib.hid (show Lst (e :: rmE F a) (k + 1) by rw [he]; exact HF.out.put ha0 ha1 4)
      have HFL := Lib.hid HF.out.len
      obtain ⟨R, o, rr, aa⟩ := HT.out
      have HPP := Lib.hid (put_any o.at_ a (k : Int) 0 4 (Utf8.encode (97 + (k : Int) % 20)) HAI.out (by omega))
      rw [← he, put_take HF.out.nodup hn1 e, HEA.out] at HPP
      have HKP := Lib.hid (fun es' c' f' m' w8 hk => Tw.kept (w' := w8) (es' := es') (c' := c') (f' := f') (m' := m') o rr aa hk)
      clear o rr aa HT he
      go_wp2_with fail
      refine HPP.out.mono ?_
      rintro e2 w8 ⟨rfl, hk8⟩
      obtain ⟨t8, s8⟩ := HKP.out _ _ _ _ w8 hk8
      have T8 := Lib.hid t8
      have HRW8 := Lib.hid (owns_same HRW.out fun b hb => s8 b (.inr hb))
      have HLM8 := Lib.hid (HLM.out.same (s8 mb (.inl rfl)))
      clear hk8 t8 s8 HPP HKP HRW HLM
      obtain ⟨w9, hrun, hl9, hg9⟩ := HLM8.out.update (by omega) e (by rw [HEA.out]; exact HAI.out) (by rw [HE.out]; show (0 : Int) ≤ (k : Int); omega) (by rw [HE.out]; show (k : Int) ≤ _; omega)
      rw [HEA.out] at hrun hl9
      rw [show e.gen = (k : Int) by rw [HE.out]] at hrun
      have T9 := Lib.hid (T8.out.grown (.inl rfl) HMB.out hg9)
      have HRW9 := Lib.hid (owns_same HRW8.out fun b hb => hg9.block b (HRW8.out.lt b hb).2 (fun e => by
        have e := Option.some.inj e
        obtain ⟨D, ⟨es', clock, hb2, _⟩, _⟩ := HLM8.out
        rcases HRW8.out.2 with ⟨h1, _⟩ | ⟨g, _, cur, h1, _, h2, _⟩
        · rw [h1] at hb; cases hb
        · rw [h1] at hb
          have h3 : g = b := Option.some.inj hb
          rw [h3, e, hb2] at h2
          cases h2))
      have HLM9 := Lib.hid hl9
      clear hl9 hg9 T8 HRW8 HLM8
      obtain ⟨av, cv, rfl⟩ := ownsRow_any HRW9.out
      obtain ⟨L, hL⟩ : ∃ L, L = F.length := ⟨_, rfl⟩
      have HL := Lib.hid hL
      have hL40 : L ≤ 40 := by have := HFL.out; omega
      rw [← hL]
      clear hL
      go_wp2_with fail
      go_loopw [13, 75] (fun r j wq => ∃ jj : Nat, jj ≤ L ∧ j = .int .i64 jj ∧ wq.ownsRow w9.heap.size 3 1 r (rest F a jj).length (rest F a jj) ∧ Below w9.heap.size w9 wq) (fun _ j _ => L - (intOf j).toNat)
      case atStart => exact ⟨0, Nat.zero_le _, rfl, World.ownsRow_nil _ _ _ _, Below.refl _ _⟩
      case round =>
        obtain ⟨jj, hjj, rfl, hown, hbel⟩ := hrel
        clear hrun
        obtain ⟨i0, hi, hz0, hz1, hz2⟩ := info_parts info_int11
        have hrl := rest_len F a jj
        by_cases hjl : jj < L
        · have hje : jj < F.length := by rw [← HL.out]; exact hjl
          have hji : (jj : Int) < (L : Int) := by omega
          obtain ⟨g, cap1, hv1⟩ := ownsRow_form HRW9.out (by omega)
          injection hv1 with hv1 hv1l hv1c
          subst hv1
          clear hv1l hv1c cap1
          have e1 := (owns_same HRW9.out fun b hb => hbel.block b (HRW9.out.lt b hb).2).cellAt jj (by omega)
          rw [adr_get hje] at e1
          have hst := rest_step (F := F) (a := a) hje
          obtain ⟨x, hx⟩ : ∃ x, x = (F[F.length - 1 - jj]'(by omega)).addr := ⟨_, rfl⟩
          rw [← hx] at e1 hst
          clear hx hje
          obtain ⟨P, hP⟩ : ∃ P, P = rest F a jj := ⟨_, rfl⟩
          rw [← hP] at hst hown hrl
          clear hP
          by_cases hxa : x = a
          · rw [if_pos hxa, List.append_nil] at hst
            have hne : (x == a) = true := by simpa using hxa
            have HST := Lib.hid hst
            have HO := Lib.hid hown
            have HB := Lib.hid hbel
            subst hxa
            clear hst hown hbel hne
            go_wp2_with fail
            go_roundw
            case rel => exact ⟨jj + 1, by omega, by go_num, by rw [HST.out]; exact HO.out, HB.out⟩
            case measure => simp [intOf]; omega
          · rw [if_neg hxa] at hst
            have hne : (x == a) = false := by simpa using hxa
            have HST := Lib.hid hst
            have HB := Lib.hid hbel
            clear hst hbel
            go_wp2_with (at_builtin; refine wpList_append_own_at _ rfl _ _ 47 rfl w9.heap.size 3 i0 (.int .i64 0) 1 8 Try.underlying47 hi hz0 hz1 hz2 rfl (by decide) _ _ _ rfl (hown.alloc _) ⟨wr.heap.size, 0, none⟩ 1 1 [.int .i64 x] rfl rfl ?c1 ?c2 ?c3 ?c4 ?c5 ?_)
            case c1 =>
              intro j u hj
              match j, hj with
              | 0, hj => simp at hj; subst hj; simp [Addr.add]
            case c2 => intro u hu; simp at hu; subst hu; rfl
            case c3 => unfold maxLen; omega
            case c4 => omega
            case c5 => have := HB.out.size; simp; omega
            intro v' wn hown' hgrow _ _
            have HO' := Lib.hid hown'
            have HB' := Lib.hid (show Below w9.heap.size w9 wn from (HB.out.alloc HB.out.size _).grown hgrow (by have := HB.out.size; simp; omega) (fun q hq => (hown.lt q hq).1))
            clear hown' hgrow hown HB
            go_wp2_with fail
            go_roundw
            case rel => exact ⟨jj + 1, by omega, by go_num, by rw [HST.out, List.length_append]; exact HO'.out, HB'.out⟩
            case measure => simp [intOf]; omega
        · have hjL : jj = L := by omega
          subst hjL
          have hji : ¬ (jj : Int) < (jj : Int) := by omega
          have HB := Lib.hid hbel
          rw [HL.out, rest_all] at hown hrl
          rw [adr_length] at hown hrl
          have hrl40 : (rmE F a).length ≤ 40 := by have := HFL.out; omega
          clear hbel
          go_wp2_with (at_builtin; refine wpList_append_own_at _ rfl _ _ 47 rfl w9.heap.size 3 i0 (.int .i64 0) 1 8 Try.underlying47 hi hz0 hz1 hz2 rfl (by decide) _ _ _ rfl (hown.alloc _) ⟨wr.heap.size, 0, none⟩ 1 1 [.int .i64 a] rfl rfl ?c1 ?c2 ?c3 ?c4 ?c5 ?_)
          case c2 => first | rfl | (intro u hu; simp at hu; subst hu; rfl)
          case c3 => unfold maxLen; omega
          case c4 => omega
          case c5 => have := HB.out.size; simp; omega
          intro v' wn hown' hgrow _ _
          have hb' : Below w9.heap.size w9 wn := (HB.out.alloc HB.out.size _).grown hgrow (by have := HB.out.size; simp; omega) (fun q hq => (hown.lt q hq).1)
          have HO' := Lib.hid (show wn.ownsRow w.heap.size 3 1 v' (e :: rmE F a).length (adr (e :: rmE F a)) by
            rw [adr_cons, HEA.out]; exact ownsRow_base hown' T9.out.bel.size)
          have HT' := Lib.hid (show Tw w (fun b => b = mb ∨ v'.ownBlock = some b) p n ((e :: rmE F a).take n) [] (.slice none 0 0) (c + 1) 0 0 wn from T9.out.other hb' fun b hb => by
            rcases hb with hb | hb
            · exact .inl (.inl hb)
            · exact .inr (hown'.lt b hb))
          have HLM' := Lib.hid (HLM9.out.same (hb'.block mb HLM9.out.lt))
          clear hown' hgrow hown HB hb'
          go_wp2_with fail
          go_roundw
          case rel => exact ⟨_, k + 1, c + 1, _, rfl, by omega, by go_num, by omega, HFN.out, HT'.out, HO'.out, HLM'.out⟩
          case measure => simp [intOf]; omega
    · have hki : ¬ (k : Int) < (mm : Int) := by omega
      obtain ⟨L, hL⟩ : ∃ L, L = F.length := ⟨_, rfl⟩
      have HL := Lib.hid hL
      have HF := Lib.hid hF
      have hL40 : L ≤ 40 := by have := hF.len; omega
      have hLI : (L : Int) ≤ 40 := by omega
      obtain ⟨av, cv, hv⟩ := ownsRow_any hrow
      rw [← hL] at hv
      subst hv
      have hrow' : wr.ownsRow w.heap.size 3 1 (.slice av L cv) F.length (adr F) := hrow
      have HRW := Lib.hid hrow'
      have HLM := Lib.hid hlm
      have HT := Lib.hid ht
      clear hF ht hrow hrow' hlm hL
      go_wp2_with fail
      go_loopw [94] (fun i wq => ∃ (j c f m : Nat) (es : List En), j ≤ L ∧ i = .int .i64 j ∧ c ≤ 60 + 2 * j ∧ es.Perm (F.take n) ∧ Tw w (fun b => b = mb ∨ (Value.slice av L cv).ownBlock = some b) p n es [] (.slice none 0 0) c f m wq ∧ wq.ownsRow w.heap.size 3 1 (.slice av L cv) F.length (adr F) ∧ LM wq mb k F) (fun i _ => L - (intOf i).toNat)
      case atStart => exact ⟨0, c, 0, 0, _, Nat.zero_le _, rfl, by omega, List.Perm.refl _, HT.out, HRW.out, HLM.out⟩
      case round =>
        obtain ⟨j, c1, f1, m1, es, hj, rfl, hc1, hpm, ht, hrow, hlm⟩ := hrel
        clear HT HRW HLM
        have HP := Lib.hid hpm
        by_cases hjl : j < L
        · have hje : j < F.length := by rw [← HL.out]; exact hjl
          have hji : (j : Int) < (L : Int) := by omega
          obtain ⟨gb, cap1, hv1⟩ := ownsRow_form hrow (by omega)
          injection hv1 with hv1 hv1l hv1c
          subst hv1
          clear hv1l hv1c cap1
          have hrow2 := hrow
          rw [HL.out] at hrow2
          have e1 := hrow2.cellAt j (by rw [Nat.mul_one]; exact hje)
          clear hrow2
          rw [adr_get hje] at e1
          have hix : F.length - 1 - j < F.length := by omega
          have hin : F.length - 1 - j < n → F[F.length - 1 - j] ∈ es := fun h => hpm.mem_iff.2 (by
            have h1 : F.length - 1 - j < (F.take n).length := by rw [List.length_take]; omega
            have := List.getElem_mem h1
            rwa [List.getElem_take] at this)
          have hout : n ≤ F.length - 1 - j → gtE es F[F.length - 1 - j].addr = none := fun h => by
            cases e : gtE es F[F.length - 1 - j].addr with
            | none => rfl
            | some t =>
              exfalso
              have htm := hpm.mem_iff.1 (List.mem_of_find?_eq_some e)
              have hta : t.addr = F[F.length - 1 - j].addr := by have := List.find?_some e; simpa using this
              have hdm : F[F.length - 1 - j] ∈ F.drop n := by
                have h1 : F.length - 1 - j - n < (F.drop n).length := by rw [List.length_drop]; omega
                have := List.getElem_mem h1
                rw [List.getElem_drop] at this
                have h2 : n + (F.length - 1 - j - n) = F.length - 1 - j := by omega
                simpa only [h2] using this
              have hnd := HF.out.nodup
              rw [← List.take_append_drop n F, List.map_append, List.nodup_append] at hnd
              exact hnd.2.2 _ (List.mem_map_of_mem htm) _ (List.mem_map_of_mem hdm) hta
          have hem := List.getElem_mem hix
          obtain ⟨E, hE⟩ : ∃ E, E = F[F.length - 1 - j] := ⟨_, rfl⟩
          rw [← hE] at e1 hin hout hem
          clear hE hix hje
          obtain ⟨x1, x2, x3, g, x4, x5, x6⟩ := HF.out.all E hem
          have HAI := Lib.hid (show in64 E.addr by unfold in64; omega)
          have hlk := hlm.look hem HAI.out
          rw [x5] at hlk
          have HEM := Lib.hid hem
          have HX := Lib.hid (And.intro x3 (And.intro x5 x6))
          have HIN := Lib.hid hin
          have HOUT := Lib.hid hout
          have hg60 : g < 60 := by omega
          have HLM := Lib.hid hlm
          have HRW := Lib.hid hrow
          have HMI := Lib.hid (fun (es' : List En) (hp : es'.Perm (F.take n)) (t : En) (ht : gtE es' E.addr = some t) => (fun hc => by
            have h1 := HF.out.all t (List.mem_of_mem_take (hp.mem_iff.1 (List.mem_of_find?_eq_some ht)))
            have := h1.2.2.1
            have := hc.2
            omega : ¬ (t.gen = (g : Int) ∧ t.sum = 1)))
          obtain ⟨a, ha⟩ : ∃ a, a = E.addr := ⟨_, rfl⟩
          have HA := Lib.hid ha
          rw [← ha] at e1 hlk HAI HOUT HMI
          obtain ⟨R, o, rr, aa⟩ := ht
          have HKP := Lib.hid (fun es' c' f' m' w8 hk => Tw.kept (w' := w8) (es' := es') (c' := c') (f' := f') (m' := m') o rr aa hk)
          have HND := Lib.hid o.at_.nodup
          by_cases hidx : F.length - 1 - j < n
          · have hge : (L : Int) - (n : Int) ≤ (j : Int) := by have := HL.out; omega
            have HPP := Lib.hid (get_hit o.at_ a (g : Int) 0 HAI.out (by omega) (by rw [HA.out]; exact gt_mem HND.out (HIN.out hidx)) HX.out.2.1 HX.out.1)
            rw [HX.out.2.2] at HPP
            have HP1 := Lib.hid (show (E :: rmE es a).Perm (F.take n) by
              rw [HA.out]
              refine List.Perm.trans ?_ HP.out
              have hmm := HIN.out hidx
              have : ∀ (l : List En), (l.map En.addr).Nodup → E ∈ l → (E :: rmE l E.addr).Perm l := fun l => by
                induction l with
                | nil => intro _ h; cases h
                | cons x l ih =>
                  intro h ht
                  rw [List.map_cons, List.nodup_cons] at h
                  rcases List.mem_cons.1 ht with rfl | ht
                  · have e : rmE (E :: l) E.addr = l := by
                      unfold rmE
                      rw [List.filter_cons_of_neg (by simp)]
                      exact List.filter_eq_self.2 fun s hs => by simpa using fun e : s.addr = E.addr => h.1 (e ▸ List.mem_map_of_mem hs)
                    rw [e]
                  · have hne : x.addr ≠ E.addr := fun e => h.1 (e ▸ List.mem_map_of_mem ht)
                    have e : rmE (x :: l) E.addr = x :: rmE l E.addr := by
                      unfold rmE
                      rw [List.filter_cons_of_pos (by simpa using hne)]
                    rw [e]
                    exact (List.Perm.swap x E _).trans ((ih h.2 ht).cons x)
              exact this es HND.out hmm)
            clear o rr aa hpm x1 x2 x3 x4 x5 x6 hem hin hout hlm hrow ha
            go_wp2_with fail
            refine HPP.out.mono ?_
            rintro e2 w8 ⟨rfl, hk8⟩
            obtain ⟨t8, s8⟩ := HKP.out _ _ _ _ w8 hk8
            have T8 := Lib.hid t8
            have HRW8 := Lib.hid (owns_same HRW.out fun b hb => s8 b (.inr hb))
            have HLM8 := Lib.hid (HLM.out.same (s8 mb (.inl rfl)))
            have hlk8 := HLM8.out.look HEM.out (by rw [← HA.out]; exact HAI.out)
            rw [← HA.out, HX.out.2.1] at hlk8
            obtain ⟨R, o, rr, aa⟩ := t8
            have HKP2 := Lib.hid (fun es' c' f' m' w8 hk => Tw.kept (w' := w8) (es' := es') (c' := c') (f' := f') (m' := m') o rr aa hk)
            have HPP2 := Lib.hid (get_miss o.at_ a (g : Int) 1 HAI.out (by omega) (HMI.out _ HP1.out))
            clear hk8 s8 o rr aa HPP HKP e1 hlk
            go_wp2_with fail
            refine HPP2.out.mono ?_
            rintro e3 w9 ⟨rfl, hk9⟩
            obtain ⟨t9, s9⟩ := HKP2.out _ _ _ _ w9 hk9
            have T9 := Lib.hid t9
            have HRW9 := Lib.hid (owns_same HRW8.out fun b hb => s9 b (.inr hb))
            have HLM9 := Lib.hid (HLM8.out.same (s9 mb (.inl rfl)))
            have hlk9 := HLM9.out.look HEM.out (by rw [← HA.out]; exact HAI.out)
            rw [← HA.out, HX.out.2.1] at hlk9
            clear hk9 s9 t9 HPP2 HKP2 hlk8 T8 HRW8 HLM8
            go_wp2_with fail
            go_roundw
            case rel => exact ⟨j + 1, c1 + 1 + 1, _, _, _, by omega, by go_num, by omega, HP1.out, T9.out, HRW9.out, HLM9.out⟩
            case measure => simp [intOf]; omega
          · have hge : ¬ (L : Int) - (n : Int) ≤ (j : Int) := by have := HL.out; omega
            have hge2 : (j : Int) < (L : Int) - (n : Int) := by omega
            have hno := HOUT.out (by omega)
            have HPP := Lib.hid (get_miss o.at_ a (g : Int) 0 HAI.out (by omega) (fun t ht => by rw [hno] at ht; cases ht))
            clear o rr aa hpm x1 x2 x3 x4 x5 x6 hem hin hout hlm hrow ha hno
            go_wp2_with fail
            refine HPP.out.mono ?_
            rintro e2 w8 ⟨rfl, hk8⟩
            obtain ⟨t8, s8⟩ := HKP.out _ _ _ _ w8 hk8
            have HRW8 := Lib.hid (owns_same HRW.out fun b hb => s8 b (.inr hb))
            have HLM8 := Lib.hid (HLM.out.same (s8 mb (.inl rfl)))
            have hlk8 := HLM8.out.look HEM.out (by rw [← HA.out]; exact HAI.out)
            rw [← HA.out, HX.out.2.1] at hlk8
            obtain ⟨R, o, rr, aa⟩ := t8
            have HKP2 := Lib.hid (fun es' c' f' m' w8 hk => Tw.kept (w' := w8) (es' := es') (c' := c') (f' := f') (m' := m') o rr aa hk)
            have HPP2 := Lib.hid (get_miss o.at_ a (g : Int) 1 HAI.out (by omega) (HMI.out _ HP.out))
            clear hk8 s8 o rr aa HPP HKP e1 hlk
            go_wp2_with fail
            refine HPP2.out.mono ?_
            rintro e3 w9 ⟨rfl, hk9⟩
            obtain ⟨t9, s9⟩ := HKP2.out _ _ _ _ w9 hk9
            have T9 := Lib.hid t9
            have HRW9 := Lib.hid (owns_same HRW8.out fun b hb => s9 b (.inr hb))
            have HLM9 := Lib.hid (HLM8.out.same (s9 mb (.inl rfl)))
            have hlk9 := HLM9.out.look HEM.out (by rw [← HA.out]; exact HAI.out)
            rw [← HA.out, HX.out.2.1] at hlk9
            clear hk9 s9 t9 HPP2 HKP2 hlk8 HRW8 HLM8
            go_wp2_with fail
            go_roundw
            case rel => exact ⟨j + 1, c1 + 1 + 1, _, _, _, by omega, by go_num, by omega, HP.out, T9.out, HRW9.out, HLM9.out⟩
            case measure => simp [intOf]; omega
        · have hjL : j = L := by omega
          subst hjL
          have hji : ¬ (j : Int) < (j : Int) := by omega
          have HT := Lib.hid ht
          have HLS := Lib.hid (show Calls Try.prog 16 #[.pointer (some ⟨p, 0, none⟩)] wr (LsE wr es) from by obtain ⟨R, o, _⟩ := HT.out; exact list_any o.at_)
          have HLN := Lib.hid (show es.length = min n j by rw [hpm.length_eq, List.length_take, HL.out])
          have hmin : ∀ W ts, (Builtin.min_ ts 3 #[.int .i64 (n : Nat), .int .i64 (j : Nat)]).run Try.prog W = .ok (.int .i64 ((min n j : Nat) : Int)) W := fun W ts => run_minC _ _ _ _ n j
          obtain ⟨N, hN⟩ : ∃ N, N = min n j := ⟨_, rfl⟩
          rw [← hN] at HLN hmin
          clear hN ht hrow hlm hpm HP
          go_wp2_with fail
          refine HLS.out.mono ?_
          rintro e4 w12 ⟨vl, rfl, hrow, hb⟩
          rw [HLN.out] at hrow
          have HB := Lib.hid (HT.out.on hb).bel
          obtain ⟨al, cl, rfl⟩ := ownsRow_any hrow
          clear hrow hb HLS HT
          go_wp2_with fail
          go_ret
          exact ⟨rfl, HB.out⟩

/-! ### THE ROW's STEP: WRITTEN OUT: LEAVE IT -/
set_option maxRecDepth 100000 in
theorem lifted (os : Os) (started : os.Started) (H : Type) (enc : TypeId × Value → H) :
    ReturnsInHanded {} Try.checked os 5 .any (Rows.cacheLastSpec.pre6 enc Try.prog Try.f5 Rows.cacheLastRow.domain false) (Rows.cacheLastSpec.post enc Try.prog Try.f5 false true false false) := by
  refine returnsInHanded_of_change (C := Try.checked) own started (by kernel_rfl) Try.func5
    (ChangeSpec.witness6 (enc := enc) (C := Try.checked) false ⟨#[], #[.slice none 0 0, .int .u8 0], []⟩ 8 (by kernel_rfl) (by kernel_rfl) (by kernel_rfl) (by kernel_rfl)) ?_
  intro W base args ds gs before hval0 hW hcnd _
  have hval : ∀ (j : Nat) t v, Try.f5.params[j]? = some t → args[j]? = some v → Value.okWide Try.prog W .any base t v := hval0
  have hW' := hW
  obtain ⟨p, q, hA0, hV, rfl, hfz, hnd⟩ := hW
  have hA : DataW.TrodAll enc Try.prog W 0 (fun _ => true) true Try.f5.params.toList args.toList ds p := hA0
  rw [Try.params5] at hA hval
  obtain ⟨v0, vs0, d0, ds0, p0, q0, hargs, rfl, rfl, h0, r0⟩ := trodAll_cons hA
  obtain ⟨v1, vs1, d1, ds1, p1, q1, rfl, rfl, rfl, h1, r1⟩ := trodAll_cons r0
  obtain ⟨rfl, rfl, rfl⟩ := trodAll_nil r1
  obtain rfl : args = #[v0, v1] := by cases args; simp_all
  obtain ⟨rfl, rfl⟩ := trodVars_none hV
  obtain ⟨a0, len0, cap0, rfl⟩ := okWide_slice Try.underlying53 (hval 0 53 v0 rfl rfl)
  have k0 := h0
  have lt0 : ∀ x ∈ p0, x.block < W.heap.size := by obtain ⟨m, hm⟩ := k0; exact DataW.trod_lt m _ _ _ hm
  obtain ⟨z0, w0⟩ : ∃ zs, IsRow .u8 W a0 len0 cap0 zs := by
    obtain ⟨fuel, hf⟩ := h0
    rcases open_ints Try.underlying53 Try.underlying5 (by kernel_rfl) hf with ⟨hcs, _⟩ | ⟨x, l, c, zs, hcs, _, hl, hm, hz, _, hcell, hwz⟩
    · simp [Value.cells] at hcs
      obtain ⟨rfl, rfl, rfl⟩ := hcs
      exact ⟨[], .inl ⟨rfl, rfl, rfl, rfl⟩⟩
    · simp [Value.cells] at hcs
      obtain ⟨rfl, rfl, rfl⟩ := hcs
      exact ⟨zs, .inr ⟨_, rfl, hl, hm, by simpa using hz, hcell, hwz⟩⟩
  obtain ⟨a1, rfl, rfl, rfl, w1⟩ := open_int Try.underlying5 (hval 1 5 v1 rfl rfl) h1
  clear hA0 hval0
  refine (walk a0 len0 cap0 z0 a1 W w0 w1).mono fun e W' ⟨he, bel⟩ => ?_
  subst he
  exact ⟨_, rfl, _, _, _, [], _, [], hW', trodAll_mk1 (shut_bool Try.underlying4 _), (trodAll_cons_mk (Below.trod laidOut (by kernel_rfl) (of_decide_eq_true (by kernel_rfl)) k0 bel lt0) (trodAll_cons_mk (shut_int Try.underlying5 w1) trodAll_mk0)), rfl, bel.frame _, fun h => by cases h⟩

theorem over : Rows.cacheLastRow.holds Try.pinned (OpenSpec.ofChange Rows.cacheLastSpec) :=
  OpenClaim.holds_of_wide 5 Try.f5 rfl rfl rfl rfl rfl rfl rfl ⟨rfl, rfl, rfl, rfl, rfl⟩ rfl rfl rfl rfl rfl (by kernel_rfl) Try.func5 (by kernel_rfl)
    (of_decide_eq_true (by kernel_rfl)) (by unfold Func.isWrapper; first | (rw [if_pos (by decide +kernel)]; kernel_rfl) | (rw [if_neg (by decide +kernel)]; exact ⟨rfl, rfl⟩))
    (fun os started H enc _ => lifted os started H enc)

/-- ████ THE STATEMENT ████ -/
theorem proved : Rows.CacheLastSaid := over
#print axioms proved
end Go.Proofs.Ytbdiadbaapfdgaa.cacheLast
