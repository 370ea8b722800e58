/-
  The law NodeBack holds: a node that may be is told again of its bytes; of a beginning of these there is none, unless that ends behind a message. Conditions: none but the row's own.
-/
import Derived.Test.YtfclecbhfamomaaRows
import Derived.Test.YtfclecbhfamomaaNoW
import Derived.Test.YtfclecbhfamomaaRegionG
import Derived.Test.YtfclecbhfamomaaStructsZ
import Derived.WalkKit
import Derived.ProofKit
import Derived.OpenShut
import Derived.ShutString
import Derived.ChangeOld
import Derived.Below
import Derived.Carry
namespace Go.Proofs.Ytfclecbhfamomaa.nodeBack
open Go.ChangeShapes Go.WideShapes Go.ChangeAt Go.RowKit
open Go.Proofs.Ytfclecbhfamomaa
open Go.ChangeMaps (open_string shut_string)
set_option linter.unusedVariables false

theorem own : ownKnob Try.prog.godebug = none := by kernel_rfl
theorem laidOut : laidOutB Try.prog = true := by kernel_rfl

/-- the elements of argument 0 -/
def AR0 (w : World) (a : Option Addr) (len : Nat) : Prop := 0 < len → ∃ b off, a = some ⟨b, off, none⟩ ∧ ∀ i, i < len → ∃ (x0 : ByteArray) (x1 : Int) (x2 : Int) (x3 : Int), w.cell? ⟨b, off + (i * 4 + 0), none⟩ = some (.string x0) ∧ x0.size ≤ 140737488355327 ∧ w.cell? ⟨b, off + (i * 4 + 1), none⟩ = some (.int .i64 x1) ∧ (Lit.int .i64 x1).wf = true ∧ w.cell? ⟨b, off + (i * 4 + 2), none⟩ = some (.int .u64 x2) ∧ (Lit.int .u64 x2).wf = true ∧ w.cell? ⟨b, off + (i * 4 + 3), none⟩ = some (.int .u32 x3) ∧ (Lit.int .u32 x3).wf = true
theorem open_AR0 {H : Type} {enc : TypeId × Value → H} {w : World} {held : Bool} {c : Value} {d : DataW H} {pl : List MemPlace} (h : ∃ m, DataW.trod enc Try.prog w 0 (fun _ => true) held m 22 [c] = some (d, pl)) (hz : ∀ n ∈ d.weights Try.prog 22, n ≤ reachBytes) :
    ∃ a len cap, c = .slice a len cap ∧ AR0 w a len ∧ len ≤ cap ∧ cap ≤ maxLen := by
  obtain ⟨a, len, cap, hc, hl, hm, hx⟩ := open_structs_z Try.underlying22 Try.underlying72 (by kernel_rfl) (by kernel_rfl) (by decide) h hz
  refine ⟨a, len, cap, hc, fun hpos => ?_, hl, hm⟩
  obtain ⟨b, off, ha, hf⟩ := hx hpos
  refine ⟨b, off, ha, fun i hi => ?_⟩
  obtain ⟨v0, hc0, ht0, hz0⟩ := hf i hi 0 _ rfl
  obtain ⟨x0, rfl, hw0'⟩ := open_str_cell Try.underlying9 ht0
  have hw0 := hz0 Try.underlying9 _ rfl
  obtain ⟨v1, hc1, ht1, hz1⟩ := hf i hi 1 _ rfl
  obtain ⟨x1, rfl, hw1⟩ := open_int_cell Try.underlying3 ht1
  obtain ⟨v2, hc2, ht2, hz2⟩ := hf i hi 2 _ rfl
  obtain ⟨x2, rfl, hw2⟩ := open_int_cell Try.underlying47 ht2
  obtain ⟨v3, hc3, ht3, hz3⟩ := hf i hi 3 _ rfl
  obtain ⟨x3, rfl, hw3⟩ := open_int_cell Try.underlying48 ht3
  exact ⟨x0, x1, x2, x3, hc0, hw0, hc1, hw1, hc2, hw2, hc3, hw3⟩
/-- the elements of argument 1 -/
def AR1 (w : World) (a : Option Addr) (len : Nat) : Prop := 0 < len → ∃ b off, a = some ⟨b, off, none⟩ ∧ ∀ i, i < len → ∃ (x0 : Int) (x1 : ByteArray) (x2 : ByteArray) (x3 : Int), w.cell? ⟨b, off + (i * 4 + 0), none⟩ = some (.int .u8 x0) ∧ (Lit.int .u8 x0).wf = true ∧ w.cell? ⟨b, off + (i * 4 + 1), none⟩ = some (.string x1) ∧ x1.size ≤ 140737488355327 ∧ w.cell? ⟨b, off + (i * 4 + 2), none⟩ = some (.string x2) ∧ x2.size ≤ 140737488355327 ∧ w.cell? ⟨b, off + (i * 4 + 3), none⟩ = some (.int .u64 x3) ∧ (Lit.int .u64 x3).wf = true
theorem open_AR1 {H : Type} {enc : TypeId × Value → H} {w : World} {held : Bool} {c : Value} {d : DataW H} {pl : List MemPlace} (h : ∃ m, DataW.trod enc Try.prog w 0 (fun _ => true) held m 23 [c] = some (d, pl)) (hz : ∀ n ∈ d.weights Try.prog 23, n ≤ reachBytes) :
    ∃ a len cap, c = .slice a len cap ∧ AR1 w a len ∧ len ≤ cap ∧ cap ≤ maxLen := by
  obtain ⟨a, len, cap, hc, hl, hm, hx⟩ := open_structs_z Try.underlying23 Try.underlying66 (by kernel_rfl) (by kernel_rfl) (by decide) h hz
  refine ⟨a, len, cap, hc, fun hpos => ?_, hl, hm⟩
  obtain ⟨b, off, ha, hf⟩ := hx hpos
  refine ⟨b, off, ha, fun i hi => ?_⟩
  obtain ⟨v0, hc0, ht0, hz0⟩ := hf i hi 0 _ rfl
  obtain ⟨x0, rfl, hw0⟩ := open_int_cell Try.underlying5 ht0
  obtain ⟨v1, hc1, ht1, hz1⟩ := hf i hi 1 _ rfl
  obtain ⟨x1, rfl, hw1'⟩ := open_str_cell Try.underlying9 ht1
  have hw1 := hz1 Try.underlying9 _ rfl
  obtain ⟨v2, hc2, ht2, hz2⟩ := hf i hi 2 _ rfl
  obtain ⟨x2, rfl, hw2'⟩ := open_str_cell Try.underlying9 ht2
  have hw2 := hz2 Try.underlying9 _ rfl
  obtain ⟨v3, hc3, ht3, hz3⟩ := hf i hi 3 _ rfl
  obtain ⟨x3, rfl, hw3⟩ := open_int_cell Try.underlying47 ht3
  exact ⟨x0, x1, x2, x3, hc0, hw0, hc1, hw1, hc2, hw2, hc3, hw3⟩

set_option linter.unusedSimpArgs false
open Go.Proofs.Ytfclecbhfamomaa.Node Go.Proofs.Ytfclecbhfamomaa.Buf Go.Proofs.Ytfclecbhfamomaa.Msg Go.Proofs.Ytfclecbhfamomaa.Rec Go.Proofs.Ytfclecbhfamomaa.Lend
theorem ttN_len (cs : List Ch) (us : List Up) : (ttN cs us).length ≤ 4000 := by
  unfold ttN
  split
  · rename_i h
    obtain ⟨h1, h2, h3, h4⟩ := nod_parts h
    have hk := ((kidB_iff cs).1 h1).1
    have a := txK_len (l := cs) (fun c hc => by
      obtain ⟨i, hi, rfl⟩ := List.mem_iff_getElem.1 hc
      exact (kid_at h1 hi).2.2)
    have b := txb_le us h3
    unfold txN
    rw [List.length_cons, List.length_append]
    omega
  · exact Nat.zero_le _
theorem len_at {w : World} {v : Value} {l : List Up} {n : Nat} (h : UR w v l) (hn : n = l.length) : Calls Try.prog 21 #[.agg #[v]] w fun e w' => e = .returned (.int .i64 (n : Nat)) ∧ Below w.heap.size w w' := by
  subst hn
  exact len_any h
def upB (u : Up) : Up := ⟨2, (u.key ++ [107]).take 9, [], 0⟩
theorem upB_key (u : Up) : 1 ≤ (upB u).key.length ∧ (upB u).key.length ≤ 9 := by
  show 1 ≤ ((u.key ++ [107]).take 9).length ∧ ((u.key ++ [107]).take 9).length ≤ 9
  rw [List.length_take, List.length_append]
  simp only [List.length_cons, List.length_nil]
  omega
theorem upB_tm (u : Up) : Tm (upB u) := ⟨by show (1 : Int) ≤ 2; omega, by show (2 : Int) ≤ 3; omega, Int.le_refl _, by show (0 : Int) < _; decide, fun _ => rfl, Nat.zero_le _⟩
theorem upB_chk (u : Up) : chkU (upB u) = 0 := by
  have h := upB_key u
  have hv : (upB u).val.length = 0 := rfl
  unfold chkU
  rw [if_neg (by omega), if_neg]
  rintro (h | h | h | h)
  · have : (2 : Int) < 1 := h; omega
  · have : (3 : Int) < 2 := h; omega
  · exact h.2 rfl
  · exact h.2 rfl
theorem fw_mem : ∀ (l acc : List Up), Srt acc → (∀ u ∈ l, ¬ u.kind = 3) → ∀ x ∈ l.foldl withU acc, x ∈ acc ∨ x ∈ l
  | [], acc, _, _, x, hx => .inl hx
  | u :: l, acc, hs, h3, x, hx => by
    rcases fw_mem l (withU acc u) (with_srt hs u) (fun v hv => h3 v (by simp [hv])) x hx with h | h
    · have hu : withU acc u = acc.take (plK acc u.key) ++ u :: acc.drop (plK acc u.key + 1) ∨ withU acc u = acc.take (plK acc u.key) ++ u :: acc.drop (plK acc u.key) := by
        cases ht : thK acc u.key with
        | true => left; rw [with_yes hs ht, jo_oth (h3 u (by simp))]
        | false => right; exact with_no hs ht
      rcases hu with hu | hu
      all_goals
        rw [hu] at h
        rcases List.mem_append.1 h with h | h
        · exact .inl (List.mem_of_mem_take h)
        · rcases List.mem_cons.1 h with h | h
          · exact .inr (by simp [h])
          · exact .inl (List.mem_of_mem_drop h)
    · exact .inr (by simp [h])
theorem err_ok : ∀ {l : List Up}, (∀ u ∈ l, chkU u = 0) → errL l = 0
  | [], _ => rfl
  | u :: l, h => by
    unfold errL
    rw [if_pos (h u (by simp))]
    exact err_ok fun x hx => h x (by simp [hx])
def bkM (ms : List Up) : List Up := fwU ((ms.take 10).map upB)
theorem bk_all (l : List Up) : Srt (fwU (l.map upB)) ∧ (∀ x ∈ fwU (l.map upB), Tm x) ∧ (fwU (l.map upB)).length ≤ l.length := by
  have h := fwU_ok (l := l.map upB) (fun u hu => by obtain ⟨v, hv, rfl⟩ := List.mem_map.1 hu; exact upB_tm v)
  rwa [List.length_map] at h
theorem bk_err (l : List Up) : errL (fwU (l.map upB)) = 0 := by
  refine err_ok fun x hx => ?_
  rcases fw_mem (l.map upB) [] List.Pairwise.nil (fun u hu => by obtain ⟨v, hv, rfl⟩ := List.mem_map.1 hu; show ¬ (2 : Int) = 3; omega) x hx with h | h
  · cases h
  · obtain ⟨v, hv, rfl⟩ := List.mem_map.1 h
    exact upB_chk v
theorem bk_nod {C : List Ch} (h : kidB C = true) (ms : List Up) : nodB C (bkM ms) = true := by
  have h2 := bk_all (ms.take 10)
  have hl : (ms.take 10).length ≤ 10 := by rw [List.length_take]; omega
  unfold nodB bkM
  rw [h, bk_err, (ris_iff _).2 h2.1, decide_eq_true (show (fwU ((ms.take 10).map upB)).length ≤ 64 by omega)]
  rfl
theorem takeK (l : List UInt8) : (Lend.strOf l ++ ⟨#[107]⟩).extract 0 (min ((Lend.strOf l).size + 1) 9) = Lend.strOf ((l ++ [107]).take 9) := by
  apply Lend.strOf_ext
  rw [Lib.extract_data, List.drop_zero, Nat.sub_zero, ssize, show (Lend.strOf l ++ (⟨#[107]⟩ : ByteArray)).data.toList = l ++ [107] by simp [Lend.strOf]]
  rw [List.take_eq_take_iff, List.length_append]; simp only [List.length_cons, List.length_nil]; omega

/-! ### STEP 1: THE WALK -/
set_option maxHeartbeats 16000000 in
set_option maxRecDepth 100000 in
theorem walk (a0 : Option Addr) (a0l a0c : Nat) (a1 : Option Addr) (a1l a1c : Nat) (a2 : Int) (w : World) (w0 : AR0 w a0 a0l) (w0l : a0l ≤ a0c) (w0m : a0c ≤ maxLen) (w1 : AR1 w a1 a1l) (w1l : a1l ≤ a1c) (w1m : a1c ≤ maxLen) (w2 : (Lit.int .u16 a2).wf = true) :
    Calls Try.prog 6 #[.slice a0 a0l a0c, .slice a1 a1l a1c, .int .u16 a2] w fun e w' => e = .returned (.bool true) ∧ Below w.heap.size w w' := by
  obtain ⟨cs, hl, hc, hq⟩ := chs_of (cap := a0c) w0
  obtain ⟨ms, hml, hm, hmq⟩ := ups_of (cap := a1c) w1
  subst hl hml
  have HM := Lib.hid hm
  have HQC := Lib.hid hq
  have HQM := Lib.hid hmq
  have HMA := Lib.hid (show ms.length ≤ a1c ∧ a1c ≤ 9223372036854775807 from ⟨w1l, by unfold maxLen at w1m; exact w1m⟩)
  have HTA := Lib.hid (tame_any hc w0l (by unfold maxLen at w0m; exact w0m) (fun c h => (hq c h).2) (fun c h => (hq c h).1))
  have HCU := Lib.hid (u16_bd w2)
  clear hc hq hm hmq w0 w0l w0m w1 w1l w1m w2
  obtain ⟨p, hp⟩ : ∃ z, z = cs.length := ⟨_, rfl⟩
  obtain ⟨q, hqq⟩ : ∃ z, z = ms.length := ⟨_, rfl⟩
  have HP := Lib.hid hp
  have HQQ := Lib.hid hqq
  rw [← hp] at HTA ⊢
  rw [← hqq] at HM HMA ⊢
  clear hp hqq
  obtain ⟨m, hmm⟩ : ∃ z, z = min q 10 := ⟨_, rfl⟩
  have HMM := Lib.hid hmm
  clear hmm
  go_enter Try.func6, Try.ntmps6
  go_wp2_with fail
  refine HTA.out.mono ?_
  clear HTA
  rintro e w1 ⟨tv, rfl, htv, hb1⟩
  obtain ⟨ta, tc, hts, htc⟩ := own_shape htv
  subst hts
  have htm : tc ≤ 9223372036854775807 := by
    rcases htv.2 with ⟨h, _⟩ | ⟨g, cap, cur, h, _, _, _, hm, _⟩
    · simp at h; omega
    · simp at h
      unfold maxLen at hm
      omega
  have HTW := Lib.hid (show ∀ c ∈ tmC cs, Qc c from fun c h => by
    have := tmC_mem (fun x hx => (HQC.out x hx).1) h
    exact ⟨this.1, by have := this.2.1; omega⟩)
  have HOF := Lib.hid (of_any (ms := []) (b := none) (bcp := 0) (CR.of_own htv) (UR.nil w1) htc htm (Nat.le_refl _) (by omega) (fun c h => (HTW.out c h).2) (fun u h => by cases h) (fun u h => by cases h))
  have HWC := Lib.hid (ofC_wf (fun c h => (HTW.out c h).1))
  have HKD := Lib.hid (show kidB (ofC (tmC cs)) = true by rw [ofC_tm (fun x hx => (HQC.out x hx).1)]; exact tmC_kid (fun x hx => (HQC.out x hx).1))
  have HB1 := Lib.hid hb1
  clear htv hb1 htc htm
  go_wp2_with fail
  refine HOF.out.mono ?_
  clear HOF
  rintro e w3 ⟨kv, bv, kv', bv', rfl, h1, h2, h3, h4, hb3⟩
  have hm0 : ofM [] = [] := rfl
  rw [hm0] at h2 h4
  obtain ⟨C, hC⟩ : ∃ z, z = ofC (tmC cs) := ⟨_, rfl⟩
  rw [← hC] at HKD HWC h1 h3
  have HCP := Lib.hid (cp_own h2)
  have HU3 := Lib.hid (UR.of_own h2)
  have HK3 := Lib.hid (CR.of_own h1)
  obtain ⟨ka, kc, hk1, _⟩ := own_shape h1
  obtain ⟨ba, bc, hk2, _⟩ := own_shape h2
  obtain ⟨xa, xc, hk3, _⟩ := own_shape h3
  obtain ⟨ya, yc, hk4, _⟩ := own_shape h4
  subst hk1 hk2 hk3 hk4
  have HB3 := Lib.hid (below_on HB1.out hb3)
  clear hC h1 h2 h3 h4 hb3 hm0
  have hl0 : ([] : List Up).length = 0 := rfl
  rw [hl0] at HCP HU3 ⊢
  obtain ⟨cn, hcn⟩ : ∃ z, z = C.length := ⟨_, rfl⟩
  have HCN := Lib.hid hcn
  rw [← hcn] at HK3 ⊢
  obtain ⟨w4, hw4⟩ : ∃ z, z = (w3.alloc (.cells #[.slice ka cn kc, .slice ba 0 bc] 31)).alloc (.cells #[.slice xa cn xc, .slice ya 0 yc] 35) := ⟨_, rfl⟩
  have HB34 := Lib.hid (show Below w3.heap.size w3 w4 by rw [hw4]; exact below_nw (below_new _ _) _)
  have HN4 := Lib.hid (show Has w4 w3.heap.size 31 [.slice ka cn kc, .slice ba 0 bc] by rw [hw4]; exact (Has.new w3 _ _).alloc _)
  obtain ⟨X, hX⟩ : ∃ z, z = w3.heap.size := ⟨_, rfl⟩
  have HXE := Lib.hid hX
  rw [← hX] at HN4
  clear hcn hl0
  go_upto_region 2 with fail
  rw [← hw4, ← hX]
  clear hw4 hX
  go_cut [29, 30, 31] (fun s t i wx => ∃ a' cap', s = .slice a' m cap' ∧ t = .int .i64 m ∧ i = .int .i64 ((0 : Nat) : Int) ∧ (0 < m → a' = a1) ∧ wx = w4)
  case first =>
    have hnc := HMA.out
    go_wp2_with fail
    all_goals
      go_meet
      first
      | (have e : m = 10 := by have := HMM.out; omega
         exact ⟨_, _, by rw [e], by rw [e]; rfl, rfl, fun _ => rfl, rfl⟩)
      | (have e1 : (min (q : Int) 10).toNat = m := by have := HMM.out; omega
         have e2 : max (min (q : Int) 10) 0 = (m : Int) := by have := HMM.out; omega
         exact ⟨_, _, by rw [e1], by rw [e2], rfl, fun _ => rfl, rfl⟩)
      | (have e : m = q := by have := HMM.out; omega
         exact ⟨_, _, by rw [e], by rw [e], rfl, fun _ => rfl, rfl⟩)
  case rest =>
    obtain ⟨s, c, rfl, rfl, rfl, haa, hww⟩ := hcut
    have hww := hww.symm
    subst hww
    have hml : m ≤ ms.length ∧ m ≤ 10 := by have := HMM.out; have := HQQ.out; omega
    obtain ⟨hml, hm10⟩ := hml
    have HAA := Lib.hid haa
    clear haa
    go_wp2_with fail
    go_loopw [31] (fun i wr => ∃ (j : Nat) (bv : Value), j ≤ m ∧ i = .int .i64 j ∧ Has wr X 31 [.slice ka cn kc, bv] ∧ UR wr bv (fwU ((ms.take j).map upB)) ∧ CpOk bv ∧ Below w3.heap.size w3 wr) (fun i _ => m - (intOf i).toNat)
    case atStart => exact ⟨0, _, Nat.zero_le _, rfl, HN4.out, HU3.out.below HB34.out, HCP.out, HB34.out⟩
    case round =>
      obtain ⟨j, bv, hj, rfl, hn, hu, hcp, hb⟩ := hrel
      rename World => wq
      have HNQ := Lib.hid hn
      have HUQ := Lib.hid hu
      have HCQ := Lib.hid hcp
      have HBQ := Lib.hid hb
      clear hn hu hcp hb
      by_cases hlt : j < m
      · have hji : (j : Int) < (m : Int) := by omega
        have hj0 : 0 ≤ (j : Int) := by omega
        have hjl : j < ms.length := by omega
        have HMQ := Lib.hid (HM.out.below (below_on HB3.out HBQ.out : Below w.heap.size w wq)) 
        obtain ⟨g2, off2, ha⟩ : ∃ g off, a1 = some ⟨g, off, none⟩ := by
          obtain ⟨g', off', e, _⟩ := UR.at_ HMQ.out (by omega)
          exact ⟨g', off', e⟩
        obtain ⟨c0, c1, c2, c3⟩ := ur_cells (by have h := HMQ.out; rw [ha] at h; exact h) j hjl
        have hs := HAA.out (by omega)
        rw [ha] at hs
        subst hs
        clear ha
        have hst : (ms.take (j + 1)).map upB = (ms.take j).map upB ++ [upB ms[j]] := by rw [List.take_succ_eq_append_getElem hjl, List.map_append]; rfl
        have hkl := (HQM.out _ (List.getElem_mem hjl)).2
        have hok := bk_all (ms.take j)
        have hln : (ms.take j).length ≤ 10 := by rw [List.length_take]; omega
        obtain ⟨u, hu⟩ : ∃ u, u = ms[j] := ⟨_, rfl⟩
        rw [← hu] at c0 c1 c2 c3 hst hkl
        have HFW := Lib.hid (show fwU ((ms.take (j + 1)).map upB) = withU (fwU ((ms.take j).map upB)) (upB u) by rw [hst, fwU_snoc])
        obtain ⟨L, hL⟩ : ∃ z, z = fwU ((ms.take j).map upB) := ⟨_, rfl⟩
        obtain ⟨y, hy⟩ : ∃ z, z = upB u := ⟨_, rfl⟩
        rw [← hL, ← hy] at HFW
        rw [← hL] at hok HUQ
        have HTY := Lib.hid (show Tm y by rw [hy]; exact upB_tm u)
        have HLO := Lib.hid hok
        have HLL := Lib.hid (show L.length ≤ 100000 by omega)
        obtain ⟨K, hK⟩ : ∃ z, z = Lend.strOf u.key := ⟨_, rfl⟩
        obtain ⟨K2, hK2⟩ : ∃ z, z = Lend.strOf ((u.key ++ [107]).take 9) := ⟨_, rfl⟩
        obtain ⟨kn, hkn⟩ : ∃ z, z = min (K.size + 1) 9 := ⟨_, rfl⟩
        have HTK := Lib.hid (takeK u.key)
        rw [← hK, ← hK2, ← hkn] at HTK
        have HKN := Lib.hid hkn
        have HKS := Lib.hid (show K.size ≤ 140737488355327 by rw [hK, ssize]; exact hkl)
        have HAY : Hid (agU y = .agg #[.int .u8 2, .string K2, .string ⟨#[]⟩, .int .u64 0]) := Lib.hid (by rw [hy, hK2]; rfl)
        rw [← hK] at c1
        obtain ⟨w2, hw2⟩ : ∃ z, z = wq.alloc (.cells #[.int .u8 u.kind, .string K, .string (Lend.strOf u.val), .int .u64 u.delta] 66) := ⟨_, rfl⟩
        have hb2 : Below wq.heap.size wq w2 := by rw [hw2]; exact below_new _ _
        have HX2 := Lib.hid (show Has w2 wq.heap.size 66 [.int .u8 u.kind, .string K, .string (Lend.strOf u.val), .int .u64 u.delta] by rw [hw2]; exact Has.new wq _ _)
        obtain ⟨ba, bc, hbv⟩ := HUQ.out.slice
        subst hbv
        obtain ⟨bn, hbn⟩ : ∃ z, z = L.length := ⟨_, rfl⟩
        have HB2 := Lib.hid (below_on HBQ.out hb2)
        have HN2 := Lib.hid (HNQ.out.below hb2 HNQ.out.lt)
        have HWI := Lib.hid (with_any (w := w2.drew) ((HUQ.out.below hb2).below (below_dr (Below.refl _ w2))) HCQ.out HLO.out.1 HLL.out HLO.out.2.1 HTY.out)
        rw [HAY.out, ← hbn] at HWI
        rw [← hbn] at HN2
        have HGE := Lib.hid (show X + 1 ≤ w2.drew.heap.size from HN2.out.lt)
        have HGX := Lib.hid (show X < wq.heap.size from HNQ.out.lt)
        clear hst hkl hok hln hL hy hK hK2 hkn hu hb2 hbn
        go_upto_region 5 with fail
        rw [← hw2]
        clear hw2 c0 c1 c2 c3
        refine Reg.region_vals3 (by kernel_rfl) [(35, .pointer (some ⟨X, 1, none⟩)), (36, .agg #[.slice ba bn bc]), (37, .pointer (some ⟨wq.heap.size, 1, none⟩)), (38, .string K), (39, .string (K ++ (⟨#[107]⟩ : ByteArray))), (40, .pointer (some ⟨wq.heap.size, 1, none⟩)), (41, .string K), (42, .int .i64 (K.size : Nat)), (43, .int .i64 ((K.size : Int) + 1)), (44, .int .i64 (kn : Nat)), (45, .string K2), (46, .agg #[.int .u8 2, .string K2, .string ⟨#[]⟩, .int .u64 0]), (48, .pointer (some ⟨X, 1, none⟩))] [47] (Iy w2 12 14 47 (fun v W => (∃ cv, v = .agg #[cv] ∧ RA W (X + 1) cv (withU L y) ∧ Has W X 31 [.slice ka cn kc, .slice ba bn bc] ∧ Below w3.heap.size w3 W) ∧ Has W wq.heap.size 66 [.int .u8 u.kind, .string K, .string (Lend.strOf u.val), .int .u64 u.delta]) (fun W => (∃ cv, Has W X 31 [.slice ka cn kc, cv] ∧ RA W (X + 1) cv (withU L y) ∧ Below w3.heap.size w3 W) ∧ Has W wq.heap.size 66 [.int .u8 u.kind, .string K, .string (Lend.strOf u.val), .int .u64 u.delta])) ?a1 ?a2 ?a3 ?a4 ?a5 ?a6 ?a7 ?hend
        case a1 => kernel_rfl
        case a2 => kernel_rfl
        case a3 => kernel_rfl
        case a4 => kernel_rfl
        case a5 => kernel_rfl
        case a6 => exact Iy.start _ _
        case a7 =>
          refine ⟨?_, ?_, ?_, ?_, ?_, ?_, ?_, ?_, ?_, ?_, ?_, ?_, ?_, ?_, ?_, trivial⟩
          · intro aq wq_ lq hz hI hl hdone hlater hold hd ho
            have h7 : aq.tmps.getD 7 undef = .pointer (some ⟨X, 0, none⟩) := ho 7 (by kernel_rfl)
            clear hd ho hdone hlater hold
            rw [Array.getD_eq_getD_getElem?] at h7
            have hc : 35 < aq.tmps.size := by have hz' : aq.tmps.size = 148 := hz; omega
            refine Reg.step3_val (.pointer (some ⟨X, 1, none⟩)) ?_ rfl (hI.still _ (by decide) (by decide) (by decide) hc) trivial
            clear hz hc hI
            go_simp
          · intro aq wq_ lq hz hI hl hdone hlater hold hd ho
            have h35 : aq.tmps.getD 35 undef = .pointer (some ⟨X, 1, none⟩) := hd 35 (by kernel_rfl)
            have gl : lq 12 = false := hlater 12 (by kernel_rfl)
            clear hd ho hdone hlater hold
            rw [Array.getD_eq_getD_getElem?] at h35
            have hc : 36 < aq.tmps.size := by have hz' : aq.tmps.size = 148 := hz; omega
            have e0 : w2.cell? ⟨X, 1, none⟩ = some (.slice ba bn bc) := HN2.out.cell 1
            have hw := hI.w0 gl
            refine Reg.step3_val (.agg #[.slice ba bn bc]) ?_ rfl (hI.still _ (by decide) (by decide) (by decide) hc) trivial
            clear hz hc hI
            subst hw
            go_simp
          · intro aq wq_ lq hz hI hl hdone hlater hold hd ho
            have h10 : aq.tmps.getD 10 undef = .pointer (some ⟨wq.heap.size, 0, none⟩) := ho 10 (by kernel_rfl)
            clear hd ho hdone hlater hold
            rw [Array.getD_eq_getD_getElem?] at h10
            have hc : 37 < aq.tmps.size := by have hz' : aq.tmps.size = 148 := hz; omega
            refine Reg.step3_val (.pointer (some ⟨wq.heap.size, 1, none⟩)) ?_ rfl (hI.still _ (by decide) (by decide) (by decide) hc) trivial
            clear hz hc hI
            go_simp
          · intro aq wq_ lq hz hI hl hdone hlater hold hd ho
            have h37 : aq.tmps.getD 37 undef = .pointer (some ⟨wq.heap.size, 1, none⟩) := hd 37 (by kernel_rfl)
            clear hd ho hdone hlater hold
            rw [Array.getD_eq_getD_getElem?] at h37
            have hc : 38 < aq.tmps.size := by have hz' : aq.tmps.size = 148 := hz; omega
            have e0 : wq_.cell? ⟨wq.heap.size, 1, none⟩ = some (.string K) := (Iy.any hI (fun W => Has W wq.heap.size 66 [.int .u8 u.kind, .string K, .string (Lend.strOf u.val), .int .u64 u.delta]) HX2.out.drew (fun v w h => h.2) (fun w h => h.2)).cell 1
            refine Reg.step3_val (.string K) ?_ rfl (hI.still _ (by decide) (by decide) (by decide) hc) trivial
            clear hz hc hI
            go_simp
          · intro aq wq_ lq hz hI hl hdone hlater hold hd ho
            have h38 : aq.tmps.getD 38 undef = .string K := hd 38 (by kernel_rfl)
            clear hd ho hdone hlater hold
            rw [Array.getD_eq_getD_getElem?] at h38
            have hc : 39 < aq.tmps.size := by have hz' : aq.tmps.size = 148 := hz; omega
            refine Reg.step3_val (.string (K ++ (⟨#[107]⟩ : ByteArray))) ?_ rfl (hI.still _ (by decide) (by decide) (by decide) hc) trivial
            clear hz hc hI
            simp [execOp, Act.eval, h38]
            try go_simp
            first | done | (have := HKS.out; omega)
          · intro aq wq_ lq hz hI hl hdone hlater hold hd ho
            have h10 : aq.tmps.getD 10 undef = .pointer (some ⟨wq.heap.size, 0, none⟩) := ho 10 (by kernel_rfl)
            clear hd ho hdone hlater hold
            rw [Array.getD_eq_getD_getElem?] at h10
            have hc : 40 < aq.tmps.size := by have hz' : aq.tmps.size = 148 := hz; omega
            refine Reg.step3_val (.pointer (some ⟨wq.heap.size, 1, none⟩)) ?_ rfl (hI.still _ (by decide) (by decide) (by decide) hc) trivial
            clear hz hc hI
            go_simp
          · intro aq wq_ lq hz hI hl hdone hlater hold hd ho
            have h40 : aq.tmps.getD 40 undef = .pointer (some ⟨wq.heap.size, 1, none⟩) := hd 40 (by kernel_rfl)
            clear hd ho hdone hlater hold
            rw [Array.getD_eq_getD_getElem?] at h40
            have hc : 41 < aq.tmps.size := by have hz' : aq.tmps.size = 148 := hz; omega
            have e0 : wq_.cell? ⟨wq.heap.size, 1, none⟩ = some (.string K) := (Iy.any hI (fun W => Has W wq.heap.size 66 [.int .u8 u.kind, .string K, .string (Lend.strOf u.val), .int .u64 u.delta]) HX2.out.drew (fun v w h => h.2) (fun w h => h.2)).cell 1
            refine Reg.step3_val (.string K) ?_ rfl (hI.still _ (by decide) (by decide) (by decide) hc) trivial
            clear hz hc hI
            go_simp
          · intro aq wq_ lq hz hI hl hdone hlater hold hd ho
            have h41 : aq.tmps.getD 41 undef = .string K := hd 41 (by kernel_rfl)
            clear hd ho hdone hlater hold
            rw [Array.getD_eq_getD_getElem?] at h41
            have hc : 42 < aq.tmps.size := by have hz' : aq.tmps.size = 148 := hz; omega
            refine Reg.step3_val (.int .i64 (K.size : Nat)) ?_ rfl (hI.still _ (by decide) (by decide) (by decide) hc) trivial
            clear hz hc hI
            simp [execOp, Act.eval, h41]
            try go_simp
          · intro aq wq_ lq hz hI hl hdone hlater hold hd ho
            have h42 : aq.tmps.getD 42 undef = .int .i64 (K.size : Nat) := hd 42 (by kernel_rfl)
            clear hd ho hdone hlater hold
            rw [Array.getD_eq_getD_getElem?] at h42
            have hc : 43 < aq.tmps.size := by have hz' : aq.tmps.size = 148 := hz; omega
            refine Reg.step3_val (.int .i64 ((K.size : Int) + 1)) ?_ rfl (hI.still _ (by decide) (by decide) (by decide) hc) trivial
            clear hz hc hI
            simp [execOp, Act.eval, h42]
            try go_simp
            first | done | (exact IntWalk.i64_in _ (by have := HKS.out; omega))
          · intro aq wq_ lq hz hI hl hdone hlater hold hd ho
            have h43 : aq.tmps.getD 43 undef = .int .i64 ((K.size : Int) + 1) := hd 43 (by kernel_rfl)
            clear hd ho hdone hlater hold
            rw [Array.getD_eq_getD_getElem?] at h43
            have hc : 44 < aq.tmps.size := by have hz' : aq.tmps.size = 148 := hz; omega
            refine Reg.step3_val (.int .i64 (kn : Nat)) ?_ rfl (hI.still _ (by decide) (by decide) (by decide) hc) trivial
            clear hz hc hI
            simp [execOp, Act.eval, h43]
            try go_simp
            have := HKN.out
            omega
          · intro aq wq_ lq hz hI hl hdone hlater hold hd ho
            have h39 : aq.tmps.getD 39 undef = .string (K ++ (⟨#[107]⟩ : ByteArray)) := hd 39 (by kernel_rfl)
            have h44 : aq.tmps.getD 44 undef = .int .i64 (kn : Nat) := hd 44 (by kernel_rfl)
            clear hd ho hdone hlater hold
            rw [Array.getD_eq_getD_getElem?] at h39 h44
            have hc : 45 < aq.tmps.size := by have hz' : aq.tmps.size = 148 := hz; omega
            refine Reg.step3_val (.string K2) ?_ rfl (hI.still _ (by decide) (by decide) (by decide) hc) trivial
            clear hz hc hI
            simp [execOp, Act.eval, h39, h44]
            try go_simp
            rw [if_pos (by rw [HKN.out]; omega), HTK.out]
          · intro aq wq_ lq hz hI hl hdone hlater hold hd ho
            have h45 : aq.tmps.getD 45 undef = .string K2 := hd 45 (by kernel_rfl)
            clear hd ho hdone hlater hold
            rw [Array.getD_eq_getD_getElem?] at h45
            have hc : 46 < aq.tmps.size := by have hz' : aq.tmps.size = 148 := hz; omega
            refine Reg.step3_val (.agg #[.int .u8 2, .string K2, .string ⟨#[]⟩, .int .u64 0]) ?_ rfl (hI.still _ (by decide) (by decide) (by decide) hc) trivial
            clear hz hc hI
            simp [execOp, Act.eval, h45]
            try go_simp
          · intro aq wq_ lq hz hI hl hdone hlater hold hd ho
            have h36 : aq.tmps.getD 36 undef = .agg #[.slice ba bn bc] := hd 36 (by kernel_rfl)
            have h46 : aq.tmps.getD 46 undef = .agg #[.int .u8 2, .string K2, .string ⟨#[]⟩, .int .u64 0] := hd 46 (by kernel_rfl)
            clear hd ho hdone hlater hold
            rw [Array.getD_eq_getD_getElem?] at h36 h46
            have hc : 47 < aq.tmps.size := by have hz' : aq.tmps.size = 148 := hz; omega
            have hw := hI.w0 hl
            subst hw
            refine Reg.step3_call 22 #[.agg #[.slice ba bn bc], .agg #[.int .u8 2, .string K2, .string ⟨#[]⟩, .int .u64 0]] ?_ ((HWI.out).mono ?_)
            · clear hI hz hc
              simp [execOp]
              go_simp
            · rintro e w' ⟨cv, rfl, hcv, hb⟩
              exact ⟨_, rfl, trivial, hI.call (by decide) hl hc ⟨⟨cv, rfl, own_base hcv HGE.out, HN2.out.drew.below hb HN2.out.lt, below_on HB2.out ((below_dr (Below.refl _ w2)).trans (hb.mono (Nat.le_refl _)))⟩, HX2.out.drew.below hb HX2.out.lt⟩, trivial⟩
          · intro aq wq_ lq hz hI hl hdone hlater hold hd ho
            have h7 : aq.tmps.getD 7 undef = .pointer (some ⟨X, 0, none⟩) := ho 7 (by kernel_rfl)
            clear hd ho hdone hlater hold
            rw [Array.getD_eq_getD_getElem?] at h7
            have hc : 48 < aq.tmps.size := by have hz' : aq.tmps.size = 148 := hz; omega
            refine Reg.step3_val (.pointer (some ⟨X, 1, none⟩)) ?_ rfl (hI.still _ (by decide) (by decide) (by decide) hc) trivial
            clear hz hc hI
            go_simp
          · intro aq wq_ lq hz hI hl hdone hlater hold hd ho
            have h48 : aq.tmps.getD 48 undef = .pointer (some ⟨X, 1, none⟩) := hd 48 (by kernel_rfl)
            have g1 : lq 12 = true := hdone 12 (by kernel_rfl)
            clear hd ho hdone hlater hold
            rw [Array.getD_eq_getD_getElem?] at h48
            obtain ⟨⟨cv, hcv, hr, hx, hbw⟩, hgx⟩ := hI.w2 g1 hl
            obtain ⟨ca, cc, rfl, _⟩ := own_shape hr
            have z4 : wq_.frozen? ⟨X, 1, none⟩ = false := hx.frozen 1
            have z5 : wq_.cell? ⟨X, 1, none⟩ = some (.slice ba bn bc) := hx.cell 1
            rw [Array.getD_eq_getD_getElem?] at hcv
            refine Reg.step3_skip (wq_.setCell ⟨X, 1, none⟩ (.slice ca (withU L y).length cc)) rfl ?_ (hI.stored (by decide) g1 ⟨⟨_, hx.set 1 _, row_st1 hr (Nat.lt_succ_self _) _, hbw.setCell (by show w3.heap.size ≤ X; have := HXE.out; omega) _⟩, hgx.setOther (by show X ≠ wq.heap.size; have := HGX.out; omega) _⟩) trivial
            clear hx hr hgx hbw hI hz
            simp [execOp]
            go_simp
        case hend =>
          intro wz v aq hv hI
          have hy := Iy.done hI (by decide)
          clear hv hI
          simp only [Reg.fill, List.map_cons, List.map_nil, List.foldl_cons, List.foldl_nil, List.setIfInBounds_toArray, List.set_cons_zero, List.set_cons_succ]
          generalize v 47 = vz at *
          obtain ⟨⟨cv, hn5, hr5, hb5⟩, _⟩ := hy
          have HN5 := Lib.hid hn5
          have HU5 := Lib.hid (UR.of_own hr5)
          have HC5 := Lib.hid (cp_own hr5)
          have HB5 := Lib.hid hb5
          clear hn5 hr5 hb5
          go_wp2_with fail
          go_roundw
          case rel => exact ⟨j + 1, _, by omega, by go_num, HN5.out, by rw [HFW.out]; exact HU5.out, HC5.out, HB5.out⟩
          case measure => simp [intOf]; omega
      · obtain rfl : j = m := by omega
        have hji : ¬ ((j : Int) < (j : Int)) := by omega
        have hbm : fwU ((ms.take j).map upB) = bkM ms := by
          unfold bkM
          congr 2
          by_cases h : ms.length ≤ 10
          · rw [List.take_of_length_le (show ms.length ≤ j by have := HMM.out; have := HQQ.out; omega), List.take_of_length_le h]
          · rw [show j = 10 by have := HMM.out; have := HQQ.out; omega]
        have hall := bk_all (ms.take 10)
        have hl10 : (ms.take 10).length ≤ 10 := by rw [List.length_take]; omega
        rw [hbm] at HUQ
        obtain ⟨L, hL⟩ : ∃ z, z = bkM ms := ⟨_, rfl⟩
        have HND := Lib.hid (show nodB C L = true by rw [hL]; exact bk_nod HKD.out ms)
        have HTM := Lib.hid (show ∀ x ∈ L, Tm x by rw [hL]; exact hall.2.1)
        have HRI := Lib.hid (show risB L = true by rw [hL]; exact (ris_iff _).2 hall.1)
        have HLL := Lib.hid (show L.length ≤ 10 by rw [hL]; exact Nat.le_trans hall.2.2 hl10)
        rw [← hL] at HUQ
        clear hL hbm hall hl10
        obtain ⟨ba, bc, hbv⟩ := HUQ.out.slice
        subst hbv
        obtain ⟨bn, hbn⟩ : ∃ z, z = L.length := ⟨_, rfl⟩
        have HBN := Lib.hid hbn
        have HKQ := Lib.hid (HK3.out.below HBQ.out)
        have HWU := Lib.hid (show ∀ x ∈ L, WfU x from fun x hx => (HTM.out x hx).wf)
        have HTX := Lib.hid (text_any HKQ.out HUQ.out HWC.out HWU.out HRI.out)
        have hty : ttN C L = txN C L ∧ teN C L = 0 := by unfold ttN teN; rw [HND.out]; exact ⟨rfl, rfl⟩
        rw [hty.1, hty.2] at HTX
        have HPB := Lib.hid (pn_some (pn_back HND.out HWC.out HWU.out))
        rw [← hbn] at HUQ HNQ HTX
        clear hbn hty
        have HL0 := Lib.hid (show 0 < (txN C L).length by unfold txN; rw [List.length_cons]; omega)
        have HLT := Lib.hid (show (txN C L).length ≤ 100000 by have := ttN_len C L; unfold ttN at this; rw [HND.out] at this; simp only [if_true] at this; omega)
        obtain ⟨S, hS⟩ : ∃ z, z = Lend.strOf (txN C L) := ⟨_, rfl⟩
        have HSL := Lib.hid (show S.size = (txN C L).length by rw [hS, ssize])
        have HPA := Lib.hid (fun W => Node.parse_any (txN C L) W HLT.out)
        rw [← hS] at HTX HPA
        have HS := Lib.hid hS
        have x0 : wq.cell? ⟨X, 0, none⟩ = some (.slice ka cn kc) := HNQ.out.cell 0
        have x1 : wq.cell? ⟨X, 1, none⟩ = some (.slice ba bn bc) := HNQ.out.cell 1
        clear hS
        go_wp2_with fail
        refine HTX.out.mono ?_
        clear HTX x0 x1
        rintro e w5 ⟨rfl, hb5⟩
        have HX5 := Lib.hid (HNQ.out.below hb5 HNQ.out.lt)
        have HU5 := Lib.hid (HUQ.out.below hb5)
        have HB5 := Lib.hid (below_on (below_on HB3.out HBQ.out) hb5)
        clear hb5
        go_wp2_with fail
        refine (HPA.out w5).mono ?_
        clear HPA
        rintro e w6 ⟨kv2, bv2, rfl, hk2, hb2, hb6⟩
        rw [HPB.out.2.1] at hk2
        rw [HPB.out.2.2] at hb2
        rw [HPB.out.1]
        obtain ⟨kk, kkc, hs1, _⟩ := own_shape hk2
        subst hs1
        obtain ⟨bb, bbc, hs2, _⟩ := own_shape hb2
        subst hs2
        have HK6 := Lib.hid (CR.of_own hk2)
        have HV6 := Lib.hid (UR.of_own hb2)
        rw [← HCN.out] at HK6 ⊢
        rw [← HBN.out] at HV6 ⊢
        obtain ⟨w7, hw7⟩ : ∃ z, z = w6.alloc (.cells #[.slice kk cn kkc, .slice bb bn bbc] 31) := ⟨_, rfl⟩
        have hb7 : Below w6.heap.size w6 w7 := by rw [hw7]; exact below_new _ _
        have HY7 := Lib.hid (show Has w7 w6.heap.size 31 [.slice kk cn kkc, .slice bb bn bbc] by rw [hw7]; exact Has.new w6 _ _)
        have HX7 := Lib.hid (HX5.out.below (below_on hb6 hb7) HX5.out.lt)
        have HU7 := Lib.hid (HU5.out.below (below_on hb6 hb7))
        have HV7 := Lib.hid (HV6.out.below hb7)
        have HB7 := Lib.hid (below_on (below_on HB5.out hb6) hb7)
        have htx := text_any (HK6.out.below hb7) (by have h := HV6.out.below hb7; rw [HBN.out] at h; exact h) HWC.out HWU.out HRI.out
        have hty : ttN C L = txN C L ∧ teN C L = 0 := by unfold ttN teN; rw [HND.out]; exact ⟨rfl, rfl⟩
        rw [hty.1, hty.2, ← HS.out, ← HBN.out] at htx
        have HTX := Lib.hid htx
        obtain ⟨Y, hY⟩ : ∃ z, z = w6.heap.size := ⟨_, rfl⟩
        rw [← hY] at HY7
        clear hk2 hb2 hb6 hb7 htx hty
        go_upto_region 9 with fail
        rw [← hw7, ← hY]
        clear hw7 hY
        have y0 : w7.cell? ⟨Y, 0, none⟩ = some (.slice kk cn kkc) := HY7.out.cell 0
        have y1 : w7.cell? ⟨Y, 1, none⟩ = some (.slice bb bn bbc) := HY7.out.cell 1
        go_wp2_with fail
        refine HTX.out.mono ?_
        clear HTX y0 y1
        rintro e w8 ⟨rfl, hb8⟩
        have HY8 := Lib.hid (HY7.out.below hb8 HY7.out.lt)
        have HX8 := Lib.hid (HX7.out.below hb8 HX7.out.lt)
        have HU8 := Lib.hid (HU7.out.below hb8)
        have HV8 := Lib.hid (HV7.out.below hb8)
        have HB8 := Lib.hid (below_on HB7.out hb8)
        have HLX := Lib.hid (fun (W : World) (hb : Below w8.heap.size w8 W) => len_at (HU8.out.below hb) HBN.out)
        have HLY := Lib.hid (fun (W : World) (hb : Below w8.heap.size w8 W) => len_at (HV8.out.below hb) HBN.out)
        have hs0 : ¬ S.size = 0 := by have := HL0.out; have := HSL.out; omega
        clear hb8
        go_upto_region 10 with fail
        refine Reg.region_vals (by kernel_rfl) [(65, .bool true), (66, .bool false), (67, .bool false), (68, .int .i64 0), (69, .bool false), (70, .bool false), (71, .bool false), (72, .int .i64 0), (73, .bool false), (74, .bool false), (75, .bool false), (76, .int .i64 0), (77, .bool false), (78, .bool false), (79, .bool false), (80, .string S), (81, .string S), (82, .bool false), (83, .bool false), (84, .bool false), (85, .pointer (some ⟨Y, 0, none⟩)), (86, .slice kk cn kkc), (87, .int .i64 (cn : Nat)), (88, .pointer (some ⟨X, 0, none⟩)), (89, .slice ka cn kc), (90, .int .i64 (cn : Nat)), (91, .bool false), (92, .bool false), (93, .bool false), (94, .pointer (some ⟨Y, 1, none⟩)), (95, .agg #[.slice bb bn bbc]), (96, .int .i64 (bn : Nat)), (97, .pointer (some ⟨X, 1, none⟩)), (98, .agg #[.slice ba bn bc]), (99, .int .i64 (bn : Nat)), (100, .bool false), (101, .bool false), (102, .bool false), (103, .string S), (104, .int .i64 (S.size : Nat)), (105, .bool false), (106, .bool false)] (fun l wy => Below w8.heap.size w8 wy) (by kernel_rfl) (by kernel_rfl) (by kernel_rfl) ((Below.refl _ _).drew) ⟨?_, ?_, ?_, ?_, ?_, ?_, ?_, ?_, ?_, ?_, ?_, ?_, ?_, ?_, ?_, ?_, ?_, ?_, ?_, ?_, ?_, ?_, ?_, ?_, ?_, ?_, ?_, ?_, ?_, ?_, ?_, ?_, ?_, ?_, ?_, ?_, ?_, ?_, ?_, ?_, ?_, ?_, trivial⟩ ?hend
        · -- 0: 65 := Op.call ( value (Operand.func 16), args := #(), argTypes := 
          intro aq wq lq hI hl hdone hlater hold hd ho
          clear hd ho hdone hlater hold
          refine Reg.step2_call 16 #[] ?_ ((wakes_any wq).mono ?_)
          · clear hI
            simp [execOp]
            go_simp
          · rintro e w' ⟨rfl, hb⟩
            exact ⟨_, rfl, rfl, below_on hI hb, trivial⟩
        · -- 1: 66 := Op.unOp UnOp.not 4 t65
          intro aq wq lq hI hl hdone hlater hold hd ho
          have h65 : aq.tmps.getD 65 undef = .bool true := hd 65 (by kernel_rfl)
          clear hd ho hdone hlater hold
          rw [Array.getD_eq_getD_getElem?] at h65
          refine Reg.step2_val (.bool false) ?_ rfl hI trivial
          simp [execOp, Act.eval, h65]
          try go_simp
        · -- 2: 67 := Op.move t66
          intro aq wq lq hI hl hdone hlater hold hd ho
          have h66 : aq.tmps.getD 66 undef = .bool false := hd 66 (by kernel_rfl)
          clear hd ho hdone hlater hold
          exact Reg.step2_move (.tmp 66) rfl h66 hI trivial
        · -- 3: 68 := Op.move t12
          intro aq wq lq hI hl hdone hlater hold hd ho
          have h12 : aq.tmps.getD 12 undef = .int .i64 0 := ho 12 (by kernel_rfl)
          clear hd ho hdone hlater hold
          exact Reg.step2_move (.tmp 12) rfl h12 hI trivial
        · -- 4: 69 := Op.binOp BinOp.neq 38 t68 (const (0:i64)) 38
          intro aq wq lq hI hl hdone hlater hold hd ho
          have h68 : aq.tmps.getD 68 undef = .int .i64 0 := hd 68 (by kernel_rfl)
          clear hd ho hdone hlater hold
          rw [Array.getD_eq_getD_getElem?] at h68
          refine Reg.step2_val (.bool false) ?_ rfl hI trivial
          simp [execOp, Act.eval, h68]
          try go_simp
        · -- 5: 70 := Op.pick t67 (const (Value.bool true)) t69
          intro aq wq lq hI hl hdone hlater hold hd ho
          have h67 : aq.tmps.getD 67 undef = .bool false := hd 67 (by kernel_rfl)
          have h69 : aq.tmps.getD 69 undef = .bool false := hd 69 (by kernel_rfl)
          clear hd ho hdone hlater hold
          rw [Array.getD_eq_getD_getElem?] at h67 h69
          refine Reg.step2_val (.bool false) ?_ rfl hI trivial
          simp [execOp, Act.eval, h67, h69]
          try go_simp
        · -- 6: 71 := Op.move t70
          intro aq wq lq hI hl hdone hlater hold hd ho
          have h70 : aq.tmps.getD 70 undef = .bool false := hd 70 (by kernel_rfl)
          clear hd ho hdone hlater hold
          exact Reg.step2_move (.tmp 70) rfl h70 hI trivial
        · -- 7: 72 := Op.move t14
          intro aq wq lq hI hl hdone hlater hold hd ho
          have h14 : aq.tmps.getD 14 undef = .int .i64 0 := ho 14 (by kernel_rfl)
          clear hd ho hdone hlater hold
          exact Reg.step2_move (.tmp 14) rfl h14 hI trivial
        · -- 8: 73 := Op.binOp BinOp.neq 38 t72 (const (0:i64)) 38
          intro aq wq lq hI hl hdone hlater hold hd ho
          have h72 : aq.tmps.getD 72 undef = .int .i64 0 := hd 72 (by kernel_rfl)
          clear hd ho hdone hlater hold
          rw [Array.getD_eq_getD_getElem?] at h72
          refine Reg.step2_val (.bool false) ?_ rfl hI trivial
          simp [execOp, Act.eval, h72]
          try go_simp
        · -- 9: 74 := Op.pick t71 (const (Value.bool true)) t73
          intro aq wq lq hI hl hdone hlater hold hd ho
          have h71 : aq.tmps.getD 71 undef = .bool false := hd 71 (by kernel_rfl)
          have h73 : aq.tmps.getD 73 undef = .bool false := hd 73 (by kernel_rfl)
          clear hd ho hdone hlater hold
          rw [Array.getD_eq_getD_getElem?] at h71 h73
          refine Reg.step2_val (.bool false) ?_ rfl hI trivial
          simp [execOp, Act.eval, h71, h73]
          try go_simp
        · -- 10: 75 := Op.move t74
          intro aq wq lq hI hl hdone hlater hold hd ho
          have h74 : aq.tmps.getD 74 undef = .bool false := hd 74 (by kernel_rfl)
          clear hd ho hdone hlater hold
          exact Reg.step2_move (.tmp 74) rfl h74 hI trivial
        · -- 11: 76 := Op.move t16
          intro aq wq lq hI hl hdone hlater hold hd ho
          have h16 : aq.tmps.getD 16 undef = .int .i64 0 := ho 16 (by kernel_rfl)
          clear hd ho hdone hlater hold
          exact Reg.step2_move (.tmp 16) rfl h16 hI trivial
        · -- 12: 77 := Op.binOp BinOp.neq 38 t76 (const (0:i64)) 38
          intro aq wq lq hI hl hdone hlater hold hd ho
          have h76 : aq.tmps.getD 76 undef = .int .i64 0 := hd 76 (by kernel_rfl)
          clear hd ho hdone hlater hold
          rw [Array.getD_eq_getD_getElem?] at h76
          refine Reg.step2_val (.bool false) ?_ rfl hI trivial
          simp [execOp, Act.eval, h76]
          try go_simp
        · -- 13: 78 := Op.pick t75 (const (Value.bool true)) t77
          intro aq wq lq hI hl hdone hlater hold hd ho
          have h75 : aq.tmps.getD 75 undef = .bool false := hd 75 (by kernel_rfl)
          have h77 : aq.tmps.getD 77 undef = .bool false := hd 77 (by kernel_rfl)
          clear hd ho hdone hlater hold
          rw [Array.getD_eq_getD_getElem?] at h75 h77
          refine Reg.step2_val (.bool false) ?_ rfl hI trivial
          simp [execOp, Act.eval, h75, h77]
          try go_simp
        · -- 14: 79 := Op.move t78
          intro aq wq lq hI hl hdone hlater hold hd ho
          have h78 : aq.tmps.getD 78 undef = .bool false := hd 78 (by kernel_rfl)
          clear hd ho hdone hlater hold
          exact Reg.step2_move (.tmp 78) rfl h78 hI trivial
        · -- 15: 80 := Op.move t11
          intro aq wq lq hI hl hdone hlater hold hd ho
          have h11 : aq.tmps.getD 11 undef = .string S := ho 11 (by kernel_rfl)
          clear hd ho hdone hlater hold
          exact Reg.step2_move (.tmp 11) rfl h11 hI trivial
        · -- 16: 81 := Op.move t15
          intro aq wq lq hI hl hdone hlater hold hd ho
          have h15 : aq.tmps.getD 15 undef = .string S := ho 15 (by kernel_rfl)
          clear hd ho hdone hlater hold
          exact Reg.step2_move (.tmp 15) rfl h15 hI trivial
        · -- 17: 82 := Op.binOp BinOp.neq 9 t80 t81 9
          intro aq wq lq hI hl hdone hlater hold hd ho
          have h80 : aq.tmps.getD 80 undef = .string S := hd 80 (by kernel_rfl)
          have h81 : aq.tmps.getD 81 undef = .string S := hd 81 (by kernel_rfl)
          clear hd ho hdone hlater hold
          rw [Array.getD_eq_getD_getElem?] at h80 h81
          refine Reg.step2_val (.bool false) ?_ rfl hI trivial
          simp [execOp, Act.eval, h80, h81]
          try go_simp
        · -- 18: 83 := Op.pick t79 (const (Value.bool true)) t82
          intro aq wq lq hI hl hdone hlater hold hd ho
          have h79 : aq.tmps.getD 79 undef = .bool false := hd 79 (by kernel_rfl)
          have h82 : aq.tmps.getD 82 undef = .bool false := hd 82 (by kernel_rfl)
          clear hd ho hdone hlater hold
          rw [Array.getD_eq_getD_getElem?] at h79 h82
          refine Reg.step2_val (.bool false) ?_ rfl hI trivial
          simp [execOp, Act.eval, h79, h82]
          try go_simp
        · -- 19: 84 := Op.move t83
          intro aq wq lq hI hl hdone hlater hold hd ho
          have h83 : aq.tmps.getD 83 undef = .bool false := hd 83 (by kernel_rfl)
          clear hd ho hdone hlater hold
          exact Reg.step2_move (.tmp 83) rfl h83 hI trivial
        · -- 20: 85 := Op.fieldAddr 31 t13 0
          intro aq wq lq hI hl hdone hlater hold hd ho
          have h13 : aq.tmps.getD 13 undef = .pointer (some ⟨Y, 0, none⟩) := ho 13 (by kernel_rfl)
          clear hd ho hdone hlater hold
          rw [Array.getD_eq_getD_getElem?] at h13
          refine Reg.step2_val (.pointer (some ⟨Y, 0, none⟩)) ?_ rfl hI trivial
          go_simp
        · -- 21: 86 := Op.load 26 t85
          intro aq wq lq hI hl hdone hlater hold hd ho
          have h85 : aq.tmps.getD 85 undef = .pointer (some ⟨Y, 0, none⟩) := hd 85 (by kernel_rfl)
          clear hd ho hdone hlater hold
          rw [Array.getD_eq_getD_getElem?] at h85
          have e0 : wq.cell? ⟨Y, 0, none⟩ = some (.slice kk cn kkc) := keep1 (HY8.out.cell 0) hI
          refine Reg.step2_val (.slice kk cn kkc) ?_ rfl hI trivial
          go_simp
        · -- 22: 87 := Op.call ( builtin len, args := #(t86), argTypes := #(26) )
          intro aq wq lq hI hl hdone hlater hold hd ho
          have h86 : aq.tmps.getD 86 undef = .slice kk cn kkc := hd 86 (by kernel_rfl)
          clear hd ho hdone hlater hold
          rw [Array.getD_eq_getD_getElem?] at h86
          refine Reg.step2_val (.int .i64 (cn : Nat)) ?_ rfl hI trivial
          simp [execOp, Act.eval, h86]
          try go_simp
        · -- 23: 88 := Op.fieldAddr 31 t7 0
          intro aq wq lq hI hl hdone hlater hold hd ho
          have h7 : aq.tmps.getD 7 undef = .pointer (some ⟨X, 0, none⟩) := ho 7 (by kernel_rfl)
          clear hd ho hdone hlater hold
          rw [Array.getD_eq_getD_getElem?] at h7
          refine Reg.step2_val (.pointer (some ⟨X, 0, none⟩)) ?_ rfl hI trivial
          go_simp
        · -- 24: 89 := Op.load 26 t88
          intro aq wq lq hI hl hdone hlater hold hd ho
          have h88 : aq.tmps.getD 88 undef = .pointer (some ⟨X, 0, none⟩) := hd 88 (by kernel_rfl)
          clear hd ho hdone hlater hold
          rw [Array.getD_eq_getD_getElem?] at h88
          have e0 : wq.cell? ⟨X, 0, none⟩ = some (.slice ka cn kc) := keep1 (HX8.out.cell 0) hI
          refine Reg.step2_val (.slice ka cn kc) ?_ rfl hI trivial
          go_simp
        · -- 25: 90 := Op.call ( builtin len, args := #(t89), argTypes := #(26) )
          intro aq wq lq hI hl hdone hlater hold hd ho
          have h89 : aq.tmps.getD 89 undef = .slice ka cn kc := hd 89 (by kernel_rfl)
          clear hd ho hdone hlater hold
          rw [Array.getD_eq_getD_getElem?] at h89
          refine Reg.step2_val (.int .i64 (cn : Nat)) ?_ rfl hI trivial
          simp [execOp, Act.eval, h89]
          try go_simp
        · -- 26: 91 := Op.binOp BinOp.neq 3 t87 t90 3
          intro aq wq lq hI hl hdone hlater hold hd ho
          have h87 : aq.tmps.getD 87 undef = .int .i64 (cn : Nat) := hd 87 (by kernel_rfl)
          have h90 : aq.tmps.getD 90 undef = .int .i64 (cn : Nat) := hd 90 (by kernel_rfl)
          clear hd ho hdone hlater hold
          rw [Array.getD_eq_getD_getElem?] at h87 h90
          refine Reg.step2_val (.bool false) ?_ rfl hI trivial
          simp [execOp, Act.eval, h87, h90]
          try go_simp
        · -- 27: 92 := Op.pick t84 (const (Value.bool true)) t91
          intro aq wq lq hI hl hdone hlater hold hd ho
          have h84 : aq.tmps.getD 84 undef = .bool false := hd 84 (by kernel_rfl)
          have h91 : aq.tmps.getD 91 undef = .bool false := hd 91 (by kernel_rfl)
          clear hd ho hdone hlater hold
          rw [Array.getD_eq_getD_getElem?] at h84 h91
          refine Reg.step2_val (.bool false) ?_ rfl hI trivial
          simp [execOp, Act.eval, h84, h91]
          try go_simp
        · -- 28: 93 := Op.move t92
          intro aq wq lq hI hl hdone hlater hold hd ho
          have h92 : aq.tmps.getD 92 undef = .bool false := hd 92 (by kernel_rfl)
          clear hd ho hdone hlater hold
          exact Reg.step2_move (.tmp 92) rfl h92 hI trivial
        · -- 29: 94 := Op.fieldAddr 31 t13 1
          intro aq wq lq hI hl hdone hlater hold hd ho
          have h13 : aq.tmps.getD 13 undef = .pointer (some ⟨Y, 0, none⟩) := ho 13 (by kernel_rfl)
          clear hd ho hdone hlater hold
          rw [Array.getD_eq_getD_getElem?] at h13
          refine Reg.step2_val (.pointer (some ⟨Y, 1, none⟩)) ?_ rfl hI trivial
          go_simp
        · -- 30: 95 := Op.load 29 t94
          intro aq wq lq hI hl hdone hlater hold hd ho
          have h94 : aq.tmps.getD 94 undef = .pointer (some ⟨Y, 1, none⟩) := hd 94 (by kernel_rfl)
          clear hd ho hdone hlater hold
          rw [Array.getD_eq_getD_getElem?] at h94
          have e0 : wq.cell? ⟨Y, 1, none⟩ = some (.slice bb bn bbc) := keep1 (HY8.out.cell 1) hI
          refine Reg.step2_val (.agg #[.slice bb bn bbc]) ?_ rfl hI trivial
          go_simp
        · -- 31: 96 := Op.call ( value (Operand.func 21), args := #(t95), argTypes 
          intro aq wq lq hI hl hdone hlater hold hd ho
          have h95 : aq.tmps.getD 95 undef = .agg #[.slice bb bn bbc] := hd 95 (by kernel_rfl)
          clear hd ho hdone hlater hold
          rw [Array.getD_eq_getD_getElem?] at h95
          refine Reg.step2_call 21 #[.agg #[.slice bb bn bbc]] ?_ ((HLY.out wq hI).mono ?_)
          · clear hI
            simp [execOp]
            go_simp
          · rintro e w' ⟨rfl, hb⟩
            exact ⟨_, rfl, rfl, below_on hI hb, trivial⟩
        · -- 32: 97 := Op.fieldAddr 31 t7 1
          intro aq wq lq hI hl hdone hlater hold hd ho
          have h7 : aq.tmps.getD 7 undef = .pointer (some ⟨X, 0, none⟩) := ho 7 (by kernel_rfl)
          clear hd ho hdone hlater hold
          rw [Array.getD_eq_getD_getElem?] at h7
          refine Reg.step2_val (.pointer (some ⟨X, 1, none⟩)) ?_ rfl hI trivial
          go_simp
        · -- 33: 98 := Op.load 29 t97
          intro aq wq lq hI hl hdone hlater hold hd ho
          have h97 : aq.tmps.getD 97 undef = .pointer (some ⟨X, 1, none⟩) := hd 97 (by kernel_rfl)
          clear hd ho hdone hlater hold
          rw [Array.getD_eq_getD_getElem?] at h97
          have e0 : wq.cell? ⟨X, 1, none⟩ = some (.slice ba bn bc) := keep1 (HX8.out.cell 1) hI
          refine Reg.step2_val (.agg #[.slice ba bn bc]) ?_ rfl hI trivial
          go_simp
        · -- 34: 99 := Op.call ( value (Operand.func 21), args := #(t98), argTypes 
          intro aq wq lq hI hl hdone hlater hold hd ho
          have h98 : aq.tmps.getD 98 undef = .agg #[.slice ba bn bc] := hd 98 (by kernel_rfl)
          clear hd ho hdone hlater hold
          rw [Array.getD_eq_getD_getElem?] at h98
          refine Reg.step2_call 21 #[.agg #[.slice ba bn bc]] ?_ ((HLX.out wq hI).mono ?_)
          · clear hI
            simp [execOp]
            go_simp
          · rintro e w' ⟨rfl, hb⟩
            exact ⟨_, rfl, rfl, below_on hI hb, trivial⟩
        · -- 35: 100 := Op.binOp BinOp.neq 3 t96 t99 3
          intro aq wq lq hI hl hdone hlater hold hd ho
          have h96 : aq.tmps.getD 96 undef = .int .i64 (bn : Nat) := hd 96 (by kernel_rfl)
          have h99 : aq.tmps.getD 99 undef = .int .i64 (bn : Nat) := hd 99 (by kernel_rfl)
          clear hd ho hdone hlater hold
          rw [Array.getD_eq_getD_getElem?] at h96 h99
          refine Reg.step2_val (.bool false) ?_ rfl hI trivial
          simp [execOp, Act.eval, h96, h99]
          try go_simp
        · -- 36: 101 := Op.pick t93 (const (Value.bool true)) t100
          intro aq wq lq hI hl hdone hlater hold hd ho
          have h93 : aq.tmps.getD 93 undef = .bool false := hd 93 (by kernel_rfl)
          have h100 : aq.tmps.getD 100 undef = .bool false := hd 100 (by kernel_rfl)
          clear hd ho hdone hlater hold
          rw [Array.getD_eq_getD_getElem?] at h93 h100
          refine Reg.step2_val (.bool false) ?_ rfl hI trivial
          simp [execOp, Act.eval, h93, h100]
          try go_simp
        · -- 37: 102 := Op.move t101
          intro aq wq lq hI hl hdone hlater hold hd ho
          have h101 : aq.tmps.getD 101 undef = .bool false := hd 101 (by kernel_rfl)
          clear hd ho hdone hlater hold
          exact Reg.step2_move (.tmp 101) rfl h101 hI trivial
        · -- 38: 103 := Op.move t11
          intro aq wq lq hI hl hdone hlater hold hd ho
          have h11 : aq.tmps.getD 11 undef = .string S := ho 11 (by kernel_rfl)
          clear hd ho hdone hlater hold
          exact Reg.step2_move (.tmp 11) rfl h11 hI trivial
        · -- 39: 104 := Op.call ( builtin len, args := #(t103), argTypes := #(9) )
          intro aq wq lq hI hl hdone hlater hold hd ho
          have h103 : aq.tmps.getD 103 undef = .string S := hd 103 (by kernel_rfl)
          clear hd ho hdone hlater hold
          rw [Array.getD_eq_getD_getElem?] at h103
          refine Reg.step2_val (.int .i64 (S.size : Nat)) ?_ rfl hI trivial
          simp [execOp, Act.eval, h103]
          try go_simp
        · -- 40: 105 := Op.binOp BinOp.eql 3 t104 (const (0:i64)) 3
          intro aq wq lq hI hl hdone hlater hold hd ho
          have h104 : aq.tmps.getD 104 undef = .int .i64 (S.size : Nat) := hd 104 (by kernel_rfl)
          clear hd ho hdone hlater hold
          rw [Array.getD_eq_getD_getElem?] at h104
          refine Reg.step2_val (.bool false) ?_ rfl hI trivial
          simp [execOp, Act.eval, h104, hs0]
          try go_simp
        · -- 41: 106 := Op.pick t102 (const (Value.bool true)) t105
          intro aq wq lq hI hl hdone hlater hold hd ho
          have h102 : aq.tmps.getD 102 undef = .bool false := hd 102 (by kernel_rfl)
          have h105 : aq.tmps.getD 105 undef = .bool false := hd 105 (by kernel_rfl)
          clear hd ho hdone hlater hold
          rw [Array.getD_eq_getD_getElem?] at h102 h105
          refine Reg.step2_val (.bool false) ?_ rfl hI trivial
          simp [execOp, Act.eval, h102, h105]
          try go_simp
        case hend =>
          intro wx hI
          simp only [Reg.fill, List.foldl_cons, List.foldl_nil, List.setIfInBounds_toArray, List.set_cons_zero, List.set_cons_succ]
          have hbx : Below w8.heap.size w8 wx := hI
          have HXx := Lib.hid (HX8.out.below hbx HX8.out.lt)
          have HUx := Lib.hid (HU8.out.below hbx)
          have HBx := Lib.hid (below_on HB8.out hbx)
          clear hI hbx HLX HLY
          have hs1 : 0 < S.size := by have := HL0.out; have := HSL.out; omega
          obtain ⟨d, hd, hdl⟩ : ∃ d : Nat, Int.tmod a2 (S.size : Int) = (d : Int) ∧ d < S.size := by
            have h1 := HCU.out.1
            have h2 : 0 ≤ a2 % (S.size : Int) := Int.emod_nonneg _ (by omega)
            have h3 : a2 % (S.size : Int) < (S.size : Int) := Int.emod_lt_of_pos _ (by omega)
            exact ⟨(a2 % (S.size : Int)).toNat, by rw [Int.tmod_eq_emod_of_nonneg h1]; omega, by omega⟩
          have hwi : IntKind.i64.wrap a2 = a2 := IntWalk.i64_in _ (by have := HCU.out; omega)
          have hsi : ¬ (S.size : Int) = 0 := by omega
          have hsz : S.size ≤ 100000 := by have := HLT.out; have := HSL.out; omega
          have hdi : (d : Int) ≤ (S.size : Int) := by omega
          have hdi2 : d ≤ S.size := by omega
          have HEX := Lib.hid (show S.extract 0 d = Lend.strOf ((txN C L).take d) by
            apply Lend.strOf_ext
            rw [Lib.extract_data, HS.out, Lend.strOf_data, List.drop_zero, Nat.sub_zero])
          have HPA := Lib.hid (fun W => Node.parse_any ((txN C L).take d) W (by rw [List.length_take]; have := HLT.out; omega))
          have HCT := Lib.hid (pn_cut HND.out HWC.out HWU.out (c := d) (by rw [← HSL.out]; exact hdl))
          rw [← HEX.out] at HPA
          clear hdl
          go_wp2_with fail
          refine (HPA.out wx).mono ?_
          clear HPA
          rintro e w9 ⟨kv3, bv3, rfl, hk3, hb3, hb9⟩
          have HX9 := Lib.hid (HXx.out.below hb9 HXx.out.lt)
          have HU9 := Lib.hid (HUx.out.below hb9)
          have HB9 := Lib.hid (below_on HBx.out hb9)
          obtain ⟨kz, kzc, hs1, _⟩ := own_shape hk3
          subst hs1
          obtain ⟨bz, bzc, hs2, _⟩ := own_shape hb3
          subst hs2
          have HV9 := Lib.hid (UR.of_own hb3)
          obtain ⟨D, hD⟩ : ∃ z, z = pnC ((txN C L).take d) := ⟨_, rfl⟩
          obtain ⟨M, hM⟩ : ∃ z, z = pnU ((txN C L).take d) := ⟨_, rfl⟩
          obtain ⟨E, hE⟩ : ∃ z, z = pnN ((txN C L).take d) := ⟨_, rfl⟩
          have hcs : (E = 4 ∧ D = [] ∧ M = []) ∨ (E = 0 ∧ D = C ∧ M.length < L.length) := by
            rcases HCT.out with h | ⟨m, h, hm⟩
            · obtain ⟨g1, g2, g3⟩ := pn_none h
              exact .inl ⟨by rw [hE, g1], by rw [hD, g2], by rw [hM, g3]⟩
            · obtain ⟨g1, g2, g3⟩ := pn_some h
              exact .inr ⟨by rw [hE, g1], by rw [hD, g2], by rw [hM, g3]; exact hm⟩
          rw [← hM] at HV9
          rw [← hD, ← hM, ← hE]
          clear hk3 hb3 hb9 hD hM hE
          obtain ⟨kn, hkn0⟩ : ∃ z, z = D.length := ⟨_, rfl⟩
          obtain ⟨zn, hzn0⟩ : ∃ z, z = M.length := ⟨_, rfl⟩
          have HZN := Lib.hid hzn0
          have HKN0 := Lib.hid hkn0
          rw [← hkn0, ← hzn0]
          rw [← hzn0] at HV9
          obtain ⟨w10, hw10⟩ : ∃ z, z = w9.alloc (.cells #[.slice kz kn kzc, .slice bz zn bzc] 31) := ⟨_, rfl⟩
          have hb10 : Below w9.heap.size w9 w10 := by rw [hw10]; exact below_new _ _
          have HZ10 := Lib.hid (show Has w10 w9.heap.size 31 [.slice kz kn kzc, .slice bz zn bzc] by rw [hw10]; exact Has.new w9 _ _)
          have HX10 := Lib.hid (HX9.out.below hb10 HX9.out.lt)
          have HU10 := Lib.hid (HU9.out.below hb10)
          have HV10 := Lib.hid (HV9.out.below hb10)
          have HB10 := Lib.hid (below_on HB9.out hb10)
          have HLX2 := Lib.hid (fun (W : World) (hb : Below w10.heap.size w10 W) => len_at (HU10.out.below hb) HBN.out)
          have HLZ := Lib.hid (fun (W : World) (hb : Below w10.heap.size w10 W) => len_at (HV10.out.below hb) HZN.out)
          obtain ⟨Z, hZ⟩ : ∃ z, z = w9.heap.size := ⟨_, rfl⟩
          rw [← hZ] at HZ10
          clear hb10 hkn0 hzn0
          go_upto_region 13 with fail
          rw [← hw10, ← hZ]
          clear hw10 hZ
          rcases hcs with ⟨rfl, hD, hM⟩ | ⟨rfl, hD, hM⟩
          · have hkn : kn = 0 := by rw [HKN0.out, hD]; rfl
            refine Reg.region_valsG (by kernel_rfl) [(118, .int .i64 4), (119, .bool true), (120, .bool true), (121, .pointer (some ⟨Z, 0, none⟩)), (122, .slice kz kn kzc), (123, .int .i64 (kn : Nat)), (124, .bool true), (125, .bool true), (126, .bool true), (127, undef), (128, undef), (129, undef), (130, undef), (131, undef), (132, undef), (133, undef), (134, undef), (135, undef), (136, undef), (137, undef), (138, undef), (139, undef), (140, undef), (141, undef), (142, undef), (143, undef), (144, undef), (145, undef), (146, undef), (147, .bool true), (6, .bool true)] (fun l wy => Below w10.heap.size w10 wy) (by kernel_rfl) (by kernel_rfl) [9, 10, 11, 12, 13, 14, 15, 16, 17, 18, 19, 20, 21, 22, 23, 24, 25, 26, 27, 28] (by kernel_rfl) ((Below.refl _ _).drew) ⟨?_, ?_, ?_, ?_, ?_, ?_, ?_, ?_, ?_, ?_, ?_, ?_, ?_, ?_, ?_, ?_, ?_, ?_, ?_, ?_, ?_, ?_, ?_, ?_, ?_, ?_, ?_, ?_, ?_, ?_, ?_, trivial⟩ ?hend
            · -- 0: 118 := Op.move t18
              intro aq wq lq hI hl hdone hlater hold hd ho
              have h18 : aq.tmps.getD 18 undef = .int .i64 4 := ho 18 (by kernel_rfl)
              clear hd ho hdone hlater hold
              exact Reg.step2_move (.tmp 18) rfl h18 hI trivial
            · -- 1: 119 := Op.binOp BinOp.eql 38 t118 (const (4:i64)) 38
              intro aq wq lq hI hl hdone hlater hold hd ho
              have h118 : aq.tmps.getD 118 undef = .int .i64 4 := hd 118 (by kernel_rfl)
              clear hd ho hdone hlater hold
              rw [Array.getD_eq_getD_getElem?] at h118
              refine Reg.step2_val (.bool true) ?_ rfl hI trivial
              simp [execOp, Act.eval, h118]
              try go_simp
            · -- 2: 120 := Op.move t119
              intro aq wq lq hI hl hdone hlater hold hd ho
              have h119 : aq.tmps.getD 119 undef = .bool true := hd 119 (by kernel_rfl)
              clear hd ho hdone hlater hold
              exact Reg.step2_move (.tmp 119) rfl h119 hI trivial
            · -- 3: 121 := Op.fieldAddr 31 t17 0
              intro aq wq lq hI hl hdone hlater hold hd ho
              have h17 : aq.tmps.getD 17 undef = .pointer (some ⟨Z, 0, none⟩) := ho 17 (by kernel_rfl)
              clear hd ho hdone hlater hold
              rw [Array.getD_eq_getD_getElem?] at h17
              refine Reg.step2_val (.pointer (some ⟨Z, 0, none⟩)) ?_ rfl hI trivial
              go_simp
            · -- 4: 122 := Op.load 26 t121
              intro aq wq lq hI hl hdone hlater hold hd ho
              have h121 : aq.tmps.getD 121 undef = .pointer (some ⟨Z, 0, none⟩) := hd 121 (by kernel_rfl)
              clear hd ho hdone hlater hold
              rw [Array.getD_eq_getD_getElem?] at h121
              have e0 : wq.cell? ⟨Z, 0, none⟩ = some (.slice kz kn kzc) := keep1 (HZ10.out.cell 0) hI
              refine Reg.step2_val (.slice kz kn kzc) ?_ rfl hI trivial
              go_simp
            · -- 5: 123 := Op.call ( builtin len, args := #(t122), argTypes := #(26) )
              intro aq wq lq hI hl hdone hlater hold hd ho
              have h122 : aq.tmps.getD 122 undef = .slice kz kn kzc := hd 122 (by kernel_rfl)
              clear hd ho hdone hlater hold
              rw [Array.getD_eq_getD_getElem?] at h122
              refine Reg.step2_val (.int .i64 (kn : Nat)) ?_ rfl hI trivial
              simp [execOp, Act.eval, h122]
              try go_simp
            · -- 6: 124 := Op.binOp BinOp.eql 3 t123 (const (0:i64)) 3
              intro aq wq lq hI hl hdone hlater hold hd ho
              have h123 : aq.tmps.getD 123 undef = .int .i64 (kn : Nat) := hd 123 (by kernel_rfl)
              clear hd ho hdone hlater hold
              rw [Array.getD_eq_getD_getElem?] at h123
              refine Reg.step2_val (.bool true) ?_ rfl hI trivial
              simp [execOp, Act.eval, h123, hkn]
              try go_simp
            · -- 7: 125 := Op.pick t120 t124 (const (Value.bool false))
              intro aq wq lq hI hl hdone hlater hold hd ho
              have h120 : aq.tmps.getD 120 undef = .bool true := hd 120 (by kernel_rfl)
              have h124 : aq.tmps.getD 124 undef = .bool true := hd 124 (by kernel_rfl)
              clear hd ho hdone hlater hold
              rw [Array.getD_eq_getD_getElem?] at h120 h124
              refine Reg.step2_val (.bool true) ?_ rfl hI trivial
              simp [execOp, Act.eval, h120, h124]
              try go_simp
            · -- 8: 126 := Op.move t125
              intro aq wq lq hI hl hdone hlater hold hd ho
              have h125 : aq.tmps.getD 125 undef = .bool true := hd 125 (by kernel_rfl)
              clear hd ho hdone hlater hold
              exact Reg.step2_move (.tmp 125) rfl h125 hI trivial
            · -- 9: 127 := Op.move t18
              intro aq wq lq hI hl hdone hlater hold hd ho
              exact Reg.stepG_skip rfl hI trivial
            · -- 10: 128 := Op.binOp BinOp.eql 38 t127 (const (0:i64)) 38
              intro aq wq lq hI hl hdone hlater hold hd ho
              exact Reg.stepG_skip rfl hI trivial
            · -- 11: 129 := Op.move t128
              intro aq wq lq hI hl hdone hlater hold hd ho
              exact Reg.stepG_skip rfl hI trivial
            · -- 12: 130 := Op.fieldAddr 31 t17 0
              intro aq wq lq hI hl hdone hlater hold hd ho
              exact Reg.stepG_skip rfl hI trivial
            · -- 13: 131 := Op.load 26 t130
              intro aq wq lq hI hl hdone hlater hold hd ho
              exact Reg.stepG_skip rfl hI trivial
            · -- 14: 132 := Op.call ( builtin len, args := #(t131), argTypes := #(26) )
              intro aq wq lq hI hl hdone hlater hold hd ho
              exact Reg.stepG_skip rfl hI trivial
            · -- 15: 133 := Op.fieldAddr 31 t7 0
              intro aq wq lq hI hl hdone hlater hold hd ho
              exact Reg.stepG_skip rfl hI trivial
            · -- 16: 134 := Op.load 26 t133
              intro aq wq lq hI hl hdone hlater hold hd ho
              exact Reg.stepG_skip rfl hI trivial
            · -- 17: 135 := Op.call ( builtin len, args := #(t134), argTypes := #(26) )
              intro aq wq lq hI hl hdone hlater hold hd ho
              exact Reg.stepG_skip rfl hI trivial
            · -- 18: 136 := Op.binOp BinOp.eql 3 t132 t135 3
              intro aq wq lq hI hl hdone hlater hold hd ho
              exact Reg.stepG_skip rfl hI trivial
            · -- 19: 137 := Op.pick t129 t136 (const (Value.bool false))
              intro aq wq lq hI hl hdone hlater hold hd ho
              exact Reg.stepG_skip rfl hI trivial
            · -- 20: 138 := Op.move t137
              intro aq wq lq hI hl hdone hlater hold hd ho
              exact Reg.stepG_skip rfl hI trivial
            · -- 21: 139 := Op.fieldAddr 31 t17 1
              intro aq wq lq hI hl hdone hlater hold hd ho
              exact Reg.stepG_skip rfl hI trivial
            · -- 22: 140 := Op.load 29 t139
              intro aq wq lq hI hl hdone hlater hold hd ho
              exact Reg.stepG_skip rfl hI trivial
            · -- 23: 141 := Op.call ( value (Operand.func 21), args := #(t140), argTypes
              intro aq wq lq hI hl hdone hlater hold hd ho
              exact Reg.stepG_skip rfl hI trivial
            · -- 24: 142 := Op.fieldAddr 31 t7 1
              intro aq wq lq hI hl hdone hlater hold hd ho
              exact Reg.stepG_skip rfl hI trivial
            · -- 25: 143 := Op.load 29 t142
              intro aq wq lq hI hl hdone hlater hold hd ho
              exact Reg.stepG_skip rfl hI trivial
            · -- 26: 144 := Op.call ( value (Operand.func 21), args := #(t143), argTypes
              intro aq wq lq hI hl hdone hlater hold hd ho
              exact Reg.stepG_skip rfl hI trivial
            · -- 27: 145 := Op.binOp BinOp.lss 3 t141 t144 3
              intro aq wq lq hI hl hdone hlater hold hd ho
              exact Reg.stepG_skip rfl hI trivial
            · -- 28: 146 := Op.pick t138 t145 (const (Value.bool false))
              intro aq wq lq hI hl hdone hlater hold hd ho
              exact Reg.stepG_skip rfl hI trivial
            · -- 29: 147 := Op.pick t126 (const (Value.bool true)) t146
              intro aq wq lq hI hl hdone hlater hold hd ho
              have h126 : aq.tmps.getD 126 undef = .bool true := hd 126 (by kernel_rfl)
              have h146 : aq.tmps.getD 146 undef = undef := hd 146 (by kernel_rfl)
              clear hd ho hdone hlater hold
              rw [Array.getD_eq_getD_getElem?] at h126 h146
              refine Reg.step2_val (.bool true) ?_ rfl hI trivial
              simp [execOp, Act.eval, h126, h146]
              try go_simp
            · -- 30: 6 := Op.assign t147
              intro aq wq lq hI hl hdone hlater hold hd ho
              have h147 : aq.tmps.getD 147 undef = .bool true := hd 147 (by kernel_rfl)
              clear hd ho hdone hlater hold
              exact Reg.step2_assign (.tmp 147) rfl h147 hI trivial
            case hend =>
              intro wy hI
              simp only [Reg.fill, List.foldl_cons, List.foldl_nil, List.setIfInBounds_toArray, List.set_cons_zero, List.set_cons_succ]
              have HBE := Lib.hid (below_on HB10.out (show Below w10.heap.size w10 wy from hI))
              clear hI
              go_wp2_with fail
              go_ret
              exact ⟨rfl, HBE.out⟩
          · have hkn : kn = cn := by rw [HKN0.out, hD, HCN.out]
            have hzn : zn < bn := by rw [HZN.out, HBN.out]; exact hM
            refine Reg.region_valsG (by kernel_rfl) [(118, .int .i64 0), (119, .bool false), (120, .bool false), (121, undef), (122, undef), (123, undef), (124, undef), (125, .bool false), (126, .bool false), (127, .int .i64 0), (128, .bool true), (129, .bool true), (130, .pointer (some ⟨Z, 0, none⟩)), (131, .slice kz kn kzc), (132, .int .i64 (kn : Nat)), (133, .pointer (some ⟨X, 0, none⟩)), (134, .slice ka cn kc), (135, .int .i64 (cn : Nat)), (136, .bool true), (137, .bool true), (138, .bool true), (139, .pointer (some ⟨Z, 1, none⟩)), (140, .agg #[.slice bz zn bzc]), (141, .int .i64 (zn : Nat)), (142, .pointer (some ⟨X, 1, none⟩)), (143, .agg #[.slice ba bn bc]), (144, .int .i64 (bn : Nat)), (145, .bool true), (146, .bool true), (147, .bool true), (6, .bool true)] (fun l wy => Below w10.heap.size w10 wy) (by kernel_rfl) (by kernel_rfl) [3, 4, 5, 6] (by kernel_rfl) ((Below.refl _ _).drew) ⟨?_, ?_, ?_, ?_, ?_, ?_, ?_, ?_, ?_, ?_, ?_, ?_, ?_, ?_, ?_, ?_, ?_, ?_, ?_, ?_, ?_, ?_, ?_, ?_, ?_, ?_, ?_, ?_, ?_, ?_, ?_, trivial⟩ ?hend
            · -- 0: 118 := Op.move t18
              intro aq wq lq hI hl hdone hlater hold hd ho
              have h18 : aq.tmps.getD 18 undef = .int .i64 0 := ho 18 (by kernel_rfl)
              clear hd ho hdone hlater hold
              exact Reg.step2_move (.tmp 18) rfl h18 hI trivial
            · -- 1: 119 := Op.binOp BinOp.eql 38 t118 (const (4:i64)) 38
              intro aq wq lq hI hl hdone hlater hold hd ho
              have h118 : aq.tmps.getD 118 undef = .int .i64 0 := hd 118 (by kernel_rfl)
              clear hd ho hdone hlater hold
              rw [Array.getD_eq_getD_getElem?] at h118
              refine Reg.step2_val (.bool false) ?_ rfl hI trivial
              simp [execOp, Act.eval, h118]
              try go_simp
            · -- 2: 120 := Op.move t119
              intro aq wq lq hI hl hdone hlater hold hd ho
              have h119 : aq.tmps.getD 119 undef = .bool false := hd 119 (by kernel_rfl)
              clear hd ho hdone hlater hold
              exact Reg.step2_move (.tmp 119) rfl h119 hI trivial
            · -- 3: 121 := Op.fieldAddr 31 t17 0
              intro aq wq lq hI hl hdone hlater hold hd ho
              exact Reg.stepG_skip rfl hI trivial
            · -- 4: 122 := Op.load 26 t121
              intro aq wq lq hI hl hdone hlater hold hd ho
              exact Reg.stepG_skip rfl hI trivial
            · -- 5: 123 := Op.call ( builtin len, args := #(t122), argTypes := #(26) )
              intro aq wq lq hI hl hdone hlater hold hd ho
              exact Reg.stepG_skip rfl hI trivial
            · -- 6: 124 := Op.binOp BinOp.eql 3 t123 (const (0:i64)) 3
              intro aq wq lq hI hl hdone hlater hold hd ho
              exact Reg.stepG_skip rfl hI trivial
            · -- 7: 125 := Op.pick t120 t124 (const (Value.bool false))
              intro aq wq lq hI hl hdone hlater hold hd ho
              have h120 : aq.tmps.getD 120 undef = .bool false := hd 120 (by kernel_rfl)
              have h124 : aq.tmps.getD 124 undef = undef := hd 124 (by kernel_rfl)
              clear hd ho hdone hlater hold
              rw [Array.getD_eq_getD_getElem?] at h120 h124
              refine Reg.step2_val (.bool false) ?_ rfl hI trivial
              simp [execOp, Act.eval, h120, h124]
              try go_simp
            · -- 8: 126 := Op.move t125
              intro aq wq lq hI hl hdone hlater hold hd ho
              have h125 : aq.tmps.getD 125 undef = .bool false := hd 125 (by kernel_rfl)
              clear hd ho hdone hlater hold
              exact Reg.step2_move (.tmp 125) rfl h125 hI trivial
            · -- 9: 127 := Op.move t18
              intro aq wq lq hI hl hdone hlater hold hd ho
              have h18 : aq.tmps.getD 18 undef = .int .i64 0 := ho 18 (by kernel_rfl)
              clear hd ho hdone hlater hold
              exact Reg.step2_move (.tmp 18) rfl h18 hI trivial
            · -- 10: 128 := Op.binOp BinOp.eql 38 t127 (const (0:i64)) 38
              intro aq wq lq hI hl hdone hlater hold hd ho
              have h127 : aq.tmps.getD 127 undef = .int .i64 0 := hd 127 (by kernel_rfl)
              clear hd ho hdone hlater hold
              rw [Array.getD_eq_getD_getElem?] at h127
              refine Reg.step2_val (.bool true) ?_ rfl hI trivial
              simp [execOp, Act.eval, h127]
              try go_simp
            · -- 11: 129 := Op.move t128
              intro aq wq lq hI hl hdone hlater hold hd ho
              have h128 : aq.tmps.getD 128 undef = .bool true := hd 128 (by kernel_rfl)
              clear hd ho hdone hlater hold
              exact Reg.step2_move (.tmp 128) rfl h128 hI trivial
            · -- 12: 130 := Op.fieldAddr 31 t17 0
              intro aq wq lq hI hl hdone hlater hold hd ho
              have h17 : aq.tmps.getD 17 undef = .pointer (some ⟨Z, 0, none⟩) := ho 17 (by kernel_rfl)
              clear hd ho hdone hlater hold
              rw [Array.getD_eq_getD_getElem?] at h17
              refine Reg.step2_val (.pointer (some ⟨Z, 0, none⟩)) ?_ rfl hI trivial
              go_simp
            · -- 13: 131 := Op.load 26 t130
              intro aq wq lq hI hl hdone hlater hold hd ho
              have h130 : aq.tmps.getD 130 undef = .pointer (some ⟨Z, 0, none⟩) := hd 130 (by kernel_rfl)
              clear hd ho hdone hlater hold
              rw [Array.getD_eq_getD_getElem?] at h130
              have e0 : wq.cell? ⟨Z, 0, none⟩ = some (.slice kz kn kzc) := keep1 (HZ10.out.cell 0) hI
              refine Reg.step2_val (.slice kz kn kzc) ?_ rfl hI trivial
              go_simp
            · -- 14: 132 := Op.call ( builtin len, args := #(t131), argTypes := #(26) )
              intro aq wq lq hI hl hdone hlater hold hd ho
              have h131 : aq.tmps.getD 131 undef = .slice kz kn kzc := hd 131 (by kernel_rfl)
              clear hd ho hdone hlater hold
              rw [Array.getD_eq_getD_getElem?] at h131
              refine Reg.step2_val (.int .i64 (kn : Nat)) ?_ rfl hI trivial
              simp [execOp, Act.eval, h131]
              try go_simp
            · -- 15: 133 := Op.fieldAddr 31 t7 0
              intro aq wq lq hI hl hdone hlater hold hd ho
              have h7 : aq.tmps.getD 7 undef = .pointer (some ⟨X, 0, none⟩) := ho 7 (by kernel_rfl)
              clear hd ho hdone hlater hold
              rw [Array.getD_eq_getD_getElem?] at h7
              refine Reg.step2_val (.pointer (some ⟨X, 0, none⟩)) ?_ rfl hI trivial
              go_simp
            · -- 16: 134 := Op.load 26 t133
              intro aq wq lq hI hl hdone hlater hold hd ho
              have h133 : aq.tmps.getD 133 undef = .pointer (some ⟨X, 0, none⟩) := hd 133 (by kernel_rfl)
              clear hd ho hdone hlater hold
              rw [Array.getD_eq_getD_getElem?] at h133
              have e0 : wq.cell? ⟨X, 0, none⟩ = some (.slice ka cn kc) := keep1 (HX10.out.cell 0) hI
              refine Reg.step2_val (.slice ka cn kc) ?_ rfl hI trivial
              go_simp
            · -- 17: 135 := Op.call ( builtin len, args := #(t134), argTypes := #(26) )
              intro aq wq lq hI hl hdone hlater hold hd ho
              have h134 : aq.tmps.getD 134 undef = .slice ka cn kc := hd 134 (by kernel_rfl)
              clear hd ho hdone hlater hold
              rw [Array.getD_eq_getD_getElem?] at h134
              refine Reg.step2_val (.int .i64 (cn : Nat)) ?_ rfl hI trivial
              simp [execOp, Act.eval, h134]
              try go_simp
            · -- 18: 136 := Op.binOp BinOp.eql 3 t132 t135 3
              intro aq wq lq hI hl hdone hlater hold hd ho
              have h132 : aq.tmps.getD 132 undef = .int .i64 (kn : Nat) := hd 132 (by kernel_rfl)
              have h135 : aq.tmps.getD 135 undef = .int .i64 (cn : Nat) := hd 135 (by kernel_rfl)
              clear hd ho hdone hlater hold
              rw [Array.getD_eq_getD_getElem?] at h132 h135
              refine Reg.step2_val (.bool true) ?_ rfl hI trivial
              simp [execOp, Act.eval, h132, h135, hkn]
              try go_simp
            · -- 19: 137 := Op.pick t129 t136 (const (Value.bool false))
              intro aq wq lq hI hl hdone hlater hold hd ho
              have h129 : aq.tmps.getD 129 undef = .bool true := hd 129 (by kernel_rfl)
              have h136 : aq.tmps.getD 136 undef = .bool true := hd 136 (by kernel_rfl)
              clear hd ho hdone hlater hold
              rw [Array.getD_eq_getD_getElem?] at h129 h136
              refine Reg.step2_val (.bool true) ?_ rfl hI trivial
              simp [execOp, Act.eval, h129, h136]
              try go_simp
            · -- 20: 138 := Op.move t137
              intro aq wq lq hI hl hdone hlater hold hd ho
              have h137 : aq.tmps.getD 137 undef = .bool true := hd 137 (by kernel_rfl)
              clear hd ho hdone hlater hold
              exact Reg.step2_move (.tmp 137) rfl h137 hI trivial
            · -- 21: 139 := Op.fieldAddr 31 t17 1
              intro aq wq lq hI hl hdone hlater hold hd ho
              have h17 : aq.tmps.getD 17 undef = .pointer (some ⟨Z, 0, none⟩) := ho 17 (by kernel_rfl)
              clear hd ho hdone hlater hold
              rw [Array.getD_eq_getD_getElem?] at h17
              refine Reg.step2_val (.pointer (some ⟨Z, 1, none⟩)) ?_ rfl hI trivial
              go_simp
            · -- 22: 140 := Op.load 29 t139
              intro aq wq lq hI hl hdone hlater hold hd ho
              have h139 : aq.tmps.getD 139 undef = .pointer (some ⟨Z, 1, none⟩) := hd 139 (by kernel_rfl)
              clear hd ho hdone hlater hold
              rw [Array.getD_eq_getD_getElem?] at h139
              have e0 : wq.cell? ⟨Z, 1, none⟩ = some (.slice bz zn bzc) := keep1 (HZ10.out.cell 1) hI
              refine Reg.step2_val (.agg #[.slice bz zn bzc]) ?_ rfl hI trivial
              go_simp
            · -- 23: 141 := Op.call ( value (Operand.func 21), args := #(t140), argTypes
              intro aq wq lq hI hl hdone hlater hold hd ho
              have h140 : aq.tmps.getD 140 undef = .agg #[.slice bz zn bzc] := hd 140 (by kernel_rfl)
              clear hd ho hdone hlater hold
              rw [Array.getD_eq_getD_getElem?] at h140
              refine Reg.step2_call 21 #[.agg #[.slice bz zn bzc]] ?_ ((HLZ.out wq hI).mono ?_)
              · clear hI
                simp [execOp]
                go_simp
              · rintro e w' ⟨rfl, hb⟩
                exact ⟨_, rfl, rfl, below_on hI hb, trivial⟩
            · -- 24: 142 := Op.fieldAddr 31 t7 1
              intro aq wq lq hI hl hdone hlater hold hd ho
              have h7 : aq.tmps.getD 7 undef = .pointer (some ⟨X, 0, none⟩) := ho 7 (by kernel_rfl)
              clear hd ho hdone hlater hold
              rw [Array.getD_eq_getD_getElem?] at h7
              refine Reg.step2_val (.pointer (some ⟨X, 1, none⟩)) ?_ rfl hI trivial
              go_simp
            · -- 25: 143 := Op.load 29 t142
              intro aq wq lq hI hl hdone hlater hold hd ho
              have h142 : aq.tmps.getD 142 undef = .pointer (some ⟨X, 1, none⟩) := hd 142 (by kernel_rfl)
              clear hd ho hdone hlater hold
              rw [Array.getD_eq_getD_getElem?] at h142
              have e0 : wq.cell? ⟨X, 1, none⟩ = some (.slice ba bn bc) := keep1 (HX10.out.cell 1) hI
              refine Reg.step2_val (.agg #[.slice ba bn bc]) ?_ rfl hI trivial
              go_simp
            · -- 26: 144 := Op.call ( value (Operand.func 21), args := #(t143), argTypes
              intro aq wq lq hI hl hdone hlater hold hd ho
              have h143 : aq.tmps.getD 143 undef = .agg #[.slice ba bn bc] := hd 143 (by kernel_rfl)
              clear hd ho hdone hlater hold
              rw [Array.getD_eq_getD_getElem?] at h143
              refine Reg.step2_call 21 #[.agg #[.slice ba bn bc]] ?_ ((HLX2.out wq hI).mono ?_)
              · clear hI
                simp [execOp]
                go_simp
              · rintro e w' ⟨rfl, hb⟩
                exact ⟨_, rfl, rfl, below_on hI hb, trivial⟩
            · -- 27: 145 := Op.binOp BinOp.lss 3 t141 t144 3
              intro aq wq lq hI hl hdone hlater hold hd ho
              have h141 : aq.tmps.getD 141 undef = .int .i64 (zn : Nat) := hd 141 (by kernel_rfl)
              have h144 : aq.tmps.getD 144 undef = .int .i64 (bn : Nat) := hd 144 (by kernel_rfl)
              clear hd ho hdone hlater hold
              rw [Array.getD_eq_getD_getElem?] at h141 h144
              refine Reg.step2_val (.bool true) ?_ rfl hI trivial
              simp [execOp, Act.eval, h141, h144, hzn]
              try go_simp
            · -- 28: 146 := Op.pick t138 t145 (const (Value.bool false))
              intro aq wq lq hI hl hdone hlater hold hd ho
              have h138 : aq.tmps.getD 138 undef = .bool true := hd 138 (by kernel_rfl)
              have h145 : aq.tmps.getD 145 undef = .bool true := hd 145 (by kernel_rfl)
              clear hd ho hdone hlater hold
              rw [Array.getD_eq_getD_getElem?] at h138 h145
              refine Reg.step2_val (.bool true) ?_ rfl hI trivial
              simp [execOp, Act.eval, h138, h145]
              try go_simp
            · -- 29: 147 := Op.pick t126 (const (Value.bool true)) t146
              intro aq wq lq hI hl hdone hlater hold hd ho
              have h126 : aq.tmps.getD 126 undef = .bool false := hd 126 (by kernel_rfl)
              have h146 : aq.tmps.getD 146 undef = .bool true := hd 146 (by kernel_rfl)
              clear hd ho hdone hlater hold
              rw [Array.getD_eq_getD_getElem?] at h126 h146
              refine Reg.step2_val (.bool true) ?_ rfl hI trivial
              simp [execOp, Act.eval, h126, h146]
              try go_simp
            · -- 30: 6 := Op.assign t147
              intro aq wq lq hI hl hdone hlater hold hd ho
              have h147 : aq.tmps.getD 147 undef = .bool true := hd 147 (by kernel_rfl)
              clear hd ho hdone hlater hold
              exact Reg.step2_assign (.tmp 147) rfl h147 hI trivial
            case hend =>
              intro wy hI
              simp only [Reg.fill, List.foldl_cons, List.foldl_nil, List.setIfInBounds_toArray, List.set_cons_zero, List.set_cons_succ]
              have HBE := Lib.hid (below_on HB10.out (show Below w10.heap.size w10 wy from hI))
              clear hI
              go_wp2_with fail
              go_ret
              exact ⟨rfl, HBE.out⟩

/-! ### THE ROW's STEP -/
set_option maxRecDepth 100000 in
theorem lifted (os : Os) (started : os.Started) (H : Type) (enc : TypeId × Value → H) :
    ReturnsInHanded {} Try.checked os 6 .any (Rows.nodeBackSpec.pre6 enc Try.prog Try.f6 Rows.nodeBackRow.domain false) (Rows.nodeBackSpec.post enc Try.prog Try.f6 false true false false) := by
  refine returnsInHanded_of_change_sized (C := Try.checked) own started (by kernel_rfl) Try.func6
    (ChangeSpec.witness6 (enc := enc) (C := Try.checked) false ⟨#[], #[.slice none 0 0, .slice none 0 0, .int .u16 0], []⟩ 8 (by kernel_rfl) (by kernel_rfl) (by kernel_rfl) (by kernel_rfl)) ?_
  intro W base args ds gs before hval0 hW hcnd hsz _
  have hval : ∀ (j : Nat) t v, Try.f6.params[j]? = some t → args[j]? = some v → Value.okWide Try.prog W .any base t v := hval0
  have hW' := hW
  obtain ⟨p, q, hA0, hV, rfl, hfz, hnd⟩ := hW
  have hA : DataW.TrodAll enc Try.prog W 0 (fun _ => true) true Try.f6.params.toList args.toList ds p := hA0
  rw [Try.params6] at hA hval
  obtain ⟨v0, vs0, d0, ds0, p0, q0, hargs, rfl, rfl, h0, r0⟩ := trodAll_cons hA
  obtain ⟨v1, vs1, d1, ds1, p1, q1, rfl, rfl, rfl, h1, r1⟩ := trodAll_cons r0
  obtain ⟨v2, vs2, d2, ds2, p2, q2, rfl, rfl, rfl, h2, r2⟩ := trodAll_cons r1
  obtain ⟨rfl, rfl, rfl⟩ := trodAll_nil r2
  obtain rfl : args = #[v0, v1, v2] := by cases args; simp_all
  obtain ⟨rfl, rfl⟩ := trodVars_none hV
  have k0 := h0
  have lt0 : ∀ x ∈ p0, x.block < W.heap.size := by obtain ⟨m, hm⟩ := k0; exact DataW.trod_lt m _ _ _ hm
  obtain ⟨a0', l0', c0', rfl⟩ := okWide_slice Try.underlying22 (hval 0 22 v0 rfl rfl)
  obtain ⟨a0, a0l, a0c, he0, w0, w0l, w0m⟩ := open_AR0 (c := .slice a0' l0' c0') (by obtain ⟨m, hm⟩ := h0; exact ⟨m, hm⟩) (fun n hn => by have := List.all_eq_true.1 hsz n (DataW.weights_mem_each (j := 0) rfl rfl n hn); simpa using this)
  simp only [Value.slice.injEq] at he0
  obtain ⟨rfl, rfl, rfl⟩ := he0
  have k1 := h1
  have lt1 : ∀ x ∈ p1, x.block < W.heap.size := by obtain ⟨m, hm⟩ := k1; exact DataW.trod_lt m _ _ _ hm
  obtain ⟨a1', l1', c1', rfl⟩ := okWide_slice Try.underlying23 (hval 1 23 v1 rfl rfl)
  obtain ⟨a1, a1l, a1c, he1, w1, w1l, w1m⟩ := open_AR1 (c := .slice a1' l1' c1') (by obtain ⟨m, hm⟩ := h1; exact ⟨m, hm⟩) (fun n hn => by have := List.all_eq_true.1 hsz n (DataW.weights_mem_each (j := 1) rfl rfl n hn); simpa using this)
  simp only [Value.slice.injEq] at he1
  obtain ⟨rfl, rfl, rfl⟩ := he1
  obtain ⟨a2, rfl, rfl, rfl, w2⟩ := open_int Try.underlying64 (hval 2 64 v2 rfl rfl) h2
  clear hA0 hval0
  refine (walk a0' l0' c0' a1' l1' c1' a2 W w0 w0l w0m w1 w1l w1m w2).mono fun e W' ⟨he, bel⟩ => ?_
  subst he
  exact ⟨_, rfl, _, _, _, [], _, [], hW', trodAll_mk1 (shut_bool Try.underlying4 _), (trodAll_cons_mk (Below.trod laidOut (by kernel_rfl) (of_decide_eq_true (by kernel_rfl)) k0 bel lt0) (trodAll_cons_mk (Below.trod laidOut (by kernel_rfl) (of_decide_eq_true (by kernel_rfl)) k1 bel lt1) (trodAll_cons_mk (shut_int Try.underlying64 w2) trodAll_mk0))), rfl, bel.frame _, fun h => by cases h⟩

theorem over : Rows.nodeBackRow.holds Try.pinned (OpenSpec.ofChange Rows.nodeBackSpec) :=
  OpenClaim.holds_of_wide 6 Try.f6 rfl rfl rfl rfl rfl rfl rfl ⟨rfl, rfl, rfl, rfl, rfl⟩ rfl rfl rfl rfl rfl (by kernel_rfl) Try.func6 (by kernel_rfl)
    (of_decide_eq_true (by kernel_rfl)) (by unfold Func.isWrapper; first | (rw [if_pos (by decide +kernel)]; kernel_rfl) | (rw [if_neg (by decide +kernel)]; exact ⟨rfl, rfl⟩))
    (fun os started H enc _ => lifted os started H enc)

/-- THE STATEMENT -/
theorem proved : Rows.NodeBackSaid := over
#print axioms proved
end Go.Proofs.Ytfclecbhfamomaa.nodeBack
