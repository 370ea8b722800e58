/- Layer 12 (rec): the law's own tame and same. -/
import Derived.Test.YtomhalcoomdadaaRefRecQ
namespace Go.Proofs.Ytomhalcoomdadaa.Rec
open Go Go.RowKit Go.Proofs.Ytomhalcoomdadaa Go.Proofs.Ytomhalcoomdadaa.Lend
set_option linter.unusedVariables false

/-- what tame makes -/
def tmV (u : Up) : List UInt8 := if 1 + u.kind % 3 = 1 then u.val.take 32 else []
def tmD (u : Up) : Int := if 1 + u.kind % 3 = 3 then u.delta else 0
def tmU (u : Up) : Up := ⟨1 + u.kind % 3, (u.key ++ [107]).take 16, tmV u, tmD u⟩
theorem tmU_ok {u : Up} (h : WfU u) : chkU (tmU u) = 0 ∧ WfU (tmU u) := by
  obtain ⟨k0, k1, d0, d1⟩ := h
  refine ⟨?_, ?_⟩
  · have hk : ((u.key ++ [107]).take 16).length ≤ 16 ∧ 1 ≤ ((u.key ++ [107]).take 16).length := by rw [List.length_take, List.length_append]; simp only [List.length_cons, List.length_nil]; omega
    have hv : (tmV u).length ≤ 32 := by unfold tmV; split <;> simp; omega
    unfold chkU tmU
    simp only
    rw [if_neg (by omega), if_neg]
    rintro (h | h | ⟨h, h'⟩ | ⟨h, h'⟩)
    · omega
    · omega
    · exact h' (by unfold tmV; rw [if_neg h])
    · exact h' (by unfold tmD; rw [if_neg h])
  · refine ⟨?_, ?_, ?_, ?_⟩
    · show 0 ≤ 1 + u.kind % 3; omega
    · show 1 + u.kind % 3 ≤ 255; omega
    · show 0 ≤ tmD u; unfold tmD; split <;> omega
    · show tmD u < 18446744073709551616; unfold tmD; split <;> omega
def aggU (u : Up) : Value := .agg #[.int .u8 u.kind, .string (Lend.strOf u.key), .string (Lend.strOf u.val), .int .u64 u.delta]
set_option maxHeartbeats 4000000 in
set_option maxRecDepth 100000 in
theorem tame_any (u : Up) (w : World) (h : WfU u) (hks : u.key.length ≤ 140737488355327) (hvs : u.val.length ≤ 140737488355327) :
    Calls Try.prog 14 #[aggU u] w fun e w' => e = .returned (aggU (tmU u)) ∧ Below w.heap.size w w' := by
  obtain ⟨k0, k1, d0, d1⟩ := h
  have HT := Lib.hid (show (tmU u).kind = 1 + u.kind % 3 ∧ (tmU u).key = (u.key ++ [107]).take 16 ∧ (tmU u).val = tmV u ∧ (tmU u).delta = tmD u from ⟨rfl, rfl, rfl, rfl⟩)
  have HV : Hid (tmV u = if 1 + u.kind % 3 = 1 then u.val.take 32 else []) := Lib.hid rfl
  have HD : Hid (tmD u = if 1 + u.kind % 3 = 3 then u.delta else 0) := Lib.hid rfl
  unfold aggU
  rw [HT.out.1, HT.out.2.1, HT.out.2.2.1, HT.out.2.2.2]
  obtain ⟨kd, hkd⟩ : ∃ x, x = u.kind := ⟨_, rfl⟩
  obtain ⟨dl, hdl⟩ : ∃ x, x = u.delta := ⟨_, rfl⟩
  obtain ⟨K, hK⟩ : ∃ x, x = Lend.strOf u.key := ⟨_, rfl⟩
  obtain ⟨V, hV⟩ : ∃ x, x = Lend.strOf u.val := ⟨_, rfl⟩
  have hks : K.size ≤ 140737488355327 := by rw [hK, ssize]; exact hks
  have hvs : V.size ≤ 140737488355327 := by rw [hV, ssize]; exact hvs
  obtain ⟨KT, hKT⟩ : ∃ x, x = Lend.strOf ((u.key ++ [107]).take 16) := ⟨_, rfl⟩
  obtain ⟨VT, hVT⟩ : ∃ x, x = Lend.strOf (u.val.take 32) := ⟨_, rfl⟩
  have HVE := Lib.hid (show V.extract 0 (min V.size 32) = VT from by
    rw [hVT]
    apply Lend.strOf_ext
    rw [Lib.extract_data, hV, Lend.strOf_data, List.drop_zero, Nat.sub_zero, ssize]
    rw [List.take_eq_take_iff]; omega)
  have HKE := Lib.hid (show (K ++ ⟨#[107]⟩).extract 0 (min (K.size + 1) 16) = KT from by
    rw [hKT]
    apply Lend.strOf_ext
    rw [Lib.extract_data, hK, List.drop_zero, Nat.sub_zero, ssize, show (Lend.strOf u.key ++ (⟨#[107]⟩ : ByteArray)).data.toList = u.key ++ [107] by simp [Lend.strOf]]
    rw [List.take_eq_take_iff, List.length_append]; simp only [List.length_cons, List.length_nil]; omega)
  have HKK : Hid (kd = u.kind) := Lib.hid hkd
  rw [← hkd] at k0 k1 HV HD
  rw [← hdl] at HD d0 d1
  rw [← hkd, ← hdl, ← hK, ← hV, ← hKT]
  have HVT := Lib.hid hVT
  clear hkd hdl hK hV HT hKT hVT
  have cK : ∃ n : Nat, n = min (K.size + 1) 16 ∧ ((16 < K.size + 1 ∧ n = 16) ∨ (¬ 16 < K.size + 1 ∧ n = K.size + 1)) := ⟨_, rfl, by omega⟩
  have cV : (32 < V.size ∧ min V.size 32 = 32) ∨ (¬ 32 < V.size ∧ min V.size 32 = V.size) := by omega
  have hB : Below w.heap.size w w := Below.refl _ _
  have HB := Lib.hid hB
  obtain ⟨n, hn, cK⟩ := cK
  rw [← hn] at HKE
  clear hn hB
  rcases (show kd % 3 = 0 ∨ kd % 3 = 1 ∨ kd % 3 = 2 by omega) with hr | hr | hr
  · have HVV := Lib.hid (show Lend.strOf (tmV u) = VT by rw [HV.out, if_pos (by omega), HVT.out])
    have HDD := Lib.hid (show tmD u = 0 by rw [HD.out, if_neg (by omega)])
    rw [HVV.out, HDD.out, hr, show (1 : Int) + 0 = 1 from rfl]
    rcases cK with ⟨hk, rfl⟩ | ⟨hk, rfl⟩
    all_goals
      have hke := HKE.out
      rcases cV with ⟨hv, hm⟩ | ⟨hv, hm⟩
      all_goals
        have hve := HVE.out
        rw [hm] at hve
        clear hm
        go_enter Try.func14, Try.ntmps14
        go_wp2_with fail
        exact bodyPost_ret (v := .agg #[.int .u8 1, .string KT, .string VT, .int .u64 0]) (by simp [results, Try.results14, go_sem]) rfl ⟨rfl, below_nw (below_new _ _) _⟩
  · have HVV := Lib.hid (show Lend.strOf (tmV u) = ⟨#[]⟩ by rw [HV.out, if_neg (by omega)]; rfl)
    have HDD := Lib.hid (show tmD u = 0 by rw [HD.out, if_neg (by omega)])
    rw [HVV.out, HDD.out, hr, show (1 : Int) + 1 = 2 from rfl]
    rcases cK with ⟨hk, rfl⟩ | ⟨hk, rfl⟩
    all_goals
      have hke := HKE.out
      rcases cV with ⟨hv, hm⟩ | ⟨hv, hm⟩
      all_goals
        have hve := HVE.out
        rw [hm] at hve
        clear hm
        go_enter Try.func14, Try.ntmps14
        go_wp2_with fail
        exact bodyPost_ret (v := .agg #[.int .u8 2, .string KT, .string ⟨#[]⟩, .int .u64 0]) (by simp [results, Try.results14, go_sem] <;> rfl) rfl ⟨rfl, below_nw (below_new _ _) _⟩
  · have HVV := Lib.hid (show Lend.strOf (tmV u) = ⟨#[]⟩ by rw [HV.out, if_neg (by omega)]; rfl)
    have HDD := Lib.hid (show tmD u = dl by rw [HD.out, if_pos (by omega)])
    rw [HVV.out, HDD.out, hr, show (1 : Int) + 2 = 3 from rfl]
    rcases cK with ⟨hk, rfl⟩ | ⟨hk, rfl⟩
    all_goals
      have hke := HKE.out
      rcases cV with ⟨hv, hm⟩ | ⟨hv, hm⟩
      all_goals
        have hve := HVE.out
        rw [hm] at hve
        clear hm
        go_enter Try.func14, Try.ntmps14
        go_wp2_with fail
        exact bodyPost_ret (v := .agg #[.int .u8 3, .string KT, .string ⟨#[]⟩, .int .u64 dl]) (by simp [results, Try.results14, go_sem] <;> rfl) rfl ⟨rfl, below_nw (below_new _ _) _⟩
set_option maxHeartbeats 4000000 in
set_option maxRecDepth 100000 in
theorem same_any {va vb : Value} {l : List Up} {w : World} (ha : UR w va l) (hb : UR w vb l) (hl : l.length ≤ 1000000) :
    Calls Try.prog 18 #[va, vb] w fun e w' => e = .returned (.bool true) ∧ Below w.heap.size w w' := by
  obtain ⟨a, ca, rfl, hca⟩ := ha.form
  obtain ⟨b, cb, rfl, hcb⟩ := hb.form
  obtain ⟨n, hn⟩ : ∃ n, n = l.length := ⟨_, rfl⟩
  have HN := Lib.hid hn
  have HA := Lib.hid hca
  have HBB := Lib.hid hcb
  rw [← hn] at hl ⊢
  clear hn ha hb hca hcb
  go_enter Try.func18, Try.ntmps18
  go_wp2_with fail
  go_loopw [13] (fun i wr => ∃ k : Nat, k ≤ n ∧ i = .int .i64 k ∧ ∃ q, wr = w.drewN q) (fun i _ => n - (intOf i).toNat)
  case atStart => exact ⟨0, Nat.zero_le _, rfl, 0, rfl⟩
  case round =>
    obtain ⟨k, hk, rfl, q, rfl⟩ := hrel
    by_cases hlt : k < n
    · have hke : k < l.length := by rw [← HN.out]; exact hlt
      have hki : (k : Int) < (n : Int) := by omega
      obtain ⟨g, off, rfl, hc⟩ := HA.out (by omega)
      obtain ⟨g', off', rfl, hd⟩ := HBB.out (by omega)
      obtain ⟨u, hu⟩ : ∃ u, u = l[k] := ⟨_, rfl⟩
      have hc := hc k hke
      have hd := hd k hke
      rw [← hu] at hc hd
      have c0 : w.cell? ⟨g, off + k * 4, none⟩ = some (.int .u8 u.kind) := hc 0 (by omega)
      have c1 : w.cell? ⟨g, off + k * 4 + 1, none⟩ = some (.string (Lend.strOf u.key)) := hc 1 (by omega)
      have c2 : w.cell? ⟨g, off + k * 4 + 2, none⟩ = some (.string (Lend.strOf u.val)) := hc 2 (by omega)
      have c3 : w.cell? ⟨g, off + k * 4 + 3, none⟩ = some (.int .u64 u.delta) := hc 3 (by omega)
      have d0 : w.cell? ⟨g', off' + k * 4, none⟩ = some (.int .u8 u.kind) := hd 0 (by omega)
      have d1 : w.cell? ⟨g', off' + k * 4 + 1, none⟩ = some (.string (Lend.strOf u.key)) := hd 1 (by omega)
      have d2 : w.cell? ⟨g', off' + k * 4 + 2, none⟩ = some (.string (Lend.strOf u.val)) := hd 2 (by omega)
      have d3 : w.cell? ⟨g', off' + k * 4 + 3, none⟩ = some (.int .u64 u.delta) := hd 3 (by omega)
      have hki0 : 0 ≤ (k : Int) := by omega
      clear hc hd hu hke
      go_wp2_with fail
      go_quiet (fail)
      go_wp2_with fail
      go_roundw
      case rel => exact ⟨k + 1, by omega, by go_num, _, rfl⟩
      case measure => simp [intOf]; omega
    · have hkn : ¬ (k : Int) < (n : Int) := by omega
      go_wp2_with fail
      go_ret
      exact ⟨rfl, below_drewN (Below.refl _ _) _⟩
end Go.Proofs.Ytomhalcoomdadaa.Rec
