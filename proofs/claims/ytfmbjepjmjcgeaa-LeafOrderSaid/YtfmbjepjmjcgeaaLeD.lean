/- Layer 16 (leaf): right, Of, parse, Parse; the document's Right, Parse. -/
import Derived.Test.YtfmbjepjmjcgeaaLeT
import Derived.Test.YtfmbjepjmjcgeaaRefLend
namespace Go.Proofs.Ytfmbjepjmjcgeaa.Leaf
open Go Go.RowKit Go.Proofs.Ytfmbjepjmjcgeaa Go.Proofs.Ytfmbjepjmjcgeaa.Lend Go.Proofs.Ytfmbjepjmjcgeaa.Rec Go.Proofs.Ytfmbjepjmjcgeaa.Msg Go.Proofs.Ytfmbjepjmjcgeaa.Buf
set_option linter.unusedVariables false

theorem split_at (l : List UInt8) (w : World) (h : l.length ≤ 1000000) : Calls Try.prog 57 #[.string (Lend.strOf l)] w fun e w' => e = .returned (.tuple #[.string (Lend.strOf (splT l)), .string (Lend.strOf (splR l)), .bool (splB l)]) ∧ Below w.heap.size w w' := by
  have := split_any (Lend.strOf l) w (by rw [ssize]; exact h)
  rwa [Lend.strOf_data] at this
theorem refsplit_at (l : List UInt8) (w : World) (h : l.length ≤ 1000000) : Calls Try.prog 41 #[.string (Lend.strOf l)] w fun e w' => e = .returned (.tuple #[.string (Lend.strOf (splT l)), .string (Lend.strOf (splR l)), .bool (splB l)]) ∧ Below w.heap.size w w' := by
  have := refsplit_any (Lend.strOf l) w (by rw [ssize]; exact h)
  rwa [Lend.strOf_data] at this
/-- an entry's texts, by their sizes -/
structure Siz (x : Up) (b : Bool) : Prop where
  ok : b = true → x.key ≠ [] ∧ x.key.length ≤ 16 ∧ x.val.length ≤ 32
  no : b = false → x.key = [] ∨ (x.key ≠ [] ∧ 16 < x.key.length) ∨ (x.key ≠ [] ∧ x.key.length ≤ 16 ∧ 32 < x.val.length)
theorem siz (x : Up) : Siz x (okB x) := by
  unfold okB
  refine ⟨fun h => ?_, fun h => ?_⟩
  · simp only [decide_eq_true_eq] at h
    refine ⟨fun e => ?_, h.2.1, h.2.2⟩
    rw [e] at h; simp at h
  · simp only [decide_eq_false_iff_not] at h
    by_cases e : x.key = []
    · exact .inl e
    · have : 0 < x.key.length := List.length_pos_iff.2 e
      by_cases h2 : 16 < x.key.length
      · exact .inr (.inl ⟨e, h2⟩)
      · exact .inr (.inr ⟨e, by omega, by omega⟩)
set_option maxRecDepth 100000 in
set_option maxHeartbeats 8000000 in
theorem right_any {v : Value} {L : List Up} {w : World} (h : ER w v L) (hl : L.length ≤ 100000) : Calls Try.prog 38 #[v] w fun e w' => e = .returned (.bool (riB L)) ∧ Below w.heap.size w w' := by
  obtain ⟨a, cap, rfl⟩ := h.slice
  have HU := Lib.hid h
  obtain ⟨n, hn⟩ : ∃ n, n = L.length := ⟨_, rfl⟩
  have HN := Lib.hid hn
  rw [← hn] at hl HU ⊢
  clear h hn
  go_enter Try.func38, Try.ntmps38
  go_wp2_with fail
  go_loopw [7] (fun i wr => ∃ k : Nat, i = .int .i64 k ∧ k ≤ n ∧ Hid (RiTo L k) ∧ Below w.heap.size w wr) (fun i _ => n - (intOf i).toNat)
  case atStart => exact ⟨0, rfl, Nat.zero_le _, Lib.hid ⟨fun i _ h => by omega, fun i _ h => by omega⟩, Below.refl _ _⟩
  case round =>
    obtain ⟨k, rfl, hk, HRT, hb⟩ := hrel
    rename World => wr
    have HB := Lib.hid hb
    clear hb
    by_cases hlt : k < n
    · have hki : (k : Int) < (n : Int) := by omega
      have hk0 : 0 ≤ (k : Int) := by omega
      have hke : k < L.length := by rw [← HN.out]; exact hlt
      obtain ⟨g, off, rfl⟩ := er_some HU.out (by omega)
      have c0 := er_key (HU.out.below HB.out) k hke
      have c1 := er_val (HU.out.below HB.out) k hke
      have hsz := siz L[k]
      have hks := ssize L[k].key
      have hvs := ssize L[k].val
      have HN1 := Lib.hid (fun (h : okB (L[k]'hke) = false) => riB_no1 hke h)
      have HSN := Lib.hid (fun (h1 : okB (L[k]'hke) = true) (h2 : ∀ (h0 : 0 < k), kLt (L[k - 1]'(by omega)).key (L[k]'hke).key = true) => HRT.out.snoc hke h1 h2)
      have HCP := Lib.hid (fun (h0 : 0 < k) => er_key (HU.out.below HB.out) (k - 1) (by omega))
      have HN2 := Lib.hid (fun (h0 : 0 < k) (h : kLt (L[k - 1]'(by omega)).key (L[k]'hke).key = false) => riB_no2 (L := L) (k := k - 1) (by omega) (by simp only [show k - 1 + 1 = k by omega]; exact h))
      obtain ⟨x, hx⟩ : ∃ x, x = L[k]'hke := ⟨_, rfl⟩
      rw [← hx] at c0 c1 hsz hks hvs
      simp only [← hx] at HN1 HSN HN2
      cases hok : okB x with
      | false =>
        have HR := Lib.hid (HN1.out hok)
        rw [hok] at hsz
        rcases hsz.no rfl with he | ⟨he, h16⟩ | ⟨he, h16, h32⟩
        · have hk1 : (Lend.strOf x.key).toList = [] := by rw [he, ByteArray.toList_eq]; rfl
          have hk2 : (Lend.strOf x.key).toList.isEmpty = true := by rw [hk1]; rfl
          have hk3 : (Lend.strOf x.key).size = 0 := by rw [hks, he]; rfl
          clear he
          generalize Lend.strOf x.key = K at *
          generalize Lend.strOf x.val = V at *
          clear hx hsz hok HN1 HSN HCP HN2 hke hks hvs
          go_wp2_with fail
          go_ret
          exact ⟨by rw [HR.out]; rfl, below_nw HB.out _⟩
        · have hk1 : ¬ (Lend.strOf x.key).toList = [] := str_ne he
          have hk2 : (Lend.strOf x.key).toList.isEmpty = false := by rw [List.isEmpty_eq_false_iff]; exact hk1
          have hk3 : 16 < (Lend.strOf x.key).size := by rw [hks]; exact h16
          have hk4 : ¬ (Lend.strOf x.key).size < 1 := by omega
          have hk5 : ¬ (Lend.strOf x.key).size = 0 := by omega
          clear he h16
          generalize Lend.strOf x.key = K at *
          generalize Lend.strOf x.val = V at *
          clear hx hsz hok HN1 HSN HCP HN2 hke hks hvs
          go_wp2_with fail
          go_ret
          exact ⟨by rw [HR.out]; rfl, below_nw HB.out _⟩
        · have hk1 : ¬ (Lend.strOf x.key).toList = [] := str_ne he
          have hk2 : (Lend.strOf x.key).toList.isEmpty = false := by rw [List.isEmpty_eq_false_iff]; exact hk1
          have hk3 : ¬ 16 < (Lend.strOf x.key).size := by rw [hks]; omega
          have hk4 : ¬ (Lend.strOf x.key).size < 1 := by rw [hks]; have := List.length_pos_iff.2 he; omega
          have hk5 : ¬ (Lend.strOf x.key).size = 0 := by omega
          have hk6 : 32 < (Lend.strOf x.val).size := by rw [hvs]; exact h32
          clear he h16 h32
          generalize Lend.strOf x.key = K at *
          generalize Lend.strOf x.val = V at *
          clear hx hsz hok HN1 HSN HCP HN2 hke hks hvs
          go_wp2_with fail
          go_ret
          exact ⟨by rw [HR.out]; rfl, below_nw HB.out _⟩
      | true =>
        rw [hok] at hsz
        obtain ⟨he, h16, h32⟩ := hsz.ok rfl
        have hk1 : ¬ (Lend.strOf x.key).toList = [] := str_ne he
        have hk2 : (Lend.strOf x.key).toList.isEmpty = false := by rw [List.isEmpty_eq_false_iff]; exact hk1
        have hk3 : ¬ 16 < (Lend.strOf x.key).size := by rw [hks]; omega
        have hk4 : ¬ (Lend.strOf x.key).size < 1 := by rw [hks]; have := List.length_pos_iff.2 he; omega
        have hk5 : ¬ (Lend.strOf x.key).size = 0 := by omega
        have hk6 : ¬ 32 < (Lend.strOf x.val).size := by rw [hvs]; omega
        by_cases h0 : k = 0
        · have HRS := Lib.hid (HSN.out hok (fun h => by omega))
          have hkz : ¬ 0 < k := by omega
          generalize Lend.strOf x.key = K at *
          generalize Lend.strOf x.val = V at *
          clear hx hsz hok HN1 HSN HCP HN2 hke hks hvs he h16 h32
          subst h0
          simp only [Nat.zero_mul, Nat.add_zero] at c0 c1
          obtain ⟨w2, hw2⟩ : ∃ z, z = wr.alloc (.cells #[.string K, .string V] 53) := ⟨_, rfl⟩
          have hb2 : Below wr.heap.size wr w2 := by rw [hw2]; exact below_new _ _
          have hx2 : Has w2 wr.heap.size 53 [.string K, .string V] := by rw [hw2]; exact Has.new wr [.string K, .string V] _
          have y0 : w2.cell? ⟨wr.heap.size, 0, none⟩ = some (.string K) := hx2.cell 0
          have y1 : w2.cell? ⟨wr.heap.size, 1, none⟩ = some (.string V) := hx2.cell 1
          have HB2 := Lib.hid (below_on HB.out hb2)
          clear hx2 hb2
          go_upto_region 4 with fail
          rw [← hw2]
          clear hw2 c0 c1
          go_wp2_with fail
          go_quiet (fail)
          go_wp2_with fail
          go_roundw
          case rel => exact ⟨1, rfl, by omega, HRS, bel_q HB2.out⟩
          case measure => simp [intOf]; omega
        · have h0' : 0 < k := by omega
          have hkz : (0 : Int) < (k : Int) := by omega
          have hcp := HCP.out h0'
          have hwr : IntKind.i64.wrap ((k : Int) - 1) = ((k - 1 : Nat) : Int) := by rw [show (k : Int) - 1 = ((k - 1 : Nat) : Int) by omega]; exact IntWalk.i64_in _ (by omega)
          have hbl := bl_str (L[k - 1]'(by omega)).key x.key
          obtain ⟨y, hy⟩ : ∃ y, y = L[k - 1]'(by omega) := ⟨_, rfl⟩
          have HS2 := Lib.hid (fun (h : kLt y.key x.key = true) => HSN.out hok (fun _ => by rw [← hy]; exact h))
          have HN3 := Lib.hid (fun (h : kLt y.key x.key = false) => HN2.out h0' (by rw [← hy]; exact h))
          rw [← hy] at hcp hbl
          obtain ⟨q, hq⟩ : ∃ q, q = k - 1 := ⟨_, rfl⟩
          rw [← hq] at hcp hwr
          have hqn : (q : Int) < (n : Int) := by omega
          cases hlk : kLt y.key x.key with
          | true =>
            rw [hlk] at hbl
            have HRS := Lib.hid (HS2.out hlk)
            generalize Lend.strOf y.key = Y at *
            generalize Lend.strOf x.key = K at *
            generalize Lend.strOf x.val = V at *
            clear hx hsz hok HN1 HSN HCP HN2 hke hks hvs he h16 h32 hy hq HS2 HN3 hlk
            obtain ⟨w2, hw2⟩ : ∃ z, z = wr.alloc (.cells #[.string K, .string V] 53) := ⟨_, rfl⟩
            have hb2 : Below wr.heap.size wr w2 := by rw [hw2]; exact below_new _ _
            have hx2 : Has w2 wr.heap.size 53 [.string K, .string V] := by rw [hw2]; exact Has.new wr [.string K, .string V] _
            have y0 : w2.cell? ⟨wr.heap.size, 0, none⟩ = some (.string K) := hx2.cell 0
            have y1 : w2.cell? ⟨wr.heap.size, 1, none⟩ = some (.string V) := hx2.cell 1
            have hcp2 := keep1 hcp hb2
            have HB2 := Lib.hid (below_on HB.out hb2)
            clear hx2 hb2
            go_upto_region 4 with fail
            rw [← hw2]
            clear hw2 c0 c1
            go_wp2_with fail
            go_quiet (fail)
            go_wp2_with fail
            go_roundw
            case rel => exact ⟨k + 1, by go_num, by omega, HRS, bel_q HB2.out⟩
            case measure => simp [intOf]; omega
          | false =>
            rw [hlk] at hbl
            have HR := Lib.hid (HN3.out hlk)
            generalize Lend.strOf y.key = Y at *
            generalize Lend.strOf x.key = K at *
            generalize Lend.strOf x.val = V at *
            clear hx hsz hok HN1 HSN HCP HN2 hke hks hvs he h16 h32 hy hq HS2 HN3 hlk
            obtain ⟨w2, hw2⟩ : ∃ z, z = wr.alloc (.cells #[.string K, .string V] 53) := ⟨_, rfl⟩
            have hb2 : Below wr.heap.size wr w2 := by rw [hw2]; exact below_new _ _
            have hx2 : Has w2 wr.heap.size 53 [.string K, .string V] := by rw [hw2]; exact Has.new wr [.string K, .string V] _
            have y0 : w2.cell? ⟨wr.heap.size, 0, none⟩ = some (.string K) := hx2.cell 0
            have y1 : w2.cell? ⟨wr.heap.size, 1, none⟩ = some (.string V) := hx2.cell 1
            have hcp2 := keep1 hcp hb2
            have HB2 := Lib.hid (below_on HB.out hb2)
            clear hx2 hb2
            go_upto_region 4 with fail
            rw [← hw2]
            clear hw2 c0 c1
            go_wp2_with fail
            go_quiet (fail)
            go_wp2_with fail
            go_ret
            exact ⟨by rw [HR.out]; rfl, bel_q HB2.out⟩
    · obtain rfl : k = n := by omega
      have hki : ¬ (k : Int) < (k : Int) := by omega
      have HR := Lib.hid (HRT.out.all (by rw [HN.out]; exact Nat.le_refl _))
      go_wp2_with fail
      go_ret
      exact ⟨by rw [HR.out]; rfl, HB.out⟩
set_option maxRecDepth 100000 in
set_option maxHeartbeats 8000000 in
theorem refright_any {v : Value} {L : List Up} {w : World} (h : ER w v L) (hl : L.length ≤ 100000) : Calls Try.prog 18 #[v] w fun e w' => e = .returned (.bool (riB L)) ∧ Below w.heap.size w w' := by
  obtain ⟨a, cap, rfl⟩ := h.slice
  have HU := Lib.hid h
  obtain ⟨n, hn⟩ : ∃ n, n = L.length := ⟨_, rfl⟩
  have HN := Lib.hid hn
  rw [← hn] at hl HU ⊢
  clear h hn
  go_enter Try.func18, Try.ntmps18
  go_wp2_with fail
  go_loopw [3] (fun i wr => ∃ k : Nat, i = .int .i64 k ∧ k ≤ n ∧ Hid (RiTo L k) ∧ Below w.heap.size w wr) (fun i _ => n - (intOf i).toNat)
  case atStart => exact ⟨0, rfl, Nat.zero_le _, Lib.hid ⟨fun i _ h => by omega, fun i _ h => by omega⟩, Below.refl _ _⟩
  case round =>
    obtain ⟨k, rfl, hk, HRT, hb⟩ := hrel
    rename World => wr
    have HB := Lib.hid hb
    clear hb
    by_cases hlt : k < n
    · have hki : (k : Int) < (n : Int) := by omega
      have hk0 : 0 ≤ (k : Int) := by omega
      have hke : k < L.length := by rw [← HN.out]; exact hlt
      obtain ⟨g, off, rfl⟩ := er_some HU.out (by omega)
      have c0 := er_key (HU.out.below HB.out) k hke
      have c1 := er_val (HU.out.below HB.out) k hke
      have hsz := siz L[k]
      have hks := ssize L[k].key
      have hvs := ssize L[k].val
      have HN1 := Lib.hid (fun (h : okB (L[k]'hke) = false) => riB_no1 hke h)
      have HSN := Lib.hid (fun (h1 : okB (L[k]'hke) = true) (h2 : ∀ (h0 : 0 < k), kLt (L[k - 1]'(by omega)).key (L[k]'hke).key = true) => HRT.out.snoc hke h1 h2)
      have HCP := Lib.hid (fun (h0 : 0 < k) => er_key (HU.out.below HB.out) (k - 1) (by omega))
      have HN2 := Lib.hid (fun (h0 : 0 < k) (h : kLt (L[k - 1]'(by omega)).key (L[k]'hke).key = false) => riB_no2 (L := L) (k := k - 1) (by omega) (by simp only [show k - 1 + 1 = k by omega]; exact h))
      obtain ⟨x, hx⟩ : ∃ x, x = L[k]'hke := ⟨_, rfl⟩
      rw [← hx] at c0 c1 hsz hks hvs
      simp only [← hx] at HN1 HSN HN2
      cases hok : okB x with
      | false =>
        have HR := Lib.hid (HN1.out hok)
        rw [hok] at hsz
        rcases hsz.no rfl with he | ⟨he, h16⟩ | ⟨he, h16, h32⟩
        · have hk1 : (Lend.strOf x.key).toList = [] := by rw [he, ByteArray.toList_eq]; rfl
          have hk2 : (Lend.strOf x.key).toList.isEmpty = true := by rw [hk1]; rfl
          have hk3 : (Lend.strOf x.key).size = 0 := by rw [hks, he]; rfl
          clear he
          generalize Lend.strOf x.key = K at *
          generalize Lend.strOf x.val = V at *
          clear hx hsz hok HN1 HSN HCP HN2 hke hks hvs
          go_wp2_with fail
          go_ret
          exact ⟨by rw [HR.out]; rfl, HB.out⟩
        · have hk1 : ¬ (Lend.strOf x.key).toList = [] := str_ne he
          have hk2 : (Lend.strOf x.key).toList.isEmpty = false := by rw [List.isEmpty_eq_false_iff]; exact hk1
          have hk3 : 16 < (Lend.strOf x.key).size := by rw [hks]; exact h16
          have hk4 : ¬ (Lend.strOf x.key).size < 1 := by omega
          have hk5 : ¬ (Lend.strOf x.key).size = 0 := by omega
          clear he h16
          generalize Lend.strOf x.key = K at *
          generalize Lend.strOf x.val = V at *
          clear hx hsz hok HN1 HSN HCP HN2 hke hks hvs
          go_wp2_with fail
          go_ret
          exact ⟨by rw [HR.out]; rfl, HB.out⟩
        · have hk1 : ¬ (Lend.strOf x.key).toList = [] := str_ne he
          have hk2 : (Lend.strOf x.key).toList.isEmpty = false := by rw [List.isEmpty_eq_false_iff]; exact hk1
          have hk3 : ¬ 16 < (Lend.strOf x.key).size := by rw [hks]; omega
          have hk4 : ¬ (Lend.strOf x.key).size < 1 := by rw [hks]; have := List.length_pos_iff.2 he; omega
          have hk5 : ¬ (Lend.strOf x.key).size = 0 := by omega
          have hk6 : 32 < (Lend.strOf x.val).size := by rw [hvs]; exact h32
          clear he h16 h32
          generalize Lend.strOf x.key = K at *
          generalize Lend.strOf x.val = V at *
          clear hx hsz hok HN1 HSN HCP HN2 hke hks hvs
          go_wp2_with fail
          go_ret
          exact ⟨by rw [HR.out]; rfl, HB.out⟩
      | true =>
        rw [hok] at hsz
        obtain ⟨he, h16, h32⟩ := hsz.ok rfl
        have hk1 : ¬ (Lend.strOf x.key).toList = [] := str_ne he
        have hk2 : (Lend.strOf x.key).toList.isEmpty = false := by rw [List.isEmpty_eq_false_iff]; exact hk1
        have hk3 : ¬ 16 < (Lend.strOf x.key).size := by rw [hks]; omega
        have hk4 : ¬ (Lend.strOf x.key).size < 1 := by rw [hks]; have := List.length_pos_iff.2 he; omega
        have hk5 : ¬ (Lend.strOf x.key).size = 0 := by omega
        have hk6 : ¬ 32 < (Lend.strOf x.val).size := by rw [hvs]; omega
        by_cases h0 : k = 0
        · have HRS := Lib.hid (HSN.out hok (fun h => by omega))
          have hkz : ¬ 0 < k := by omega
          generalize Lend.strOf x.key = K at *
          generalize Lend.strOf x.val = V at *
          clear hx hsz hok HN1 HSN HCP HN2 hke hks hvs he h16 h32
          subst h0
          simp only [Nat.zero_mul, Nat.add_zero] at c0 c1
          go_wp2_with fail
          go_quiet (fail)
          go_wp2_with fail
          go_roundw
          case rel => exact ⟨1, rfl, by omega, HRS, bel_q HB.out⟩
          case measure => simp [intOf]; omega
        · have h0' : 0 < k := by omega
          have hkz : (0 : Int) < (k : Int) := by omega
          have hcp := HCP.out h0'
          have hwr : IntKind.i64.wrap ((k : Int) - 1) = ((k - 1 : Nat) : Int) := by rw [show (k : Int) - 1 = ((k - 1 : Nat) : Int) by omega]; exact IntWalk.i64_in _ (by omega)
          have hbl := bl_str (L[k - 1]'(by omega)).key x.key
          obtain ⟨y, hy⟩ : ∃ y, y = L[k - 1]'(by omega) := ⟨_, rfl⟩
          have HS2 := Lib.hid (fun (h : kLt y.key x.key = true) => HSN.out hok (fun _ => by rw [← hy]; exact h))
          have HN3 := Lib.hid (fun (h : kLt y.key x.key = false) => HN2.out h0' (by rw [← hy]; exact h))
          rw [← hy] at hcp hbl
          obtain ⟨q, hq⟩ : ∃ q, q = k - 1 := ⟨_, rfl⟩
          rw [← hq] at hcp hwr
          have hqn : (q : Int) < (n : Int) := by omega
          cases hlk : kLt y.key x.key with
          | true =>
            rw [hlk] at hbl
            have HRS := Lib.hid (HS2.out hlk)
            generalize Lend.strOf y.key = Y at *
            generalize Lend.strOf x.key = K at *
            generalize Lend.strOf x.val = V at *
            clear hx hsz hok HN1 HSN HCP HN2 hke hks hvs he h16 h32 hy hq HS2 HN3 hlk
            go_wp2_with fail
            go_quiet (fail)
            go_wp2_with fail
            go_roundw
            case rel => exact ⟨k + 1, by go_num, by omega, HRS, bel_q HB.out⟩
            case measure => simp [intOf]; omega
          | false =>
            rw [hlk] at hbl
            have HR := Lib.hid (HN3.out hlk)
            generalize Lend.strOf y.key = Y at *
            generalize Lend.strOf x.key = K at *
            generalize Lend.strOf x.val = V at *
            clear hx hsz hok HN1 HSN HCP HN2 hke hks hvs he h16 h32 hy hq HS2 HN3 hlk
            go_wp2_with fail
            go_quiet (fail)
            go_wp2_with fail
            go_ret
            exact ⟨by rw [HR.out]; rfl, bel_q HB.out⟩
    · obtain rfl : k = n := by omega
      have hki : ¬ (k : Int) < (k : Int) := by omega
      have HR := Lib.hid (HRT.out.all (by rw [HN.out]; exact Nat.le_refl _))
      go_wp2_with fail
      go_ret
      exact ⟨by rw [HR.out]; rfl, HB.out⟩
/-- what Of answers, Parse, the document's Parse -/
def OfP (w : World) (L : List Up) (e : Ending) (w' : World) : Prop := ∃ v', e = .returned (.tuple #[.agg #[v'], .int .i64 (ofN L)]) ∧ EA w' w.heap.size v' (ofE L) ∧ Below w.heap.size w w'
def PrP (w : World) (s : List UInt8) (e : Ending) (w' : World) : Prop := ∃ v', e = .returned (.tuple #[.agg #[v'], .int .i64 (paN s)]) ∧ EA w' w.heap.size v' (paE s) ∧ Below w.heap.size w w'
def RpP (w : World) (s : List UInt8) (e : Ending) (w' : World) : Prop := ∃ v', e = .returned (.tuple #[v', .int .i64 (paN s)]) ∧ ED w' w.heap.size v' (paE s) ∧ Below w.heap.size w w'
set_option maxRecDepth 100000 in
set_option maxHeartbeats 4000000 in
theorem of_l {w : World} {v : Value} {L : List Up} (h : ER w v L) (hl : L.length ≤ 100000) : Calls Try.prog 17 #[v] w (OfP w L) := by
  obtain ⟨w1, hw1⟩ : ∃ x, x = w.alloc (.cells #[.slice none 0 0] 25) := ⟨_, rfl⟩
  have HZ := Lib.hid (show Has w1 w.heap.size 25 [.slice none 0 0] by rw [hw1]; exact Has.new w [.slice none 0 0] _)
  have HB := Lib.hid (show Below w.heap.size w w1 by rw [hw1]; exact below_new w _)
  have HU := Lib.hid (h.below HB.out)
  have HS := Lib.hid (show w1.heap.size = w.heap.size + 1 by rw [hw1]; simp)
  have HRI := Lib.hid (right_any HU.out hl)
  have HCL := Lib.hid (fun (W : World) (hb : Below w1.heap.size w1 W) => eclone_any (HU.out.below hb) (by omega))
  cases hr : riB L with
  | true =>
    rw [hr] at HRI
    have HE := Lib.hid (show ofN L = 0 ∧ ofE L = L by unfold ofN ofE; rw [hr]; exact ⟨rfl, rfl⟩)
    clear h hl hr
    go_enter Try.func17, Try.ntmps17
    go_wp2_with fail
    rw [← hw1]
    clear hw1
    refine HRI.out.mono ?_
    rintro e w2 ⟨rfl, hb2⟩
    have HC2 := Lib.hid (HCL.out w2 hb2)
    have HZ2 := Lib.hid (HZ.out.below hb2 HZ.out.lt)
    have HB2 := Lib.hid (below_on HB.out hb2)
    have HS2 := Lib.hid (show w.heap.size < w2.heap.size from HZ2.out.lt)
    clear hb2
    go_wp2_with fail
    refine HC2.out.mono ?_
    rintro e w3 ⟨v3, rfl, hr3, hb3⟩
    have HB3 := Lib.hid (below_on HB2.out hb3)
    have hz3 := HZ2.out.below hb3 HZ2.out.lt
    have e0 := hz3.cell 0
    have f0 := hz3.frozen 0
    simp only [List.getElem?_cons_zero] at e0
    have HR3 := Lib.hid (own_base (ro_far hr3 HS2.out v3) (show w.heap.size ≤ w2.heap.size from Nat.le_of_lt HS2.out))
    obtain ⟨ao, cp, rfl, _⟩ := own_shape hr3
    clear hb3 hz3 hr3
    go_wp2_with fail
    exact bodyPost_ret (v := .tuple #[.agg #[.slice ao L.length cp], .int .i64 0]) (by simp [results, Try.results17, go_sem, e0]) rfl ⟨_, by rw [HE.out.1], by rw [HE.out.2]; exact HR3.out, bel_st HB3.out⟩
  | false =>
    rw [hr] at HRI
    have HE := Lib.hid (show ofN L = 2 ∧ ofE L = [] by unfold ofN ofE; rw [hr]; exact ⟨rfl, rfl⟩)
    clear h hl hr HCL
    go_enter Try.func17, Try.ntmps17
    go_wp2_with fail
    rw [← hw1]
    clear hw1
    refine HRI.out.mono ?_
    rintro e w2 ⟨rfl, hb2⟩
    have HB2 := Lib.hid (below_on HB.out hb2)
    have hz3 := HZ.out.below hb2 HZ.out.lt
    have e0 := hz3.cell 0
    have f0 := hz3.frozen 0
    simp only [List.getElem?_cons_zero] at e0
    clear hb2 hz3
    go_wp2_with fail
    exact bodyPost_ret (v := .tuple #[.agg #[.slice none 0 0], .int .i64 2]) (by simp [results, Try.results17, go_sem, e0]) rfl ⟨_, by rw [HE.out.1], by rw [HE.out.2]; exact World.ownsRow_nil _ _ _ _, bel_st HB2.out⟩
theorem spl_le {l : List UInt8} (h : splB l = false) : splT l = [] ∧ splR l = [] := spl_no h
theorem splR_le (l : List UInt8) : (splR l).length ≤ l.length := by
  cases h : splB l with
  | true => exact Nat.le_of_lt (splR_lt h)
  | false => rw [(spl_no h).2]; simp
/-- what parse answers -/
def P1P (w : World) (s : List UInt8) (e : Ending) (w' : World) : Prop := ∃ k v r : List UInt8, ∃ b, e = .returned (.tuple #[.agg #[.string (Lend.strOf k), .string (Lend.strOf v)], .string (Lend.strOf r), .bool b]) ∧ (b = true → pre1 s = some (enU k v, r)) ∧ (b = false → pre1 s = none) ∧ Below w.heap.size w w'
set_option maxRecDepth 100000 in
set_option maxHeartbeats 4000000 in
theorem parse1_any (s : List UInt8) (w : World) (hl : s.length ≤ 1000000) : Calls Try.prog 40 #[.string (Lend.strOf s)] w (P1P w s) := by
  obtain ⟨w1, hw1⟩ : ∃ x, x = w.alloc (.cells #[.string ⟨#[]⟩, .string ⟨#[]⟩] 53) := ⟨_, rfl⟩
  have HZ := Lib.hid (show Has w1 w.heap.size 53 [.string ⟨#[]⟩, .string ⟨#[]⟩] by rw [hw1]; exact Has.new w [.string ⟨#[]⟩, .string ⟨#[]⟩] _)
  have HB := Lib.hid (show Below w.heap.size w w1 by rw [hw1]; exact below_new w _)
  have HSP := Lib.hid (fun W => split_at s W hl)
  have HSQ := Lib.hid (fun W => split_at (splR s) W (by have := splR_le s; omega))
  have hze : (zeroValue 53).run Try.prog w = .ok (.agg #[.string ⟨#[]⟩, .string ⟨#[]⟩]) w := zero_e w
  cases h1 : splB s with
  | false =>
    have HP := Lib.hid (show pre1 s = none by unfold pre1; rw [h1, if_neg (by simp)])
    rw [h1] at HSP
    go_enter Try.func40, Try.ntmps40
    go_wp2_with fail
    rw [← hw1]
    clear hw1 h1 hl
    refine (HSP.out w1).mono ?_
    rintro e w2 ⟨rfl, hb2⟩
    have HB2 := Lib.hid (below_on HB.out hb2)
    have hz2 := HZ.out.below hb2 HZ.out.lt
    have e0 := hz2.cell 0
    have e1 := hz2.cell 1
    have f0 := hz2.frozen 0
    have f1 := hz2.frozen 1
    simp only [List.getElem?_cons_zero, List.getElem?_cons_succ] at e0 e1
    clear hb2 hz2
    go_wp2_with fail
    exact bodyPost_ret (v := .tuple #[.agg #[.string ⟨#[]⟩, .string ⟨#[]⟩], .string ⟨#[]⟩, .bool false]) (by simp [results, Try.results40, go_sem, e0, e1]) rfl ⟨[], [], [], false, rfl, (fun h => by cases h), fun _ => HP.out, bel_st (bel_st HB2.out)⟩
  | true =>
    rw [h1] at HSP
    obtain ⟨b, hb⟩ : ∃ b, b = splB (splR s) := ⟨_, rfl⟩
    rw [← hb] at HSQ
    have HP := Lib.hid (show (b = true → pre1 s = some (enU (splT s) (splT (splR s)), splR (splR s))) ∧ (b = false → pre1 s = none) by
      unfold pre1
      rw [h1, if_pos rfl, ← hb]
      exact ⟨fun h => by rw [h, if_pos rfl], fun h => by rw [h, if_neg (by simp)]⟩)
    clear hb h1 hl
    go_enter Try.func40, Try.ntmps40
    go_wp2_with fail
    rw [← hw1]
    clear hw1
    refine (HSP.out w1).mono ?_
    rintro e w2 ⟨rfl, hb2⟩
    have HB2 := Lib.hid (below_on HB.out hb2)
    have HZ2 := Lib.hid (HZ.out.below hb2 HZ.out.lt)
    clear hb2
    go_wp2_with fail
    refine (HSQ.out w2).mono ?_
    rintro e w3 ⟨rfl, hb3⟩
    have HB3 := Lib.hid (below_on HB2.out hb3)
    have hz2 := HZ2.out.below hb3 HZ2.out.lt
    have e0 := hz2.cell 0
    have e1 := hz2.cell 1
    have f0 := hz2.frozen 0
    have f1 := hz2.frozen 1
    simp only [List.getElem?_cons_zero, List.getElem?_cons_succ] at e0 e1
    clear hb3 hz2
    go_wp2_with fail
    exact bodyPost_ret (v := .tuple #[.agg #[.string (Lend.strOf (splT s)), .string (Lend.strOf (splT (splR s)))], .string (Lend.strOf (splR (splR s))), .bool b]) (by simp [results, Try.results40, go_sem, e0, e1]) rfl ⟨_, _, _, b, rfl, HP.out.1, HP.out.2, bel_st (bel_st HB3.out)⟩
def lenOf : Value → Nat
  | .string b => b.size
  | _ => 0
theorem str_ne' {l : List UInt8} (h : l ≠ []) : (Lend.strOf l).toList.isEmpty = false := by
  rw [List.isEmpty_eq_false_iff]; exact str_ne h
theorem strOf0 : Lend.strOf [] = ⟨#[]⟩ := rfl
/-- what stands while Parse goes -/
structure Pnt (w w1 : World) (m : List Up) (v : Value) (wr : World) : Prop where
  ea : EA wr w1.heap.size v m
  bel : Below w1.heap.size w1 wr
set_option maxRecDepth 100000 in
set_option maxHeartbeats 8000000 in
theorem lparse_any (s : List UInt8) (w : World) (hs : s.length ≤ 100000) : Calls Try.prog 20 #[.string (Lend.strOf s)] w (PrP w s) := by
  obtain ⟨w1, hw1⟩ : ∃ x, x = w.alloc (.cells #[.slice none 0 0] 25) := ⟨_, rfl⟩
  have HZ := Lib.hid (show Has w1 w.heap.size 25 [.slice none 0 0] by rw [hw1]; exact Has.new w [.slice none 0 0] _)
  have HB1 := Lib.hid (show Below w.heap.size w w1 by rw [hw1]; exact below_new w _)
  have HS1 := Lib.hid (show w1.heap.size = w.heap.size + 1 by rw [hw1]; simp)
  have HL := Lib.hid hs
  go_enter Try.func20, Try.ntmps20
  go_wp2_with fail
  rw [← hw1]
  clear hw1
  go_loopw [0, 4] (fun sv ov wr => ∃ (r : List UInt8) (m : List Up) (v : Value), v = ov ∧ sv = .string (Lend.strOf r) ∧ preL s = (preL r).map (m ++ ·) ∧ m.length + r.length ≤ s.length ∧ Pnt w w1 m v wr) (fun sv _ _ => lenOf sv)
  case atStart => exact ⟨s, [], _, rfl, rfl, by cases preL s <;> rfl, by simp, ⟨World.ownsRow_nil _ _ _ _, Below.refl _ _⟩⟩
  case round =>
    obtain ⟨r, m, v, rfl, rfl, hpl, hln, hpn⟩ := hrel
    rename World => wr
    have HPL := Lib.hid hpl
    have HLN := Lib.hid hln
    have HP := Lib.hid hpn
    have HZW := Lib.hid (HZ.out.below hpn.bel HZ.out.lt)
    clear hpl hln hpn
    by_cases hr0 : r = []
    · subst hr0
      have HPS := Lib.hid (show preL s = some m by rw [HPL.out, preL_nil]; simp)
      have hri := right_any (ER.of_own HP.out.ea) (by have := HLN.out; omega)
      obtain ⟨ao, cp, rfl, _⟩ := own_shape HP.out.ea
      rw [strOf0]
      cases hb : riB m with
      | true =>
        rw [hb] at hri
        have HE := Lib.hid (show paN s = 0 ∧ paE s = m by unfold paN paE; rw [HPS.out]; simp [hb])
        clear hb
        go_wp2_with fail
        refine hri.mono ?_
        clear hri
        rintro e w3 ⟨rfl, hb3⟩
        have HB3 := Lib.hid (below_on HB1.out (HP.out.bel.trans (hb3.mono HP.out.bel.size)))
        have hz3 := HZW.out.below hb3 HZW.out.lt
        have e0 := hz3.cell 0
        have f0 := hz3.frozen 0
        simp only [List.getElem?_cons_zero] at e0
        have HR3 := Lib.hid (own_base (ro_far (own_bel HP.out.ea hb3) (show w.heap.size < w1.heap.size by rw [HS1.out]; omega) (.slice ao m.length cp)) (show w.heap.size ≤ w1.heap.size by rw [HS1.out]; omega))
        clear hb3 hz3
        go_wp2_with fail
        exact bodyPost_ret (v := .tuple #[.agg #[.slice ao m.length cp], .int .i64 0]) (by simp [results, Try.results20, go_sem, e0]) rfl ⟨_, by rw [HE.out.1], by rw [HE.out.2]; exact HR3.out, bel_st HB3.out⟩
      | false =>
        rw [hb] at hri
        have HE := Lib.hid (show paN s = 4 ∧ paE s = [] by unfold paN paE; rw [HPS.out]; simp [hb])
        clear hb
        go_wp2_with fail
        refine hri.mono ?_
        clear hri
        rintro e w3 ⟨rfl, hb3⟩
        have HB3 := Lib.hid (below_on HB1.out (HP.out.bel.trans (hb3.mono HP.out.bel.size)))
        have hz3 := HZW.out.below hb3 HZW.out.lt
        have e0 := hz3.cell 0
        have f0 := hz3.frozen 0
        simp only [List.getElem?_cons_zero] at e0
        clear hb3 hz3
        go_wp2_with fail
        exact bodyPost_ret (v := .tuple #[.agg #[.slice none 0 0], .int .i64 4]) (by simp [results, Try.results20, go_sem, e0]) rfl ⟨_, by rw [HE.out.1], by rw [HE.out.2]; exact World.ownsRow_nil _ _ _ _, bel_st HB3.out⟩
    · have ha0 := str_ne hr0
      have ha1 := str_ne' hr0
      have hpa := parse1_any r wr (by have := HLN.out; have := HL.out; omega)
      have HR0 := Lib.hid hr0
      have HSZ := Lib.hid (ssize r)
      obtain ⟨T, hT⟩ : ∃ T, T = Lend.strOf r := ⟨_, rfl⟩
      rw [← hT] at ha0 ha1 hpa HSZ ⊢
      clear hr0 hT
      go_wp2_with fail
      refine hpa.mono ?_
      clear hpa
      rintro e w2 ⟨k, x, r2, b, rfl, hbt, hbf, hb2⟩
      have HBT := Lib.hid hbt
      have HBF := Lib.hid hbf
      have HB2 := Lib.hid (HP.out.bel.trans (hb2.mono HP.out.bel.size))
      have HEA := Lib.hid (own_bel HP.out.ea hb2)
      have HZ2 := Lib.hid (HZW.out.below hb2 HZW.out.lt)
      clear hb2 hbt hbf
      cases b with
      | false =>
        have HE := Lib.hid (show paN s = 4 ∧ paE s = [] by
          have h0 := preL_no HR0.out (HBF.out rfl)
          have h1 : preL s = none := by rw [HPL.out, h0]; rfl
          unfold paN paE; rw [h1]; exact ⟨rfl, rfl⟩)
        obtain ⟨w3, hw3⟩ : ∃ z, z = w2.alloc (.cells #[.string (Lend.strOf k), .string (Lend.strOf x)] 53) := ⟨_, rfl⟩
        have hb3 : Below w2.heap.size w2 w3 := by rw [hw3]; exact below_new _ _
        have HB3 := Lib.hid (below_on HB1.out (HB2.out.trans (hb3.mono HB2.out.size)))
        have hz3 := HZ2.out.below hb3 HZ2.out.lt
        have e0 := hz3.cell 0
        have f0 := hz3.frozen 0
        simp only [List.getElem?_cons_zero] at e0
        clear hz3 hb3
        go_upto_region 4 with fail
        rw [← hw3]
        clear hw3
        go_wp2_with fail
        exact bodyPost_ret (v := .tuple #[.agg #[.slice none 0 0], .int .i64 4]) (by simp [results, Try.results20, go_sem, e0]) rfl ⟨_, by rw [HE.out.1], by rw [HE.out.2]; exact World.ownsRow_nil _ _ _ _, bel_st HB3.out⟩
      | true =>
        have hpr := HBT.out rfl
        have HPL2 := Lib.hid (show preL s = (preL r2).map ((m ++ [enU k x]) ++ ·) by
          rw [HPL.out, preL_yes HR0.out hpr]
          cases preL r2 <;> simp)
        have HLT := Lib.hid (pre1_lt hpr)
        obtain ⟨w3, hw3⟩ : ∃ z, z = w2.alloc (.cells #[.string (Lend.strOf k), .string (Lend.strOf x)] 53) := ⟨_, rfl⟩
        have hb3 : Below w2.heap.size w2 w3 := by rw [hw3]; exact below_new _ _
        have hx3 : Has w3 w2.heap.size 53 (encE (enU k x)) := by rw [hw3]; exact Has.new w2 (encE (enU k x)) _
        have y0 : w3.cell? ⟨w2.heap.size, 0, none⟩ = some (.string (Lend.strOf k)) := hx3.cell 0
        have y1 : w3.cell? ⟨w2.heap.size, 1, none⟩ = some (.string (Lend.strOf x)) := hx3.cell 1
        have HB3 := Lib.hid (HB2.out.trans (hb3.mono HB2.out.size))
        obtain ⟨v4, w4, hr4, ho4, hbb4⟩ := eapp_one und_e isE_p 23 (enU k x) (own_bel HEA.out hb3) HB3.out.size (by have := HLN.out; have := HL.out; omega)
        have hr4 : (Builtin.append_ #[23, 23] 23 #[v, .slice (some ⟨w3.heap.size, 0, none⟩) 1 1]).run Try.prog (w3.alloc (.cells #[.string (Lend.strOf k), .string (Lend.strOf x)] 53)) = .ok v4 w4 := hr4
        have HP4 := Lib.hid (show Pnt w w1 (m ++ [enU k x]) v4 w4 from ⟨ho4, hbb4 (Nat.le_refl _) HB3.out⟩)
        obtain ⟨ao, cp, rfl, _⟩ := own_shape HEA.out
        clear hb3 hx3 ho4 hbb4 hpr
        go_upto_region 4 with fail
        rw [← hw3]
        clear hw3
        go_wp2_with (at_builtin; refine wpList_append_run rfl _ _ _ _ rfl _ _ _ rfl rfl hr4 ?_)
        go_roundw
        case rel => exact ⟨r2, m ++ [enU k x], _, rfl, rfl, HPL2.out, by have := HLT.out; have := HLN.out; rw [List.length_append]; simp only [List.length_cons, List.length_nil]; omega, HP4.out⟩
        case measure =>
          have := HLT.out
          simp only [lenOf]
          rw [HSZ.out, ssize]
          omega
structure Qnt (w : World) (m : List Up) (v : Value) (wr : World) : Prop where
  ed : ED wr w.heap.size v m
  bel : Below w.heap.size w wr
set_option maxRecDepth 100000 in
set_option maxHeartbeats 8000000 in
theorem rparse_e (s : List UInt8) (w : World) (hs : s.length ≤ 100000) : Calls Try.prog 21 #[.string (Lend.strOf s)] w (RpP w s) := by
  have HL := Lib.hid hs
  go_enter Try.func21, Try.ntmps21
  go_wp2_with fail
  go_loopw [0, 4] (fun sv ov wr => ∃ (r : List UInt8) (m : List Up) (v : Value), v = ov ∧ sv = .string (Lend.strOf r) ∧ preL s = (preL r).map (m ++ ·) ∧ m.length + r.length ≤ s.length ∧ Qnt w m v wr) (fun sv _ _ => lenOf sv)
  case atStart => exact ⟨s, [], _, rfl, rfl, by cases preL s <;> rfl, by simp, ⟨World.ownsRow_nil _ _ _ _, Below.refl _ _⟩⟩
  case round =>
    obtain ⟨r, m, v, rfl, rfl, hpl, hln, hpn⟩ := hrel
    rename World => wr
    have HPL := Lib.hid hpl
    have HLN := Lib.hid hln
    have HP := Lib.hid hpn
    clear hpl hln hpn
    by_cases hr0 : r = []
    · subst hr0
      have HPS := Lib.hid (show preL s = some m by rw [HPL.out, preL_nil]; simp)
      have hri := refright_any (ER.of_own HP.out.ed) (by have := HLN.out; omega)
      obtain ⟨ao, cp, rfl, _⟩ := own_shape HP.out.ed
      rw [strOf0]
      cases hb : riB m with
      | true =>
        rw [hb] at hri
        have HE := Lib.hid (show paN s = 0 ∧ paE s = m by unfold paN paE; rw [HPS.out]; simp [hb])
        clear hb
        go_wp2_with fail
        refine hri.mono ?_
        clear hri
        rintro e w3 ⟨rfl, hb3⟩
        have HB3 := Lib.hid (HP.out.bel.trans (hb3.mono HP.out.bel.size))
        have HR3 := Lib.hid (own_bel HP.out.ed hb3)
        clear hb3
        go_wp2_with fail
        go_ret2
        exact ⟨_, by rw [HE.out.1]; rfl, by rw [HE.out.2]; exact HR3.out, HB3.out⟩
      | false =>
        rw [hb] at hri
        have HE := Lib.hid (show paN s = 4 ∧ paE s = [] by unfold paN paE; rw [HPS.out]; simp [hb])
        clear hb
        go_wp2_with fail
        refine hri.mono ?_
        clear hri
        rintro e w3 ⟨rfl, hb3⟩
        have HB3 := Lib.hid (HP.out.bel.trans (hb3.mono HP.out.bel.size))
        clear hb3
        go_wp2_with fail
        go_ret2
        exact ⟨_, by rw [HE.out.1]; rfl, by rw [HE.out.2]; exact World.ownsRow_nil _ _ _ _, HB3.out⟩
    · have HSP := Lib.hid (fun W => refsplit_at r W (by have := HLN.out; have := HL.out; omega))
      have HSQ := Lib.hid (fun W => refsplit_at (splR r) W (by have := splR_le r; have := HLN.out; have := HL.out; omega))
      have HR0 := Lib.hid hr0
      have HSZ := Lib.hid (ssize r)
      have hsz : 0 < (Lend.strOf r).size := by rw [ssize]; exact List.length_pos_iff.2 hr0
      obtain ⟨T, hT⟩ : ∃ T, T = Lend.strOf r := ⟨_, rfl⟩
      rw [← hT] at hsz HSP HSZ ⊢
      obtain ⟨b1, hb1⟩ : ∃ b, b = splB r := ⟨_, rfl⟩
      obtain ⟨b2, hb2⟩ : ∃ b, b = splB (splR r) := ⟨_, rfl⟩
      rw [← hb1] at HSP
      rw [← hb2] at HSQ
      have HB1 := Lib.hid hb1
      have HB2 := Lib.hid hb2
      clear hr0 hT hb1 hb2
      go_wp2_with fail
      refine (HSP.out wr).mono ?_
      rintro e w2 ⟨rfl, hb2⟩
      have HW2 := Lib.hid (HP.out.bel.trans (hb2.mono HP.out.bel.size))
      have HE2 := Lib.hid (own_bel HP.out.ed hb2)
      clear hb2
      go_wp2_with fail
      refine (HSQ.out w2).mono ?_
      rintro e w3 ⟨rfl, hb3⟩
      have HW3 := Lib.hid (HW2.out.trans (hb3.mono HW2.out.size))
      have HE3 := Lib.hid (own_bel HE2.out hb3)
      obtain ⟨ao, cp, hv, _⟩ := own_shape HP.out.ed
      subst hv
      clear hb3
      by_cases hok : b1 = true ∧ b2 = true
      · obtain ⟨rfl, rfl⟩ := hok
        have hpr : pre1 r = some (enU (splT r) (splT (splR r)), splR (splR r)) := by
          unfold pre1
          rw [← HB1.out, if_pos rfl, ← HB2.out, if_pos rfl]
        have HPL2 := Lib.hid (show preL s = (preL (splR (splR r))).map ((m ++ [enU (splT r) (splT (splR r))]) ++ ·) by
          rw [HPL.out, preL_yes HR0.out hpr]
          cases preL (splR (splR r)) <;> simp)
        have HLT := Lib.hid (pre1_lt hpr)
        obtain ⟨v4, w4, hr4, ho4, hbb4⟩ := eapp_one und_d isE_d 26 (enU (splT r) (splT (splR r))) HE3.out HW3.out.size (by have := HLN.out; have := HL.out; omega)
        have hr4 : (Builtin.append_ #[26, 26] 26 #[.slice ao m.length cp, .slice (some ⟨w3.heap.size, 0, none⟩) 1 1]).run Try.prog (w3.alloc (.cells #[.string (Lend.strOf (splT r)), .string (Lend.strOf (splT (splR r)))] 52)) = .ok v4 w4 := hr4
        have HP4 := Lib.hid (show Qnt w (m ++ [enU (splT r) (splT (splR r))]) v4 w4 from ⟨ho4, hbb4 (Nat.le_refl _) HW3.out⟩)
        clear ho4 hbb4 hpr
        go_wp2_with (at_builtin; refine wpList_append_run rfl _ _ _ _ rfl _ _ _ rfl rfl hr4 ?_)
        go_roundw
        case rel => exact ⟨splR (splR r), m ++ [enU (splT r) (splT (splR r))], _, rfl, rfl, HPL2.out, by have := HLT.out; have := HLN.out; rw [List.length_append]; simp only [List.length_cons, List.length_nil]; omega, HP4.out⟩
        case measure =>
          have := HLT.out
          simp only [lenOf]
          rw [HSZ.out, ssize]
          omega
      · have hpr : pre1 r = none := by
          unfold pre1
          rw [← HB1.out, ← HB2.out]
          cases b1
          · rw [if_neg (by simp)]
          · cases b2
            · rw [if_pos rfl, if_neg (by simp)]
            · exact absurd ⟨rfl, rfl⟩ hok
        have HE := Lib.hid (show paN s = 4 ∧ paE s = [] by
          have h0 := preL_no HR0.out hpr
          have h1 : preL s = none := by rw [HPL.out, h0]; rfl
          unfold paN paE; rw [h1]; exact ⟨rfl, rfl⟩)
        clear hpr
        cases b1
        · clear hok
          go_wp2_with fail
          go_ret2
          exact ⟨_, by rw [HE.out.1]; rfl, by rw [HE.out.2]; exact World.ownsRow_nil _ _ _ _, HW3.out⟩
        · cases b2
          · clear hok
            go_wp2_with fail
            go_ret2
            exact ⟨_, by rw [HE.out.1]; rfl, by rw [HE.out.2]; exact World.ownsRow_nil _ _ _ _, HW3.out⟩
          · exact absurd ⟨rfl, rfl⟩ hok
end Go.Proofs.Ytfmbjepjmjcgeaa.Leaf
