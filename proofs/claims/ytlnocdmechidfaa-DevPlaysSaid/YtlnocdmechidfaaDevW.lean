/- Contracts for layer 3's laws: full, wakes. -/
import Derived.Test.YtlnocdmechidfaaDevE
import Derived.Test.YtlnocdmechidfaaDevG
import Derived.Test.YtlnocdmechidfaaDevN
import Derived.Test.YtlnocdmechidfaaDevPlain
namespace Go.Proofs.Ytlnocdmechidfaa.Dev
open Go.RowKit Go.Proofs.Ytlnocdmechidfaa
set_option linter.unusedVariables false

def stars : ByteArray := ⟨(Lib.repeatL [42] 128).toArray⟩
theorem stars_size : stars.size = 128 := by
  show (Lib.repeatL [42] 128).toArray.size = 128
  rw [List.size_toArray, Lib.repeatL_length]; simp
def fullN (s : ByteArray) : ByteArray := (s ++ stars).extract 0 128
theorem fullN_size (s : ByteArray) : (fullN s).size = 128 := by
  unfold fullN; rw [ByteArray.size_extract, ByteArray.size_append, stars_size]; omega
theorem full_any (s : ByteArray) (w : World) (hs : s.size ≤ 1000000) :
    Calls Try.prog 8 #[.string s] w fun e w' => e = .returned (.string (fullN s)) ∧ Below w.heap.size w w' := by
  have HF := Lib.hid (show fullN s = (s ++ stars).extract 0 128 from rfl)
  have HS := Lib.hid (show (⟨(Lib.repeatL (⟨#[42]⟩ : ByteArray).data.toList 128).toArray⟩ : ByteArray) = stars from rfl)
  have h1 := stars_size
  have h2 : (s ++ stars).size = s.size + 128 := by rw [ByteArray.size_append, h1]
  have h3 : ¬ 9223372036854775807 < s.size + 128 := by omega
  have h4 : (128 : Int) ≤ (s.size : Int) + 128 := by omega
  have h5 : 128 ≤ s.size + 128 := by omega
  go_enter Try.func8, Try.ntmps8
  go_wp2_with fail
  refine (Try.strings_Repeat _ 128 _ (by omega) (show 1 * 128 ≤ _ by omega)).mono ?_
  rintro e w1 ⟨rfl, hb⟩
  rw [HS.out]
  have HB := Lib.hid hb
  clear hb
  go_wp2
  go_ret
  exact ⟨by rw [HF.out]; rfl, HB.out⟩

theorem fresh_plain (n s : Nat) : (Dv.fresh n s).Plain := ⟨rfl, rfl, rfl, rfl, rfl, fun x hx => by rw [(List.mem_replicate.1 hx).2]⟩
theorem new_9 (w : World) :
    Calls Try.prog 4 #[.agg #[.int .i64 9, .int .i64 128]] w fun e w' => ∃ p sb, w.heap.size ≤ p ∧ w.heap.size ≤ sb ∧ e = .returned (.tuple #[.pointer (some ⟨p, 0, none⟩), .int .i64 0]) ∧ DevAt w' p sb (.slice none 0 0) (Dv.fresh 9 128) ∧ Below w.heap.size w w' := new_yes 9 128 w rfl
/-- the last write to a sector is what it reads -/
theorem reads_push (D : Dv) (i : Nat) (s : ByteArray) : (D.push (i : Nat) s).reads i = s := by
  unfold Dv.reads Dv.push
  simp
theorem reads_push_ne (D : Dv) (i j : Nat) (s : ByteArray) (h : j ≠ i) : (D.push (j : Nat) s).reads i = D.reads i := by
  unfold Dv.reads Dv.push
  simp [h]
theorem foot_ge {p sb : Nat} {cv cv' : Value} {w w1 : World} {B : Nat} (hf : ∀ k, foot p sb cv k → B ≤ k) (h : ∀ k, foot p sb cv' k → foot p sb cv k ∨ w1.heap.size ≤ k) (hB : B ≤ w1.heap.size) : ∀ k, foot p sb cv' k → B ≤ k := by
  intro k hk
  rcases h k hk with h | h
  · exact hf k h
  · omega
/-- the device D is at p, all that it has lies from B on; below B nothing is another one -/
def Own9 (w0 : World) (p : Nat) (D : Dv) (w : World) : Prop := ∃ sb cv, DevAt w p sb cv D ∧ (∀ k, foot p sb cv k → w0.heap.size ≤ k) ∧ Below w0.heap.size w0 w
theorem Own9.now {w0 w w' : World} {p sb : Nat} {cv : Value} {D' : Dv} (hf : ∀ k, foot p sb cv k → w0.heap.size ≤ k) (hb : Below w0.heap.size w0 w) (h : Now p sb cv w D' w') : Own9 w0 p D' w' := by
  obtain ⟨cv', hc, hd, hf'⟩ := h
  exact ⟨sb, cv', hd, foot_ge (w := w0) hf hf' hb.size, hb.trans (hc.below hb.size hf)⟩
theorem Own9.later {w0 w w' : World} {p : Nat} {D : Dv} (h : Own9 w0 p D w) (hb : Below w.heap.size w w') : Own9 w0 p D w' := by
  obtain ⟨sb, cv, hd, hf, hbb⟩ := h
  exact ⟨sb, cv, hd.below hb (Nat.le_refl _), hf, hbb.trans (hb.mono hbb.size)⟩
theorem Own9.below {w0 w : World} {p : Nat} {D : Dv} (h : Own9 w0 p D w) : Below w0.heap.size w0 w := by obtain ⟨_, _, _, _, hb⟩ := h; exact hb
theorem new_own (w0 w : World) (hb : Below w0.heap.size w0 w) :
    Calls Try.prog 4 #[.agg #[.int .i64 9, .int .i64 128]] w fun e w' => ∃ p, e = .returned (.tuple #[.pointer (some ⟨p, 0, none⟩), .int .i64 0]) ∧ Own9 w0 p (Dv.fresh 9 128) w' :=
  (new_9 w).mono fun e w' ⟨p, sb, hp, hsb, he, hd, hb2⟩ => ⟨p, he, sb, _, hd, fun k hk => (by
    rcases hk with rfl | rfl | h
    · exact Nat.le_trans hb.size hp
    · exact Nat.le_trans hb.size hsb
    · cases h), hb.trans (hb2.mono hb.size)⟩
theorem write_own {w0 w : World} {p : Nat} {D : Dv} (i : Int) (s : ByteArray) (h : Own9 w0 p D w) (hl : D.cache.length ≤ 1000000000) (hsm : s.size ≤ 1000000000) :
    Calls Try.prog 7 #[.pointer (some ⟨p, 0, none⟩), .int .i64 i, .string s] w fun e w' => e = .returned (.int .i64 (D.writeE i s)) ∧ Own9 w0 p (D.writeD i s) w' := by
  obtain ⟨sb, cv, hd, hf, hb⟩ := h
  exact (write_any i s w hd hl hsm).mono fun e w' ⟨he, hn⟩ => ⟨he, Own9.now hf hb hn⟩
theorem read_own {w0 w : World} {p : Nat} {D : Dv} (i : Int) (h : Own9 w0 p D w) (hl : D.cache.length ≤ 1000000000) :
    Calls Try.prog 12 #[.pointer (some ⟨p, 0, none⟩), .int .i64 i] w fun e w' => e = .returned (.tuple #[.string (D.readT i), .int .i64 (D.readE i)]) ∧ Own9 w0 p (D.readD i) w' := by
  obtain ⟨sb, cv, hd, hf, hb⟩ := h
  exact (read_any i w hd (by omega)).mono fun e w' ⟨he, hc, hd'⟩ => ⟨he, Own9.now hf hb (.same hc hd')⟩
theorem flush_own {w0 w : World} {p : Nat} {D : Dv} (h : Own9 w0 p D w) (hl : D.cache.length ≤ 1000000000) :
    Calls Try.prog 10 #[.pointer (some ⟨p, 0, none⟩)] w fun e w' => e = .returned (.int .i64 D.flushE) ∧ Own9 w0 p D.flushD w' := by
  obtain ⟨sb, cv, hd, hf, hb⟩ := h
  exact (flush_any w hd hl).mono fun e w' ⟨he, hn⟩ => ⟨he, Own9.now hf hb hn⟩
theorem crash_own_nil {w0 w : World} {p : Nat} {D : Dv} (h : Own9 w0 p D w) (hl : D.cache.length ≤ 1000000000) :
    Calls Try.prog 21 #[.pointer (some ⟨p, 0, none⟩), .slice none 0 0] w fun e w' => e = .returned (.tuple #[]) ∧ Own9 w0 p (D.crashD []) w' := by
  obtain ⟨sb, cv, hd, hf, hb⟩ := h
  exact (crash_any none 0 0 [] w hd hl (by omega) ⟨rfl, fun h => by omega⟩ (fun a e => by cases e) (fun f hf => by cases hf)).mono fun e w' ⟨he, hn⟩ => ⟨he, Own9.now hf hb hn⟩

def txtA : ByteArray := fullN ⟨#[97]⟩
def D1 : Dv := (Dv.fresh 9 128).counted.push ((2 : Nat) : Int) txtA
def D2 : Dv := { D1 with nr := bump 0 }
theorem d1_plain : D1.Plain := (fresh_plain 9 128).counted.push _ _
theorem d1_write : (Dv.fresh 9 128).writeE 2 txtA = 0 ∧ (Dv.fresh 9 128).writeD 2 txtA = D1 :=
  ⟨(fresh_plain 9 128).writeE 2 txtA (by decide) (fullN_size _), (fresh_plain 9 128).writeD 2 txtA (by decide) (fullN_size _)⟩
theorem d1_read : D1.readE 2 = 0 ∧ D1.readT 2 = txtA ∧ D1.readD 2 = D2 :=
  ⟨d1_plain.readE 2 (by decide), (d1_plain.readT 2 (by decide)).trans (reads_push _ _ _), d1_plain.readD 2 (by decide)⟩
theorem d2_crash : (D2.crashD []).readE 2 = 0 ∧ (D2.crashD []).readT 2 = noughts 128 := by
  have h : (D2.crashD []).Plain := (d1_plain.read _).crash []
  refine ⟨h.readE 2 (by decide), (h.readT 2 (by decide)).trans ?_⟩
  rfl
set_option maxRecDepth 100000 in
set_option maxHeartbeats 2000000 in
theorem wakes_any (w : World) : Calls Try.prog 6 #[] w fun e w' => e = .returned (.bool true) ∧ Below w.heap.size w w' := by
  have W1 := Lib.hid d1_write
  have R1 := Lib.hid d1_read
  have C2 := Lib.hid d2_crash
  have HA := Lib.hid (show fullN ⟨#[97]⟩ = txtA from rfl)
  have HZ := Lib.hid (show (⟨(Lib.repeatL (⟨#[0]⟩ : ByteArray).data.toList 128).toArray⟩ : ByteArray) = noughts 128 from rfl)
  obtain ⟨ta, hta⟩ : ∃ t, t = txtA := ⟨_, rfl⟩
  obtain ⟨tz, htz⟩ : ∃ t, t = noughts 128 := ⟨_, rfl⟩
  rw [← hta] at W1 R1 HA
  rw [← htz] at C2 HZ
  have HS := Lib.hid (show ta.size ≤ 1000000000 by rw [hta]; unfold txtA; rw [fullN_size]; omega)
  clear hta htz
  go_enter Try.func6, Try.ntmps6
  go_wp2_with fail
  refine (new_own w _ (Below.refl _ _)).mono ?_
  rintro e w1 ⟨p, rfl, h1⟩
  have H1 := Lib.hid h1
  clear h1
  go_wp2_with fail
  refine (full_any _ _ (by decide)).mono ?_
  rintro e w2 ⟨rfl, hb2⟩
  rw [HA.out]
  have H2 := Lib.hid (H1.out.later hb2)
  clear hb2 H1
  go_wp2_with fail
  refine (write_own 2 ta H2.out (by decide) HS.out).mono ?_
  rintro e w3 ⟨rfl, h3⟩
  rw [W1.out.1]
  rw [W1.out.2] at h3
  have H3 := Lib.hid h3
  clear h3 H2
  go_wp2_with fail
  refine (read_own 2 H3.out (by decide)).mono ?_
  rintro e w4 ⟨rfl, h4⟩
  rw [R1.out.1, R1.out.2.1]
  rw [R1.out.2.2] at h4
  have H4 := Lib.hid h4
  clear h4 H3
  go_wp2_with fail
  refine (crash_own_nil H4.out (by decide)).mono ?_
  rintro e w5 ⟨rfl, h5⟩
  have H5 := Lib.hid h5
  clear h5 H4
  go_wp2_with fail
  refine (read_own 2 H5.out (by decide)).mono ?_
  rintro e w6 ⟨rfl, h6⟩
  rw [C2.out.1, C2.out.2]
  have H6 := Lib.hid h6.below
  clear h6 H5
  go_wp2_with fail
  refine (full_any _ _ (by decide)).mono ?_
  rintro e w7 ⟨rfl, hb7⟩
  rw [HA.out]
  have H7 := Lib.hid (H6.out.trans (hb7.mono H6.out.size))
  clear hb7 H6
  go_wp2_with fail
  refine (Try.strings_Repeat _ 128 _ (by omega) (show 1 * 128 ≤ _ by omega)).mono ?_
  rintro e w8 ⟨rfl, hb8⟩
  rw [HZ.out]
  have H8 := Lib.hid (H7.out.trans (hb8.mono H7.out.size))
  clear hb8 H7
  go_wp2
  go_ret
  exact ⟨rfl, H8.out⟩
end Go.Proofs.Ytlnocdmechidfaa.Dev
