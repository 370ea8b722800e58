/- A device and the reference's beside it, and a block of the law's own. -/
import Derived.Test.YtlnocdmechidfaaRefDevN
import Derived.Test.YtlnocdmechidfaaRefDevE
import Derived.Test.YtlnocdmechidfaaRefDevG
import Derived.Test.YtlnocdmechidfaaRefDevC
import Derived.Test.YtlnocdmechidfaaRefDevW
import Derived.Test.YtlnocdmechidfaaDevGb
import Derived.Test.YtlnocdmechidfaaDevFt
namespace Go.Proofs.Ytlnocdmechidfaa.Dev
open Go Go.RowKit Go.Proofs.Ytlnocdmechidfaa
set_option linter.unusedVariables false

def Pair (X : Nat → Prop) (w0 : World) (p m : Nat) (D E : Dv) (w : World) : Prop :=
  ∃ (sb : Nat) (cv : Value) (B : RB) (rv : Value), DevAt w p sb cv D ∧ RefAt w m B rv E ∧ (∀ k, foot p sb cv k → w0.heap.size ≤ k) ∧ (∀ k, rfoot m B rv k → w0.heap.size ≤ k) ∧
    (∀ k, foot p sb cv k → ¬ rfoot m B rv k) ∧ (∀ k, X k → w0.heap.size ≤ k ∧ k < w.heap.size ∧ ¬ foot p sb cv k ∧ ¬ rfoot m B rv k) ∧ Below w0.heap.size w0 w
def Keep (X : Nat → Prop) (w w' : World) : Prop := ∀ k, X k → w'.heap[k]? = w.heap[k]?
section
variable {X : Nat → Prop} {w0 w w' : World} {p m : Nat} {D D' E E' : Dv} {f : FuncId} {args : Array Value} {r : Ending}
theorem Pair.dev (h : Pair X w0 p m D E w) (hc : ∀ sb cv, DevAt w p sb cv D → (∀ k, X k → ¬ foot p sb cv k) → (∀ k, foot p sb cv k → w0.heap.size ≤ k) → Calls Try.prog f args w fun e w' => e = r ∧ Now p sb cv w D' w') :
    Calls Try.prog f args w fun e w' => e = r ∧ Pair X w0 p m D' E w' ∧ Keep X w w' := by
  obtain ⟨sb, cv, B, rv, hd, hr, h1, h2, h3, h4, hb⟩ := h
  refine (hc sb cv hd (fun k hk => (h4 k hk).2.2.1) h1).mono ?_
  rintro e w' ⟨he, cv', hch, hd', hf'⟩
  refine ⟨he, ⟨sb, cv', B, rv, hd', hr.chg hch (fun k hk hk2 => h3 k hk2 hk), ?_, h2, ?_, ?_, hb.trans (hch.below hb.size h1)⟩, fun k hk => hch.block k (h4 k hk).2.1 (h4 k hk).2.2.1⟩
  · intro k hk
    rcases hf' k hk with h | h
    · exact h1 k h
    · exact Nat.le_trans hb.size h
  · intro k hk hk2
    rcases hf' k hk with h | h
    · exact h3 k h hk2
    · have := hr.lt k hk2; omega
  · intro k hk
    obtain ⟨a1, a2, a3, a4⟩ := h4 k hk
    refine ⟨a1, Nat.lt_of_lt_of_le a2 hch.size, fun hk2 => ?_, a4⟩
    rcases hf' k hk2 with h | h
    · exact a3 h
    · omega
theorem Pair.ref (h : Pair X w0 p m D E w) (hc : ∀ B rv, RefAt w m B rv E → (∀ k, X k → ¬ rfoot m B rv k) → (∀ k, rfoot m B rv k → w0.heap.size ≤ k) → Calls Try.prog f args w fun e w' => e = r ∧ RNow m B rv w E' w') :
    Calls Try.prog f args w fun e w' => e = r ∧ Pair X w0 p m D E' w' ∧ Keep X w w' := by
  obtain ⟨sb, cv, B, rv, hd, hr, h1, h2, h3, h4, hb⟩ := h
  refine (hc B rv hr (fun k hk => (h4 k hk).2.2.2) h2).mono ?_
  rintro e w' ⟨he, rv', hch, hr', hf'⟩
  refine ⟨he, ⟨sb, cv, B, rv', hd.chg hch (fun k hk hk2 => h3 k hk hk2), hr', h1, ?_, ?_, ?_, hb.trans (hch.below hb.size h2)⟩, fun k hk => hch.block k (h4 k hk).2.1 (h4 k hk).2.2.2⟩
  · intro k hk
    rcases hf' k hk with h | h
    · exact h2 k h
    · exact Nat.le_trans hb.size h
  · intro k hk hk2
    rcases hf' k hk2 with h | h
    · exact h3 k hk h
    · have := hd.lt k hk; omega
  · intro k hk
    obtain ⟨a1, a2, a3, a4⟩ := h4 k hk
    refine ⟨a1, Nat.lt_of_lt_of_le a2 hch.size, a3, fun hk2 => ?_⟩
    rcases hf' k hk2 with h | h
    · exact a4 h
    · omega
theorem Pair.later (h : Pair X w0 p m D E w) (hb : Below w.heap.size w w') : Pair X w0 p m D E w' := by
  obtain ⟨sb, cv, B, rv, hd, hr, h1, h2, h3, h4, hb0⟩ := h
  exact ⟨sb, cv, B, rv, hd.below hb (Nat.le_refl _), hr.below hb (Nat.le_refl _), h1, h2, h3, fun k hk => ⟨(h4 k hk).1, Nat.lt_of_lt_of_le (h4 k hk).2.1 hb.size, (h4 k hk).2.2⟩, hb0.trans (hb.mono hb0.size)⟩
theorem Pair.keep (h : Pair X w0 p m D E w) (hb : Below w.heap.size w w') : Keep X w w' := by
  obtain ⟨sb, cv, B, rv, hd, hr, h1, h2, h3, h4, hb0⟩ := h
  exact fun k hk => hb.block k (h4 k hk).2.1
theorem Pair.below (h : Pair X w0 p m D E w) : Below w0.heap.size w0 w := by
  obtain ⟨sb, cv, B, rv, hd, hr, h1, h2, h3, h4, hb0⟩ := h
  exact hb0
/-- a field of the reference's is another one -/
theorem Pair.set (h : Pair X w0 p m D E w) (i : Nat) (v : Value) (hc : ∀ B rv, (E.rcells B rv).set i v = E'.rcells B rv) (hs : E'.secs = E.secs) (hw : E'.cache = E.cache) (ok : E.Ok → E'.Ok) : Pair X w0 p m D E' (w.setCell ⟨m, i, none⟩ v) := by
  obtain ⟨sb, cv, B, rv, hd, hr, h1, h2, h3, h4, hb0⟩ := h
  have hch : Chg (rfoot m B rv) w (w.setCell ⟨m, i, none⟩ v) := (Chg.refl _ _).setCell (p := ⟨m, i, none⟩) (fun _ => .inl rfl) v
  exact ⟨sb, cv, B, rv, hd.chg hch (fun k hk hk2 => h3 k hk hk2), hr.set i v E' (hc B rv) hs hw (ok hr.ok), h1, h2, h3, fun k hk => ⟨(h4 k hk).1, Nat.lt_of_lt_of_le (h4 k hk).2.1 hch.size, (h4 k hk).2.2⟩, hb0.trans (hch.below hb0.size h2)⟩
theorem Pair.set_keep (h : Pair X w0 p m D E w) (i : Nat) (v : Value) : Keep X w (w.setCell ⟨m, i, none⟩ v) := by
  obtain ⟨sb, cv, B, rv, hd, hr, h1, h2, h3, h4, hb0⟩ := h
  exact fun k hk => Below.heap_setCell _ _ _ _ (fun e => (h4 k hk).2.2.2 (.inl e))
theorem Pair.rcell (h : Pair X w0 p m D E w) : w.cell? ⟨m, 4, none⟩ = some (.int .i64 E.fuse) ∧ w.cell? ⟨m, 5, none⟩ = some (.int .i64 E.lose) ∧ w.cell? ⟨m, 6, none⟩ = some (.int .i64 E.stray) ∧ w.cell? ⟨m, 7, none⟩ = some (.int .i64 E.tgt) ∧ w.cell? ⟨m, 9, none⟩ = some (.bool E.dead) ∧ ∀ i, w.frozen? ⟨m, i, none⟩ = false := by
  obtain ⟨sb, cv, B, rv, hd, hr, h1, h2, h3, h4, hb0⟩ := h
  exact ⟨hr.c4, hr.c5, hr.c6, hr.c7, hr.c9, hr.fz⟩
theorem Pair.ok (h : Pair X w0 p m D E w) : D.Ok ∧ E.Ok := by
  obtain ⟨sb, cv, B, rv, hd, hr, h1, h2, h3, h4, hb0⟩ := h
  exact ⟨hd.ok, hr.ok⟩
theorem Pair.sub {Y : Nat → Prop} (h : Pair X w0 p m D E w) (hy : ∀ k, Y k → X k) : Pair Y w0 p m D E w := by
  obtain ⟨sb, cv, B, rv, hd, hr, h1, h2, h3, h4, hb0⟩ := h
  exact ⟨sb, cv, B, rv, hd, hr, h1, h2, h3, fun k hk => h4 k (hy k hk), hb0⟩
theorem Pair.start {sb : Nat} {cv : Value} {B : RB} {rv : Value} {wa : World} (hp : w0.heap.size ≤ p) (hsb : w0.heap.size ≤ sb) (hcv : cv = .slice none 0 0) (hd : DevAt wa p sb cv D) (hb : Below w0.heap.size w0 wa)
    (hm : wa.heap.size ≤ m) (hmb : wa.heap.size ≤ B.mb) (hbb : wa.heap.size ≤ B.bb) (hrv : rv = .slice none 0 0) (hr : RefAt w m B rv D) (hb2 : Below wa.heap.size wa w) : Pair (fun _ => False) w0 p m D D w := by
  subst hcv; subst hrv
  have hs := hb.size
  have hr2 : ∀ k, rfoot m B (.slice none 0 0) k → wa.heap.size ≤ k := by
    rintro k (rfl | rfl | rfl | e)
    · exact hm
    · exact hmb
    · exact hbb
    · cases e
  refine ⟨sb, _, B, _, hd.below hb2 (Nat.le_refl _), hr, ?_, fun k hk => Nat.le_trans hs (hr2 k hk), fun k hk hk2 => ?_, (fun k hk => hk.elim), hb.trans (hb2.mono hs)⟩
  · rintro k (rfl | rfl | e)
    · exact hp
    · exact hsb
    · cases e
  · have h1 := hd.lt k hk
    have h2 := hr2 k hk2
    omega
/-- a new block beside them -/
theorem Pair.new (h : Pair X w0 p m D E w) (o : Obj) : Pair (fun k => k = w.heap.size) w0 p m D E (w.alloc o) := by
  obtain ⟨sb, cv, B, rv, hd, hr, h1, h2, h3, h4, hb0⟩ := h
  refine ⟨sb, cv, B, rv, hd.alloc o, hr.alloc o, h1, h2, h3, ?_, hb0.alloc hb0.size o⟩
  rintro k rfl
  exact ⟨hb0.size, by simp, fun hk => by have := hd.lt _ hk; omega, fun hk => by have := hr.lt _ hk; omega⟩
end
/-- .. with what stands in the law's block -/
def Duet (ab : Nat) (cs : List Value) (w0 : World) (p m : Nat) (D E : Dv) (w : World) : Prop := Pair (fun k => k = ab) w0 p m D E w ∧ Has w ab 34 cs
section
variable {ab : Nat} {cs : List Value} {w0 w w' : World} {p m : Nat} {D D' E E' : Dv} {f : FuncId} {args : Array Value} {r : Ending}
theorem Duet.dev (h : Duet ab cs w0 p m D E w) (hc : ∀ sb cv, DevAt w p sb cv D → (∀ k, k = ab → ¬ foot p sb cv k) → (∀ k, foot p sb cv k → w0.heap.size ≤ k) → Calls Try.prog f args w fun e w' => e = r ∧ Now p sb cv w D' w') :
    Calls Try.prog f args w fun e w' => e = r ∧ Duet ab cs w0 p m D' E w' :=
  (h.1.dev hc).mono fun e w' ⟨he, hp, hk⟩ => ⟨he, hp, h.2.same (hk ab rfl)⟩
theorem Duet.ref (h : Duet ab cs w0 p m D E w) (hc : ∀ B rv, RefAt w m B rv E → (∀ k, k = ab → ¬ rfoot m B rv k) → (∀ k, rfoot m B rv k → w0.heap.size ≤ k) → Calls Try.prog f args w fun e w' => e = r ∧ RNow m B rv w E' w') :
    Calls Try.prog f args w fun e w' => e = r ∧ Duet ab cs w0 p m D E' w' :=
  (h.1.ref hc).mono fun e w' ⟨he, hp, hk⟩ => ⟨he, hp, h.2.same (hk ab rfl)⟩
theorem Duet.later (h : Duet ab cs w0 p m D E w) (hb : Below w.heap.size w w') : Duet ab cs w0 p m D E w' := ⟨h.1.later hb, h.2.same (h.1.keep hb ab rfl)⟩
theorem Duet.drewN (h : Duet ab cs w0 p m D E w) (n : Nat) : Duet ab cs w0 p m D E (w.drewN n) := h.later ⟨rfl, rfl, rfl, Nat.le_refl _, fun _ _ => rfl⟩
theorem Duet.set (h : Duet ab cs w0 p m D E w) (i : Nat) (v : Value) (hc : ∀ B rv, (E.rcells B rv).set i v = E'.rcells B rv) (hs : E'.secs = E.secs) (hw : E'.cache = E.cache) (ok : E.Ok → E'.Ok) : Duet ab cs w0 p m D E' (w.setCell ⟨m, i, none⟩ v) :=
  ⟨h.1.set i v hc hs hw ok, h.2.same (h.1.set_keep i v ab rfl)⟩
/-! the calls of both -/
variable {i j : Int} {s : ByteArray} {n tgt : Int} {b : UInt8}
theorem write_d (h : Duet ab cs w0 p m D E w) (hl : D.cache.length ≤ 1000000000) (hs : s.size ≤ 1000000000) : Calls Try.prog 7 #[.pointer (some ⟨p, 0, none⟩), .int .i64 i, .string s] w fun e w' => e = .returned (.int .i64 (D.writeE i s)) ∧ Duet ab cs w0 p m (D.writeD i s) E w' :=
  h.dev fun sb cv hd _ _ => write_any i s w hd hl hs
theorem write_r (h : Duet ab cs w0 p m D E w) (hl : E.cache.length ≤ 1000000000) (hs : s.size ≤ 1000000000) : Calls Try.prog 9 #[.pointer (some ⟨m, 0, none⟩), .int .i64 i, .string s] w fun e w' => e = .returned (.int .i64 (E.writeE i s)) ∧ Duet ab cs w0 p m D (E.writeD i s) w' :=
  h.ref fun B rv hd _ _ => refwrite_any i s w hd hl hs
theorem flush_d (h : Duet ab cs w0 p m D E w) (hl : D.cache.length ≤ 1000000000) : Calls Try.prog 10 #[.pointer (some ⟨p, 0, none⟩)] w fun e w' => e = .returned (.int .i64 D.flushE) ∧ Duet ab cs w0 p m D.flushD E w' :=
  h.dev fun sb cv hd _ _ => flush_any w hd hl
theorem flush_r (h : Duet ab cs w0 p m D E w) (hl : E.cache.length ≤ 1000000000) : Calls Try.prog 11 #[.pointer (some ⟨m, 0, none⟩)] w fun e w' => e = .returned (.int .i64 E.flushE) ∧ Duet ab cs w0 p m D E.flushD w' :=
  h.ref fun B rv hd _ _ => refflush_any w hd hl
theorem read_d (h : Duet ab cs w0 p m D E w) (hl : D.cache.length ≤ 1000000000) : Calls Try.prog 12 #[.pointer (some ⟨p, 0, none⟩), .int .i64 i] w fun e w' => e = .returned (.tuple #[.string (D.readT i), .int .i64 (D.readE i)]) ∧ Duet ab cs w0 p m (D.readD i) E w' :=
  h.dev fun sb cv hd _ _ => (read_any i w hd (by omega)).mono fun e w' ⟨he, hc, hx⟩ => ⟨he, .same hc hx⟩
theorem read_r (h : Duet ab cs w0 p m D E w) (hl : E.cache.length ≤ 1000000000) : Calls Try.prog 13 #[.pointer (some ⟨m, 0, none⟩), .int .i64 i] w fun e w' => e = .returned (.tuple #[.string (E.readT i), .int .i64 (E.readE i)]) ∧ Duet ab cs w0 p m D (E.readD i) w' :=
  h.ref fun B rv hd _ _ => (refread_any i w hd hl).mono fun e w' ⟨he, hc, hx⟩ => ⟨he, .same hc hx⟩
theorem stick_d (h : Duet ab cs w0 p m D E w) (hl : D.cache.length ≤ 1000000000) : Calls Try.prog 14 #[.pointer (some ⟨p, 0, none⟩), .int .i64 i] w fun e w' => e = .returned (.tuple #[]) ∧ Duet ab cs w0 p m (D.stickD i) E w' :=
  h.dev fun sb cv hd _ _ => stick_any i w hd hl
theorem stick_r (h : Duet ab cs w0 p m D E w) (hl : E.cache.length ≤ 1000000000) : Calls Try.prog 15 #[.pointer (some ⟨m, 0, none⟩), .int .i64 i] w fun e w' => e = .returned (.tuple #[]) ∧ Duet ab cs w0 p m D (E.stickD i) w' :=
  h.ref fun B rv hd _ _ => refstick_any i w hd hl
theorem garble_d (h : Duet ab cs w0 p m D E w) (hl : D.cache.length ≤ 1000000000) : Calls Try.prog 16 #[.pointer (some ⟨p, 0, none⟩), .int .i64 i, .int .i64 j, .int .u8 b.toNat] w fun e w' => e = .returned (.tuple #[]) ∧ Duet ab cs w0 p m (D.garbleD i j b) E w' :=
  h.dev fun sb cv hd _ _ => (garble_any i j b w hd hl).mono fun e w' ⟨he, hc, hx⟩ => ⟨he, .same hc hx⟩
theorem garble_r (h : Duet ab cs w0 p m D E w) (hl : E.cache.length ≤ 1000000000) : Calls Try.prog 17 #[.pointer (some ⟨m, 0, none⟩), .int .i64 i, .int .i64 j, .int .u8 b.toNat] w fun e w' => e = .returned (.tuple #[]) ∧ Duet ab cs w0 p m D (E.garbleD i j b) w' :=
  h.ref fun B rv hd _ _ => (refgarble_any i j b w hd hl).mono fun e w' ⟨he, hc, hx⟩ => ⟨he, .same hc hx⟩
theorem lose_d (h : Duet ab cs w0 p m D E w) (hn : n ≤ 9223372036854775807) : Calls Try.prog 18 #[.pointer (some ⟨p, 0, none⟩), .int .i64 n] w fun e w' => e = .returned (.tuple #[]) ∧ Duet ab cs w0 p m { D with lose := n.toNat } E w' :=
  h.dev fun sb cv hd _ _ => (lose_any n w hd hn).mono fun e w' ⟨he, hc, hx⟩ => ⟨he, .same hc hx⟩
theorem fuse_d (h : Duet ab cs w0 p m D E w) (hn : n ≤ 9223372036854775807) : Calls Try.prog 20 #[.pointer (some ⟨p, 0, none⟩), .int .i64 n] w fun e w' => e = .returned (.tuple #[]) ∧ Duet ab cs w0 p m { D with fuse := n.toNat } E w' :=
  h.dev fun sb cv hd _ _ => (fuse_any n w hd hn).mono fun e w' ⟨he, hc, hx⟩ => ⟨he, .same hc hx⟩
theorem stray_d (h : Duet ab cs w0 p m D E w) (hn : n ≤ 9223372036854775807) : Calls Try.prog 19 #[.pointer (some ⟨p, 0, none⟩), .int .i64 n, .int .i64 tgt] w fun e w' => e = .returned (.tuple #[]) ∧ Duet ab cs w0 p m { D with stray := n.toNat, tgt := tgt } E w' :=
  h.dev fun sb cv hd _ _ => (stray_any n tgt w hd hn).mono fun e w' ⟨he, hc, hx⟩ => ⟨he, .same hc hx⟩
theorem kill_d (h : Duet ab cs w0 p m D E w) : Calls Try.prog 24 #[.pointer (some ⟨p, 0, none⟩)] w fun e w' => e = .returned (.tuple #[]) ∧ Duet ab cs w0 p m { D with dead := true } E w' :=
  h.dev fun sb cv hd _ _ => (kill_any w hd).mono fun e w' ⟨he, hc, hx⟩ => ⟨he, .same hc hx⟩
/-- the power fails: the fates are new, behind the state of before -/
theorem crash_d {wc : World} {v : Value} {k : Nat} {fs : List Int} (h : Duet ab cs w0 p m D E wc) (hb : Below wc.heap.size wc w) (hrow : w.ownsRow wc.heap.size 84 1 v k (fs.map (Value.int .i64))) (hk : k ≤ 1000000000) (hl : D.cache.length ≤ 1000000000) (hfb : ∀ f ∈ fs, f ≤ 9223372036854775807) :
    Calls Try.prog 21 #[.pointer (some ⟨p, 0, none⟩), v] w fun e w' => e = .returned (.tuple #[]) ∧ Duet ab cs w0 p m (D.crashD fs) E w' := by
  obtain ⟨sb0, cv0, B0, rv0, hd0, hr0, a1, a2, a3, a4, ab0⟩ := h.1
  have hh : Has w ab 34 cs := h.2.below hb h.2.lt
  have hP : Pair (fun k => k = ab) w0 p m D E w := h.1.later hb
  have hf : ∃ a cap, v = .slice a k cap ∧ ∀ x, a = some x → wc.heap.size ≤ x.block := by
    rcases k with _ | k
    · rcases hrow.2 with ⟨rfl, _⟩ | ⟨g, cap, cur, rfl, hb', _⟩
      · exact ⟨none, 0, rfl, fun x e => by cases e⟩
      · exact ⟨_, cap, rfl, fun x e => by cases e; exact hb'⟩
    · obtain ⟨g, cap, rfl⟩ := ownsRow_succ hrow
      exact ⟨_, cap, rfl, fun x e => by cases e; exact (hrow.lt g rfl).1⟩
  obtain ⟨a, cap, rfl, ha⟩ := hf
  have hrw : Row .i64 w a k fs := Row.own hrow
  have hd1 := hd0.below hb (Nat.le_refl _)
  have hr1 := hr0.below hb (Nat.le_refl _)
  refine (crash_any a k cap fs w hd1 hl (by omega) hrw (fun x e hx => ?_) hfb).mono ?_
  · have h1 := hd0.lt _ hx
    have h2 := ha x e
    omega
  · rintro e w' ⟨he, cv', hch, hd', hf'⟩
    have hsz := hb.size
    have hb1 : Below w0.heap.size w0 w := hP.below
    refine ⟨he, ⟨sb0, cv', B0, rv0, hd', hr1.chg hch (fun k hk hk2 => a3 k hk2 hk), ?_, a2, ?_, ?_, hb1.trans (hch.below hb1.size a1)⟩, hh.same (hch.block ab hh.lt (a4 ab rfl).2.2.1)⟩
    · intro q hq
      rcases hf' q hq with h | h
      · exact a1 q h
      · exact Nat.le_trans hb1.size h
    · intro q hq hq2
      rcases hf' q hq with h | h
      · exact a3 q h hq2
      · have := hr1.lt q hq2; omega
    · rintro q rfl
      refine ⟨(a4 q rfl).1, Nat.lt_of_lt_of_le hh.lt hch.size, fun hk2 => ?_, (a4 q rfl).2.2.2⟩
      rcases hf' q hk2 with h | h
      · exact (a4 q rfl).2.2.1 h
      · have := hh.lt; omega
theorem crash_r {a : Option Addr} {k cap : Nat} {fs : List Int} (h : Duet ab cs w0 p m D E w) (hrow : Row .i64 w a k fs) (ha : 0 < k → ∀ x, a = some x → x.block < w0.heap.size) (hk : k ≤ 1000000000) (hl : E.cache.length ≤ 1000000000) (hfb : ∀ f ∈ fs, f ≤ 9223372036854775807) :
    Calls Try.prog 23 #[.pointer (some ⟨m, 0, none⟩), .slice a k cap] w fun e w' => e = .returned (.tuple #[]) ∧ Duet ab cs w0 p m D (E.crashD fs) w' :=
  h.ref fun B rv hd _ h0 => refcrash_any a k cap fs w hd hl hk hrow (fun hp x e hx => by have h1 := h0 _ hx; have h2 := ha hp x e; omega) hfb
theorem same_p (h : Pair (fun k => k = ab) w0 p m D D w) (h9 : D.n = 9) : Calls Try.prog 25 #[.pointer (some ⟨p, 0, none⟩), .pointer (some ⟨m, 0, none⟩)] w fun e w' => e = .returned (.bool true) ∧ ∃ n, w' = w.drewN n := by
  obtain ⟨sb, cv, B, rv, hd, hr, h1, h2, h3, h4, hb⟩ := h
  exact same_any w hd hr h9
theorem media_p {X : Nat → Prop} (h : Pair X w0 p m D E w) : Calls Try.prog 26 #[.pointer (some ⟨p, 0, none⟩), .int .i64 i] w fun e w' => e = .returned (.string (mediaN D i)) ∧ w = w' := by
  obtain ⟨sb, cv, B, rv, hd, hr, h1, h2, h3, h4, hb⟩ := h
  exact media_any i w hd
end
/-! how much is in the cache -/
theorem len_write (D : Dv) (i : Int) (s : ByteArray) : (D.writeD i s).cache.length ≤ D.cache.length + 1 ∧ (D.writeD i s).n = D.n := by
  unfold Dv.writeD
  split
  · exact ⟨Nat.le_succ _, rfl⟩
  · split
    · exact ⟨Nat.le_succ _, rfl⟩
    · split
      · refine ⟨?_, rfl⟩
        show (D.cache ++ _).length ≤ _
        rw [List.length_append]; exact Nat.le_refl _
      · exact ⟨Nat.le_succ _, rfl⟩
theorem n_puts (D : Dv) (l : List ((Nat × ByteArray) × Nat)) : (D.puts l).n = D.n := Dv.puts_n l D
theorem len_flush (D : Dv) : D.flushD.cache.length ≤ D.cache.length ∧ D.flushD.n = D.n := by
  unfold Dv.flushD
  split
  · exact ⟨Nat.le_refl _, rfl⟩
  · split
    · exact ⟨Nat.le_refl _, rfl⟩
    · exact ⟨Nat.zero_le _, n_puts _ _⟩
theorem len_stick (D : Dv) (i : Int) : (D.stickD i).cache.length ≤ D.cache.length ∧ (D.stickD i).n = D.n := by
  unfold Dv.stickD
  split
  · refine ⟨List.length_filter_le _ _, ?_⟩
    show (D.spoiled i.toNat).n = D.n
    rename_i hh
    have hi : i.toNat < D.n := by unfold hasB at hh; simp at hh; omega
    rw [D.spoiled_eq _ hi]; show List.length _ = _; rw [List.length_set]; rfl
  · exact ⟨Nat.le_refl _, rfl⟩
theorem len_read (D : Dv) (i : Int) : (D.readD i).cache.length ≤ D.cache.length ∧ (D.readD i).n = D.n := by
  unfold Dv.readD; split <;> exact ⟨Nat.le_refl _, rfl⟩
theorem len_crash (D : Dv) (fs : List Int) : (D.crashD fs).cache.length ≤ D.cache.length ∧ (D.crashD fs).n = D.n := ⟨Nat.zero_le _, n_puts _ _⟩
theorem len_garble (D : Dv) (i j : Int) (b : UInt8) : (D.garbleD i j b).cache.length ≤ D.cache.length ∧ (D.garbleD i j b).n = D.n := by
  unfold Dv.garbleD
  split
  · exact ⟨Nat.le_refl _, rfl⟩
  · rename_i hh
    have hi : i.toNat < D.n := by
      have : hasB D i = true := by cases h : hasB D i with | true => rfl | false => exact absurd (.inl h) hh
      unfold hasB at this; simp at this; omega
    have hc : (D.turnM i.toNat (j.toNat % D.size) b).cache = D.cache := by rw [D.turnM_eq _ _ _ hi]
    refine ⟨?_, ?_⟩
    · rw [Dv.turnC_len _ _ _ _ _ (by rw [hc]; exact Nat.le_refl _), hc]; exact Nat.le_refl _
    · show (D.turnM i.toNat (j.toNat % D.size) b).n = D.n
      rw [D.turnM_eq _ _ _ hi]; show List.length _ = _; rw [List.length_set]; rfl
end Go.Proofs.Ytlnocdmechidfaa.Dev
