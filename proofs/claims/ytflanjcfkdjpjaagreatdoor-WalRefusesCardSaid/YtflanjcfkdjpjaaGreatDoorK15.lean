/- Layers' contracts, bundled: WalF, WalC, WalA, WalD, AppF, WalR. -/
import Derived.Test.YtflanjcfkdjpjaaGreatDoorK14
import Derived.BigQuiet
import Derived.Deep.QuietTactic
import Derived.Outline
import Derived.Deep.DeepCutAuto
import Derived.StillTailTactics
import Derived.Test.YtflanjcfkdjpjaaGreatDoorK02
import Derived.Laws.AppendOwn
import Derived.Below
/- Layer 13's laws: head, flat. -/
namespace Go.Proofs.YtflanjcfkdjpjaaGreatDoor.Wal
open Go Go.RowKit Go.Proofs.YtflanjcfkdjpjaaGreatDoor Go.Proofs.YtflanjcfkdjpjaaGreatDoor.Lend Rec
set_option linter.unusedVariables false

set_option maxHeartbeats 4000000 in
set_option maxRecDepth 100000 in
/-- a list of updates is the beginning of itself -/
theorem head_any {va vb : Value} {l : List Up} {w : World} (ha : UR w va l) (hb : UR w vb l) (hl : l.length ≤ 1000000) :
    Calls Tryz.prog 14 #[va, vb] w fun e w' => e = .returned (.bool true) ∧ Below w.heap.size w w' := by
  obtain ⟨a, ca, rfl, hca⟩ := ha.form
  obtain ⟨b, cb, rfl, hcb⟩ := hb.form
  obtain ⟨n, hn⟩ : ∃ n, n = l.length := ⟨_, rfl⟩
  have HN := Lib.hid hn
  have HA := Lib.hid hca
  have HBB := Lib.hid hcb
  rw [← hn] at hl ⊢
  clear hn ha hb hca hcb
  have hnn : ¬ (n : Int) < (n : Int) := by omega
  go_enter Tryz.func14, Tryz.ntmps14
  go_wp2_with fail
  go_loopw [13] (fun i wr => ∃ k : Nat, k ≤ n ∧ i = .int .i64 k ∧ ∃ q, wr = w.drewN q) (fun i _ => n - (intOf i).toNat)
  case atStart => exact ⟨0, Nat.zero_le _, rfl, 0, rfl⟩
  case round =>
    obtain ⟨k, hk, rfl, q, rfl⟩ := hrel
    by_cases hlt : k < n
    · have hke : k < l.length := by rw [← HN.out]; exact hlt
      have hki : (k : Int) < (n : Int) := by omega
      obtain ⟨g, off, rfl, hc⟩ := HA.out (by omega)
      obtain ⟨g', off', rfl, hd⟩ := HBB.out (by omega)
      obtain ⟨u, hu⟩ : ∃ u, u = l[k] := ⟨_, rfl⟩
      have hc := hc k hke
      have hd := hd k hke
      rw [← hu] at hc hd
      have c0 : w.cell? ⟨g, off + k * 4, none⟩ = some (.int .u8 u.kind) := hc 0 (by omega)
      have c1 : w.cell? ⟨g, off + k * 4 + 1, none⟩ = some (.string (Lend.strOf u.key)) := hc 1 (by omega)
      have c2 : w.cell? ⟨g, off + k * 4 + 2, none⟩ = some (.string (Lend.strOf u.val)) := hc 2 (by omega)
      have c3 : w.cell? ⟨g, off + k * 4 + 3, none⟩ = some (.int .u64 u.delta) := hc 3 (by omega)
      have d0 : w.cell? ⟨g', off' + k * 4, none⟩ = some (.int .u8 u.kind) := hd 0 (by omega)
      have d1 : w.cell? ⟨g', off' + k * 4 + 1, none⟩ = some (.string (Lend.strOf u.key)) := hd 1 (by omega)
      have d2 : w.cell? ⟨g', off' + k * 4 + 2, none⟩ = some (.string (Lend.strOf u.val)) := hd 2 (by omega)
      have d3 : w.cell? ⟨g', off' + k * 4 + 3, none⟩ = some (.int .u64 u.delta) := hd 3 (by omega)
      have hki0 : 0 ≤ (k : Int) := by omega
      clear hc hd hu hke
      go_wp2_with fail
      go_quiet (fail)
      go_wp2_with fail
      go_roundw
      case rel => exact ⟨k + 1, by omega, by go_num, _, rfl⟩
      case measure => simp [intOf]; omega
    · have hkn : ¬ (k : Int) < (n : Int) := by omega
      go_wp2_with fail
      go_ret
      exact ⟨rfl, below_drewN (Below.refl _ _) _⟩
/-- a slice of records: numbers from n on, linked by the check c ahead of them -/
def RS (w : World) (v : Value) (n c : Int) (r : List (List Up)) : Prop := ∃ a cap, v = .slice a r.length cap ∧ (0 < r.length → ∃ g off, a = some ⟨g, off, none⟩ ∧
  ∀ i (hi : i < r.length), ∃ u, w.cell? ⟨g, off + i * 3, none⟩ = some (.int .u64 (n + i)) ∧ w.cell? ⟨g, off + i * 3 + 1, none⟩ = some (.int .u32 (chL n c (r.take i))) ∧ w.cell? ⟨g, off + i * 3 + 2, none⟩ = some u ∧ UR w u r[i])
theorem RS.below {w w' : World} {v : Value} {n c : Int} {r : List (List Up)} (h : RS w v n c r) (hb : Below w.heap.size w w') : RS w' v n c r := by
  obtain ⟨a, cap, rfl, hx⟩ := h
  refine ⟨a, cap, rfl, fun h0 => ?_⟩
  obtain ⟨g, off, rfl, hc⟩ := hx h0
  refine ⟨g, off, rfl, fun i hi => ?_⟩
  obtain ⟨u, h1, h2, h3, h4⟩ := hc i hi
  exact ⟨u, (hb.cell (World.block_lt_of_cell? _ _ h1)).trans h1, (hb.cell (World.block_lt_of_cell? _ _ h2)).trans h2, (hb.cell (World.block_lt_of_cell? _ _ h3)).trans h3, h4.below hb⟩
/-- the cells of a slice of updates -/
theorem UR.news {w : World} {v : Value} {l : List Up} (h : UR w v l) (h0 : l ≠ []) : ∃ g off cap, v = .slice (some ⟨g, off, none⟩) l.length cap ∧ ∀ j u, (flatU l)[j]? = some u → w.cell? ((⟨g, off, none⟩ : Addr).add j) = some u := by
  obtain ⟨a, cap, rfl, hx⟩ := h.form
  obtain ⟨g, off, rfl, hc⟩ := hx (List.length_pos_iff.2 h0)
  refine ⟨g, off, cap, rfl, fun j u hj => ?_⟩
  have hlt : j < l.length * 4 := by
    have := flatU_length l
    rcases Nat.lt_or_ge j (flatU l).length with h | h
    · omega
    · rw [List.getElem?_eq_none h] at hj; cases hj
  have e : j = j / 4 * 4 + j % 4 := by omega
  have h1 := hc (j / 4) (by omega) (j % 4) (by omega)
  rw [Addr.add_lit]
  have h2 := flatU_get l (j / 4) (by omega) (j % 4) (by omega)
  rw [← e] at h2
  rw [← h2, hj] at h1
  rw [← h1]
  congr 2
  omega
theorem flatU_one {l : List Up} : ∀ x ∈ flatU l, x.oneCell' = true := by
  intro x hx
  obtain ⟨u, _, hu⟩ := List.mem_flatMap.1 hx
  exact enc_one u x hu
theorem flatU_app (a b : List Up) : flatU (a ++ b) = flatU a ++ flatU b := by unfold flatU; simp
set_option maxHeartbeats 4000000 in
set_option maxRecDepth 100000 in
theorem flat_any {v : Value} {n c : Int} {r : List (List Up)} {w : World} (h : RS w v n c r) (hr : r.length ≤ 1000) (hne : ∀ l ∈ r, l ≠ []) (hlen : r.flatten.length ≤ 1000000) :
    Calls Tryz.prog 15 #[v] w fun e w' => ∃ v', e = .returned v' ∧ RA w' w.heap.size v' r.flatten ∧ Below w.heap.size w w' := by
  obtain ⟨ia, hia, hza0, hza1, hza2⟩ := info_parts info_up
  obtain ⟨a, cap, rfl, hx⟩ := h
  have HX := Lib.hid hx
  have HNE := Lib.hid hne
  have HL := Lib.hid hlen
  obtain ⟨m, hm⟩ : ∃ m, m = r.length := ⟨_, rfl⟩
  have HM := Lib.hid hm
  rw [← hm] at hr ⊢
  clear hx hne hlen hm
  go_enter Tryz.func15, Tryz.ntmps15
  go_wp2_with fail
  go_loopw [3, 8] (fun av i wr => ∃ (k : Nat) (av' : Value), k ≤ m ∧ av' = av ∧ i = .int .i64 k ∧ RA wr w.heap.size av' (r.take k).flatten ∧ Below w.heap.size w wr) (fun _ i _ => m - (intOf i).toNat)
  case atStart => exact ⟨0, _, Nat.zero_le _, rfl, rfl, World.ownsRow_nil _ _ _ _, Below.refl _ _⟩
  case round =>
    obtain ⟨k, av, hk, rfl, rfl, hra, hbl⟩ := hrel
    by_cases hlt : k < m
    · have hke : k < r.length := by rw [← HM.out]; exact hlt
      have hki : (k : Int) < (m : Int) := by omega
      obtain ⟨g, off, rfl, hc⟩ := HX.out (by omega)
      obtain ⟨u, d0, d1, d2, d3⟩ := hc k hke
      have c0 := (hbl.cell (World.block_lt_of_cell? _ _ d0)).trans d0
      have c1 := (hbl.cell (World.block_lt_of_cell? _ _ d1)).trans d1
      have c2 := (hbl.cell (World.block_lt_of_cell? _ _ d2)).trans d2
      obtain ⟨L, hL⟩ : ∃ L, L = r[k] := ⟨_, rfl⟩
      have hsn : (r.take (k + 1)).flatten = (r.take k).flatten ++ L := by rw [← List.take_append_getElem hke, List.flatten_append, hL]; simp
      have hle : ((r.take k).flatten ++ L).length ≤ 1000000 := by
        rw [← hsn]
        have e := congrArg (fun x => (List.flatten x).length) (List.take_append_drop (k + 1) r)
        simp only [List.flatten_append, List.length_append] at e
        have := HL.out
        omega
      have hn0 := HNE.out _ (List.getElem_mem hke)
      rw [← hL] at d3 hn0
      have HU := Lib.hid (d3.below hbl)
      obtain ⟨g', off', cp, rfl, hcl⟩ := UR.news HU.out hn0
      have HSN := Lib.hid hsn
      have HLE := Lib.hid hle
      have HRA := Lib.hid hra
      have HBL := Lib.hid hbl
      obtain ⟨M, hM⟩ : ∃ M, M = (r.take k).flatten := ⟨_, rfl⟩
      rw [← hM] at HSN HLE HRA
      have HCL := Lib.hid hcl
      clear hc d0 d1 d2 d3 hsn hle hn0 hra hbl hM hcl hL hke
      have HRA1 := Lib.hid (show RA (wr.alloc (.cells #[.int .u64 (n + k), .int .u32 (chL n c (r.take k)), .slice (some ⟨g', off', none⟩) L.length cp] 59)) w.heap.size av M from own_bel HRA.out (below_new _ _))
      have HBL1 := Lib.hid (show Below w.heap.size w (wr.alloc (.cells #[.int .u64 (n + k), .int .u32 (chL n c (r.take k)), .slice (some ⟨g', off', none⟩) L.length cp] 59)) from below_nw HBL.out _)
      have HCL1 := Lib.hid (show ∀ j u, (flatU L)[j]? = some u → (wr.alloc (.cells #[.int .u64 (n + k), .int .u32 (chL n c (r.take k)), .slice (some ⟨g', off', none⟩) L.length cp] 59)).cell? ((⟨g', off', none⟩ : Addr).add j) = some u from fun j u hj => (Below.cell (below_new _ _) (World.block_lt_of_cell? _ _ (HCL.out j u hj))).trans (HCL.out j u hj))
      go_wp2_with (at_builtin; refine wpList_append_own _ rfl _ _ 39 rfl w.heap.size 67 ia _ 4 48 Tryz.underlying39 hia hza0 hza1 hza2 rfl (by decide) _ M.length (flatU M) rfl HRA1.out ⟨g', off', none⟩ L.length cp (flatU L) rfl (flatU_length L) HCL1.out flatU_one ?c1 ?c2 ?c3 ?_)
      case c1 => have := HLE.out; rw [List.length_append] at this; unfold maxLen; omega
      case c2 => have := HLE.out; rw [List.length_append] at this; omega
      case c3 => exact HBL1.out.size
      intro av2 w4 hown4 hgr _
      have HA4 := Lib.hid (show RA w4 w.heap.size av2 (M ++ L) by unfold RA; rw [flatU_app, List.length_append]; exact hown4)
      have HE4 := Lib.hid (HBL1.out.grown hgr HBL1.out.size (fun q hq => (HRA1.out.lt q hq).1))
      clear hown4 hgr c0 c1 c2
      go_wp2_with fail
      go_roundw
      case rel => exact ⟨k + 1, _, by omega, rfl, by go_num, by rw [HSN.out]; exact HA4.out, HE4.out⟩
      case measure => simp [intOf]; omega
    · obtain rfl : k = m := by omega
      have htk : r.take k = r := by rw [HM.out, List.take_length]
      rw [htk] at hra
      have HRA := Lib.hid hra
      have HBL := Lib.hid hbl
      have hkn : ¬ (k : Int) < (k : Int) := by omega
      clear hra hbl htk
      go_wp2_with fail
      go_ret
      exact ⟨_, rfl, HRA.out, HBL.out⟩
end Go.Proofs.YtflanjcfkdjpjaaGreatDoor.Wal

/- Layer 13 (wal): what a log is, beside its mirror; what its blocks read. -/
namespace Go.Proofs.YtflanjcfkdjpjaaGreatDoor.Wal
open Go Go.RowKit Go.Proofs.YtflanjcfkdjpjaaGreatDoor Go.Proofs.YtflanjcfkdjpjaaGreatDoor.Lend Rec Dev Tab Rem Mir
set_option linter.unusedVariables false

/-- what both sides read of the blocks, where nothing is bad or moved -/
def fS (S : Nat → Sd) : F2 := fun s b => (S s).V (4 + b.toNat)
theorem fS_cont {S : Nat → Sd} (h : Pl S) {s b : Nat} (hs : s < 2) (hb : b < 16) : cont S noG s b = some (fS S s (b : Int)) := by
  unfold cont fS
  rw [h.pl hs, h.nb s hs (4 + b) (by omega) (by omega)]
  simp [noG]
theorem fS_st {S S' : Nat → Sd} {b : Nat} {d : ByteArray} {P : Nat → Prop} (h : Pl S) (hg : GoodS S) (k : St S S' noG b d P) (hb : b < 16) (hP : ∀ s, s < 2 → P s ∨ fS S s (b : Int) = d) {s : Nat} (hs : s < 2) {b' : Nat} (hb' : b' < 16) : fS S' s (b' : Int) = heal (fS S) (b : Int) d s (b' : Int) := by
  have h1 := fS_cont (h.st k) hs hb'
  have h2 := fS_cont h hs hb'
  unfold heal
  by_cases e : b' = b
  · subst e
    rw [if_pos rfl]
    rcases k.at_ s hs with ⟨k1, k2, k3⟩ | ⟨k1, k2, k3⟩
    · rw [k3] at h1; exact (Option.some.inj h1).symm
    · rcases hP s hs with hp | hp
      · exact absurd (by rw [wE_nobad h.nb hg hs hb]; rfl) (k1 hp)
      · rw [k2, h2] at h1; rw [← hp]; exact (Option.some.inj h1).symm
  · rw [if_neg (by omega)]
    have := k.far s hs b' hb' e
    rw [h1, h2] at this
    exact Option.some.inj this
theorem fS_write {S S' : Nat → Sd} {b : Nat} {d : ByteArray} (h : Pl S) (hg : GoodS S) (k : St S S' noG b d (fun t => t ∈ al noG)) (hb : b < 16) {s : Nat} (hs : s < 2) {b' : Nat} (hb' : b' < 16) : fS S' s (b' : Int) = heal (fS S) (b : Int) d s (b' : Int) :=
  fS_st h hg k hb (fun t ht => .inl (by rw [al_no]; rcases (show t = 0 ∨ t = 1 by omega) with rfl | rfl <;> simp)) hs hb'
theorem fS_heal {S S' : Nat → Sd} {b : Nat} {d : ByteArray} (h : Pl S) (hg : GoodS S) (k : St S S' noG b d (fun t => t ∈ al noG ∧ cont S noG t b ≠ some d)) (hb : b < 16) {s : Nat} (hs : s < 2) {b' : Nat} (hb' : b' < 16) : fS S' s (b' : Int) = heal (fS S) (b : Int) d s (b' : Int) :=
  fS_st h hg k hb (fun t ht => by
    by_cases e : fS S t (b : Int) = d
    · exact .inr e
    · refine .inl ⟨by rw [al_no]; rcases (show t = 0 ∨ t = 1 by omega) with rfl | rfl <;> simp, fun h2 => e ?_⟩
      rw [fS_cont h ht hb] at h2; exact Option.some.inj h2) hs hb'
/-- how many sides are healed -/
theorem fS_rep {S : Nat → Sd} {b : Nat} {d : ByteArray} (h : Pl S) (hg : GoodS S) (hb : b < 16) : hSum S noG b d (al noG) = rep (fS S) (b : Int) d := by
  have hl : ∀ t, t < 2 → hlN S noG t b d = if fS S t (b : Int) = d then 0 else 1 := fun t ht => by
    unfold hlN
    rw [fS_cont h ht hb]
    simp only [Option.some.injEq]
    have hr : rpN S noG t b = 1 := by unfold rpN; rw [wE_nobad h.nb hg ht hb]; rfl
    rw [hr]
  rw [al_no]
  unfold hSum rep
  simp only [List.map_cons, List.map_nil, List.sum_cons, List.sum_nil, Nat.add_zero]
  rw [hl 0 (by omega), hl 1 (by omega)]
/-- new devices' blocks hold noughts -/
theorem fS_new {S : Nat → Sd} (h0 : New (S 0)) (h1 : New (S 1)) {s b : Nat} (hs : s < 2) (hb : b < 16) : fS S s (b : Int) = noughts 192 := by
  unfold fS
  rw [Int.toNat_natCast]
  rcases (show s = 0 ∨ s = 1 by omega) with rfl | rfl
  · exact (h0.2 _ (by omega) (by omega)).1
  · exact (h1.2 _ (by omega) (by omega)).1
theorem repeatL_0 : ∀ m, Lib.repeatL [0] m = List.replicate m (0 : UInt8)
  | 0 => rfl
  | m + 1 => by rw [List.replicate_succ, ← repeatL_0 m]; rfl
/-- no record is told by noughts -/
theorem rc2_zero {f : F2} {b n c : Int} {m : Nat} (h : ∀ s, s < 2 → f s b = noughts m) : rc2 f b n c = none := by
  unfold rc2
  have e : (noughts m).data.toList = List.replicate m 0 := repeatL_0 m
  rw [h 0 (by omega), h 1 (by omega), e, rcO_zero]
  rfl
end Go.Proofs.YtflanjcfkdjpjaaGreatDoor.Wal

/- Layer 13 (wal): a log, beside its mirror; Next, Left, size, Room, block, head. -/
namespace Go.Proofs.YtflanjcfkdjpjaaGreatDoor.Wal
open Go Go.RowKit Go.Proofs.YtflanjcfkdjpjaaGreatDoor Dev Tab Rem Go.Maps Go.WideMaps Mir Rec
set_option linter.unusedVariables false
set_option maxRecDepth 100000

/-- a log's cells -/
def lrow (mm tl : Nat) (F C n : Int) (k : Nat) (ch : Int) : List Value := [.pointer (some ⟨mm, 0, none⟩), .pointer (some ⟨tl, 0, none⟩), .int .i64 F, .int .i64 C, .int .u64 n, .int .i64 k, .int .u32 ch]
/-- a ring that may be, and numbers -/
structure Rg (F C n : Int) (k : Nat) (ch : Int) : Prop where
  f0 : 0 ≤ F
  c2 : 2 ≤ C
  cm : C ≤ 256
  fc : F + C ≤ 16
  n0 : 0 ≤ n
  n1 : n ≤ 4611686018427487903
  k1 : (k : Int) ≤ C
  ch0 : 0 ≤ ch
  ch1 : ch < 4294967296
/-- the log at lb, whose checks' table is at tl, over the mirror at mm -/
structure Lg (w0 : World) (Y : List Nat) (lb tl mm tb bb q : Nat) (pd : Nat → Nat) (S : Nat → Sd) (c R : Nat) (F C n : Int) (k : Nat) (ch : Int) (w : World) : Prop where
  mg : MG w0 (lb :: tl :: Y) mm tb bb q pd S noG c R w
  row : Has w lb 92 (lrow mm tl F C n k ch)
  tab : Sum.IsTab w tl
  ny : lb ∉ Y
  nty : tl ∉ Y
  rg : Rg F C n k ch
section
variable {w0 w w' : World} {X Y Z : List Nat} {q c mm tb bb R s b lb tl : Nat} {pd : Nat → Nat} {S S' : Nat → Sd} {F C n ch : Int} {k : Nat}
theorem Lg.c0 (h : Lg w0 Y lb tl mm tb bb q pd S c R F C n k ch w) : w.cell? ⟨lb, 0, none⟩ = some (.pointer (some ⟨mm, 0, none⟩)) := h.row.cell 0
theorem Lg.c1 (h : Lg w0 Y lb tl mm tb bb q pd S c R F C n k ch w) : w.cell? ⟨lb, 1, none⟩ = some (.pointer (some ⟨tl, 0, none⟩)) := h.row.cell 1
theorem Lg.c2 (h : Lg w0 Y lb tl mm tb bb q pd S c R F C n k ch w) : w.cell? ⟨lb, 2, none⟩ = some (.int .i64 F) := h.row.cell 2
theorem Lg.c3 (h : Lg w0 Y lb tl mm tb bb q pd S c R F C n k ch w) : w.cell? ⟨lb, 3, none⟩ = some (.int .i64 C) := h.row.cell 3
theorem Lg.c4 (h : Lg w0 Y lb tl mm tb bb q pd S c R F C n k ch w) : w.cell? ⟨lb, 4, none⟩ = some (.int .u64 n) := h.row.cell 4
theorem Lg.c5 (h : Lg w0 Y lb tl mm tb bb q pd S c R F C n k ch w) : w.cell? ⟨lb, 5, none⟩ = some (.int .i64 k) := h.row.cell 5
theorem Lg.c6 (h : Lg w0 Y lb tl mm tb bb q pd S c R F C n k ch w) : w.cell? ⟨lb, 6, none⟩ = some (.int .u32 ch) := h.row.cell 6
theorem Lg.fz (h : Lg w0 Y lb tl mm tb bb q pd S c R F C n k ch w) (i : Nat) : w.frozen? ⟨lb, i, none⟩ = false := h.row.frozen i
theorem Lg.lt (h : Lg w0 Y lb tl mm tb bb q pd S c R F C n k ch w) : lb < w.heap.size := h.row.lt
/-- what a mirror's call leaves -/
theorem Lg.go {c' R' : Nat} (h : Lg w0 Y lb tl mm tb bb q pd S c R F C n k ch w) (hm : MG w0 (lb :: tl :: Y) mm tb bb q pd S' noG c' R' w') (hs : Same (lb :: tl :: Y) w w') : Lg w0 Y lb tl mm tb bb q pd S' c' R' F C n k ch w' :=
  ⟨hm, h.row.same (hs lb (by simp)), Mir.tab_same h.tab (hs tl (by simp)), h.ny, h.nty, h.rg⟩
theorem Lg.later (h : Lg w0 Y lb tl mm tb bb q pd S c R F C n k ch w) (hb : Below w.heap.size w w') : Lg w0 Y lb tl mm tb bb q pd S c R F C n k ch w' :=
  ⟨h.mg.later hb, h.row.below hb h.row.lt, h.tab.below hb (Nat.le_refl _), h.ny, h.nty, h.rg⟩
theorem Lg.drewN (h : Lg w0 Y lb tl mm tb bb q pd S c R F C n k ch w) (j : Nat) : Lg w0 Y lb tl mm tb bb q pd S c R F C n k ch (w.drewN j) := h.later (below_drewN (Below.refl _ _) j)
theorem Lg.mono {d : Nat} (h : Lg w0 Y lb tl mm tb bb q pd S c R F C n k ch w) (hd : c ≤ d) : Lg w0 Y lb tl mm tb bb q pd S d R F C n k ch w := ⟨h.mg.mono hd, h.row, h.tab, h.ny, h.nty, h.rg⟩
theorem Lg.sub (h : Lg w0 Y lb tl mm tb bb q pd S c R F C n k ch w) (hZ : ∀ j ∈ Z, j ∈ Y) : Lg w0 Z lb tl mm tb bb q pd S c R F C n k ch w :=
  ⟨h.mg.sub (fun j hj => by simp at hj ⊢; rcases hj with rfl | rfl | hj <;> simp [*]), h.row, h.tab, fun e => h.ny (hZ _ e), fun e => h.nty (hZ _ e), h.rg⟩
theorem Lg.fresh (h : Lg w0 Y lb tl mm tb bb q pd S c R F C n k ch w) (hb : Below w.heap.size w w') {b : Nat} (h1 : w.heap.size ≤ b) (h2 : b < w'.heap.size) : Lg w0 (b :: Y) lb tl mm tb bb q pd S c R F C n k ch w' :=
  ⟨(h.mg.fresh hb h1 h2).sub (fun j hj => by simp at hj ⊢; rcases hj with rfl | rfl | rfl | hj <;> simp [*]), h.row.below hb h.row.lt, h.tab.below hb (Nat.le_refl _), fun e => by
    rcases List.mem_cons.1 e with rfl | e
    · have := h.lt; omega
    · exact h.ny e, fun e => by
    rcases List.mem_cons.1 e with rfl | e
    · have := isTab_lt h.tab; omega
    · exact h.nty e, h.rg⟩
/-- a value's own block, if it has one, lasts, too -/
theorem Lg.freshV {v : Value} (h : Lg w0 Y lb tl mm tb bb q pd S c R F C n k ch w) (hb : Below w.heap.size w w') (hv : ∀ j, v.ownBlock = some j → w.heap.size ≤ j ∧ j < w'.heap.size) : ∃ Z, (∀ j, v.ownBlock = some j → j ∈ Z) ∧ (∀ j ∈ Z, w.heap.size ≤ j) ∧ Lg w0 (Z ++ Y) lb tl mm tb bb q pd S c R F C n k ch w' := by
  cases e : v.ownBlock with
  | none => exact ⟨[], (fun j hj => by cases hj), (fun j hj => by cases hj), h.later hb⟩
  | some j =>
    obtain ⟨h1, h2⟩ := hv j e
    exact ⟨[j], (fun i hi => by injection hi with hi; subst hi; simp), (fun i hi => by simp at hi; subst hi; exact h1), h.fresh hb h1 h2⟩
theorem Lg.y (h : Lg w0 Y lb tl mm tb bb q pd S c R F C n k ch w) : ∀ j ∈ Y, w0.heap.size ≤ j ∧ j < w.heap.size := fun j hj => h.mg.y j (by simp [hj])
theorem Lg.below (h : Lg w0 Y lb tl mm tb bb q pd S c R F C n k ch w) : Below w0.heap.size w0 w := h.mg.below
/-- a row that is the law's own grows -/
theorem Lg.grow {row : Option Nat} (h : Lg w0 Y lb tl mm tb bb q pd S c R F C n k ch w) (hg : w.grownBy w' row) (hr : ∀ j, row = some j → j ∈ Y) : Lg w0 Y lb tl mm tb bb q pd S c R F C n k ch w' :=
  ⟨h.mg.grow hg (fun j hj => by simp [hr j hj]), h.row.same (hg.block lb h.row.lt fun e => h.ny (hr lb e.symm)), Mir.tab_same h.tab (hg.block tl (isTab_lt h.tab) fun e => h.nty (hr tl e.symm)), h.ny, h.nty, h.rg⟩
/-- a log's cells are turned -/
theorem Lg.turn {n' ch' : Int} {k' : Nat} (h : Lg w0 Y lb tl mm tb bb q pd S c R F C n k ch w) (hc : Chg (fun j => j = lb) w w') (hr : Has w' lb 92 (lrow mm tl F C n' k' ch')) (hg : Rg F C n' k' ch') : Lg w0 Y lb tl mm tb bb q pd S c R F C n' k' ch' w' := by
  have hlt : lb ≠ tl := fun e => by
    have h1 := h.row
    have h2 := h.tab 0 (by omega)
    rw [← e, h1.cell] at h2
    cases h2
  refine ⟨mg_chg h.mg (hc.mono fun j _ hj => by simp [hj]), hr, Mir.tab_same h.tab (hc.block tl (isTab_lt h.tab) fun e => hlt e.symm), h.ny, h.nty, hg⟩
theorem Lg.same_y (h : Lg w0 Y lb tl mm tb bb q pd S c R F C n k ch w) (hc : Chg (fun j => j = lb) w w') : Same Y w w' := fun j hj => hc.block j (h.y j hj).2 fun e => h.ny (e ▸ hj)
/-! ### Next, Left, size, Room, block, head -/
theorem Rg.kb (h : Rg F C n k ch) : k ≤ 256 := by have := h.k1; have := h.cm; omega
theorem Next_l (h : Lg w0 Y lb tl mm tb bb q pd S c R F C n k ch w) : Calls Tryz.prog 20 #[.pointer (some ⟨lb, 0, none⟩)] w fun e w' => e = .returned (.tuple #[.int .u64 (n + k), .int .u32 ch]) ∧ ∃ j, w' = w.drewN j := by
  have c4 := h.c4
  have c5 := h.c5
  have c6 := h.c6
  have hk := h.rg.kb
  have n0 := h.rg.n0
  have n1 := h.rg.n1
  clear h
  have hw : IntKind.u64.wrap (k : Int) = k := by rw [IntKind.wrap_u64]; omega
  have hw2 : IntKind.u64.wrap (n + k) = n + k := by rw [IntKind.wrap_u64]; omega
  go_enter Tryz.func20, Tryz.ntmps20
  go_wp2_with fail
  go_quiet (fail)
  go_wp2
  go_ret2
  exact ⟨rfl, _, rfl⟩
theorem Next_n (w : World) : Calls Tryz.prog 20 #[.pointer none] w fun e w' => e = .returned (.tuple #[.int .u64 0, .int .u32 0]) ∧ w = w' := by
  go_enter Tryz.func20, Tryz.ntmps20
  go_wp2
  go_ret2
  exact ⟨rfl, rfl⟩
theorem Left_l (h : Lg w0 Y lb tl mm tb bb q pd S c R F C n k ch w) : Calls Tryz.prog 21 #[.pointer (some ⟨lb, 0, none⟩)] w fun e w' => e = .returned (.int .i64 (C - k)) ∧ ∃ j, w' = w.drewN j := by
  have c3 := h.c3
  have c5 := h.c5
  have k1 := h.rg.k1
  have cm := h.rg.cm
  have c2 := h.rg.c2
  clear h
  go_enter Tryz.func21, Tryz.ntmps21
  go_wp2_with fail
  go_quiet (fail)
  go_wp2
  go_ret
  exact ⟨rfl, _, rfl⟩
theorem Left_n (w : World) : Calls Tryz.prog 21 #[.pointer none] w fun e w' => e = .returned (.int .i64 0) ∧ w = w' := by
  go_enter Tryz.func21, Tryz.ntmps21
  go_wp2
  go_ret
  exact ⟨rfl, rfl⟩
theorem Pair_h (c0 : w.cell? ⟨mm, 0, none⟩ = some (.pointer (some ⟨q, 0, none⟩))) : Calls Tryz.prog 30 #[.pointer (some ⟨mm, 0, none⟩)] w fun e w' => e = .returned (.pointer (some ⟨q, 0, none⟩)) ∧ w = w' := by
  go_enter Tryz.func30, Tryz.ntmps30
  go_wp2
  go_ret
  exact ⟨rfl, rfl⟩
theorem Repairs_h (c2 : w.cell? ⟨mm, 2, none⟩ = some (.int .i64 (R : Nat))) : Calls Tryz.prog 22 #[.pointer (some ⟨mm, 0, none⟩)] w fun e w' => e = .returned (.int .i64 (R : Nat)) ∧ w = w' := by
  go_enter Tryz.func22, Tryz.ntmps22
  go_wp2
  go_ret
  exact ⟨rfl, rfl⟩
/-- how many bytes a block has: what that asks is the log's mirror, that one's pair, and that one's devices -/
structure Asks (w0 : World) (lb mm q : Nat) (pd : Nat → Nat) (w : World) : Prop where
  c0 : w.cell? ⟨lb, 0, none⟩ = some (.pointer (some ⟨mm, 0, none⟩))
  m0 : w.cell? ⟨mm, 0, none⟩ = some (.pointer (some ⟨q, 0, none⟩))
  pb : ∃ m, PB w q pd m
  cg : ∃ X q' S c, CG w0 X q' pd S noG c w
theorem Lg.asks (h : Lg w0 Y lb tl mm tb bb q pd S c R F C n k ch w) : Asks w0 lb mm q pd w := ⟨h.c0, h.mg.c0, ⟨_, h.mg.cg.pb⟩, _, _, _, _, h.mg.cg⟩
theorem Asks.later (h : Asks w0 lb mm q pd w) (hb : Below w.heap.size w w') : Asks w0 lb mm q pd w' := by
  obtain ⟨m, hm⟩ := h.pb
  obtain ⟨X, q', S, c, hc⟩ := h.cg
  exact ⟨(hb.cell (World.block_lt_of_cell? _ _ h.c0)).trans h.c0, (hb.cell (World.block_lt_of_cell? _ _ h.m0)).trans h.m0, ⟨m, hm.later hb⟩, X, q', S, c, hc.later hb⟩
theorem size_h (h : Asks w0 lb mm q pd w) : Calls Tryz.prog 41 #[.pointer (some ⟨lb, 0, none⟩)] w fun e w' => e = .returned (.int .i64 192) ∧ Below w.heap.size w w' := by
  have c0 := h.c0
  have HM := Lib.hid h.m0
  obtain ⟨m, hm⟩ := h.pb
  obtain ⟨X, q', S, c, hc⟩ := h.cg
  have HP := Lib.hid hm
  have HC := Lib.hid hc
  clear h hm hc
  have hfd : ∀ W, (Instr.field 79 (.agg #[.int .i64 24, .int .i64 192]) 1).run Tryz.prog W = .ok (.int .i64 192) W := fun W => by kernel_rfl
  go_enter Tryz.func41, Tryz.ntmps41
  go_wp2_with fail
  refine (Pair_h HM.out).mono ?_
  rintro e w1 ⟨rfl, rfl⟩
  go_wp2_with fail
  refine (device_e HP.out (s := 0) (by omega)).mono ?_
  rintro e w1 ⟨rfl, rfl⟩
  go_wp2_with fail
  refine (shape_g HC.out (s := 0) (by omega)).mono ?_
  rintro e w1 ⟨rfl, hb⟩
  have HB := Lib.hid hb
  clear hb c0
  go_wp2
  go_ret
  exact ⟨rfl, HB.out⟩
theorem size_l (h : Lg w0 Y lb tl mm tb bb q pd S c R F C n k ch w) : Calls Tryz.prog 41 #[.pointer (some ⟨lb, 0, none⟩)] w fun e w' => e = .returned (.int .i64 192) ∧ Below w.heap.size w w' := size_h h.asks
theorem ur_nil (w : World) : UR w (.slice none 0 0) [] := ⟨none, 0, rfl, fun h => absurd h (by decide)⟩
theorem pyT_0 (s c : Int) : (Lend.strOf (pyT s c [])).size = 14 := by
  rw [ssize, pyT_ok (fun u hu => by cases hu), List.length_append, hd3_length]; rfl
theorem Room_h (h : Asks w0 lb mm q pd w) : Calls Tryz.prog 24 #[.pointer (some ⟨lb, 0, none⟩)] w fun e w' => e = .returned (.int .i64 (192 - 38)) ∧ Below w.heap.size w w' := by
  have HA := Lib.hid h
  have HR := Lib.hid (show Env.roomN 192 = 192 - 24 by decide)
  have HPZ := Lib.hid (pyT_0 0 0)
  obtain ⟨P, hP⟩ : ∃ x, x = Lend.strOf (pyT 0 0 []) := ⟨_, rfl⟩
  have HPP := Lib.hid hP
  rw [← hP] at HPZ
  clear h hP
  go_enter Tryz.func24, Tryz.ntmps24
  go_wp2_with fail
  refine (Payload_any 0 0 (ur_nil _) ⟨by omega, by decide, by omega, by decide, by decide⟩ (fun u hu => by cases hu)).mono ?_
  rintro e w1 ⟨rfl, hb⟩
  rw [← HPP.out]
  have HA1 := Lib.hid (HA.out.later hb)
  have HB1 := Lib.hid hb
  clear hb
  go_wp2_with fail
  refine (size_h HA1.out).mono ?_
  rintro e w2 ⟨rfl, hb⟩
  have HB2 := Lib.hid (below_on HB1.out hb)
  clear hb
  go_wp2_with fail
  refine (Env.room_any 192 _).mono ?_
  rintro e w3 ⟨rfl, rfl⟩
  rw [HR.out]
  have hz := HPZ.out
  go_wp2
  go_ret
  exact ⟨rfl, HB2.out⟩
theorem bk_eq (h : Rg F C n k ch) : F + (n % C + k) % C = bk F C (n + k) := by
  unfold bk; rw [Int.emod_add_emod]
theorem bk_at (h : Rg F C n k ch) (m : Int) : ∃ b : Nat, bk F C m = b ∧ b < 16 := by
  have h1 := bk_bd (F := F) (n := m) (show 0 < C by have := h.c2; omega)
  have := h.fc; have := h.f0
  exact ⟨(bk F C m).toNat, by omega, by omega⟩
end
end Go.Proofs.YtflanjcfkdjpjaaGreatDoor.Wal

/- Layer 13 (wal): block, head, open, add. -/
namespace Go.Proofs.YtflanjcfkdjpjaaGreatDoor.Wal
open Go Go.RowKit Go.Proofs.YtflanjcfkdjpjaaGreatDoor Dev Tab Rem Go.Maps Go.WideMaps Mir Rec
set_option linter.unusedVariables false
section
variable {w0 w w' : World} {X Y Z : List Nat} {q c mm tb bb R s b lb tl : Nat} {pd : Nat → Nat} {S S' : Nat → Sd} {F C n ch : Int} {k : Nat}
theorem ret_i {a b : Int} (h : a = b) : Ending.returned (.int .i64 a) = .returned (.int .i64 b) := by rw [h]
set_option maxRecDepth 100000 in
theorem block_l (h : Lg w0 Y lb tl mm tb bb q pd S c R F C n k ch w) : Calls Tryz.prog 44 #[.pointer (some ⟨lb, 0, none⟩)] w fun e w' => e = .returned (.int .i64 (bk F C (n + k))) ∧ ∃ j, w' = w.drewN j := by
  have c2 := h.c2
  have c3 := h.c3
  have c4 := h.c4
  have c5 := h.c5
  have HE := Lib.hid (bk_eq h.rg)
  obtain ⟨f0, d2, cm, fc, n0, n1, k1, _, _⟩ := h.rg
  clear h
  obtain ⟨x, hx⟩ : ∃ x, x = n % C := ⟨_, rfl⟩
  have hx0 : 0 ≤ x := by rw [hx]; exact Int.emod_nonneg n (by omega)
  have hx1 : x < C := by rw [hx]; exact Int.emod_lt_of_pos n (by omega)
  obtain ⟨y, hy⟩ : ∃ y, y = (x + k) % C := ⟨_, rfl⟩
  have hy0 : 0 ≤ y := by rw [hy]; exact Int.emod_nonneg _ (by omega)
  have hy1 : y < C := by rw [hy]; exact Int.emod_lt_of_pos _ (by omega)
  rw [← hx, ← hy] at HE
  have hwC : IntKind.u64.wrap C = C := by rw [IntKind.wrap_u64]; omega
  have hwk : IntKind.u64.wrap (k : Int) = k := by rw [IntKind.wrap_u64]; omega
  have hwx : IntKind.u64.wrap x = x := by rw [IntKind.wrap_u64]; omega
  have hwy : IntKind.u64.wrap y = y := by rw [IntKind.wrap_u64]; omega
  have hws : IntKind.u64.wrap (x + k) = x + k := by rw [IntKind.wrap_u64]; omega
  have hwi : IntKind.i64.wrap y = y := IntWalk.i64_in _ (by omega)
  have hwf : IntKind.i64.wrap (F + y) = F + y := IntWalk.i64_in _ (by omega)
  have hC0 : ¬ C = 0 := by omega
  have ht : Int.tmod n C = x := by rw [Int.tmod_eq_emod_of_nonneg n0, hx]
  have ht2 : Int.tmod (x + k) C = y := by rw [Int.tmod_eq_emod_of_nonneg (by omega), hy]
  have he : n % C = x := hx.symm
  have he2 : (x + k) % C = y := hy.symm
  clear hx hy
  go_enter Tryz.func44, Tryz.ntmps44
  go_wp2_with fail
  go_quiet (fail)
  go_wp2
  go_ret
  exact ⟨ret_i HE.out, _, rfl⟩
/-- what a record's image says of itself -/
abbrev hdV (b n : Int) : Value := .agg #[.int .u8 3, .int .i64 b, .int .u64 n]
set_option maxRecDepth 100000 in
theorem head_l (h : Lg w0 Y lb tl mm tb bb q pd S c R F C n k ch w) : Calls Tryz.prog 42 #[.pointer (some ⟨lb, 0, none⟩)] w fun e w' => e = .returned (hdV (bk F C (n + k)) (n + k)) ∧ Below w.heap.size w w' := by
  have HL := Lib.hid (h.later (below_new w (.cells #[.int .u8 0, .int .i64 0, .int .u64 0] 113)))
  have HH := Has.new w [.int .u8 0, .int .i64 0, .int .u64 0] 113
  have e0 := HH.cell 0
  have e1 := HH.cell 1
  have e2 := HH.cell 2
  have q0 := HH.frozen 0
  have q1 := HH.frozen 1
  have q2 := HH.frozen 2
  simp only [List.getElem?_cons_zero, List.getElem?_cons_succ] at e0 e1 e2
  clear h HH
  go_enter Tryz.func42, Tryz.ntmps42
  go_wp2_with fail
  refine (Next_l HL.out).mono ?_
  rintro e w1 ⟨rfl, j1, rfl⟩
  go_wp2_with fail
  refine (block_l (HL.out.drewN j1)).mono ?_
  rintro e w1 ⟨rfl, j2, rfl⟩
  obtain ⟨B, hB⟩ : ∃ x, x = bk F C (n + k) := ⟨_, rfl⟩
  have HBB := Lib.hid hB
  rw [← hB]
  clear hB
  go_wp2
  refine bodyPost_ret (v := hdV B (n + k)) (by simp [results, Tryz.results42, go_sem, hdV]) rfl ⟨by rw [HBB.out], ?_⟩
  repeat (first | exact Below.refl _ _ | exact below_drewN (below_nw (Below.refl _ _) _) _ | apply below_nw | refine Env.below_st ?_ (Nat.le_refl _) _)
end
end Go.Proofs.YtflanjcfkdjpjaaGreatDoor.Wal

/- append to a row of one's own: the new row's block is the elder one's, or new. -/
namespace Go.Proofs.YtflanjcfkdjpjaaGreatDoor
open Go Go.RowKit
section
variable {P : Program} (w : World)
theorem append_place (base : Nat) (t ty e : TypeId) (i : TypeInfo) (z : Value) (size bytes : Nat) (ht : P.underlying t = some (.slice e)) (hi : P.info? e = some i) (hz : i.zero = some z)
    (hsize : i.size = size) (hby : i.bytes = bytes) (hzs : z.cells.size = size) (hsz : 0 < size)
    (v : Value) (n : Nat) (xs : List Value) (hown : w.ownsRow base e size v n xs)
    (a : Addr) (m c : Nat) (news : List Value) (hl : news.length = m * size) (hnews : ∀ j u, news[j]? = some u → w.cell? (a.add j) = some u) (h1 : ∀ u ∈ news, u.oneCell' = true)
    (h63 : n + m ≤ maxLen) (hbytes : (n + m) * bytes ≤ 140737488355328) {v' : Value} {w' : World}
    (hr : (Builtin.append_ #[t, t] ty #[v, .slice (some a) m c]).run P w = .ok v' w') : ∀ k, v'.ownBlock = some k → v.ownBlock = some k ∨ (w.heap.size ≤ k ∧ Below w.heap.size w w') := by
  subst hsize
  subst hby
  have hsmall : n + m ≤ 9223372036854775807 := by simp only [maxLen] at h63; omega
  rcases hown.2 with ⟨rfl, rfl⟩ | ⟨g, cap, cur, rfl, hbg, hg, hnc, hcm, hcs, htake⟩
  · by_cases hm : m = 0
    · subst hm
      have hr2 : (Builtin.append_ #[t, t] ty #[.slice none 0 0, .slice (some a) 0 c]).run P w = .ok (.slice none 0 0) w := by
        simp [Builtin.append_, run_underlying ht, sizeOf, typeInfo, hi, Builtin.lenOf, Builtin.firstCells, loadCells, loadCellsFrom]
      rw [hr2] at hr
      injection hr with e1 e2
      subst e1
      intro k hk; cases hk
    · have hr2 := run_append_nil (P := P) w t ty e i z ht hi hz a m c news hl hnews (by omega) (by omega) (by have hb := hbytes; simp only [Nat.zero_add] at hb; omega)
      rw [hr2] at hr
      injection hr with e1 e2
      subst e1
      subst e2
      intro k hk
      injection hk with hk
      exact .inr ⟨Nat.le_of_eq hk, (Below.refl _ w).drew.alloc (Nat.le_refl _) _⟩
  · by_cases hroom : n + m ≤ cap
    · have hfit : n * i.size + news.length ≤ cur.size := by rw [hl, hcs, ← Nat.add_mul]; exact Nat.mul_le_mul_right _ hroom
      have hr2 := run_append_room (P := P) w t ty e i ht hi g n cap cur hg a m c news hl hnews h1 hroom hfit
      rw [hr2] at hr
      injection hr with e1 e2
      subst e1
      exact fun k hk => .inl hk
    · have holds : ∀ j u, xs[j]? = some u → w.cell? ((⟨g, 0, none⟩ : Addr).add j) = some u := hown.cells (g := g) rfl
      have hr2 := run_append_grow (P := P) w t ty e i z ht hi hz ⟨g, 0, none⟩ n cap xs hown.1 holds a m c news hl hnews (by omega) (by omega) (growslice_fits (by omega) hbytes)
      rw [hr2] at hr
      injection hr with e1 e2
      subst e1
      subst e2
      intro k hk
      injection hk with hk
      exact .inr ⟨Nat.le_of_eq hk, (Below.refl _ w).drew.alloc (Nat.le_refl _) _⟩
variable {w}
theorem wpList_append_place {ops : Array Oper} {rest : List Oper} {o : Oper} {a : Act} {Q : Exit → Act → World → Prop} (hgd : o.guard = none) (s x : Operand) (t : TypeId)
    (ho : o.op = .call { callee := .builtin .append, args := #[s, x], argTypes := #[t, t] })
    (base : Nat) (e : TypeId) (i : TypeInfo) (z : Value) (size bytes : Nat) (ht : P.underlying t = some (.slice e)) (hi : P.info? e = some i) (hz : i.zero = some z)
    (hsize : i.size = size) (hby : i.bytes = bytes) (hzs : z.cells.size = size) (hsz : 0 < size)
    (v : Value) (n : Nat) (xs : List Value) (hs : a.eval s = v) (hown : w.ownsRow base e size v n xs)
    (ad : Addr) (m c : Nat) (news : List Value) (hx : a.eval x = .slice (some ad) m c) (hl : news.length = m * size) (hnews : ∀ j u, news[j]? = some u → w.cell? (ad.add j) = some u) (h1 : ∀ u ∈ news, u.oneCell' = true)
    (h63 : n + m ≤ maxLen) (hbytes : (n + m) * bytes ≤ 140737488355328) (hbase : base ≤ w.heap.size)
    (h : ∀ v' w', w'.ownsRow base e size v' (n + m) (xs ++ news) → w.grownBy w' v.ownBlock → (∀ k, v'.ownBlock = some k → v.ownBlock = some k ∨ (w.heap.size ≤ k ∧ Below w.heap.size w w')) → wpList P ops Q rest (a.put o.dst v') w') : wpList P ops Q (o :: rest) a w := by
  refine wpList_plain hgd fun _ hK => ?_
  obtain ⟨v', w', hr, h2, h3, h4⟩ := run_append_own (P := P) w base t o.type e i z size bytes ht hi hz hsize hby hzs hsz v n xs hown ad m c news hl hnews h1 h63 hbytes hbase
  have hp := append_place (P := P) w base t o.type e i z size bytes ht hi hz hsize hby hzs hsz v n xs hown ad m c news hl hnews h1 h63 hbytes hr
  unfold Oper.wp execOp
  simp only [ho, resolve, invoke, builtin, Sem.run_bind, Sem.run_pure, Result.andThen_ok, List.map_toArray, List.map_cons, List.map_nil, hs, hx, hr]
  exact hK _ _ (h v' w' h2 h3 hp)
end
end Go.Proofs.YtflanjcfkdjpjaaGreatDoor

/- Layer 13 (wal): rows of records. -/
namespace Go.Proofs.YtflanjcfkdjpjaaGreatDoor.Wal
open Go Go.RowKit Go.Proofs.YtflanjcfkdjpjaaGreatDoor Go.Proofs.YtflanjcfkdjpjaaGreatDoor.Lend Rec
set_option linter.unusedVariables false

def enc3 (t : Int × Int × Value) : List Value := [.int .u64 t.1, .int .u32 t.2.1, t.2.2]
def flat3 (T : List (Int × Int × Value)) : List Value := T.flatMap enc3
theorem flat3_length (T : List (Int × Int × Value)) : (flat3 T).length = T.length * 3 := by
  unfold flat3
  induction T with
  | nil => rfl
  | cons u l ih => rw [List.flatMap_cons, List.length_append, ih]; simp [enc3]; omega
theorem flat3_snoc (T : List (Int × Int × Value)) (t : Int × Int × Value) : flat3 (T ++ [t]) = flat3 T ++ enc3 t := by unfold flat3; simp
theorem flat3_get : ∀ (l : List (Int × Int × Value)) (i : Nat) (hi : i < l.length) (j : Nat), j < 3 → (flat3 l)[i * 3 + j]? = (enc3 l[i])[j]?
  | [], i, hi, _, _ => by cases hi
  | u :: l, 0, _, j, hj => by
    unfold flat3
    rw [List.flatMap_cons, List.getElem?_append_left (by simp [enc3]; omega)]
    simp
  | u :: l, i + 1, hi, j, hj => by
    have e : flat3 (u :: l) = enc3 u ++ flat3 l := by unfold flat3; simp
    rw [e, List.getElem?_append_right (by simp [enc3]; omega), show (i + 1) * 3 + j - (enc3 u).length = i * 3 + j by simp [enc3]; omega]
    exact flat3_get l i (by simpa using hi) j hj
/-- a row of records -/
abbrev RR (w : World) (base : Nat) (v : Value) (T : List (Int × Int × Value)) : Prop := w.ownsRow base 59 3 v T.length (flat3 T)
theorem ra_rr {w : World} {B B' : Nat} {v v' : Value} {l : List Up} {T : List (Int × Int × Value)} (h : RA w B v l) (h' : RR w B' v' T) : ∀ k, v.ownBlock = some k → v'.ownBlock ≠ some k := by
  intro k h1 h2
  rcases h.2 with ⟨rfl, _⟩ | ⟨g, cap, cur, rfl, _, hg, _⟩
  · cases h1
  · rcases h'.2 with ⟨rfl, _⟩ | ⟨g', cap', cur', rfl, _, hg', _⟩
    · cases h2
    · injection h1 with h1
      injection h2 with h2
      have h1 : g = k := h1
      have h2 : g' = k := h2
      subst h1; subst h2
      rw [hg] at hg'
      injection hg' with hg'
      injection hg' with e1 e2
      exact absurd e2 (by decide)
/-- a row of records from number n on, linked by the check c ahead of them; its blocks are of Z -/
structure RZ (w : World) (base : Nat) (Z : List Nat) (v : Value) (n c : Int) (r : List (List Up)) : Prop where
  rows : ∃ T : List (Int × Int × Value), T.length = r.length ∧ RR w base v T ∧ ∀ i (hi : i < T.length) (hr : i < r.length), T[i].1 = n + i ∧ T[i].2.1 = chL n c (r.take i) ∧ RA w base T[i].2.2 r[i] ∧ ∀ k, T[i].2.2.ownBlock = some k → k ∈ Z
  own : ∀ k, v.ownBlock = some k → k ∈ Z
section
variable {w w' : World} {base : Nat} {Z Z' : List Nat} {v v' : Value} {n c : Int} {r : List (List Up)} {l : List Up}
theorem RZ.nil (w : World) (base : Nat) (Z : List Nat) (n c : Int) : RZ w base Z (.slice none 0 0) n c [] := ⟨⟨[], rfl, World.ownsRow_nil _ _ _ _, fun i hi => by cases hi⟩, fun k hk => by cases hk⟩
theorem RZ.same (h : RZ w base Z v n c r) (hs : ∀ k ∈ Z, w'.heap[k]? = w.heap[k]?) : RZ w' base Z v n c r := by
  obtain ⟨⟨T, h1, h2, h3⟩, h4⟩ := h
  refine ⟨⟨T, h1, owns_same h2 fun k hk => hs k (h4 k hk), fun i hi hr => ?_⟩, h4⟩
  obtain ⟨a, b, d, e⟩ := h3 i hi hr
  exact ⟨a, b, owns_same d fun k hk => hs k (e k hk), e⟩
theorem RZ.mono (h : RZ w base Z v n c r) (hZ : ∀ k ∈ Z, k ∈ Z') : RZ w base Z' v n c r := by
  obtain ⟨⟨T, h1, h2, h3⟩, h4⟩ := h
  exact ⟨⟨T, h1, h2, fun i hi hr => by obtain ⟨a, b, d, e⟩ := h3 i hi hr; exact ⟨a, b, d, fun k hk => hZ k (e k hk)⟩⟩, fun k hk => hZ k (h4 k hk)⟩
theorem RZ.rs (h : RZ w base Z v n c r) : RS w v n c r := by
  obtain ⟨⟨T, h1, h2, h3⟩, h4⟩ := h
  rcases h2.2 with ⟨hv, h0⟩ | ⟨g, cap, cur, hv, hb, hg, hn, hm, hs, ht⟩
  · exact ⟨none, 0, by rw [hv, ← h1, h0], fun hp => by omega⟩
  · refine ⟨some ⟨g, 0, none⟩, cap, by rw [hv, h1], fun _ => ⟨g, 0, rfl, fun i hi => ?_⟩⟩
    obtain ⟨a, b, d, e⟩ := h3 i (by omega) hi
    have key : ∀ j, j < 3 → w.cell? ⟨g, 0 + i * 3 + j, none⟩ = (enc3 T[i])[j]? := fun j hj => by
      rw [← flat3_get T i (by omega) j hj, ← ht, List.getElem?_take, if_pos (by omega)]
      unfold World.cell?
      simp only [hg]
      simp
    refine ⟨T[i].2.2, ?_, ?_, ?_, UR.of_own d⟩
    · exact (key 0 (by omega)).trans (by rw [← a]; rfl)
    · exact (key 1 (by omega)).trans (by rw [← b]; rfl)
    · exact (key 2 (by omega)).trans rfl
/-- one more -/
theorem RZ.snoc {T : List (Int × Int × Value)} {u : Value} (h1 : T.length = r.length) (h2 : RR w base v T)
    (h3 : ∀ i (hi : i < T.length) (hr : i < r.length), T[i].1 = n + i ∧ T[i].2.1 = chL n c (r.take i) ∧ RA w base T[i].2.2 r[i] ∧ ∀ k, T[i].2.2.ownBlock = some k → k ∈ Z)
    (hu : RA w base u l) (huz : ∀ k, u.ownBlock = some k → k ∈ Z) (hown : w'.ownsRow base 59 3 v' (T.length + 1) (flat3 T ++ enc3 (n + r.length, chL n c r, u))) (hg : w.grownBy w' v.ownBlock) (hv : ∀ k, v'.ownBlock = some k → k ∈ Z') (hZ : ∀ k ∈ Z, k ∈ Z') : RZ w' base Z' v' n c (r ++ [l]) := by
  have keep : ∀ {u' : Value} {l' : List Up}, RA w base u' l' → RA w' base u' l' := fun {u' l'} h => owns_same h fun k hk => hg.block k (h.lt k hk).2 fun e => ra_rr h h2 k hk e.symm
  refine ⟨⟨T ++ [(n + r.length, chL n c r, u)], by simp [h1], ?_, fun i hi hr => ?_⟩, hv⟩
  · unfold RR
    rw [flat3_snoc, List.length_append, List.length_singleton]
    exact hown
  · by_cases e : i < T.length
    · have e1 : (T ++ [(n + (r.length : Int), chL n c r, u)])[i] = T[i] := List.getElem_append_left e
      have e2 : (r ++ [l])[i] = r[i]'(by omega) := List.getElem_append_left (by omega)
      have e3 : (r ++ [l]).take i = r.take i := by rw [List.take_append_of_le_length (by omega)]
      obtain ⟨a, b, d, f⟩ := h3 i e (by omega)
      rw [e1, e2, e3]
      exact ⟨a, b, keep d, fun k hk => hZ k (f k hk)⟩
    · have hi2 : i = r.length := by rw [List.length_append, List.length_singleton] at hr; omega
      subst hi2
      have e1 : (T ++ [(n + (r.length : Int), chL n c r, u)])[r.length] = (n + (r.length : Int), chL n c r, u) := by simp [← h1]
      have e2 : (r ++ [l])[r.length] = l := by simp
      have e3 : (r ++ [l]).take r.length = r := by simp
      rw [e1, e2, e3]
      exact ⟨rfl, rfl, keep hu, fun k hk => hZ k (huz k hk)⟩
end
end Go.Proofs.YtflanjcfkdjpjaaGreatDoor.Wal

