/-
  The law SuperOpens holds: the superblock of every image is the document's, or its error, also of images of other kinds, slots and payloads. Conditions: none but the row's own.
-/
import Derived.Test.YtimdemdopnmijaaDoorRows
import Derived.Test.YtimdemdopnmijaaDoorSupW
import Derived.Test.YtimdemdopnmijaaDoorUno
import Derived.Deep.DeepCutAuto
import Derived.BigQuiet
import Derived.Deep.QuietTactic
import Derived.Test.YtimdemdopnmijaaDoorCards
import Derived.Test.YtimdemdopnmijaaDoorTie
import Derived.Test.YtimdemdopnmijaaDoorArr
import Derived.WalkKit
import Derived.ProofKit
import Derived.OpenShut
import Derived.ShutString
import Derived.ChangeOld
import Derived.Below
import Derived.Carry
import Derived.Deep.DeepHandedRow
import Derived.Lib.LaidTab
namespace Go.Proofs.YtimdemdopnmijaaDoor.superOpens
open Go.ChangeShapes Go.WideShapes Go.ChangeAt Go.RowKit
open Go.Proofs.YtimdemdopnmijaaDoor
open Go.ChangeMaps (open_string shut_string)
set_option linter.unusedVariables false

theorem own : ownKnob Tryd.prog.godebug = none := by kernel_rfl
theorem laidOut : laidOutB Tryd.prog = true := by kernel_rfl

theorem len2 {α : Type} : ∀ l : List α, l.length = 2 → ∃ z0 z1, l = [z0, z1]
  | [z0, z1], _ => ⟨z0, z1, rfl⟩
theorem len7 {α : Type} : ∀ l : List α, l.length = 7 → ∃ z0 z1 z2 z3 z4 z5 z6, l = [z0, z1, z2, z3, z4, z5, z6]
  | [z0, z1, z2, z3, z4, z5, z6], _ => ⟨z0, z1, z2, z3, z4, z5, z6, rfl⟩

open Go.Proofs.YtimdemdopnmijaaDoor.Sup Go.Proofs.YtimdemdopnmijaaDoor.Env
def Good (g rg c s ch : Int) : Prop := (0 ≤ g ∧ g < 18446744073709551616) ∧ Nums rg c s ch
theorem Good.tam {g rg c s ch : Int} (h : Good g rg c s ch) : Good (tamG g) (tamR rg g) c s ch :=
  ⟨tamG_bd h.1.1 h.1.2, (tamR_bd (g := g) h.2.rg0 h.2.rg1).1, (tamR_bd (g := g) h.2.rg0 h.2.rg1).2, h.2.c0, h.2.c1, h.2.s0, h.2.s1, h.2.ch0, h.2.ch1⟩
/-- a superblock's seven cells at a place -/
def At7 (W : World) (p o : Nat) (g a rg c h s ch : Int) : Prop :=
  W.cell? ⟨p, o, none⟩ = some (.int .u64 g) ∧ W.cell? ⟨p, o + 1, none⟩ = some (.int .i64 a) ∧ W.cell? ⟨p, o + 2, none⟩ = some (.int .u64 rg) ∧ W.cell? ⟨p, o + 3, none⟩ = some (.int .u32 c) ∧
  W.cell? ⟨p, o + 4, none⟩ = some (.int .i64 h) ∧ W.cell? ⟨p, o + 5, none⟩ = some (.int .u64 s) ∧ W.cell? ⟨p, o + 6, none⟩ = some (.int .u32 ch)
theorem At7.on {W W' : World} {p o : Nat} {g a rg c h s ch : Int} (hh : At7 W p o g a rg c h s ch) (hb : Below W.heap.size W W') : At7 W' p o g a rg c h s ch :=
  ⟨cells_on hh.1 hb, cells_on hh.2.1 hb, cells_on hh.2.2.1 hb, cells_on hh.2.2.2.1 hb, cells_on hh.2.2.2.2.1 hb, cells_on hh.2.2.2.2.2.1 hb, cells_on hh.2.2.2.2.2.2 hb⟩
theorem at7 {W : World} {p : Nat} {t : TypeId} {g a rg c h s ch : Int} (hh : Has W p t [.int .u64 g, .int .i64 a, .int .u64 rg, .int .u32 c, .int .i64 h, .int .u64 s, .int .u32 ch]) : At7 W p 0 g a rg c h s ch := has7 hh
theorem two7 {W : World} {p : Nat} {t : TypeId} {g a rg c h s ch g' a' rg' c' h' s' ch' : Int}
    (H : Has W p t [.int .u64 g, .int .i64 a, .int .u64 rg, .int .u32 c, .int .i64 h, .int .u64 s, .int .u32 ch, .int .u64 g', .int .i64 a', .int .u64 rg', .int .u32 c', .int .i64 h', .int .u64 s', .int .u32 ch'])
    (G : Good g rg c s ch) (G' : Good g' rg' c' s' ch') : ∀ q, q < 2 → ∃ z0 z1 z2 z3 z4 z5 z6 : Int, Good z0 z2 z3 z5 z6 ∧ At7 W p (q * 7) z0 z1 z2 z3 z4 z5 z6 := by
  intro q hq
  match q, hq with
  | 0, _ => exact ⟨g, a, rg, c, h, s, ch, G, H.cell 0, H.cell 1, H.cell 2, H.cell 3, H.cell 4, H.cell 5, H.cell 6⟩
  | 1, _ => exact ⟨g', a', rg', c', h', s', ch', G', H.cell 7, H.cell 8, H.cell 9, H.cell 10, H.cell 11, H.cell 12, H.cell 13⟩
theorem keep7 {w1 w2 : World} {p : Nat} {x0 x1 x2 x3 x4 x5 x6 : Value} (h : w1.cell? ⟨p, 0, none⟩ = some x0 ∧ w1.cell? ⟨p, 1, none⟩ = some x1 ∧ w1.cell? ⟨p, 2, none⟩ = some x2 ∧ w1.cell? ⟨p, 3, none⟩ = some x3 ∧ w1.cell? ⟨p, 4, none⟩ = some x4 ∧ w1.cell? ⟨p, 5, none⟩ = some x5 ∧ w1.cell? ⟨p, 6, none⟩ = some x6) (hb : Below w1.heap.size w1 w2) :
    w2.cell? ⟨p, 0, none⟩ = some x0 ∧ w2.cell? ⟨p, 1, none⟩ = some x1 ∧ w2.cell? ⟨p, 2, none⟩ = some x2 ∧ w2.cell? ⟨p, 3, none⟩ = some x3 ∧ w2.cell? ⟨p, 4, none⟩ = some x4 ∧ w2.cell? ⟨p, 5, none⟩ = some x5 ∧ w2.cell? ⟨p, 6, none⟩ = some x6 :=
  ⟨cells_on h.1 hb, cells_on h.2.1 hb, cells_on h.2.2.1 hb, cells_on h.2.2.2.1 hb, cells_on h.2.2.2.2.1 hb, cells_on h.2.2.2.2.2.1 hb, cells_on h.2.2.2.2.2.2 hb⟩
theorem sealS_size (size k a g : Int) (pl : List UInt8) : (sealS size k a g pl).size ≤ 1024 := by
  unfold sealS
  split
  · rename_i h
    have hs : szB size = true ∧ (pl.length : Int) ≤ size - 24 := by
      unfold sealE at h
      split at h
      · rename_i h1; split at h
        · rename_i h2; exact ⟨h1.1, h2⟩
        · cases h
      · cases h
    have h1 : 128 ≤ size ∧ size ≤ 1024 := by simpa [szB] using hs.1
    show (imgL k a g (size - 24).toNat pl).length ≤ 1024
    rw [imgL_length _ _ _ _ _ (by omega)]; omega
  · exact Nat.zero_le _
theorem souV_cells (l : List UInt8) : ∃ y0 y1 y2 y3 y4 y5 y6 : Int, souV l (souE l) = .tuple #[.agg #[.int .u64 y0, .int .i64 y1, .int .u64 y2, .int .u32 y3, .int .i64 y4, .int .u64 y5, .int .u32 y6], .int .i64 (souE l)] := by
  unfold souV
  split
  · exact ⟨_, _, _, _, _, _, _, rfl⟩
  · exact ⟨_, _, _, _, _, _, _, rfl⟩

/-! ### STEP 1: THE WALK -/
set_option maxHeartbeats 4000000 in
set_option maxRecDepth 100000 in
theorem walk (a0f0 : Int) (a0f1 : Int) (a0f2 : Int) (a0f3 : Int) (a0f4 : Int) (a0f5 : Int) (a0f6 : Int) (a1x0 a1x1 : Int) (a2 : ByteArray) (w : World) (w0f0 : (Lit.int .u64 a0f0).wf = true) (w0f1 : (Lit.int .i64 a0f1).wf = true) (w0f2 : (Lit.int .u64 a0f2).wf = true) (w0f3 : (Lit.int .u32 a0f3).wf = true) (w0f4 : (Lit.int .i64 a0f4).wf = true) (w0f5 : (Lit.int .u64 a0f5).wf = true) (w0f6 : (Lit.int .u32 a0f6).wf = true) (w1x0 : (Lit.int .i64 a1x0).wf = true) (w1x1 : (Lit.int .i64 a1x1).wf = true) (w2 : a2.size ≤ maxLen) :
    Calls Tryd.prog 4 #[.agg #[.int .u64 a0f0, .int .i64 a0f1, .int .u64 a0f2, .int .u32 a0f3, .int .i64 a0f4, .int .u64 a0f5, .int .u32 a0f6], .agg #[.int .i64 a1x0, .int .i64 a1x1], .string a2] w fun e w' => e = .returned (.bool true) ∧ Below w.heap.size w w' := by
  have hb0 := bounds_u64 w0f0
  have hb2 := bounds_u64 w0f2
  have hb3 := bounds_u32 w0f3
  have hb5 := bounds_u64 w0f5
  have hb6 := bounds_u32 w0f6
  have hg : Good a0f0 a0f2 a0f3 a0f5 a0f6 := ⟨⟨by omega, by omega⟩, by constructor <;> omega⟩
  obtain ⟨g, hgg⟩ : ∃ g, g = a0f0 := ⟨_, rfl⟩
  rw [← hgg] at hg ⊢
  have HG := Lib.hid hg
  have h0 : 0 ≤ g := hg.1.1
  obtain ⟨n, hn⟩ : ∃ n : Nat, n = min a2.size 300 := ⟨_, rfl⟩
  have hmin : min (a2.size : Int) 300 = (n : Int) := by omega
  have hn0 : (0 : Int) ≤ (n : Int) := by omega
  have hn1 : n ≤ a2.size := by omega
  have hn2 : (n : Int) ≤ (a2.size : Int) := by omega
  obtain ⟨raw, hraw⟩ : ∃ x, x = a2.extract 0 n := ⟨_, rfl⟩
  have hrs : raw.size ≤ 300 := by rw [hraw]; simp; omega
  have HRAW := Lib.hid hraw
  clear w0f0 w0f1 w0f2 w0f3 w0f4 w0f5 w0f6 w1x0 w1x1 w2 hb0 hb2 hb3 hb5 hb6 hg hgg hn hraw
  go_enter Tryd.func4, Tryd.ntmps4
  go_wp2_with fail
  refine (Sum.make_any _).mono ?_
  rintro e w1 ⟨b, rfl, hb, ht, hb1⟩
  have HT := Lib.hid ht
  have hx := ((Has.new w [.int .u64 g, .int .i64 a0f1, .int .u64 a0f2, .int .u32 a0f3, .int .i64 a0f4, .int .u64 a0f5, .int .u32 a0f6] _).alloc _).below hb1 (by simp; omega)
  have hy := (Has.new _ [.int .i64 a1x0, .int .i64 a1x1] _).below hb1 (by simp)
  rw [World.size_alloc] at hy
  have HX := Lib.hid hx
  have HY := Lib.hid hy
  have HB1 := Lib.hid (below_on (below_nw (below_new w _) _) hb1)
  obtain ⟨r0, r1, r2, r3, r4, r5, r6⟩ := has7 hx
  clear ht hb hb1 hx hy
  go_wp2_with fail
  refine (tame_any _ _ _ _ _ _ _ _ h0).mono ?_
  rintro e w2 ⟨rfl, hb2⟩
  rw [← HRAW.out]
  obtain ⟨g', hg'⟩ : ∃ x, x = tamG g := ⟨_, rfl⟩
  obtain ⟨a', ha'⟩ : ∃ x, x = Sup.tamA a0f1 := ⟨_, rfl⟩
  obtain ⟨rg', hr'⟩ : ∃ x, x = tamR a0f2 g := ⟨_, rfl⟩
  obtain ⟨h', hh'⟩ : ∃ x, x = tamH a0f4 := ⟨_, rfl⟩
  have HG' := Lib.hid (show Good g' rg' a0f3 a0f5 a0f6 by rw [hg', hr']; exact HG.out.tam)
  have hts := tam_sup g a0f1 a0f2 a0f4 HG.out.2.rg0
  rw [← hg', ← ha', ← hr', ← hh'] at hts
  rw [← hg', ← ha', ← hr', ← hh']
  obtain ⟨good, hgood⟩ : ∃ x, x = Lend.strOf (imL 128 g' a' rg' a0f3 h' a0f5 a0f6) := ⟨_, rfl⟩
  have hgs : good.size = 128 := by
    have := imL_length 128 g' a' rg' a0f3 h' a0f5 a0f6 rfl
    rw [hgood]; show (imL 128 g' a' rg' a0f3 h' a0f5 a0f6).length = 128; omega
  have HIV := Lib.hid (show imV 128 g' a' rg' a0f3 h' a0f5 a0f6 = .tuple #[.string good, .int .i64 0] by rw [imV_yes rfl hts, hgood])
  have HB2 := Lib.hid (below_on HB1.out hb2)
  have HT2 := Lib.hid (tab_on HT.out hb2)
  have HX2 := Lib.hid (HX.out.below hb2 HX.out.lt)
  have HY2 := Lib.hid (HY.out.below hb2 HY.out.lt)
  clear hg' ha' hr' hh' hts hgood hb2 r0 r1 r2 r3 r4 r5 r6
  go_wp2_with fail
  refine (refimage_any 128 _ _ _ _ _ _ _ _ HG'.out.2 HG'.out.1.1 HG'.out.1.2).mono ?_
  rintro e w3 ⟨rfl, hb3⟩
  rw [HIV.out]
  have HB3 := Lib.hid (below_on HB2.out hb3)
  have HT3 := Lib.hid (tab_on HT2.out hb3)
  have hx := HX2.out.below hb3 HX2.out.lt
  have hy := HY2.out.below hb3 HY2.out.lt
  have HX3 := Lib.hid hx
  have HY3 := Lib.hid hy
  obtain ⟨M, hM⟩ : ∃ M : Nat, M = (max 0 a1x0).toNat := ⟨_, rfl⟩
  have hmax : max (0 : Int) a1x0 = (M : Int) := by omega
  obtain ⟨N, hN⟩ : ∃ N : Nat, N = (max 0 a1x1).toNat := ⟨_, rfl⟩
  have hmax2 : max (0 : Int) a1x1 = (N : Int) := by omega
  obtain ⟨q5, hq5⟩ : ∃ q : Nat, q = M % 5 := ⟨_, rfl⟩
  obtain ⟨q2, hq2⟩ : ∃ q : Nat, q = M % 2 := ⟨_, rfl⟩
  obtain ⟨q3, hq3⟩ : ∃ q : Nat, q = N % 3 := ⟨_, rfl⟩
  have hm5 : Int.tmod (M : Int) 5 = (q5 : Int) := by rw [hq5]; rfl
  have hm2 : Int.tmod (M : Int) 2 = (q2 : Int) := by rw [hq2]; rfl
  have hm3 : Int.tmod (N : Int) 3 = (q3 : Int) := by rw [hq3]; rfl
  have hq5b : q5 ≤ 4 := by omega
  have hq2b : q2 ≤ 1 := by omega
  have hq3b : q3 ≤ 2 := by omega
  obtain ⟨e53, he53⟩ : ∃ x : Nat, x = 53 + q2 := ⟨_, rfl⟩
  have w53 : IntKind.i64.wrap (53 + (q2 : Int)) = (e53 : Int) := (IntWalk.i64_in _ (by omega)).trans (by omega)
  have we1 : (24 : Int) ≤ (e53 : Int) := by omega
  have we2 : (e53 : Int) ≤ 128 := by omega
  have we3 : e53 ≤ 128 := by omega
  have we0 : (0 : Int) ≤ (e53 : Int) := by omega
  have w1a : IntKind.i64.wrap (1 + (q5 : Int)) = 1 + (q5 : Int) := IntWalk.i64_in _ (by omega)
  obtain ⟨Q, hQ⟩ : ∃ Q, Q = good.extract 24 e53 := ⟨_, rfl⟩
  have hqs : Q.size ≤ 1000000 := by rw [hQ]; simp; omega
  obtain ⟨other, hoth⟩ : ∃ x, x = sealS 128 (1 + (q5 : Int)) q3 g Q.data.toList := ⟨_, rfl⟩
  have hots : other.size ≤ 1024 := by rw [hoth]; exact sealS_size _ _ _ _ _
  obtain ⟨oc, hoc⟩ : ∃ x, x = sealC 128 (1 + (q5 : Int)) q3 g Q.data.toList := ⟨_, rfl⟩
  obtain ⟨oe, hoe⟩ : ∃ x, x = sealE 128 (1 + (q5 : Int)) q3 Q.data.toList := ⟨_, rfl⟩
  have HRV := Lib.hid (show refV 128 (1 + (q5 : Int)) q3 g Q.data.toList = .tuple #[.string other, .int .u64 oc, .int .i64 oe] by rw [refV, ← hoth, ← hoc, ← hoe])
  have HQ := Lib.hid hQ
  have w5 : IntKind.u8.wrap (1 + (q5 : Int)) = 1 + (q5 : Int) := by rw [IntKind.wrap_u8']; omega
  clear hb3 hx hy hM hN hq5 hq2 hq3 hQ hoth hoc hoe he53
  go_wp2_with fail
  refine Reg.region_vals (by kernel_rfl) [(37, .pointer (some ⟨w.heap.size + 1, 0, none⟩)), (38, .int .i64 a1x0), (39, .int .i64 (M : Int)), (40, .int .i64 (q5 : Int)), (41, .int .i64 (1 + (q5 : Int))), (42, .int .u8 (1 + (q5 : Int))), (43, .pointer (some ⟨w.heap.size + 1, 1, none⟩)), (44, .int .i64 a1x1), (45, .int .i64 (N : Int)), (46, .int .i64 (q3 : Int)), (47, .pointer (some ⟨w.heap.size, 0, none⟩)), (48, .int .u64 g), (49, .agg #[.int .u8 (1 + (q5 : Int)), .int .i64 (q3 : Int), .int .u64 g]), (50, .string good), (51, .pointer (some ⟨w.heap.size + 1, 0, none⟩)), (52, .int .i64 a1x0), (53, .int .i64 (M : Int)), (54, .int .i64 (q2 : Int)), (55, .int .i64 (e53 : Int)), (56, .string Q), (57, .tuple #[.string other, .int .u64 oc, .int .i64 oe]), (36, .tuple #[.string other, .int .u64 oc, .int .i64 oe]), (58, .string other), (59, .int .u64 oc), (60, .int .i64 oe), (10, .string other), (11, .int .u64 oc), (12, .int .i64 oe)] (fun l wx => Below w3.heap.size w3 wx) (by kernel_rfl) (by kernel_rfl) (by kernel_rfl) (below_dr (Below.refl _ _)) ⟨?_, ?_, ?_, ?_, ?_, ?_, ?_, ?_, ?_, ?_, ?_, ?_, ?_, ?_, ?_, ?_, ?_, ?_, ?_, ?_, ?_, ?_, ?_, ?_, ?_, ?_, ?_, ?_, trivial⟩ ?hend
  · -- 0: 37 := Op.indexAddr 45 t4 (const (0:i64))
    intro aq wq lq hI hl hdone hlater hold hd ho
    have h4 : aq.tmps.getD 4 undef = .pointer (some ⟨w.heap.size + 1, 0, none⟩) := ho 4 (by kernel_rfl)
    clear hd ho hdone hlater hold
    rw [Array.getD_eq_getD_getElem?] at h4
    refine Reg.step2_val (.pointer (some ⟨w.heap.size + 1, 0, none⟩)) ?_ rfl hI trivial
    go_simp
  · -- 1: 38 := Op.load 3 t37
    intro aq wq lq hI hl hdone hlater hold hd ho
    have h37 : aq.tmps.getD 37 undef = .pointer (some ⟨w.heap.size + 1, 0, none⟩) := hd 37 (by kernel_rfl)
    clear hd ho hdone hlater hold
    rw [Array.getD_eq_getD_getElem?] at h37
    have e0 := (HY3.out.below hI HY3.out.lt).cell 0
    simp only [List.getElem?_cons_zero] at e0
    refine Reg.step2_val (.int .i64 a1x0) ?_ rfl hI trivial
    go_simp
  · -- 2: 39 := Op.call ( builtin max, args := #(const (0:i64), t38), argTyp
    intro aq wq lq hI hl hdone hlater hold hd ho
    have h38 : aq.tmps.getD 38 undef = .int .i64 a1x0 := hd 38 (by kernel_rfl)
    clear hd ho hdone hlater hold
    rw [Array.getD_eq_getD_getElem?] at h38
    refine Reg.step2_val (.int .i64 (M : Int)) ?_ rfl hI trivial
    simp [execOp]
    go_simp
  · -- 3: 40 := Op.binOp BinOp.rem 3 t39 (const (5:i64)) 3
    intro aq wq lq hI hl hdone hlater hold hd ho
    have h39 : aq.tmps.getD 39 undef = .int .i64 (M : Int) := hd 39 (by kernel_rfl)
    clear hd ho hdone hlater hold
    rw [Array.getD_eq_getD_getElem?] at h39
    refine Reg.step2_val (.int .i64 (q5 : Int)) ?_ rfl hI trivial
    simp [execOp, Act.eval, h39]
    try go_simp
  · -- 4: 41 := Op.binOp BinOp.add 3 (const (1:i64)) t40 3
    intro aq wq lq hI hl hdone hlater hold hd ho
    have h40 : aq.tmps.getD 40 undef = .int .i64 (q5 : Int) := hd 40 (by kernel_rfl)
    clear hd ho hdone hlater hold
    rw [Array.getD_eq_getD_getElem?] at h40
    refine Reg.step2_val (.int .i64 (1 + (q5 : Int))) ?_ rfl hI trivial
    simp [execOp, Act.eval, h40]
    try go_simp
  · -- 5: 42 := Op.convert 3 5 t41
    intro aq wq lq hI hl hdone hlater hold hd ho
    have h41 : aq.tmps.getD 41 undef = .int .i64 (1 + (q5 : Int)) := hd 41 (by kernel_rfl)
    clear hd ho hdone hlater hold
    rw [Array.getD_eq_getD_getElem?] at h41
    refine Reg.step2_val (.int .u8 (1 + (q5 : Int))) ?_ rfl hI trivial
    simp [execOp, Act.eval, h41]
    try go_simp
  · -- 6: 43 := Op.indexAddr 45 t4 (const (1:i64))
    intro aq wq lq hI hl hdone hlater hold hd ho
    have h4 : aq.tmps.getD 4 undef = .pointer (some ⟨w.heap.size + 1, 0, none⟩) := ho 4 (by kernel_rfl)
    clear hd ho hdone hlater hold
    rw [Array.getD_eq_getD_getElem?] at h4
    refine Reg.step2_val (.pointer (some ⟨w.heap.size + 1, 1, none⟩)) ?_ rfl hI trivial
    go_simp
  · -- 7: 44 := Op.load 3 t43
    intro aq wq lq hI hl hdone hlater hold hd ho
    have h43 : aq.tmps.getD 43 undef = .pointer (some ⟨w.heap.size + 1, 1, none⟩) := hd 43 (by kernel_rfl)
    clear hd ho hdone hlater hold
    rw [Array.getD_eq_getD_getElem?] at h43
    have e0 := (HY3.out.below hI HY3.out.lt).cell 1
    simp only [List.getElem?_cons_succ, List.getElem?_cons_zero] at e0
    refine Reg.step2_val (.int .i64 a1x1) ?_ rfl hI trivial
    go_simp
  · -- 8: 45 := Op.call ( builtin max, args := #(const (0:i64), t44), argTyp
    intro aq wq lq hI hl hdone hlater hold hd ho
    have h44 : aq.tmps.getD 44 undef = .int .i64 a1x1 := hd 44 (by kernel_rfl)
    clear hd ho hdone hlater hold
    rw [Array.getD_eq_getD_getElem?] at h44
    refine Reg.step2_val (.int .i64 (N : Int)) ?_ rfl hI trivial
    simp [execOp]
    go_simp
  · -- 9: 46 := Op.binOp BinOp.rem 3 t45 (const (3:i64)) 3
    intro aq wq lq hI hl hdone hlater hold hd ho
    have h45 : aq.tmps.getD 45 undef = .int .i64 (N : Int) := hd 45 (by kernel_rfl)
    clear hd ho hdone hlater hold
    rw [Array.getD_eq_getD_getElem?] at h45
    refine Reg.step2_val (.int .i64 (q3 : Int)) ?_ rfl hI trivial
    simp [execOp, Act.eval, h45]
    try go_simp
  · -- 10: 47 := Op.fieldAddr 25 t3 0
    intro aq wq lq hI hl hdone hlater hold hd ho
    have h3 : aq.tmps.getD 3 undef = .pointer (some ⟨w.heap.size, 0, none⟩) := ho 3 (by kernel_rfl)
    clear hd ho hdone hlater hold
    rw [Array.getD_eq_getD_getElem?] at h3
    refine Reg.step2_val (.pointer (some ⟨w.heap.size, 0, none⟩)) ?_ rfl hI trivial
    go_simp
  · -- 11: 48 := Op.load 22 t47
    intro aq wq lq hI hl hdone hlater hold hd ho
    have h47 : aq.tmps.getD 47 undef = .pointer (some ⟨w.heap.size, 0, none⟩) := hd 47 (by kernel_rfl)
    clear hd ho hdone hlater hold
    rw [Array.getD_eq_getD_getElem?] at h47
    have e0 := (HX3.out.below hI HX3.out.lt).cell 0
    simp only [List.getElem?_cons_zero] at e0
    refine Reg.step2_val (.int .u64 g) ?_ rfl hI trivial
    go_simp
  · -- 12: 49 := Op.build 49 #((0, t42), (1, t46), (2, t48))
    intro aq wq lq hI hl hdone hlater hold hd ho
    have h42 : aq.tmps.getD 42 undef = .int .u8 (1 + (q5 : Int)) := hd 42 (by kernel_rfl)
    have h46 : aq.tmps.getD 46 undef = .int .i64 (q3 : Int) := hd 46 (by kernel_rfl)
    have h48 : aq.tmps.getD 48 undef = .int .u64 g := hd 48 (by kernel_rfl)
    clear hd ho hdone hlater hold
    rw [Array.getD_eq_getD_getElem?] at h42 h46 h48
    refine Reg.step2_val (.agg #[.int .u8 (1 + (q5 : Int)), .int .i64 (q3 : Int), .int .u64 g]) ?_ rfl hI trivial
    simp [execOp, Act.eval, h42, h46, h48]
    try go_simp
  · -- 13: 50 := Op.move t8
    intro aq wq lq hI hl hdone hlater hold hd ho
    have h8 : aq.tmps.getD 8 undef = .string good := ho 8 (by kernel_rfl)
    clear hd ho hdone hlater hold
    exact Reg.step2_move (.tmp 8) rfl h8 hI trivial
  · -- 14: 51 := Op.indexAddr 45 t4 (const (0:i64))
    intro aq wq lq hI hl hdone hlater hold hd ho
    have h4 : aq.tmps.getD 4 undef = .pointer (some ⟨w.heap.size + 1, 0, none⟩) := ho 4 (by kernel_rfl)
    clear hd ho hdone hlater hold
    rw [Array.getD_eq_getD_getElem?] at h4
    refine Reg.step2_val (.pointer (some ⟨w.heap.size + 1, 0, none⟩)) ?_ rfl hI trivial
    go_simp
  · -- 15: 52 := Op.load 3 t51
    intro aq wq lq hI hl hdone hlater hold hd ho
    have h51 : aq.tmps.getD 51 undef = .pointer (some ⟨w.heap.size + 1, 0, none⟩) := hd 51 (by kernel_rfl)
    clear hd ho hdone hlater hold
    rw [Array.getD_eq_getD_getElem?] at h51
    have e0 := (HY3.out.below hI HY3.out.lt).cell 0
    simp only [List.getElem?_cons_zero] at e0
    refine Reg.step2_val (.int .i64 a1x0) ?_ rfl hI trivial
    go_simp
  · -- 16: 53 := Op.call ( builtin max, args := #(const (0:i64), t52), argTyp
    intro aq wq lq hI hl hdone hlater hold hd ho
    have h52 : aq.tmps.getD 52 undef = .int .i64 a1x0 := hd 52 (by kernel_rfl)
    clear hd ho hdone hlater hold
    rw [Array.getD_eq_getD_getElem?] at h52
    refine Reg.step2_val (.int .i64 (M : Int)) ?_ rfl hI trivial
    simp [execOp]
    go_simp
  · -- 17: 54 := Op.binOp BinOp.rem 3 t53 (const (2:i64)) 3
    intro aq wq lq hI hl hdone hlater hold hd ho
    have h53 : aq.tmps.getD 53 undef = .int .i64 (M : Int) := hd 53 (by kernel_rfl)
    clear hd ho hdone hlater hold
    rw [Array.getD_eq_getD_getElem?] at h53
    refine Reg.step2_val (.int .i64 (q2 : Int)) ?_ rfl hI trivial
    simp [execOp, Act.eval, h53]
    try go_simp
  · -- 18: 55 := Op.binOp BinOp.add 3 (const (53:i64)) t54 3
    intro aq wq lq hI hl hdone hlater hold hd ho
    have h54 : aq.tmps.getD 54 undef = .int .i64 (q2 : Int) := hd 54 (by kernel_rfl)
    clear hd ho hdone hlater hold
    rw [Array.getD_eq_getD_getElem?] at h54
    refine Reg.step2_val (.int .i64 (e53 : Int)) ?_ rfl hI trivial
    simp [execOp, Act.eval, h54]
    try go_simp
  · -- 19: 56 := Op.slice 9 t50 (some (const (24:i64))) (some t55) none
    intro aq wq lq hI hl hdone hlater hold hd ho
    have h50 : aq.tmps.getD 50 undef = .string good := hd 50 (by kernel_rfl)
    have h55 : aq.tmps.getD 55 undef = .int .i64 (e53 : Int) := hd 55 (by kernel_rfl)
    clear hd ho hdone hlater hold
    rw [Array.getD_eq_getD_getElem?] at h50 h55
    refine Reg.step2_val (.string Q) ?_ rfl hI trivial
    rw [HQ.out]
    simp [execOp, Act.eval, h50, h55]
    try go_simp
  · -- 20: 57 := Op.call ( value (Operand.func 14), args := #(const (128:i64)
    intro aq wq lq hI hl hdone hlater hold hd ho
    have h49 : aq.tmps.getD 49 undef = .agg #[.int .u8 (1 + (q5 : Int)), .int .i64 (q3 : Int), .int .u64 g] := hd 49 (by kernel_rfl)
    have h56 : aq.tmps.getD 56 undef = .string Q := hd 56 (by kernel_rfl)
    clear hd ho hdone hlater hold
    rw [Array.getD_eq_getD_getElem?] at h49 h56
    refine Reg.step2_call 14 #[.int .i64 128, .agg #[.int .u8 (1 + (q5 : Int)), .int .i64 (q3 : Int), .int .u64 g], .string Q] ?_ ((refseal_any 128 _ _ _ Q wq HG.out.1.1 HG.out.1.2 hqs).mono ?_)
    · clear hI
      simp [execOp]
      go_simp
    · rintro e w' ⟨rfl, hb⟩
      exact ⟨_, rfl, by rw [HRV.out]; rfl, below_on hI hb, trivial⟩
  · -- 21: 36 := Op.move t57
    intro aq wq lq hI hl hdone hlater hold hd ho
    have h57 : aq.tmps.getD 57 undef = .tuple #[.string other, .int .u64 oc, .int .i64 oe] := hd 57 (by kernel_rfl)
    clear hd ho hdone hlater hold
    exact Reg.step2_move (.tmp 57) rfl h57 hI trivial
  · -- 22: 58 := Op.extract t36 0
    intro aq wq lq hI hl hdone hlater hold hd ho
    have h36 : aq.tmps.getD 36 undef = .tuple #[.string other, .int .u64 oc, .int .i64 oe] := hd 36 (by kernel_rfl)
    clear hd ho hdone hlater hold
    rw [Array.getD_eq_getD_getElem?] at h36
    refine Reg.step2_val (.string other) ?_ rfl hI trivial
    simp [execOp, Act.eval, h36]
    try go_simp
  · -- 23: 59 := Op.extract t36 1
    intro aq wq lq hI hl hdone hlater hold hd ho
    have h36 : aq.tmps.getD 36 undef = .tuple #[.string other, .int .u64 oc, .int .i64 oe] := hd 36 (by kernel_rfl)
    clear hd ho hdone hlater hold
    rw [Array.getD_eq_getD_getElem?] at h36
    refine Reg.step2_val (.int .u64 oc) ?_ rfl hI trivial
    simp [execOp, Act.eval, h36]
    try go_simp
  · -- 24: 60 := Op.extract t36 2
    intro aq wq lq hI hl hdone hlater hold hd ho
    have h36 : aq.tmps.getD 36 undef = .tuple #[.string other, .int .u64 oc, .int .i64 oe] := hd 36 (by kernel_rfl)
    clear hd ho hdone hlater hold
    rw [Array.getD_eq_getD_getElem?] at h36
    refine Reg.step2_val (.int .i64 oe) ?_ rfl hI trivial
    simp [execOp, Act.eval, h36]
    try go_simp
  · -- 25: 10 := Op.assign t58
    intro aq wq lq hI hl hdone hlater hold hd ho
    have h58 : aq.tmps.getD 58 undef = .string other := hd 58 (by kernel_rfl)
    clear hd ho hdone hlater hold
    exact Reg.step2_assign (.tmp 58) rfl h58 hI trivial
  · -- 26: 11 := Op.assign t59
    intro aq wq lq hI hl hdone hlater hold hd ho
    have h59 : aq.tmps.getD 59 undef = .int .u64 oc := hd 59 (by kernel_rfl)
    clear hd ho hdone hlater hold
    exact Reg.step2_assign (.tmp 59) rfl h59 hI trivial
  · -- 27: 12 := Op.assign t60
    intro aq wq lq hI hl hdone hlater hold hd ho
    have h60 : aq.tmps.getD 60 undef = .int .i64 oe := hd 60 (by kernel_rfl)
    clear hd ho hdone hlater hold
    exact Reg.step2_assign (.tmp 60) rfl h60 hI trivial
  case hend =>
    intro wx hI
    simp only [Reg.fill, List.foldl_cons, List.foldl_nil, List.setIfInBounds_toArray, List.set_cons_zero, List.set_cons_succ]
    have HB4 := Lib.hid (below_on HB3.out hI)
    have HT4 := Lib.hid (tab_on HT3.out hI)
    have HX4 := Lib.hid (HX3.out.below hI HX3.out.lt)
    obtain ⟨m, hm⟩ : ∃ m : Nat, m = min raw.size 104 := ⟨_, rfl⟩
    have hmin2 : min (raw.size : Int) 104 = (m : Int) := by omega
    have hm0 : (0 : Int) ≤ (m : Int) := by omega
    have hm1 : m ≤ raw.size := by omega
    have hm2' : (m : Int) ≤ (raw.size : Int) := by omega
    obtain ⟨R, hR⟩ : ∃ R, R = raw.extract 0 m := ⟨_, rfl⟩
    have hRs : R.size ≤ 1000000 := by rw [hR]; simp; omega
    obtain ⟨sl, hsl⟩ : ∃ x, x = g % 2 := ⟨_, rfl⟩
    have hsl2 : Int.tmod g 2 = sl := by rw [hsl]; exact Int.tmod_eq_emod_of_nonneg h0
    have wsl : IntKind.i64.wrap sl = sl := IntWalk.i64_in _ (by omega)
    obtain ⟨bent, hbent⟩ : ∃ x, x = sealS 128 1 sl g R.data.toList := ⟨_, rfl⟩
    have hbts : bent.size ≤ 1024 := by rw [hbent]; exact sealS_size _ _ _ _ _
    obtain ⟨bc, hbc⟩ : ∃ x, x = sealC 128 1 sl g R.data.toList := ⟨_, rfl⟩
    obtain ⟨be, hbe⟩ : ∃ x, x = sealE 128 1 sl R.data.toList := ⟨_, rfl⟩
    have HRV2 := Lib.hid (show refV 128 1 sl g R.data.toList = .tuple #[.string bent, .int .u64 bc, .int .i64 be] by rw [refV, ← hbent, ← hbc, ← hbe])
    have HR := Lib.hid hR
    clear hI hm hR hsl hbent hbc hbe w53 we1 we2 we0 w1a w5 hm5 hm2 hm3 hmax hmax2
    go_wp2_with fail
    refine Reg.region_vals (by kernel_rfl) [(62, .pointer (some ⟨w.heap.size, 0, none⟩)), (63, .int .u64 g), (64, .int .u64 sl), (65, .int .i64 sl), (66, .pointer (some ⟨w.heap.size, 0, none⟩)), (67, .int .u64 g), (68, .agg #[.int .u8 1, .int .i64 sl, .int .u64 g]), (69, .string raw), (70, .string raw), (71, .int .i64 (raw.size : Int)), (72, .int .i64 (m : Int)), (73, .string R), (74, .tuple #[.string bent, .int .u64 bc, .int .i64 be]), (61, .tuple #[.string bent, .int .u64 bc, .int .i64 be]), (75, .string bent), (76, .int .u64 bc), (77, .int .i64 be), (13, .string bent), (14, .int .u64 bc), (15, .int .i64 be)] (fun l wy => Below wx.heap.size wx wy) (by kernel_rfl) (by kernel_rfl) (by kernel_rfl) (below_dr (Below.refl _ _)) ⟨?_, ?_, ?_, ?_, ?_, ?_, ?_, ?_, ?_, ?_, ?_, ?_, ?_, ?_, ?_, ?_, ?_, ?_, ?_, ?_, trivial⟩ ?hend
    · -- 0: 62 := Op.fieldAddr 25 t3 0
      intro aq wq lq hI hl hdone hlater hold hd ho
      have h3 : aq.tmps.getD 3 undef = .pointer (some ⟨w.heap.size, 0, none⟩) := ho 3 (by kernel_rfl)
      clear hd ho hdone hlater hold
      rw [Array.getD_eq_getD_getElem?] at h3
      refine Reg.step2_val (.pointer (some ⟨w.heap.size, 0, none⟩)) ?_ rfl hI trivial
      go_simp
    · -- 1: 63 := Op.load 22 t62
      intro aq wq lq hI hl hdone hlater hold hd ho
      have h62 : aq.tmps.getD 62 undef = .pointer (some ⟨w.heap.size, 0, none⟩) := hd 62 (by kernel_rfl)
      clear hd ho hdone hlater hold
      rw [Array.getD_eq_getD_getElem?] at h62
      have e0 := (HX4.out.below hI HX4.out.lt).cell 0
      simp only [List.getElem?_cons_zero] at e0
      refine Reg.step2_val (.int .u64 g) ?_ rfl hI trivial
      go_simp
    · -- 2: 64 := Op.binOp BinOp.rem 22 t63 (const (2:u64)) 22
      intro aq wq lq hI hl hdone hlater hold hd ho
      have h63 : aq.tmps.getD 63 undef = .int .u64 g := hd 63 (by kernel_rfl)
      clear hd ho hdone hlater hold
      rw [Array.getD_eq_getD_getElem?] at h63
      refine Reg.step2_val (.int .u64 sl) ?_ rfl hI trivial
      simp [execOp, Act.eval, h63]
      try go_simp
    · -- 3: 65 := Op.convert 22 3 t64
      intro aq wq lq hI hl hdone hlater hold hd ho
      have h64 : aq.tmps.getD 64 undef = .int .u64 sl := hd 64 (by kernel_rfl)
      clear hd ho hdone hlater hold
      rw [Array.getD_eq_getD_getElem?] at h64
      refine Reg.step2_val (.int .i64 sl) ?_ rfl hI trivial
      simp [execOp, Act.eval, h64]
      try go_simp
    · -- 4: 66 := Op.fieldAddr 25 t3 0
      intro aq wq lq hI hl hdone hlater hold hd ho
      have h3 : aq.tmps.getD 3 undef = .pointer (some ⟨w.heap.size, 0, none⟩) := ho 3 (by kernel_rfl)
      clear hd ho hdone hlater hold
      rw [Array.getD_eq_getD_getElem?] at h3
      refine Reg.step2_val (.pointer (some ⟨w.heap.size, 0, none⟩)) ?_ rfl hI trivial
      go_simp
    · -- 5: 67 := Op.load 22 t66
      intro aq wq lq hI hl hdone hlater hold hd ho
      have h66 : aq.tmps.getD 66 undef = .pointer (some ⟨w.heap.size, 0, none⟩) := hd 66 (by kernel_rfl)
      clear hd ho hdone hlater hold
      rw [Array.getD_eq_getD_getElem?] at h66
      have e0 := (HX4.out.below hI HX4.out.lt).cell 0
      simp only [List.getElem?_cons_zero] at e0
      refine Reg.step2_val (.int .u64 g) ?_ rfl hI trivial
      go_simp
    · -- 6: 68 := Op.build 49 #((0, const (1:u8)), (1, t65), (2, t67))
      intro aq wq lq hI hl hdone hlater hold hd ho
      have h65 : aq.tmps.getD 65 undef = .int .i64 sl := hd 65 (by kernel_rfl)
      have h67 : aq.tmps.getD 67 undef = .int .u64 g := hd 67 (by kernel_rfl)
      clear hd ho hdone hlater hold
      rw [Array.getD_eq_getD_getElem?] at h65 h67
      refine Reg.step2_val (.agg #[.int .u8 1, .int .i64 sl, .int .u64 g]) ?_ rfl hI trivial
      simp [execOp, Act.eval, h65, h67]
      try go_simp
    · -- 7: 69 := Op.move t2
      intro aq wq lq hI hl hdone hlater hold hd ho
      have h2 : aq.tmps.getD 2 undef = .string raw := ho 2 (by kernel_rfl)
      clear hd ho hdone hlater hold
      exact Reg.step2_move (.tmp 2) rfl h2 hI trivial
    · -- 8: 70 := Op.move t2
      intro aq wq lq hI hl hdone hlater hold hd ho
      have h2 : aq.tmps.getD 2 undef = .string raw := ho 2 (by kernel_rfl)
      clear hd ho hdone hlater hold
      exact Reg.step2_move (.tmp 2) rfl h2 hI trivial
    · -- 9: 71 := Op.call ( builtin len, args := #(t70), argTypes := #(9) )
      intro aq wq lq hI hl hdone hlater hold hd ho
      have h70 : aq.tmps.getD 70 undef = .string raw := hd 70 (by kernel_rfl)
      clear hd ho hdone hlater hold
      rw [Array.getD_eq_getD_getElem?] at h70
      refine Reg.step2_val (.int .i64 (raw.size : Int)) ?_ rfl hI trivial
      simp [execOp]
      go_simp
    · -- 10: 72 := Op.call ( builtin min, args := #(t71, const (104:i64)), argT
      intro aq wq lq hI hl hdone hlater hold hd ho
      have h71 : aq.tmps.getD 71 undef = .int .i64 (raw.size : Int) := hd 71 (by kernel_rfl)
      clear hd ho hdone hlater hold
      rw [Array.getD_eq_getD_getElem?] at h71
      refine Reg.step2_val (.int .i64 (m : Int)) ?_ rfl hI trivial
      simp [execOp]
      go_simp
    · -- 11: 73 := Op.slice 9 t69 none (some t72) none
      intro aq wq lq hI hl hdone hlater hold hd ho
      have h69 : aq.tmps.getD 69 undef = .string raw := hd 69 (by kernel_rfl)
      have h72 : aq.tmps.getD 72 undef = .int .i64 (m : Int) := hd 72 (by kernel_rfl)
      clear hd ho hdone hlater hold
      rw [Array.getD_eq_getD_getElem?] at h69 h72
      refine Reg.step2_val (.string R) ?_ rfl hI trivial
      rw [HR.out]
      simp [execOp, Act.eval, h69, h72]
      try go_simp
    · -- 12: 74 := Op.call ( value (Operand.func 14), args := #(const (128:i64)
      intro aq wq lq hI hl hdone hlater hold hd ho
      have h68 : aq.tmps.getD 68 undef = .agg #[.int .u8 1, .int .i64 sl, .int .u64 g] := hd 68 (by kernel_rfl)
      have h73 : aq.tmps.getD 73 undef = .string R := hd 73 (by kernel_rfl)
      clear hd ho hdone hlater hold
      rw [Array.getD_eq_getD_getElem?] at h68 h73
      refine Reg.step2_call 14 #[.int .i64 128, .agg #[.int .u8 1, .int .i64 sl, .int .u64 g], .string R] ?_ ((refseal_any 128 _ _ _ R wq HG.out.1.1 HG.out.1.2 hRs).mono ?_)
      · clear hI
        simp [execOp]
        go_simp
      · rintro e w' ⟨rfl, hb⟩
        exact ⟨_, rfl, by rw [HRV2.out]; rfl, below_on hI hb, trivial⟩
    · -- 13: 61 := Op.move t74
      intro aq wq lq hI hl hdone hlater hold hd ho
      have h74 : aq.tmps.getD 74 undef = .tuple #[.string bent, .int .u64 bc, .int .i64 be] := hd 74 (by kernel_rfl)
      clear hd ho hdone hlater hold
      exact Reg.step2_move (.tmp 74) rfl h74 hI trivial
    · -- 14: 75 := Op.extract t61 0
      intro aq wq lq hI hl hdone hlater hold hd ho
      have h61 : aq.tmps.getD 61 undef = .tuple #[.string bent, .int .u64 bc, .int .i64 be] := hd 61 (by kernel_rfl)
      clear hd ho hdone hlater hold
      rw [Array.getD_eq_getD_getElem?] at h61
      refine Reg.step2_val (.string bent) ?_ rfl hI trivial
      simp [execOp, Act.eval, h61]
      try go_simp
    · -- 15: 76 := Op.extract t61 1
      intro aq wq lq hI hl hdone hlater hold hd ho
      have h61 : aq.tmps.getD 61 undef = .tuple #[.string bent, .int .u64 bc, .int .i64 be] := hd 61 (by kernel_rfl)
      clear hd ho hdone hlater hold
      rw [Array.getD_eq_getD_getElem?] at h61
      refine Reg.step2_val (.int .u64 bc) ?_ rfl hI trivial
      simp [execOp, Act.eval, h61]
      try go_simp
    · -- 16: 77 := Op.extract t61 2
      intro aq wq lq hI hl hdone hlater hold hd ho
      have h61 : aq.tmps.getD 61 undef = .tuple #[.string bent, .int .u64 bc, .int .i64 be] := hd 61 (by kernel_rfl)
      clear hd ho hdone hlater hold
      rw [Array.getD_eq_getD_getElem?] at h61
      refine Reg.step2_val (.int .i64 be) ?_ rfl hI trivial
      simp [execOp, Act.eval, h61]
      try go_simp
    · -- 17: 13 := Op.assign t75
      intro aq wq lq hI hl hdone hlater hold hd ho
      have h75 : aq.tmps.getD 75 undef = .string bent := hd 75 (by kernel_rfl)
      clear hd ho hdone hlater hold
      exact Reg.step2_assign (.tmp 75) rfl h75 hI trivial
    · -- 18: 14 := Op.assign t76
      intro aq wq lq hI hl hdone hlater hold hd ho
      have h76 : aq.tmps.getD 76 undef = .int .u64 bc := hd 76 (by kernel_rfl)
      clear hd ho hdone hlater hold
      exact Reg.step2_assign (.tmp 76) rfl h76 hI trivial
    · -- 19: 15 := Op.assign t77
      intro aq wq lq hI hl hdone hlater hold hd ho
      have h77 : aq.tmps.getD 77 undef = .int .i64 be := hd 77 (by kernel_rfl)
      clear hd ho hdone hlater hold
      exact Reg.step2_assign (.tmp 77) rfl h77 hI trivial
    case hend =>
      intro wy hI
      simp only [Reg.fill, List.foldl_cons, List.foldl_nil, List.setIfInBounds_toArray, List.set_cons_zero, List.set_cons_succ]
      have HB5 := Lib.hid (below_on HB4.out hI)
      have HT5 := Lib.hid (tab_on HT4.out hI)
      clear hI
      have hSt := Has.new wy [.string raw, .string good, .string other, .string bent, .string (good.extract 0 127)] 9
      go_wp2_with fail
      obtain ⟨gb, hgb⟩ : ∃ x, x = wy.heap.size := ⟨_, rfl⟩
      obtain ⟨wh, hwh⟩ : ∃ x, x = wy.alloc (.cells #[.string raw, .string good, .string other, .string bent, .string (good.extract 0 127)] 9) := ⟨_, rfl⟩
      rw [← hwh, ← hgb]
      have hS : Has wh gb 9 [.string raw, .string good, .string other, .string bent, .string (good.extract 0 127)] := by rw [hwh, hgb]; exact hSt
      have hcs : ∀ i, i < 5 → ∃ X : ByteArray, X.size ≤ 1000000 ∧ wh.cell? ⟨gb, i, none⟩ = some (.string X) := by
        intro i hi
        match i, hi with
        | 0, _ => exact ⟨raw, by omega, hS.cell 0⟩
        | 1, _ => exact ⟨good, by omega, hS.cell 1⟩
        | 2, _ => exact ⟨other, by omega, hS.cell 2⟩
        | 3, _ => exact ⟨bent, by omega, hS.cell 3⟩
        | 4, _ => exact ⟨good.extract 0 127, by simp; omega, hS.cell 4⟩
      have HCS := Lib.hid hcs
      have hgl := hS.lt
      have HBH := Lib.hid (show Below w.heap.size w wh by rw [hwh]; exact below_nw HB5.out _)
      have HTH := Lib.hid (show Sum.IsTab wh b by rw [hwh]; exact tab_nw HT5.out _)
      clear hSt hgb hwh hS hcs
      go_loopw [86] (fun i wr => ∃ q : Nat, q ≤ 5 ∧ i = .int .i64 q ∧ Below wh.heap.size wh wr) (fun i _ => 5 - (intOf i).toNat)
      case atStart => exact ⟨0, by omega, rfl, Below.refl _ _⟩
      case round =>
        obtain ⟨q, hq, rfl, hbr⟩ := hrel
        by_cases hlt : q < 5
        · obtain ⟨X, hXs, hX⟩ := HCS.out q hlt
          have d0 : wr.cell? ⟨gb, q, none⟩ = some (.string X) := cells_on hX hbr
          have HBR := Lib.hid hbr
          have HTR := Lib.hid (tab_on HTH.out hbr)
          have hq1 : (q : Int) < 5 := by omega
          have hq0 : (0 : Int) ≤ (q : Int) := by omega
          obtain ⟨y0, y1, y2, y3, y4, y5, y6, hv⟩ := souV_cells X.data.toList
          obtain ⟨E, hE⟩ : ∃ E, E = souE X.data.toList := ⟨_, rfl⟩
          have HV := Lib.hid (show souV X.data.toList (souE X.data.toList) = .tuple #[.agg #[.int .u64 y0, .int .i64 y1, .int .u64 y2, .int .u32 y3, .int .i64 y4, .int .u64 y5, .int .u32 y6], .int .i64 E] by rw [hv, hE])
          clear hX hbr hv hE
          go_wp2_with fail
          refine (open_sup b X _ HTR.out hXs).mono ?_
          rintro e wo ⟨rfl, hbo⟩
          rw [HV.out]
          have HBO := Lib.hid (below_on HBR.out hbo)
          clear hbo d0
          have hz := Has.new wo [.int .u64 y0, .int .i64 y1, .int .u64 y2, .int .u32 y3, .int .i64 y4, .int .u64 y5, .int .u32 y6] 36
          have HZ := Lib.hid hz
          clear hz
          go_wp2_with fail
          refine (refopen_sup X _ hXs).mono ?_
          rintro e wp ⟨rfl, hbp⟩
          rw [HV.out]
          have hz := HZ.out.below hbp (by simp)
          have HZ2 := Lib.hid hz
          have hzl := hz.lt
          obtain ⟨z0, z1, z2, z3, z4, z5, z6⟩ := has7 hz
          have HBP := Lib.hid (below_on (below_nw HBO.out _) hbp)
          clear hz hbp
          have hu := Has.new wp [.int .u64 y0, .int .i64 y1, .int .u64 y2, .int .u32 y3, .int .i64 y4, .int .u64 y5, .int .u32 y6] 41
          go_wp2_with fail
          obtain ⟨ub, hub⟩ : ∃ x, x = wp.heap.size := ⟨_, rfl⟩
          obtain ⟨zb, hzb⟩ : ∃ x, x = wo.heap.size := ⟨_, rfl⟩
          obtain ⟨W5, hW5⟩ : ∃ x, x = wp.alloc (.cells #[.int .u64 y0, .int .i64 y1, .int .u64 y2, .int .u32 y3, .int .i64 y4, .int .u64 y5, .int .u32 y6] 41) := ⟨_, rfl⟩
          rw [← hW5, ← hub, ← hzb]
          have HU5 := Lib.hid (show Has W5 ub 41 [.int .u64 y0, .int .i64 y1, .int .u64 y2, .int .u32 y3, .int .i64 y4, .int .u64 y5, .int .u32 y6] by rw [hW5, hub]; exact hu)
          have HZ5 := Lib.hid (show Has W5 zb 36 [.int .u64 y0, .int .i64 y1, .int .u64 y2, .int .u32 y3, .int .i64 y4, .int .u64 y5, .int .u32 y6] by rw [hW5, hzb]; exact HZ2.out.alloc _)
          have HB5' := Lib.hid (show Below wh.heap.size wh W5 by rw [hW5]; exact below_nw HBP.out _)
          clear hu hub hzb hW5 z0 z1 z2 z3 z4 z5 z6 hzl
          refine Reg.region_vals (by kernel_rfl) [(101, .agg #[.int .u64 y0, .int .i64 y1, .int .u64 y2, .int .u32 y3, .int .i64 y4, .int .u64 y5, .int .u32 y6]), (102, .agg #[.int .u64 y0, .int .i64 y1, .int .u64 y2, .int .u32 y3, .int .i64 y4, .int .u64 y5, .int .u32 y6]), (103, .agg #[.int .u64 y0, .int .i64 y1, .int .u64 y2, .int .u32 y3, .int .i64 y4, .int .u64 y5, .int .u32 y6]), (104, .bool false), (105, .bool false), (106, .int .i64 E), (107, .int .i64 E), (108, .bool false), (109, .bool false)] (fun l wy => Below W5.heap.size W5 wy) (by kernel_rfl) (by kernel_rfl) (by kernel_rfl) (below_dr (Below.refl _ _)) ⟨?_, ?_, ?_, ?_, ?_, ?_, ?_, ?_, ?_, trivial⟩ ?hend
          · -- 0: 101 := Op.load 36 t18
            intro aq wq lq hI hl hdone hlater hold hd ho
            have h18 : aq.tmps.getD 18 undef = .pointer (some ⟨zb, 0, none⟩) := ho 18 (by kernel_rfl)
            clear hd ho hdone hlater hold
            rw [Array.getD_eq_getD_getElem?] at h18
            obtain ⟨e0, e1, e2, e3, e4, e5, e6⟩ := has7 (HZ5.out.below hI HZ5.out.lt)
            refine Reg.step2_val (.agg #[.int .u64 y0, .int .i64 y1, .int .u64 y2, .int .u32 y3, .int .i64 y4, .int .u64 y5, .int .u32 y6]) ?_ rfl hI trivial
            go_simp
          · -- 1: 102 := Op.load 41 t20
            intro aq wq lq hI hl hdone hlater hold hd ho
            have h20 : aq.tmps.getD 20 undef = .pointer (some ⟨ub, 0, none⟩) := ho 20 (by kernel_rfl)
            clear hd ho hdone hlater hold
            rw [Array.getD_eq_getD_getElem?] at h20
            obtain ⟨e0, e1, e2, e3, e4, e5, e6⟩ := has7 (HU5.out.below hI HU5.out.lt)
            refine Reg.step2_val (.agg #[.int .u64 y0, .int .i64 y1, .int .u64 y2, .int .u32 y3, .int .i64 y4, .int .u64 y5, .int .u32 y6]) ?_ rfl hI trivial
            go_simp
          · -- 2: 103 := Op.call ( value (Operand.func 9), args := #(t102), argTypes 
            intro aq wq lq hI hl hdone hlater hold hd ho
            have h102 : aq.tmps.getD 102 undef = .agg #[.int .u64 y0, .int .i64 y1, .int .u64 y2, .int .u32 y3, .int .i64 y4, .int .u64 y5, .int .u32 y6] := hd 102 (by kernel_rfl)
            clear hd ho hdone hlater hold
            rw [Array.getD_eq_getD_getElem?] at h102
            refine Reg.step2_call 9 #[.agg #[.int .u64 y0, .int .i64 y1, .int .u64 y2, .int .u32 y3, .int .i64 y4, .int .u64 y5, .int .u32 y6]] ?_ ((of_any _ _ _ _ _ _ _ wq).mono ?_)
            · clear hI
              simp [execOp]
              go_simp
            · rintro e w' ⟨rfl, hb⟩
              exact ⟨_, rfl, rfl, below_on hI hb, trivial⟩
          · -- 3: 104 := Op.binOp BinOp.neq 36 t101 t103 36
            intro aq wq lq hI hl hdone hlater hold hd ho
            have h101 : aq.tmps.getD 101 undef = .agg #[.int .u64 y0, .int .i64 y1, .int .u64 y2, .int .u32 y3, .int .i64 y4, .int .u64 y5, .int .u32 y6] := hd 101 (by kernel_rfl)
            have h103 : aq.tmps.getD 103 undef = .agg #[.int .u64 y0, .int .i64 y1, .int .u64 y2, .int .u32 y3, .int .i64 y4, .int .u64 y5, .int .u32 y6] := hd 103 (by kernel_rfl)
            clear hd ho hdone hlater hold
            rw [Array.getD_eq_getD_getElem?] at h101 h103
            refine Reg.step2_val (.bool false) ?_ rfl hI trivial
            simp [execOp, Act.eval, h101, h103]
            try go_simp
          · -- 4: 105 := Op.move t104
            intro aq wq lq hI hl hdone hlater hold hd ho
            have h104 : aq.tmps.getD 104 undef = .bool false := hd 104 (by kernel_rfl)
            clear hd ho hdone hlater hold
            exact Reg.step2_move (.tmp 104) rfl h104 hI trivial
          · -- 5: 106 := Op.move t19
            intro aq wq lq hI hl hdone hlater hold hd ho
            have h19 : aq.tmps.getD 19 undef = .int .i64 E := ho 19 (by kernel_rfl)
            clear hd ho hdone hlater hold
            exact Reg.step2_move (.tmp 19) rfl h19 hI trivial
          · -- 6: 107 := Op.move t21
            intro aq wq lq hI hl hdone hlater hold hd ho
            have h21 : aq.tmps.getD 21 undef = .int .i64 E := ho 21 (by kernel_rfl)
            clear hd ho hdone hlater hold
            exact Reg.step2_move (.tmp 21) rfl h21 hI trivial
          · -- 7: 108 := Op.binOp BinOp.neq 3 t106 t107 3
            intro aq wq lq hI hl hdone hlater hold hd ho
            have h106 : aq.tmps.getD 106 undef = .int .i64 E := hd 106 (by kernel_rfl)
            have h107 : aq.tmps.getD 107 undef = .int .i64 E := hd 107 (by kernel_rfl)
            clear hd ho hdone hlater hold
            rw [Array.getD_eq_getD_getElem?] at h106 h107
            refine Reg.step2_val (.bool false) ?_ rfl hI trivial
            simp [execOp, Act.eval, h106, h107]
            try go_simp
          · -- 8: 109 := Op.pick t105 (const (Value.bool true)) t108
            intro aq wq lq hI hl hdone hlater hold hd ho
            have h105 : aq.tmps.getD 105 undef = .bool false := hd 105 (by kernel_rfl)
            have h108 : aq.tmps.getD 108 undef = .bool false := hd 108 (by kernel_rfl)
            clear hd ho hdone hlater hold
            rw [Array.getD_eq_getD_getElem?] at h105 h108
            refine Reg.step2_val (.bool false) ?_ rfl hI trivial
            simp [execOp, Act.eval, h105, h108]
            try go_simp
          case hend =>
            intro wz hI
            simp only [Reg.fill, List.foldl_cons, List.foldl_nil, List.setIfInBounds_toArray, List.set_cons_zero, List.set_cons_succ]
            have HBZ := Lib.hid (below_on HB5'.out hI)
            clear hI
            go_wp2_with fail
            go_roundw
            case rel => exact ⟨q + 1, by omega, by go_num, HBZ.out⟩
            case measure => simp [intOf]; omega
        · have HBR := Lib.hid (below_on HBH.out hbr)
          clear hbr
          go_wp2_with fail
          refine (open_nil _ _).mono ?_
          rintro e wo ⟨rfl, hbo⟩
          unfold noSou
          have HBO := Lib.hid (below_on HBR.out hbo)
          clear hbo
          go_wp2_with fail
          refine (wakes_sup _).mono ?_
          rintro e w8 ⟨rfl, hb8⟩
          go_wp2_with fail
          go_ret
          exact ⟨rfl, below_on (below_nw HBO.out _) hb8⟩

set_option maxRecDepth 100000 in
theorem contract (H : Type) (enc : TypeId × Value → H) (W : World) (base : Nat) (args : Array Value) (ds gs : List (DataW H)) (before : List MemPlace)
    (hval0 : ∀ (j : Nat) t v, Tryd.f4.params[j]? = some t → args[j]? = some v → Value.okWide Tryd.prog W .any base t v)
    (hW : DataW.Whole enc Tryd.prog Tryd.f4.params.toList Rows.superOpensSpec.vars false W args.toList ds gs before) :
    Calls Tryd.prog 4 args W fun e W' => ∃ v, e = .returned v ∧ Rows.superOpensSpec.post enc Tryd.prog Tryd.f4 false true false false W args v W' := by
  have hval : ∀ (j : Nat) t v, Tryd.f4.params[j]? = some t → args[j]? = some v → Value.okWide Tryd.prog W .any base t v := hval0
  have hW' := hW
  obtain ⟨p, q, hA0, hV, rfl, hfz, hnd⟩ := hW
  have hA : DataW.TrodAll enc Tryd.prog W 0 (fun _ => true) true Tryd.f4.params.toList args.toList ds p := hA0
  rw [Tryd.params4] at hA hval
  obtain ⟨v0, vs0, d0, ds0, p0, q0, hargs, rfl, rfl, h0, r0⟩ := trodAll_cons hA
  obtain ⟨v1, vs1, d1, ds1, p1, q1, rfl, rfl, rfl, h1, r1⟩ := trodAll_cons r0
  obtain ⟨v2, vs2, d2, ds2, p2, q2, rfl, rfl, rfl, h2, r2⟩ := trodAll_cons r1
  obtain ⟨rfl, rfl, rfl⟩ := trodAll_nil r2
  obtain rfl : args = #[v0, v1, v2] := by cases args; simp_all
  obtain ⟨rfl, rfl⟩ := trodVars_none hV
  have k0 := h0
  have lt0 : ∀ x ∈ p0, x.block < W.heap.size := by obtain ⟨m, hm⟩ := k0; exact DataW.trod_lt m _ _ _ hm
  obtain ⟨cs0, rfl, hl0, hc0⟩ := open_struct_cells Tryd.underlying25 (by kernel_rfl) (by kernel_rfl) (hval 0 25 v0 rfl rfl) h0
  obtain ⟨y0_0, y0_1, y0_2, y0_3, y0_4, y0_5, y0_6, rfl⟩ := len7 cs0 hl0
  obtain ⟨a0f0, rfl, w0f0⟩ := open_int_cell Tryd.underlying22 (hc0 0 _ _ rfl rfl)
  obtain ⟨a0f1, rfl, w0f1⟩ := open_int_cell Tryd.underlying3 (hc0 1 _ _ rfl rfl)
  obtain ⟨a0f2, rfl, w0f2⟩ := open_int_cell Tryd.underlying22 (hc0 2 _ _ rfl rfl)
  obtain ⟨a0f3, rfl, w0f3⟩ := open_int_cell Tryd.underlying23 (hc0 3 _ _ rfl rfl)
  obtain ⟨a0f4, rfl, w0f4⟩ := open_int_cell Tryd.underlying3 (hc0 4 _ _ rfl rfl)
  obtain ⟨a0f5, rfl, w0f5⟩ := open_int_cell Tryd.underlying22 (hc0 5 _ _ rfl rfl)
  obtain ⟨a0f6, rfl, w0f6⟩ := open_int_cell Tryd.underlying23 (hc0 6 _ _ rfl rfl)
  have k1 := h1
  have lt1 : ∀ x ∈ p1, x.block < W.heap.size := by obtain ⟨m, hm⟩ := k1; exact DataW.trod_lt m _ _ _ hm
  obtain ⟨cs1, rfl, hl1, hc1⟩ := open_arr Tryd.underlying45 (by kernel_rfl) (by kernel_rfl) (hval 1 45 v1 rfl rfl) h1
  obtain ⟨y1_0, y1_1, rfl⟩ := len2 cs1 hl1
  obtain ⟨a1x0, rfl, w1x0⟩ := open_int_cell Tryd.underlying3 (hc1 0 _ rfl)
  obtain ⟨a1x1, rfl, w1x1⟩ := open_int_cell Tryd.underlying3 (hc1 1 _ rfl)
  obtain ⟨a2, rfl, rfl, rfl, w2⟩ := open_string Tryd.underlying9 (hval 2 9 v2 rfl rfl) h2
  clear hA0 hval0
  refine (walk a0f0 a0f1 a0f2 a0f3 a0f4 a0f5 a0f6 a1x0 a1x1 a2 W w0f0 w0f1 w0f2 w0f3 w0f4 w0f5 w0f6 w1x0 w1x1 w2).mono fun e W' ⟨he, bel⟩ => ?_
  subst he
  exact ⟨_, rfl, _, _, _, [], _, [], hW', trodAll_mk1 (shut_bool Tryd.underlying4 _), (trodAll_cons_mk (Below.trod laidOut (by kernel_rfl) (of_decide_eq_true (by kernel_rfl)) k0 bel lt0) (trodAll_cons_mk (Below.trod laidOut (by kernel_rfl) (of_decide_eq_true (by kernel_rfl)) k1 bel lt1) (trodAll_cons_mk (shut_string Tryd.underlying9 w2) trodAll_mk0))), rfl, bel.frame _, fun h => by cases h⟩

noncomputable def laidWorld (os : Os) : World :=
  { World.holding Tryd.prog os ⟨#[], #[], []⟩ with heap := (((((World.holding Tryd.prog os ⟨#[], #[], []⟩).heap).modify 2 fun | .cells _ t frozen => .cells (#[.int .u8 128, .int .u8 191, .int .u8 160, .int .u8 191, .int .u8 128, .int .u8 159, .int .u8 144, .int .u8 191, .int .u8 128, .int .u8 143, .int .u8 0, .int .u8 0, .int .u8 0, .int .u8 0, .int .u8 0, .int .u8 0, .int .u8 0, .int .u8 0, .int .u8 0, .int .u8 0, .int .u8 0, .int .u8 0, .int .u8 0, .int .u8 0, .int .u8 0, .int .u8 0, .int .u8 0, .int .u8 0, .int .u8 0, .int .u8 0, .int .u8 0, .int .u8 0]) t frozen | o => o)).modify 1 fun | .cells _ t frozen => .cells ((Go.Pinned.utf8FirstZ.map fun z : Nat => Value.int .u8 (z : Int)).toArray) t frozen | o => o) }
theorem laid_met (os : Os) : laidMet Tryd.prog Rows.superOpensRow.laid ((laidWorld os).forCall (fun _ _ => 0) ⟨#[], #[.agg #[.int .u64 0, .int .i64 0, .int .u64 0, .int .u32 0, .int .i64 0, .int .u64 0, .int .u32 0], .agg #[.int .i64 0, .int .i64 0], .string ByteArray.empty], []⟩).memory :=
  laidMet_of_run' 8 (by kernel_rfl) (by kernel_rfl)
theorem reads (os : Os) {H : Type} (enc : TypeId × Value → H) : ∃ places, DataW.whole enc Tryd.prog ((laidWorld os).forCall (fun _ _ => 0) ⟨#[], #[.agg #[.int .u64 0, .int .i64 0, .int .u64 0, .int .u32 0, .int .i64 0, .int .u64 0, .int .u32 0], .agg #[.int .i64 0, .int .i64 0], .string ByteArray.empty], []⟩).memory Tryd.f4.params.toList Rows.superOpensSpec.vars false (#[.agg #[.int .u64 0, .int .i64 0, .int .u64 0, .int .u32 0, .int .i64 0, .int .u64 0, .int .u32 0], .agg #[.int .i64 0, .int .i64 0], .string ByteArray.empty] : Array Value).toList 8 = some ([.agg [.lit (.int .u64 0), .lit (.int .i64 0), .lit (.int .u64 0), .lit (.int .u32 0), .lit (.int .i64 0), .lit (.int .u64 0), .lit (.int .u32 0)], .agg [.lit (.int .i64 0), .lit (.int .i64 0)], .lit (.string [])], [], places) :=
  ⟨[], by kernel_rfl⟩

set_option maxRecDepth 100000 in
theorem lifted (os : Os) (started : os.Started) (H : Type) (enc : TypeId × Value → H) (F : Stop.Interp) :
    ReturnsInHanded {} Tryd.checked os 4 .any ((OpenSpec.ofChange Rows.superOpensSpec).preRow enc Tryd.prog Tryd.f4 Rows.superOpensRow.domain false Rows.superOpensRow.laid) (((OpenSpec.ofChange Rows.superOpensSpec).at F).post enc Tryd.prog Tryd.f4 false true false false) := by
  obtain ⟨places, hx⟩ := reads os enc
  refine returnsInHanded_of_row (C := Tryd.checked) (s := OpenSpec.ofChange Rows.superOpensSpec) own started (by kernel_rfl) Tryd.func4
    (witness_row_at (enc := enc) (C := Tryd.checked) false (laidWorld os) #[.agg #[.int .u64 0, .int .i64 0, .int .u64 0, .int .u32 0, .int .i64 0, .int .u64 0, .int .u32 0], .agg #[.int .i64 0, .int .i64 0], .string ByteArray.empty] rfl (by kernel_rfl) (by kernel_rfl) (by kernel_rfl)
      (OpenSpec.preRow_of_cond 8 hx (by kernel_rfl) (fun k hk => by cases hk) (by kernel_rfl) (laid_met os))) ?_
  intro W base args ds gs before hval hW _ _ _ hL _ _
  exact contract H enc W base args ds gs before hval hW

theorem said : Rows.SuperOpensSaid :=
  OpenClaim.holds_of_cond 4 Tryd.f4 rfl rfl rfl rfl rfl rfl rfl ⟨rfl, rfl, rfl, rfl, rfl⟩ rfl rfl rfl rfl rfl (by kernel_rfl) Tryd.func4 (by kernel_rfl)
    (of_decide_eq_true (by kernel_rfl)) (by unfold Func.isWrapper; first | (rw [if_pos (by decide +kernel)]; kernel_rfl) | (rw [if_neg (by decide +kernel)]; exact ⟨rfl, rfl⟩))
    (fun os started H enc _ F => by rw [OpenClaim.pre_eq_preRow]; exact lifted os started H enc F)

theorem plain (f : FuncId) (fn : Func) (hf : Tryd.pinned.checked.prog.funcNamed "treenail/treenaillaw05.SuperOpens" = some f) (hfn : Tryd.pinned.checked.prog.funcs[f]? = some fn) :
    false = Tryd.pinned.checked.prog.looks [] ∧ ∀ (j : Nat) t, fn.params[j]? = some t → Tryd.pinned.checked.prog.wantsStandIn t = false := by
  obtain rfl : f = 4 := Option.some.inj ((show Tryd.prog.funcNamed "treenail/treenaillaw05.SuperOpens" = some 4 by kernel_rfl).symm.trans hf) |>.symm
  obtain rfl : fn = Tryd.f4 := (Option.some.inj (Tryd.func4.symm.trans hfn)).symm
  refine ⟨by kernel_rfl, fun j t ht => ?_⟩
  rw [Tryd.params4] at ht
  rcases j with _ | _ | _ | j
  · obtain rfl : t = 25 := by simpa using ht.symm
    exact (show Tryd.prog.wantsStandIn 25 = false by kernel_rfl)
  · obtain rfl : t = 45 := by simpa using ht.symm
    exact (show Tryd.prog.wantsStandIn 45 = false by kernel_rfl)
  · obtain rfl : t = 9 := by simpa using ht.symm
    exact (show Tryd.prog.wantsStandIn 9 = false by kernel_rfl)
  · simp at ht

/-- THE STATEMENT -/
theorem proved : Rows.SuperOpensCardSaid :=
  Claim7.holds_tied_plain_at .later [] _ _ _ _ said (fun _ h => by cases h) (by kernel_rfl) (fun _ h => by cases h) superOpens_row_tie rfl ⟨rfl, rfl⟩ (by kernel_rfl) rfl plain (by kernel_rfl)
#print axioms proved
end Go.Proofs.YtimdemdopnmijaaDoor.superOpens
