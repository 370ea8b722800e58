/-
  The law SuperNewest holds: of some images the superblock with the greatest generation is told, whatever else stands among them; none, if there is none. Conditions: none but the row's own.
-/
import Derived.Test.YtimdemdopnmijaaDoorRows
import Derived.Test.YtimdemdopnmijaaDoorSupW
import Derived.Test.YtimdemdopnmijaaDoorUno
import Derived.OwnWalk
import Derived.Laws.OwnMore
import Derived.Deep.DeepCutAuto
import Derived.BigQuiet
import Derived.Deep.QuietTactic
import Derived.Test.YtimdemdopnmijaaDoorCards
import Derived.Test.YtimdemdopnmijaaDoorTie
import Derived.Test.YtimdemdopnmijaaDoorStructs
import Derived.WalkKit
import Derived.ProofKit
import Derived.OpenShut
import Derived.ShutString
import Derived.ChangeOld
import Derived.Below
import Derived.Carry
import Derived.Deep.DeepHandedRow
import Derived.Lib.LaidTab
namespace Go.Proofs.YtimdemdopnmijaaDoor.superNewest
open Go.ChangeShapes Go.WideShapes Go.ChangeAt Go.RowKit
open Go.Proofs.YtimdemdopnmijaaDoor
open Go.ChangeMaps (open_string shut_string)
set_option linter.unusedVariables false

theorem own : ownKnob Tryd.prog.godebug = none := by kernel_rfl
theorem laidOut : laidOutB Tryd.prog = true := by kernel_rfl

/-- the elements of argument 0 -/
def AR0 (w : World) (a : Option Addr) (len : Nat) : Prop := 0 < len → ∃ b off, a = some ⟨b, off, none⟩ ∧ ∀ i, i < len → ∃ (x0 : Int) (x1 : Int) (x2 : Int) (x3 : Int) (x4 : Int) (x5 : Int) (x6 : Int), w.cell? ⟨b, off + (i * 7 + 0), none⟩ = some (.int .u64 x0) ∧ (Lit.int .u64 x0).wf = true ∧ w.cell? ⟨b, off + (i * 7 + 1), none⟩ = some (.int .i64 x1) ∧ (Lit.int .i64 x1).wf = true ∧ w.cell? ⟨b, off + (i * 7 + 2), none⟩ = some (.int .u64 x2) ∧ (Lit.int .u64 x2).wf = true ∧ w.cell? ⟨b, off + (i * 7 + 3), none⟩ = some (.int .u32 x3) ∧ (Lit.int .u32 x3).wf = true ∧ w.cell? ⟨b, off + (i * 7 + 4), none⟩ = some (.int .i64 x4) ∧ (Lit.int .i64 x4).wf = true ∧ w.cell? ⟨b, off + (i * 7 + 5), none⟩ = some (.int .u64 x5) ∧ (Lit.int .u64 x5).wf = true ∧ w.cell? ⟨b, off + (i * 7 + 6), none⟩ = some (.int .u32 x6) ∧ (Lit.int .u32 x6).wf = true
theorem open_AR0 {H : Type} {enc : TypeId × Value → H} {w : World} {held : Bool} {c : Value} (h : ∃ m y, DataW.trod enc Tryd.prog w 0 (fun _ => true) held m 29 [c] = some y) :
    ∃ a len cap, c = .slice a len cap ∧ AR0 w a len ∧ len ≤ cap ∧ cap ≤ maxLen := by
  obtain ⟨a, len, cap, hc, hl, hm, hx⟩ := open_structs Tryd.underlying29 Tryd.underlying25 (by kernel_rfl) (by kernel_rfl) (by decide) h
  refine ⟨a, len, cap, hc, fun hpos => ?_, hl, hm⟩
  obtain ⟨b, off, ha, hf⟩ := hx hpos
  refine ⟨b, off, ha, fun i hi => ?_⟩
  obtain ⟨v0, hc0, ht0⟩ := hf i hi 0 _ rfl
  obtain ⟨x0, rfl, hw0⟩ := open_int_cell Tryd.underlying22 ht0
  obtain ⟨v1, hc1, ht1⟩ := hf i hi 1 _ rfl
  obtain ⟨x1, rfl, hw1⟩ := open_int_cell Tryd.underlying3 ht1
  obtain ⟨v2, hc2, ht2⟩ := hf i hi 2 _ rfl
  obtain ⟨x2, rfl, hw2⟩ := open_int_cell Tryd.underlying22 ht2
  obtain ⟨v3, hc3, ht3⟩ := hf i hi 3 _ rfl
  obtain ⟨x3, rfl, hw3⟩ := open_int_cell Tryd.underlying23 ht3
  obtain ⟨v4, hc4, ht4⟩ := hf i hi 4 _ rfl
  obtain ⟨x4, rfl, hw4⟩ := open_int_cell Tryd.underlying3 ht4
  obtain ⟨v5, hc5, ht5⟩ := hf i hi 5 _ rfl
  obtain ⟨x5, rfl, hw5⟩ := open_int_cell Tryd.underlying22 ht5
  obtain ⟨v6, hc6, ht6⟩ := hf i hi 6 _ rfl
  obtain ⟨x6, rfl, hw6⟩ := open_int_cell Tryd.underlying23 ht6
  exact ⟨x0, x1, x2, x3, x4, x5, x6, hc0, hw0, hc1, hw1, hc2, hw2, hc3, hw3, hc4, hw4, hc5, hw5, hc6, hw6⟩

open Go.Proofs.YtimdemdopnmijaaDoor.Sup Go.Proofs.YtimdemdopnmijaaDoor.Env
def Good (g rg c s ch : Int) : Prop := (0 ≤ g ∧ g < 18446744073709551616) ∧ Nums rg c s ch
theorem Good.tam {g rg c s ch : Int} (h : Good g rg c s ch) : Good (tamG g) (tamR rg g) c s ch :=
  ⟨tamG_bd h.1.1 h.1.2, (tamR_bd (g := g) h.2.rg0 h.2.rg1).1, (tamR_bd (g := g) h.2.rg0 h.2.rg1).2, h.2.c0, h.2.c1, h.2.s0, h.2.s1, h.2.ch0, h.2.ch1⟩
/-- a superblock's seven cells at a place -/
def At7 (W : World) (p o : Nat) (g a rg c h s ch : Int) : Prop :=
  W.cell? ⟨p, o, none⟩ = some (.int .u64 g) ∧ W.cell? ⟨p, o + 1, none⟩ = some (.int .i64 a) ∧ W.cell? ⟨p, o + 2, none⟩ = some (.int .u64 rg) ∧ W.cell? ⟨p, o + 3, none⟩ = some (.int .u32 c) ∧
  W.cell? ⟨p, o + 4, none⟩ = some (.int .i64 h) ∧ W.cell? ⟨p, o + 5, none⟩ = some (.int .u64 s) ∧ W.cell? ⟨p, o + 6, none⟩ = some (.int .u32 ch)
theorem At7.on {W W' : World} {p o : Nat} {g a rg c h s ch : Int} (hh : At7 W p o g a rg c h s ch) (hb : Below W.heap.size W W') : At7 W' p o g a rg c h s ch :=
  ⟨cells_on hh.1 hb, cells_on hh.2.1 hb, cells_on hh.2.2.1 hb, cells_on hh.2.2.2.1 hb, cells_on hh.2.2.2.2.1 hb, cells_on hh.2.2.2.2.2.1 hb, cells_on hh.2.2.2.2.2.2 hb⟩
theorem at7 {W : World} {p : Nat} {t : TypeId} {g a rg c h s ch : Int} (hh : Has W p t [.int .u64 g, .int .i64 a, .int .u64 rg, .int .u32 c, .int .i64 h, .int .u64 s, .int .u32 ch]) : At7 W p 0 g a rg c h s ch := has7 hh
theorem two7 {W : World} {p : Nat} {t : TypeId} {g a rg c h s ch g' a' rg' c' h' s' ch' : Int}
    (H : Has W p t [.int .u64 g, .int .i64 a, .int .u64 rg, .int .u32 c, .int .i64 h, .int .u64 s, .int .u32 ch, .int .u64 g', .int .i64 a', .int .u64 rg', .int .u32 c', .int .i64 h', .int .u64 s', .int .u32 ch'])
    (G : Good g rg c s ch) (G' : Good g' rg' c' s' ch') : ∀ q, q < 2 → ∃ z0 z1 z2 z3 z4 z5 z6 : Int, Good z0 z2 z3 z5 z6 ∧ At7 W p (q * 7) z0 z1 z2 z3 z4 z5 z6 := by
  intro q hq
  match q, hq with
  | 0, _ => exact ⟨g, a, rg, c, h, s, ch, G, H.cell 0, H.cell 1, H.cell 2, H.cell 3, H.cell 4, H.cell 5, H.cell 6⟩
  | 1, _ => exact ⟨g', a', rg', c', h', s', ch', G', H.cell 7, H.cell 8, H.cell 9, H.cell 10, H.cell 11, H.cell 12, H.cell 13⟩
theorem keep7 {w1 w2 : World} {p : Nat} {x0 x1 x2 x3 x4 x5 x6 : Value} (h : w1.cell? ⟨p, 0, none⟩ = some x0 ∧ w1.cell? ⟨p, 1, none⟩ = some x1 ∧ w1.cell? ⟨p, 2, none⟩ = some x2 ∧ w1.cell? ⟨p, 3, none⟩ = some x3 ∧ w1.cell? ⟨p, 4, none⟩ = some x4 ∧ w1.cell? ⟨p, 5, none⟩ = some x5 ∧ w1.cell? ⟨p, 6, none⟩ = some x6) (hb : Below w1.heap.size w1 w2) :
    w2.cell? ⟨p, 0, none⟩ = some x0 ∧ w2.cell? ⟨p, 1, none⟩ = some x1 ∧ w2.cell? ⟨p, 2, none⟩ = some x2 ∧ w2.cell? ⟨p, 3, none⟩ = some x3 ∧ w2.cell? ⟨p, 4, none⟩ = some x4 ∧ w2.cell? ⟨p, 5, none⟩ = some x5 ∧ w2.cell? ⟨p, 6, none⟩ = some x6 :=
  ⟨cells_on h.1 hb, cells_on h.2.1 hb, cells_on h.2.2.1 hb, cells_on h.2.2.2.1 hb, cells_on h.2.2.2.2.1 hb, cells_on h.2.2.2.2.2.1 hb, cells_on h.2.2.2.2.2.2 hb⟩
theorem sealS_size (size k a g : Int) (pl : List UInt8) : (sealS size k a g pl).size ≤ 1024 := by
  unfold sealS
  split
  · rename_i h
    have hs : szB size = true ∧ (pl.length : Int) ≤ size - 24 := by
      unfold sealE at h
      split at h
      · rename_i h1; split at h
        · rename_i h2; exact ⟨h1.1, h2⟩
        · cases h
      · cases h
    have h1 : 128 ≤ size ∧ size ≤ 1024 := by simpa [szB] using hs.1
    show (imgL k a g (size - 24).toNat pl).length ≤ 1024
    rw [imgL_length _ _ _ _ _ (by omega)]; omega
  · exact Nat.zero_le _
theorem souV_cells (l : List UInt8) : ∃ y0 y1 y2 y3 y4 y5 y6 : Int, souV l (souE l) = .tuple #[.agg #[.int .u64 y0, .int .i64 y1, .int .u64 y2, .int .u32 y3, .int .i64 y4, .int .u64 y5, .int .u32 y6], .int .i64 (souE l)] := by
  unfold souV
  split
  · exact ⟨_, _, _, _, _, _, _, rfl⟩
  · exact ⟨_, _, _, _, _, _, _, rfl⟩
def nwG : Option (List UInt8) → Int
  | none => 0
  | some l => F l 4
def nwA : Option (List UInt8) → Bool
  | none => false
  | some _ => true
theorem nwV_cells (o : Option (List UInt8)) : ∃ y1 y2 y3 y4 y5 y6 : Int, nwV o = .tuple #[.agg #[.int .u64 (nwG o), .int .i64 y1, .int .u64 y2, .int .u32 y3, .int .i64 y4, .int .u64 y5, .int .u32 y6], .bool (nwA o)] := by
  cases o with
  | none => exact ⟨0, 0, 0, 0, 0, 0, rfl⟩
  | some l => exact ⟨_, _, _, _, _, _, rfl⟩
theorem nwS_bad {o : Option (List UInt8)} {l : List UInt8} (h : souE l ≠ 0) : nwS o l = o := by
  cases o with
  | none => rw [nwS, if_neg h]
  | some b => rw [nwS, if_neg (fun hh => h hh.1)]
theorem nwS_good {o : Option (List UInt8)} {l : List UInt8} {g : Int} (h : souE l = 0) (hg : F l 4 = g) (hg1 : 1 ≤ g) : nwG (nwS o l) = max (nwG o) g ∧ nwA (nwS o l) = true := by
  cases o with
  | none => rw [nwS, if_pos h]; exact ⟨by simp only [nwG]; omega, rfl⟩
  | some b =>
    by_cases hc : F b 4 < F l 4
    · rw [nwS, if_pos ⟨h, hc⟩]; exact ⟨by simp only [nwG]; omega, rfl⟩
    · rw [nwS, if_neg (fun hh => hc hh.2)]; exact ⟨by simp only [nwG]; omega, rfl⟩
theorem short127 {l : List UInt8} (h : l.length = 127) : souE l ≠ 0 := by
  have h1 : opE l = 4 := by
    rw [opE, if_neg]
    intro hh
    have := opB_parts hh
    omega
  rw [souE_open (by rw [h1]; decide), h1]; decide
theorem own_row {W : World} {base : Nat} {g n cap : Nat} {ss : List ByteArray} (h : W.ownsRow base 9 1 (.slice (some ⟨g, 0, none⟩) n cap) n (ss.map Value.string)) : Sum.StrRow W (some ⟨g, 0, none⟩) n ss := by
  have hl : ss.length = n := by have := h.1; simpa using this
  refine ⟨hl, fun _ => ⟨g, 0, rfl, fun i hi => ?_⟩⟩
  have := h.cellAt i (by omega)
  rw [Nat.zero_add, this, List.getElem?_map, List.getElem?_eq_getElem (by omega), List.getD_eq_getElem?_getD, List.getElem?_eq_getElem (by omega)]; rfl
theorem own_on {w w' : World} {B : Nat} {e : TypeId} {k : Nat} {v : Value} {n : Nat} {xs : List Value} (h : w.ownsRow B e k v n xs) (hb : Below w.heap.size w w') : w'.ownsRow B e k v n xs := by
  refine ⟨h.1, ?_⟩
  rcases h.2 with hn | ⟨g, cap, cur, rfl, hB, hg, rest⟩
  · exact .inl hn
  · exact .inr ⟨g, cap, cur, rfl, hB, by rw [hb.block g (Array.getElem?_eq_some_iff.1 hg).1]; exact hg, rest⟩
theorem info_strs : (Tryd.prog.info? 9).map (fun i => (i.zero, i.size, i.bytes)) = some (some (.string ⟨#[]⟩), 1, 16) := by kernel_rfl

/-! ### STEP 1: THE WALK -/
set_option maxHeartbeats 4000000 in
set_option maxRecDepth 100000 in
theorem walk (a0 : Option Addr) (a0l a0c : Nat) (a1 : ByteArray) (w : World) (w0 : AR0 w a0 a0l) (w0l : a0l ≤ a0c) (w0m : a0c ≤ maxLen) (w1 : a1.size ≤ maxLen) :
    Calls Tryd.prog 5 #[.slice a0 a0l a0c, .string a1] w fun e w' => e = .returned (.bool true) ∧ Below w.heap.size w w' := by
  obtain ⟨n, hn⟩ : ∃ n : Nat, n = min a0l 8 := ⟨_, rfl⟩
  have hmin : min (a0l : Int) 8 = (n : Int) := by omega
  have hn1 : n ≤ a0l := by omega
  have hn1' : n ≤ a0c := by omega
  have hn8 : n ≤ 8 := by omega
  obtain ⟨m, hm⟩ : ∃ m : Nat, m = min a1.size 200 := ⟨_, rfl⟩
  have hminr : min (a1.size : Int) 200 = (m : Int) := by omega
  have hm0 : (0 : Int) ≤ (m : Int) := by omega
  have hm1 : m ≤ a1.size := by omega
  have hm2 : (m : Int) ≤ (a1.size : Int) := by omega
  obtain ⟨raw, hraw⟩ : ∃ x, x = a1.extract 0 m := ⟨_, rfl⟩
  have hrs : raw.size ≤ 200 := by rw [hraw]; simp; omega
  have HRAW := Lib.hid hraw
  clear w1 hn hm hraw
  go_enter Tryd.func5, Tryd.ntmps5
  go_wp2_with fail
  refine (Sum.make_any _).mono ?_
  rintro e w1 ⟨b, rfl, hb, ht, hb1⟩
  have HT := Lib.hid ht
  have HB1 := Lib.hid hb1
  have hlit := World.ownsRow_lit (base := w1.heap.size) (e := 9) (size := 1) w1 #[.string raw] 1 (Nat.le_refl _) (by decide) rfl
  have HLIT := Lib.hid hlit
  clear ht hb hb1 hlit
  go_wp2_with fail
  rw [← HRAW.out]
  go_loopw [6, 7, 8, 35] (fun im be an i wr => ∃ (k : Nat) (T : List ByteArray), k ≤ n ∧ i = .int .i64 k ∧ T.length = 2 * k ∧ (∀ s ∈ T, s.size ≤ 1000000) ∧ be = .int .u64 (nwG (nwF none (T.map fun s => s.data.toList))) ∧ an = .bool (nwA (nwF none (T.map fun s => s.data.toList))) ∧
    Below w1.heap.size w1 wr ∧ wr.ownsRow w1.heap.size 9 1 im (1 + 2 * k) ((raw :: T).map Value.string)) (fun _ _ _ i _ => n - (intOf i).toNat)
  case atStart => exact ⟨0, [], Nat.zero_le _, rfl, rfl, (fun s hs => by cases hs), rfl, rfl, by exact below_nw (Below.refl _ _) _, HLIT.out⟩
  case round =>
    obtain ⟨k, T, hk, rfl, hT, hTs, rfl, rfl, hbr, hown⟩ := hrel
    obtain ⟨O, hO⟩ : ∃ O, O = nwF none (T.map fun s => s.data.toList) := ⟨_, rfl⟩
    rw [← hO]
    by_cases hlt : k < n
    · have hki : (k : Int) < (n : Int) := by omega
      obtain ⟨ab, off, rfl, hel⟩ := w0 (by omega)
      obtain ⟨x0, x1, x2, x3, x4, x5, x6, d0, f0, d1, f1, d2, f2, d3, f3, d4, f4, d5, f5, d6, f6⟩ := hel k (by omega)
      have b0 := bounds_u64 f0
      have b2 := bounds_u64 f2
      have b3 := bounds_u32 f3
      have b5 := bounds_u64 f5
      have b6 := bounds_u32 f6
      have HG := Lib.hid (show Good x0 x2 x3 x5 x6 from ⟨⟨by omega, by omega⟩, by constructor <;> omega⟩)
      have h0 : 0 ≤ x0 := b0.1
      have hbw := below_on HB1.out hbr
      have c0 : wr.cell? ⟨ab, off + k * 7, none⟩ = some (.int .u64 x0) := cells_on d0 hbw
      have c1 : wr.cell? ⟨ab, off + k * 7 + 1, none⟩ = some (.int .i64 x1) := by have := cells_on d1 hbw; rwa [← Nat.add_assoc] at this
      have c2 : wr.cell? ⟨ab, off + k * 7 + 2, none⟩ = some (.int .u64 x2) := by have := cells_on d2 hbw; rwa [← Nat.add_assoc] at this
      have c3 : wr.cell? ⟨ab, off + k * 7 + 3, none⟩ = some (.int .u32 x3) := by have := cells_on d3 hbw; rwa [← Nat.add_assoc] at this
      have c4 : wr.cell? ⟨ab, off + k * 7 + 4, none⟩ = some (.int .i64 x4) := by have := cells_on d4 hbw; rwa [← Nat.add_assoc] at this
      have c5 : wr.cell? ⟨ab, off + k * 7 + 5, none⟩ = some (.int .u64 x5) := by have := cells_on d5 hbw; rwa [← Nat.add_assoc] at this
      have c6 : wr.cell? ⟨ab, off + k * 7 + 6, none⟩ = some (.int .u32 x6) := by have := cells_on d6 hbw; rwa [← Nat.add_assoc] at this
      have HBR := Lib.hid hbr
      have HOWN := Lib.hid hown
      have HTR := Lib.hid (tab_on HT.out hbr)
      have HTS := Lib.hid hTs
      have HTL := Lib.hid hT
      have HO := Lib.hid hO
      clear d0 d1 d2 d3 d4 d5 d6 f0 f1 f2 f3 f4 f5 f6 b0 b2 b3 b5 b6 hel hbw hbr hown hTs hT hO
      go_wp2_with fail
      refine (tame_any _ _ _ _ _ _ _ _ h0).mono ?_
      rintro e w2 ⟨rfl, hb2⟩
      obtain ⟨g, hg'⟩ : ∃ x, x = tamG x0 := ⟨_, rfl⟩
      obtain ⟨a, ha'⟩ : ∃ x, x = Sup.tamA x1 := ⟨_, rfl⟩
      obtain ⟨rg, hr'⟩ : ∃ x, x = tamR x2 x0 := ⟨_, rfl⟩
      obtain ⟨h, hh'⟩ : ∃ x, x = tamH x4 := ⟨_, rfl⟩
      have HG' := Lib.hid (show Good g rg x3 x5 x6 by rw [hg', hr']; exact HG.out.tam)
      have hts := tam_sup x0 x1 x2 x4 HG.out.2.rg0
      have hg1 : 1 ≤ g := by rw [hg']; unfold tamG; omega
      rw [← hg', ← ha', ← hr', ← hh'] at hts
      rw [← hg', ← ha', ← hr', ← hh']
      obtain ⟨im, him⟩ : ∃ x, x = imL 128 g a rg x3 h x5 x6 := ⟨_, rfl⟩
      obtain ⟨o1, o2, o3, o4, o5, o6⟩ := im_open (size := 128) rfl hts HG'.out.2 HG'.out.1.2 (a := a) (h := h)
      have hsv := im_sou (size := 128) rfl hts HG'.out.2 HG'.out.1.2 (a := a) (h := h)
      have hil := imL_length 128 g a rg x3 h x5 x6 rfl
      rw [← him] at o1 o4 hsv hil
      obtain ⟨s, hs⟩ : ∃ s, s = Lend.strOf im := ⟨_, rfl⟩
      have hsd : s.data.toList = im := by rw [hs]; rfl
      have hss : s.size = 128 := by rw [sz_of hsd]; omega
      have HIV := Lib.hid (show imV 128 g a rg x3 h x5 x6 = .tuple #[.string s, .int .i64 0] by rw [imV_yes rfl hts, hs, him])
      have HSV := Lib.hid (show souV s.data.toList (souE s.data.toList) = .tuple #[.agg #[.int .u64 g, .int .i64 a, .int .u64 rg, .int .u32 x3, .int .i64 h, .int .u64 x5, .int .u32 x6], .int .i64 0] by rw [hsd]; exact hsv)
      have HSG := Lib.hid (nwS_good (o := O) o1 o4 hg1)
      have HSD := Lib.hid hsd
      have hpge : wr.heap.size < w2.heap.size := by have := hb2.size; simp at this; omega
      have HB2 := Lib.hid (below_on (below_nw HBR.out _) hb2)
      have HT2 := Lib.hid (tab_on (tab_nw HTR.out _) hb2)
      have HO2 := Lib.hid (own_on (HOWN.out.alloc _) hb2)
      clear hg' ha' hr' hh' hts him o1 o2 o3 o4 o5 o6 hsv hil hs hsd hb2 c0 c1 c2 c3 c4 c5 c6
      have hy := Has.new w2 [.int .u64 g, .int .i64 a, .int .u64 rg, .int .u32 x3, .int .i64 h, .int .u64 x5, .int .u32 x6] 25
      obtain ⟨pb, hpb⟩ : ∃ x, x = w2.heap.size := ⟨_, rfl⟩
      go_wp2_with fail
      refine (of_any _ _ _ _ _ _ _ _).mono ?_
      rintro e wo ⟨rfl, hbo⟩
      have HY := Lib.hid (hy.below hbo (by simp))
      have HB3 := Lib.hid (below_on (below_nw HB2.out _) hbo)
      have HT3 := Lib.hid (tab_on (tab_nw HT2.out _) hbo)
      have HO3 := Lib.hid (own_on (HO2.out.alloc _) hbo)
      rw [← hpb] at HY hpge ⊢
      clear hy hbo hpb
      go_wp2_with fail
      refine (image_any b 128 _ _ _ _ _ _ _ _ HT3.out HG'.out.2 HG'.out.1.1 HG'.out.1.2).mono ?_
      rintro e ws ⟨rfl, hbs⟩
      rw [HIV.out]
      have HY4 := Lib.hid (HY.out.below hbs HY.out.lt)
      have HB4 := Lib.hid (below_on HB3.out hbs)
      have HT4 := Lib.hid (tab_on HT3.out hbs)
      have HO4 := Lib.hid (own_on HO3.out hbs)
      clear hbs
      go_wp2_with fail
      refine (open_sup b s _ HT4.out (by omega)).mono ?_
      rintro e wp ⟨rfl, hbp⟩
      rw [HSV.out]
      have hc := Has.new wp [.int .u64 g, .int .i64 a, .int .u64 rg, .int .u32 x3, .int .i64 h, .int .u64 x5, .int .u32 x6] 36
      have HY5 := Lib.hid ((HY4.out.below hbp HY4.out.lt).alloc (.cells #[.int .u64 g, .int .i64 a, .int .u64 rg, .int .u32 x3, .int .i64 h, .int .u64 x5, .int .u32 x6] 36))
      have HB5 := Lib.hid (below_nw (below_on HB4.out hbp) (.cells #[.int .u64 g, .int .i64 a, .int .u64 rg, .int .u32 x3, .int .i64 h, .int .u64 x5, .int .u32 x6] 36))
      have HT5 := Lib.hid (tab_nw (tab_on HT4.out hbp) (.cells #[.int .u64 g, .int .i64 a, .int .u64 rg, .int .u32 x3, .int .i64 h, .int .u64 x5, .int .u32 x6] 36))
      have HO5 := Lib.hid ((own_on HO4.out hbp).alloc (.cells #[.int .u64 g, .int .i64 a, .int .u64 rg, .int .u32 x3, .int .i64 h, .int .u64 x5, .int .u32 x6] 36))
      obtain ⟨cb, hcb⟩ : ∃ x, x = wp.heap.size := ⟨_, rfl⟩
      obtain ⟨W5, hW5⟩ : ∃ x, x = wp.alloc (.cells #[.int .u64 g, .int .i64 a, .int .u64 rg, .int .u32 x3, .int .i64 h, .int .u64 x5, .int .u32 x6] 36) := ⟨_, rfl⟩
      rw [← hW5] at HY5 HB5 HT5 HO5
      have HC5 := Lib.hid (show Has W5 cb 36 [.int .u64 g, .int .i64 a, .int .u64 rg, .int .u32 x3, .int .i64 h, .int .u64 x5, .int .u32 x6] by rw [hW5, hcb]; exact hc)
      clear hc hbp
      go_wp2_with fail
      rw [← hW5, ← hcb]
      clear hW5 hcb
      refine Reg.region_vals (by kernel_rfl) [(54, .bool true), (55, .bool false), (56, .bool false), (57, .int .i64 0), (58, .bool false), (59, .bool false), (60, .bool false), (61, .int .i64 0), (62, .bool false), (63, .bool false), (64, .bool false), (65, .agg #[.int .u64 g, .int .i64 a, .int .u64 rg, .int .u32 x3, .int .i64 h, .int .u64 x5, .int .u32 x6]), (66, .agg #[.int .u64 g, .int .i64 a, .int .u64 rg, .int .u32 x3, .int .i64 h, .int .u64 x5, .int .u32 x6]), (67, .agg #[.int .u64 g, .int .i64 a, .int .u64 rg, .int .u32 x3, .int .i64 h, .int .u64 x5, .int .u32 x6]), (68, .bool false), (69, .bool false), (70, .bool false), (71, .string s), (72, .int .i64 128), (73, .bool false), (74, .bool false)] (fun l wy => Below W5.heap.size W5 wy) (by kernel_rfl) (by kernel_rfl) (by kernel_rfl) (below_dr (Below.refl _ _)) ⟨?_, ?_, ?_, ?_, ?_, ?_, ?_, ?_, ?_, ?_, ?_, ?_, ?_, ?_, ?_, ?_, ?_, ?_, ?_, ?_, ?_, trivial⟩ ?hend
      · -- 0: 54 := Op.call ( value (Operand.func 12), args := #(), argTypes := 
        intro aq wq lq hI hl hdone hlater hold hd ho
        clear hd ho hdone hlater hold
        refine Reg.step2_call 12 #[] ?_ ((wakes_sup wq).mono ?_)
        · clear hI
          simp [execOp]
          try go_simp
        · rintro e w' ⟨rfl, hb⟩
          exact ⟨_, rfl, rfl, below_on hI hb, trivial⟩
      · -- 1: 55 := Op.unOp UnOp.not 4 t54
        intro aq wq lq hI hl hdone hlater hold hd ho
        have h54 : aq.tmps.getD 54 undef = .bool true := hd 54 (by kernel_rfl)
        clear hd ho hdone hlater hold
        rw [Array.getD_eq_getD_getElem?] at h54
        refine Reg.step2_val (.bool false) ?_ rfl hI trivial
        simp [execOp, Act.eval, h54]
        try go_simp
      · -- 2: 56 := Op.move t55
        intro aq wq lq hI hl hdone hlater hold hd ho
        have h55 : aq.tmps.getD 55 undef = .bool false := hd 55 (by kernel_rfl)
        clear hd ho hdone hlater hold
        exact Reg.step2_move (.tmp 55) rfl h55 hI trivial
      · -- 3: 57 := Op.move t13
        intro aq wq lq hI hl hdone hlater hold hd ho
        have h13 : aq.tmps.getD 13 undef = .int .i64 0 := ho 13 (by kernel_rfl)
        clear hd ho hdone hlater hold
        exact Reg.step2_move (.tmp 13) rfl h13 hI trivial
      · -- 4: 58 := Op.binOp BinOp.neq 31 t57 (const (0:i64)) 31
        intro aq wq lq hI hl hdone hlater hold hd ho
        have h57 : aq.tmps.getD 57 undef = .int .i64 0 := hd 57 (by kernel_rfl)
        clear hd ho hdone hlater hold
        rw [Array.getD_eq_getD_getElem?] at h57
        refine Reg.step2_val (.bool false) ?_ rfl hI trivial
        simp [execOp, Act.eval, h57]
        try go_simp
      · -- 5: 59 := Op.pick t56 (const (Value.bool true)) t58
        intro aq wq lq hI hl hdone hlater hold hd ho
        have h56 : aq.tmps.getD 56 undef = .bool false := hd 56 (by kernel_rfl)
        have h58 : aq.tmps.getD 58 undef = .bool false := hd 58 (by kernel_rfl)
        clear hd ho hdone hlater hold
        rw [Array.getD_eq_getD_getElem?] at h56 h58
        refine Reg.step2_val (.bool false) ?_ rfl hI trivial
        simp [execOp, Act.eval, h56, h58]
        try go_simp
      · -- 6: 60 := Op.move t59
        intro aq wq lq hI hl hdone hlater hold hd ho
        have h59 : aq.tmps.getD 59 undef = .bool false := hd 59 (by kernel_rfl)
        clear hd ho hdone hlater hold
        exact Reg.step2_move (.tmp 59) rfl h59 hI trivial
      · -- 7: 61 := Op.move t15
        intro aq wq lq hI hl hdone hlater hold hd ho
        have h15 : aq.tmps.getD 15 undef = .int .i64 0 := ho 15 (by kernel_rfl)
        clear hd ho hdone hlater hold
        exact Reg.step2_move (.tmp 15) rfl h15 hI trivial
      · -- 8: 62 := Op.binOp BinOp.neq 31 t61 (const (0:i64)) 31
        intro aq wq lq hI hl hdone hlater hold hd ho
        have h61 : aq.tmps.getD 61 undef = .int .i64 0 := hd 61 (by kernel_rfl)
        clear hd ho hdone hlater hold
        rw [Array.getD_eq_getD_getElem?] at h61
        refine Reg.step2_val (.bool false) ?_ rfl hI trivial
        simp [execOp, Act.eval, h61]
        try go_simp
      · -- 9: 63 := Op.pick t60 (const (Value.bool true)) t62
        intro aq wq lq hI hl hdone hlater hold hd ho
        have h60 : aq.tmps.getD 60 undef = .bool false := hd 60 (by kernel_rfl)
        have h62 : aq.tmps.getD 62 undef = .bool false := hd 62 (by kernel_rfl)
        clear hd ho hdone hlater hold
        rw [Array.getD_eq_getD_getElem?] at h60 h62
        refine Reg.step2_val (.bool false) ?_ rfl hI trivial
        simp [execOp, Act.eval, h60, h62]
        try go_simp
      · -- 10: 64 := Op.move t63
        intro aq wq lq hI hl hdone hlater hold hd ho
        have h63 : aq.tmps.getD 63 undef = .bool false := hd 63 (by kernel_rfl)
        clear hd ho hdone hlater hold
        exact Reg.step2_move (.tmp 63) rfl h63 hI trivial
      · -- 11: 65 := Op.load 36 t14
        intro aq wq lq hI hl hdone hlater hold hd ho
        have h14 : aq.tmps.getD 14 undef = .pointer (some ⟨cb, 0, none⟩) := ho 14 (by kernel_rfl)
        clear hd ho hdone hlater hold
        rw [Array.getD_eq_getD_getElem?] at h14
        obtain ⟨e0, e1, e2, e3, e4, e5, e6⟩ := has7 (HC5.out.below hI HC5.out.lt)
        refine Reg.step2_val (.agg #[.int .u64 g, .int .i64 a, .int .u64 rg, .int .u32 x3, .int .i64 h, .int .u64 x5, .int .u32 x6]) ?_ rfl hI trivial
        go_simp
      · -- 12: 66 := Op.load 25 t11
        intro aq wq lq hI hl hdone hlater hold hd ho
        have h11 : aq.tmps.getD 11 undef = .pointer (some ⟨pb, 0, none⟩) := ho 11 (by kernel_rfl)
        clear hd ho hdone hlater hold
        rw [Array.getD_eq_getD_getElem?] at h11
        obtain ⟨e0, e1, e2, e3, e4, e5, e6⟩ := has7 (HY5.out.below hI HY5.out.lt)
        refine Reg.step2_val (.agg #[.int .u64 g, .int .i64 a, .int .u64 rg, .int .u32 x3, .int .i64 h, .int .u64 x5, .int .u32 x6]) ?_ rfl hI trivial
        go_simp
      · -- 13: 67 := Op.call ( value (Operand.func 9), args := #(t66), argTypes :
        intro aq wq lq hI hl hdone hlater hold hd ho
        have h66 : aq.tmps.getD 66 undef = .agg #[.int .u64 g, .int .i64 a, .int .u64 rg, .int .u32 x3, .int .i64 h, .int .u64 x5, .int .u32 x6] := hd 66 (by kernel_rfl)
        clear hd ho hdone hlater hold
        rw [Array.getD_eq_getD_getElem?] at h66
        refine Reg.step2_call 9 #[.agg #[.int .u64 g, .int .i64 a, .int .u64 rg, .int .u32 x3, .int .i64 h, .int .u64 x5, .int .u32 x6]] ?_ ((of_any _ _ _ _ _ _ _ wq).mono ?_)
        · clear hI
          simp [execOp]
          go_simp
        · rintro e w' ⟨rfl, hb⟩
          exact ⟨_, rfl, rfl, below_on hI hb, trivial⟩
      · -- 14: 68 := Op.binOp BinOp.neq 36 t65 t67 36
        intro aq wq lq hI hl hdone hlater hold hd ho
        have h65 : aq.tmps.getD 65 undef = .agg #[.int .u64 g, .int .i64 a, .int .u64 rg, .int .u32 x3, .int .i64 h, .int .u64 x5, .int .u32 x6] := hd 65 (by kernel_rfl)
        have h67 : aq.tmps.getD 67 undef = .agg #[.int .u64 g, .int .i64 a, .int .u64 rg, .int .u32 x3, .int .i64 h, .int .u64 x5, .int .u32 x6] := hd 67 (by kernel_rfl)
        clear hd ho hdone hlater hold
        rw [Array.getD_eq_getD_getElem?] at h65 h67
        refine Reg.step2_val (.bool false) ?_ rfl hI trivial
        simp [execOp, Act.eval, h65, h67]
        try go_simp
      · -- 15: 69 := Op.pick t64 (const (Value.bool true)) t68
        intro aq wq lq hI hl hdone hlater hold hd ho
        have h64 : aq.tmps.getD 64 undef = .bool false := hd 64 (by kernel_rfl)
        have h68 : aq.tmps.getD 68 undef = .bool false := hd 68 (by kernel_rfl)
        clear hd ho hdone hlater hold
        rw [Array.getD_eq_getD_getElem?] at h64 h68
        refine Reg.step2_val (.bool false) ?_ rfl hI trivial
        simp [execOp, Act.eval, h64, h68]
        try go_simp
      · -- 16: 70 := Op.move t69
        intro aq wq lq hI hl hdone hlater hold hd ho
        have h69 : aq.tmps.getD 69 undef = .bool false := hd 69 (by kernel_rfl)
        clear hd ho hdone hlater hold
        exact Reg.step2_move (.tmp 69) rfl h69 hI trivial
      · -- 17: 71 := Op.move t12
        intro aq wq lq hI hl hdone hlater hold hd ho
        have h12 : aq.tmps.getD 12 undef = .string s := ho 12 (by kernel_rfl)
        clear hd ho hdone hlater hold
        exact Reg.step2_move (.tmp 12) rfl h12 hI trivial
      · -- 18: 72 := Op.call ( builtin len, args := #(t71), argTypes := #(9) )
        intro aq wq lq hI hl hdone hlater hold hd ho
        have h71 : aq.tmps.getD 71 undef = .string s := hd 71 (by kernel_rfl)
        clear hd ho hdone hlater hold
        rw [Array.getD_eq_getD_getElem?] at h71
        refine Reg.step2_val (.int .i64 128) ?_ rfl hI trivial
        simp [execOp]
        go_simp
      · -- 19: 73 := Op.binOp BinOp.neq 3 t72 (const (128:i64)) 3
        intro aq wq lq hI hl hdone hlater hold hd ho
        have h72 : aq.tmps.getD 72 undef = .int .i64 128 := hd 72 (by kernel_rfl)
        clear hd ho hdone hlater hold
        rw [Array.getD_eq_getD_getElem?] at h72
        refine Reg.step2_val (.bool false) ?_ rfl hI trivial
        simp [execOp, Act.eval, h72]
        try go_simp
      · -- 20: 74 := Op.pick t70 (const (Value.bool true)) t73
        intro aq wq lq hI hl hdone hlater hold hd ho
        have h70 : aq.tmps.getD 70 undef = .bool false := hd 70 (by kernel_rfl)
        have h73 : aq.tmps.getD 73 undef = .bool false := hd 73 (by kernel_rfl)
        clear hd ho hdone hlater hold
        rw [Array.getD_eq_getD_getElem?] at h70 h73
        refine Reg.step2_val (.bool false) ?_ rfl hI trivial
        simp [execOp, Act.eval, h70, h73]
        try go_simp
      case hend =>
        intro wz hI
        simp only [Reg.fill, List.foldl_cons, List.foldl_nil, List.setIfInBounds_toArray, List.set_cons_zero, List.set_cons_succ]
        have hy6 := HY5.out.below hI HY5.out.lt
        have HB6 := Lib.hid (below_on HB5.out hI)
        have HT6 := Lib.hid (tab_on HT5.out hI)
        have ho6 := own_on HO5.out hI
        have hyl := hy6.lt
        obtain ⟨e0, e1, e2, e3, e4, e5, e6⟩ := has7 hy6
        obtain ⟨t, ht⟩ : ∃ t, t = s.extract 0 127 := ⟨_, rfl⟩
        have HT127 := Lib.hid ht
        have HO6 := Lib.hid ho6
        have HY6 := Lib.hid hy6
        clear hI ho6 hy6
        obtain ⟨i0, hi, hz0, hz1, hz2⟩ := info_parts info_strs
        go_wp2_with (at_builtin; refine wpList_append_own _ rfl _ _ 50 rfl w1.heap.size 9 i0 (.string ⟨#[]⟩) 1 16 Tryd.underlying50 hi hz0 hz1 hz2 rfl (by decide) _ _ _ rfl (HO6.out.alloc _) ⟨wz.heap.size, 0, none⟩ 2 2 [.string s, .string (s.extract 0 127)] rfl rfl ?_ ?_ ?_ ?_ ?_ ?_)
        · intro j u hj
          match j, hj with
          | 0, hj => simp at hj; subst hj; simp [Addr.add]
          | 1, hj => simp at hj; subst hj; simp [Addr.add]
        · intro u hu; simp at hu; rcases hu with rfl | rfl <;> rfl
        · unfold maxLen; omega
        · omega
        · have := HB6.out.size; simp; omega
        intro v' wn hown' hgrow _
        rw [← HT127.out] at hown'
        have HB7 := Lib.hid (show Below w1.heap.size w1 wn from (below_nw HB6.out _).grown hgrow (by have := HB6.out.size; simp; omega) (fun q hq => (HO6.out.lt q hq).1))
        have hq : ∀ q, u6.ownBlock = some q → q < pb := fun q hq => Nat.lt_trans (HOWN.out.lt q hq).2 hpge
        have hy7 : Has wn pb 25 [.int .u64 g, .int .i64 a, .int .u64 rg, .int .u32 x3, .int .i64 h, .int .u64 x5, .int .u32 x6] := (HY6.out.alloc _).same (hgrow.block pb (by simp; omega) (fun he => by have := hq pb he.symm; omega))
        have hyl7 := hy7.lt
        clear e0 e1 e2 e3 e4 e5 e6
        obtain ⟨e0, e1, e2, e3, e4, e5, e6⟩ := has7 hy7
        have HO7 := Lib.hid hown'
        clear hgrow hown' hy7
        go_wp2_with fail
        have hts : t.size = 127 := by rw [HT127.out]; simp; omega
        have hnw : nwF none ((T ++ [s, t]).map fun s => s.data.toList) = nwS O s.data.toList := by
          rw [List.map_append, nwF, List.foldl_append]
          show nwS (nwS (nwF none (T.map fun s => s.data.toList)) s.data.toList) t.data.toList = _
          rw [nwS_bad (short127 (by rw [← hts]; simp)), ← HO.out]
        go_roundw
        case rel =>
          refine ⟨k + 1, T ++ [s, t], by omega, by go_num, by rw [List.length_append, HTL.out]; simp; omega, ?_, by rw [hnw, HSD.out, HSG.out.1], by rw [hnw, HSD.out, HSG.out.2], HB7.out, ?_⟩
          · intro x hx
            rcases List.mem_append.1 hx with hx | hx
            · exact HTS.out x hx
            · simp only [List.mem_cons, List.mem_nil_iff, or_false] at hx
              rcases hx with rfl | rfl <;> omega
          · have := HO7.out
            rw [show 1 + 2 * k + 2 = 1 + 2 * (k + 1) by omega] at this
            simpa using this
        case measure => simp [intOf]; omega
    · obtain ⟨gb, cap, rfl, hcap, hgb⟩ := own_some hown (by omega)
      have d0 : wr.cell? ⟨gb, 0, none⟩ = some (.string raw) := by have := hown.cellAt 0 (by omega); simpa using this
      have HROW := Lib.hid (own_row hown)
      have HTR := Lib.hid (tab_on HT.out hbr)
      have HBR := Lib.hid (below_on HB1.out hbr)
      obtain ⟨y0, y1, y2, y3, y4, y5, y6, hv⟩ := souV_cells raw.data.toList
      obtain ⟨E, hE⟩ : ∃ E, E = souE raw.data.toList := ⟨_, rfl⟩
      have HV := Lib.hid (show souV raw.data.toList (souE raw.data.toList) = .tuple #[.agg #[.int .u64 y0, .int .i64 y1, .int .u64 y2, .int .u32 y3, .int .i64 y4, .int .u64 y5, .int .u32 y6], .int .i64 E] by rw [hv, hE])
      have HNW := Lib.hid (show E ≠ 0 → nwF none ((raw :: T).map fun s => s.data.toList) = O from fun h => by
        rw [List.map_cons, nwF, List.foldl_cons, nwS_bad (by rw [← hE]; exact h), hO]; rfl)
      have hk8 : k ≤ 8 := by omega
      have HSZ := Lib.hid (show ∀ s ∈ raw :: T, s.size ≤ 1000000 from fun s hs => by
        rcases List.mem_cons.1 hs with rfl | hs
        · omega
        · exact hTs s hs)
      clear hv hE hown hbr hTs hT hO hgb
      go_wp2_with fail
      refine (open_sup b raw _ HTR.out (by omega)).mono ?_
      rintro e w2 ⟨rfl, hb2⟩
      rw [HV.out]
      have HB2 := Lib.hid (below_nw (below_on HBR.out hb2) (.cells #[.int .u64 y0, .int .i64 y1, .int .u64 y2, .int .u32 y3, .int .i64 y4, .int .u64 y5, .int .u32 y6] 36))
      have HT2 := Lib.hid (tab_nw (tab_on HTR.out hb2) (.cells #[.int .u64 y0, .int .i64 y1, .int .u64 y2, .int .u32 y3, .int .i64 y4, .int .u64 y5, .int .u32 y6] 36))
      have HR2 := Lib.hid ((HROW.out.later hb2).new (.cells #[.int .u64 y0, .int .i64 y1, .int .u64 y2, .int .u32 y3, .int .i64 y4, .int .u64 y5, .int .u32 y6] 36))
      clear hb2 d0
      by_cases hE0 : E = 0
      · go_wp2_with fail
        refine (wakes_sup _).mono ?_
        rintro e w8 ⟨rfl, hb8⟩
        go_wp2_with fail
        go_ret
        exact ⟨rfl, below_on HB2.out hb8⟩
      · obtain ⟨u1, u2', u3', u4', u5', u6', hu⟩ := nwV_cells O
        have HU := Lib.hid (show nwV (nwF none ((raw :: T).map fun s => s.data.toList)) = .tuple #[.agg #[.int .u64 (nwG O), .int .i64 u1, .int .u64 u2', .int .u32 u3', .int .i64 u4', .int .u64 u5', .int .u32 u6'], .bool (nwA O)] by rw [HNW.out hE0, hu])
        clear hu
        go_wp2_with fail
        refine (newest_any b _ _ _ _ _ HT2.out HR2.out (by omega) HSZ.out).mono ?_
        rintro e w3 ⟨rfl, hb3⟩
        rw [HU.out]
        have hz := Has.new w3 [.int .u64 (nwG O), .int .i64 u1, .int .u64 u2', .int .u32 u3', .int .i64 u4', .int .u64 u5', .int .u32 u6'] 36
        have HB3 := Lib.hid (below_nw (below_on HB2.out hb3) (.cells #[.int .u64 (nwG O), .int .i64 u1, .int .u64 u2', .int .u32 u3', .int .i64 u4', .int .u64 u5', .int .u32 u6'] 36))
        have HT3 := Lib.hid (tab_nw (tab_on HT2.out hb3) (.cells #[.int .u64 (nwG O), .int .i64 u1, .int .u64 u2', .int .u32 u3', .int .i64 u4', .int .u64 u5', .int .u32 u6'] 36))
        clear hb3
        go_wp2_with fail
        refine (newest_any b none 0 0 [] _ HT3.out (Sum.StrRow.none _ _) (by decide) (fun s hs => by cases hs)).mono ?_
        rintro e w4 ⟨rfl, hb4⟩
        unfold nwF nwV
        have hz4 := hz.below hb4 (by simp)
        have HB4 := Lib.hid (below_on HB3.out hb4)
        clear hz hb4
        go_wp2_with fail
        refine (wakes_sup _).mono ?_
        rintro e w8 ⟨rfl, hb8⟩
        have hz8 := (hz4.alloc (.cells #[.int .u64 0, .int .i64 0, .int .u64 0, .int .u32 0, .int .i64 0, .int .u64 0, .int .u32 0] 36)).below hb8 (by have := hz4.lt; simp; omega)
        have z0 : w8.cell? ⟨w3.heap.size, 0, none⟩ = some (.int .u64 (nwG O)) := hz8.cell 0
        have hzl := hz8.lt
        have HB8 := Lib.hid (below_on (below_nw HB4.out _) hb8)
        clear hz4 hz8 hb8
        go_wp2_with fail
        go_ret
        exact ⟨rfl, HB8.out⟩

set_option maxRecDepth 100000 in
theorem contract (H : Type) (enc : TypeId × Value → H) (W : World) (base : Nat) (args : Array Value) (ds gs : List (DataW H)) (before : List MemPlace)
    (hval0 : ∀ (j : Nat) t v, Tryd.f5.params[j]? = some t → args[j]? = some v → Value.okWide Tryd.prog W .any base t v)
    (hW : DataW.Whole enc Tryd.prog Tryd.f5.params.toList Rows.superNewestSpec.vars false W args.toList ds gs before) :
    Calls Tryd.prog 5 args W fun e W' => ∃ v, e = .returned v ∧ Rows.superNewestSpec.post enc Tryd.prog Tryd.f5 false true false false W args v W' := by
  have hval : ∀ (j : Nat) t v, Tryd.f5.params[j]? = some t → args[j]? = some v → Value.okWide Tryd.prog W .any base t v := hval0
  have hW' := hW
  obtain ⟨p, q, hA0, hV, rfl, hfz, hnd⟩ := hW
  have hA : DataW.TrodAll enc Tryd.prog W 0 (fun _ => true) true Tryd.f5.params.toList args.toList ds p := hA0
  rw [Tryd.params5] at hA hval
  obtain ⟨v0, vs0, d0, ds0, p0, q0, hargs, rfl, rfl, h0, r0⟩ := trodAll_cons hA
  obtain ⟨v1, vs1, d1, ds1, p1, q1, rfl, rfl, rfl, h1, r1⟩ := trodAll_cons r0
  obtain ⟨rfl, rfl, rfl⟩ := trodAll_nil r1
  obtain rfl : args = #[v0, v1] := by cases args; simp_all
  obtain ⟨rfl, rfl⟩ := trodVars_none hV
  have k0 := h0
  have lt0 : ∀ x ∈ p0, x.block < W.heap.size := by obtain ⟨m, hm⟩ := k0; exact DataW.trod_lt m _ _ _ hm
  obtain ⟨a0', l0', c0', rfl⟩ := okWide_slice Tryd.underlying29 (hval 0 29 v0 rfl rfl)
  obtain ⟨a0, a0l, a0c, he0, w0, w0l, w0m⟩ := open_AR0 (c := .slice a0' l0' c0') (by obtain ⟨m, hm⟩ := h0; exact ⟨m, _, hm⟩)
  simp only [Value.slice.injEq] at he0
  obtain ⟨rfl, rfl, rfl⟩ := he0
  obtain ⟨a1, rfl, rfl, rfl, w1⟩ := open_string Tryd.underlying9 (hval 1 9 v1 rfl rfl) h1
  clear hA0 hval0
  refine (walk a0' l0' c0' a1 W w0 w0l w0m w1).mono fun e W' ⟨he, bel⟩ => ?_
  subst he
  exact ⟨_, rfl, _, _, _, [], _, [], hW', trodAll_mk1 (shut_bool Tryd.underlying4 _), (trodAll_cons_mk (Below.trod laidOut (by kernel_rfl) (of_decide_eq_true (by kernel_rfl)) k0 bel lt0) (trodAll_cons_mk (shut_string Tryd.underlying9 w1) trodAll_mk0)), rfl, bel.frame _, fun h => by cases h⟩

noncomputable def laidWorld (os : Os) : World :=
  { World.holding Tryd.prog os ⟨#[], #[], []⟩ with heap := (((((World.holding Tryd.prog os ⟨#[], #[], []⟩).heap).modify 2 fun | .cells _ t frozen => .cells (#[.int .u8 128, .int .u8 191, .int .u8 160, .int .u8 191, .int .u8 128, .int .u8 159, .int .u8 144, .int .u8 191, .int .u8 128, .int .u8 143, .int .u8 0, .int .u8 0, .int .u8 0, .int .u8 0, .int .u8 0, .int .u8 0, .int .u8 0, .int .u8 0, .int .u8 0, .int .u8 0, .int .u8 0, .int .u8 0, .int .u8 0, .int .u8 0, .int .u8 0, .int .u8 0, .int .u8 0, .int .u8 0, .int .u8 0, .int .u8 0, .int .u8 0, .int .u8 0]) t frozen | o => o)).modify 1 fun | .cells _ t frozen => .cells ((Go.Pinned.utf8FirstZ.map fun z : Nat => Value.int .u8 (z : Int)).toArray) t frozen | o => o) }
theorem laid_met (os : Os) : laidMet Tryd.prog Rows.superNewestRow.laid ((laidWorld os).forCall (fun _ _ => 0) ⟨#[], #[.slice none 0 0, .string ByteArray.empty], []⟩).memory :=
  laidMet_of_run' 8 (by kernel_rfl) (by kernel_rfl)
theorem reads (os : Os) {H : Type} (enc : TypeId × Value → H) : ∃ places, DataW.whole enc Tryd.prog ((laidWorld os).forCall (fun _ _ => 0) ⟨#[], #[.slice none 0 0, .string ByteArray.empty], []⟩).memory Tryd.f5.params.toList Rows.superNewestSpec.vars false (#[.slice none 0 0, .string ByteArray.empty] : Array Value).toList 8 = some ([.nil, .lit (.string [])], [], places) :=
  ⟨[], by kernel_rfl⟩

set_option maxRecDepth 100000 in
theorem lifted (os : Os) (started : os.Started) (H : Type) (enc : TypeId × Value → H) (F : Stop.Interp) :
    ReturnsInHanded {} Tryd.checked os 5 .any ((OpenSpec.ofChange Rows.superNewestSpec).preRow enc Tryd.prog Tryd.f5 Rows.superNewestRow.domain false Rows.superNewestRow.laid) (((OpenSpec.ofChange Rows.superNewestSpec).at F).post enc Tryd.prog Tryd.f5 false true false false) := by
  obtain ⟨places, hx⟩ := reads os enc
  refine returnsInHanded_of_row (C := Tryd.checked) (s := OpenSpec.ofChange Rows.superNewestSpec) own started (by kernel_rfl) Tryd.func5
    (witness_row_at (enc := enc) (C := Tryd.checked) false (laidWorld os) #[.slice none 0 0, .string ByteArray.empty] rfl (by kernel_rfl) (by kernel_rfl) (by kernel_rfl)
      (OpenSpec.preRow_of_cond 8 hx (by kernel_rfl) (fun k hk => by cases hk) (by kernel_rfl) (laid_met os))) ?_
  intro W base args ds gs before hval hW _ _ _ hL _ _
  exact contract H enc W base args ds gs before hval hW

theorem said : Rows.SuperNewestSaid :=
  OpenClaim.holds_of_cond 5 Tryd.f5 rfl rfl rfl rfl rfl rfl rfl ⟨rfl, rfl, rfl, rfl, rfl⟩ rfl rfl rfl rfl rfl (by kernel_rfl) Tryd.func5 (by kernel_rfl)
    (of_decide_eq_true (by kernel_rfl)) (by unfold Func.isWrapper; first | (rw [if_pos (by decide +kernel)]; kernel_rfl) | (rw [if_neg (by decide +kernel)]; exact ⟨rfl, rfl⟩))
    (fun os started H enc _ F => by rw [OpenClaim.pre_eq_preRow]; exact lifted os started H enc F)

theorem plain (f : FuncId) (fn : Func) (hf : Tryd.pinned.checked.prog.funcNamed "treenail/treenaillaw05.SuperNewest" = some f) (hfn : Tryd.pinned.checked.prog.funcs[f]? = some fn) :
    false = Tryd.pinned.checked.prog.looks [] ∧ ∀ (j : Nat) t, fn.params[j]? = some t → Tryd.pinned.checked.prog.wantsStandIn t = false := by
  obtain rfl : f = 5 := Option.some.inj ((show Tryd.prog.funcNamed "treenail/treenaillaw05.SuperNewest" = some 5 by kernel_rfl).symm.trans hf) |>.symm
  obtain rfl : fn = Tryd.f5 := (Option.some.inj (Tryd.func5.symm.trans hfn)).symm
  refine ⟨by kernel_rfl, fun j t ht => ?_⟩
  rw [Tryd.params5] at ht
  rcases j with _ | _ | j
  · obtain rfl : t = 29 := by simpa using ht.symm
    exact (show Tryd.prog.wantsStandIn 29 = false by kernel_rfl)
  · obtain rfl : t = 9 := by simpa using ht.symm
    exact (show Tryd.prog.wantsStandIn 9 = false by kernel_rfl)
  · simp at ht

/-- THE STATEMENT -/
theorem proved : Rows.SuperNewestCardSaid :=
  Claim7.holds_tied_plain_at .later [] _ _ _ _ said (fun _ h => by cases h) (by kernel_rfl) (fun _ h => by cases h) superNewest_row_tie rfl ⟨rfl, rfl⟩ (by kernel_rfl) rfl plain (by kernel_rfl)
#print axioms proved
end Go.Proofs.YtimdemdopnmijaaDoor.superNewest
