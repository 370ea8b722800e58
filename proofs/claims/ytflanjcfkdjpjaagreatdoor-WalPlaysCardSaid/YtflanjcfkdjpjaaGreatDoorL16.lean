/- Layers' contracts, bundled: WalQ, Arr, Structs, Texts, StructsN. -/
import Derived.Test.YtflanjcfkdjpjaaGreatDoorL15
import Derived.OpenShut
import Derived.ChangeOld
import Derived.Below
import Derived.Deep.Fields
import Derived.Test.YtflanjcfkdjpjaaGreatDoorL02
import Derived.Deep.Slices
import Derived.ChangeSame
/- Layer 13's laws: records, one copy of each of which is damaged. -/
namespace Go.Proofs.YtflanjcfkdjpjaaGreatDoor.Wal
open Go Go.RowKit Go.Proofs.YtflanjcfkdjpjaaGreatDoor Dev Tab Rem Go.Maps Go.WideMaps Mir Rec
set_option linter.unusedVariables false
/-- record j's copy of side sd j is hurt, for each j below i -/
def Hf (f : F2) (sd : Nat → Nat) (n : Int) (y : UInt8) : Nat → F2
  | 0 => f
  | i + 1 => fun s b => if s = sd i ∧ b = bk 3 5 (n + i) then turnB (Hf f sd n y i s b) 30 y else Hf f sd n y i s b
section
variable {f : F2} {sd : Nat → Nat} {n c : Int} {y : UInt8} {s : Nat} {b : Int} {r : List (List Up)} {S S' S2 : Nat → Sd}
theorem Hf_no : ∀ {i : Nat}, (∀ j, j < i → ¬ (s = sd j ∧ b = bk 3 5 (n + j))) → Hf f sd n y i s b = f s b
  | 0, _ => rfl
  | i + 1, h => by
    show (if s = sd i ∧ b = bk 3 5 (n + i) then _ else _) = _
    rw [if_neg (h i (Nat.lt_succ_self i))]
    exact Hf_no fun j hj => h j (by omega)
theorem Hf_yes : ∀ {i j : Nat}, i ≤ 5 → j < i → Hf f sd n y i (sd j) (bk 3 5 (n + j)) = turnB (f (sd j) (bk 3 5 (n + j))) 30 y
  | 0, j, _, h => by cases h
  | i + 1, j, hi, h => by
    show (if sd j = sd i ∧ bk 3 5 (n + j) = bk 3 5 (n + i) then _ else _) = _
    by_cases e : j = i
    · subst e
      rw [if_pos ⟨rfl, rfl⟩, Hf_no fun k hk h2 => bk_ne (by decide) (by omega) (by omega) (by omega) h2.2]
    · rw [if_neg fun h2 => bk_ne (by decide) (by omega) (by omega) e h2.2]
      exact Hf_yes (by omega) (by omega)
theorem turned_no {m x : Int} {l : List Up} (hk : OkR 192 l) (hn : OkN 192 b m x) (hy : y ≠ 0) : Env.opE (turnB (imR 192 b m x l) 30 y).data.toList ≠ 0 := by
  have hl : (imR 192 b m x l).data.toList.length = 192 := by have := imR_size hk hn; simp; omega
  have hf := hk.fit hn
  have hlen : (pyT m x l).length ≤ (192 - 24 : Int).toNat := by have := hk.py (n := m) (c := x); omega
  obtain ⟨_, o2, o3⟩ := Env.img_open hf hn.hd hlen (by decide) (by decide)
  show Env.opE ((imR 192 b m x l).data.toList.set 30 _) ≠ 0
  refine Env.one_byte _ 30 y.toNat _ (by rw [imR_eq hk hn, Lend.strOf_data]; exact o2) (by omega) y.toNat_lt ?_ (by rw [UInt8.toNat_xor])
  intro e; exact hy (UInt8.toNat_inj.1 (by rw [e]; rfl))
theorem turned_ne {m x : Int} {l : List Up} (hk : OkR 192 l) (hn : OkN 192 b m x) (hy : y ≠ 0) : turnB (imR 192 b m x l) 30 y ≠ imR 192 b m x l := fun e => by
  have h1 := turned_no hk hn hy
  rw [e] at h1
  have hf := hk.fit hn
  have hlen : (pyT m x l).length ≤ (192 - 24 : Int).toNat := by have := hk.py (n := m) (c := x); omega
  obtain ⟨_, o2, o3⟩ := Env.img_open hf hn.hd hlen (by decide) (by decide)
  rw [imR_eq hk hn, Lend.strOf_data] at h1
  exact h1 o2
theorem There.cong {Z F C : Int} {g : F2} (hC : 0 < C) (h : There Z F C f n c r) (e : Eq2 F C g f) : There Z F C g n c r := fun j hj => by
  obtain ⟨h1, h2, h3⟩ := h j hj
  have := bk_bd (F := F) (n := n + j) hC
  rw [e 0 (by omega) _ this.1 this.2, e 1 (by omega) _ this.1 this.2]
  exact ⟨h1, h2, h3⟩
theorem Both.hurt (h : Both 192 3 5 f n c r) (hl : r.length ≤ 5) (hsd : ∀ j, sd j < 2) (hy : y ≠ 0) : There 192 3 5 (Hf f sd n y r.length) n c r := fun j hj => by
  obtain ⟨h1, h2, h3⟩ := h j hj
  refine ⟨h1, h2, ?_⟩
  have e1 := Hf_yes (f := f) (sd := sd) (n := n) (y := y) hl hj
  have e2 : ∀ s, s ≠ sd j → Hf f sd n y r.length s (bk 3 5 (n + j)) = f s (bk 3 5 (n + j)) := fun s hs => Hf_no fun k hk h4 => by
    by_cases e : k = j
    · subst e; exact hs h4.1
    · exact bk_ne (by decide) (by omega) (by omega) (fun e2 => e e2.symm) h4.2
  rcases (show sd j = 0 ∨ sd j = 1 by have := hsd j; omega) with e | e
  · refine .inr ⟨?_, ?_⟩
    · rw [e] at e1
      rw [e1, h3 0 (by omega)]
      unfold rcO
      rw [if_neg fun h => turned_no h1 h2 hy h.1]
    · rw [e2 1 (by omega), h3 1 (by omega)]
  · exact .inl (by rw [e2 0 (by omega), h3 0 (by omega)])
theorem Both.rps (h : Both 192 3 5 f n c r) (hl : r.length ≤ 5) (hsd : ∀ j, sd j < 2) (hy : y ≠ 0) {g : F2} (hg : Eq2 3 5 g (Hf f sd n y r.length)) {j : Nat} (hj : j < r.length) : rp1 192 3 5 g n c r 0 j + rp1 192 3 5 g n c r 1 j = 1 := by
  obtain ⟨h1, h2, h3⟩ := h j hj
  have hb := bk_bd (F := 3) (n := n + j) (show (0 : Int) < 5 by decide)
  have e1 := Hf_yes (f := f) (sd := sd) (n := n) (y := y) hl hj
  have e2 : ∀ s, s ≠ sd j → Hf f sd n y r.length s (bk 3 5 (n + j)) = f s (bk 3 5 (n + j)) := fun s hs => Hf_no fun k hk h4 => by
    by_cases e : k = j
    · subst e; exact hs h4.1
    · exact bk_ne (by decide) (by omega) (by omega) (fun e2 => e e2.symm) h4.2
  unfold rp1
  rw [List.getElem?_eq_getElem hj, Option.getD_some, hg 0 (by omega) _ hb.1 hb.2, hg 1 (by omega) _ hb.1 hb.2]
  rcases (show sd j = 0 ∨ sd j = 1 by have := hsd j; omega) with e | e
  · rw [e] at e1
    rw [e1, e2 1 (by omega), h3 0 (by omega), h3 1 (by omega), if_neg (turned_ne h1 h2 hy), if_pos rfl]
  · rw [e] at e1
    rw [e1, e2 0 (by omega), h3 0 (by omega), h3 1 (by omega), if_neg (turned_ne h1 h2 hy), if_pos rfl]
/-- what Open tells of a ring one of whose copies each is damaged -/
theorem Ct.hurt {known : List (List Up)} {g : F2} {R : Nat} (h : Ct S n c known) (hf : ∀ s, s < 2 → ∀ b : Nat, b < 16 → fS S2 s b = Hf (fS S) sd n y known.length s b) (hl : known.length ≤ 5) (hsd : ∀ j, sd j < 2) (hy : y ≠ 0)
    (hp : Pl S') (ht : Tells 3 5 (fS S2) n c r g R) (hd : Done 3 5 g n c r) (hr : (r.length : Int) ≤ 5) (he : ∀ s, s < 2 → ∀ b : Nat, b < 16 → fS S' s b = g s b) :
    r = known ∧ Ct S' n c known ∧ R = known.length := by
  have hq := eq2_of hf
  obtain ⟨h1, h2, h3, h4, _⟩ := Tells.whole (by decide) (by omega) ((h.both.hurt hl hsd hy).cong (by decide) hq) (fun b h1 h2 hb s hs h3 => by
    rw [hq s hs b h1 h2, Hf_no (fun j hj h4 => hb j hj h4.2)] at h3 ⊢
    exact h.old s hs b h1 h2 h3) ht hd hr
  refine ⟨h1, ⟨hp, h2.cong (by decide) (eq2_of he), h3.cong (eq2_of he), h.ne⟩, ?_⟩
  rw [h4, sum_of (d := 1) fun j hj => h.both.rps hl hsd hy hq hj]
  simp
/-- one copy more is hurt -/
theorem fS_setV {t : ByteArray} {s b s' b' : Nat} : fS (setV S s (4 + b) t) s' (b' : Int) = if s' = s ∧ b' = b then t else fS S s' (b' : Int) := by
  unfold fS
  rw [Int.toNat_natCast]
  by_cases e : s' = s
  · subst e
    unfold setV
    rw [setS_same]
    by_cases eb : b' = b
    · subst eb
      rw [if_pos ⟨rfl, rfl⟩]
      show upd _ _ _ _ = _
      rw [upd_same]
    · rw [if_neg fun h => eb h.2]
      show upd _ _ _ _ = _
      rw [upd_ne _ _ (by omega)]
  · rw [if_neg fun h => e h.1]
    unfold setV
    rw [setS_ne _ _ _ e]
variable {w0 w w' : World} {X Y Z : List Nat} {q cc mm tb bb R lb tl : Nat} {pd : Nat → Nat}
theorem Garble_h {i B : Nat} {f : F2} (h : MG w0 Y mm tb bb q pd S noG cc R w) (hp : Pl S) (hf : ∀ s, s < 2 → ∀ b : Nat, b < 16 → fS S s b = Hf f sd n y i s b) (hsd : sd i < 2) (hB : bk 3 5 (n + i) = B) (hB16 : B < 16) (hc : cc ≤ 1000000) (p : Nat) (hp' : p = pd (sd i)) (v : Int) (hv : v = ((4 + B : Nat) : Int)) :
    Calls Tryz.prog 23 #[.pointer (some ⟨p, 0, none⟩), .int .i64 v, .int .i64 30, .int .u8 y.toNat] w fun e w' => e = .returned (.tuple #[]) ∧ ∃ S', MG w0 Y mm tb bb q pd S' noG cc R w' ∧ Pl S' ∧ (∀ s, s < 2 → ∀ b : Nat, b < 16 → fS S' s b = Hf f sd n y (i + 1) s b) ∧ Same Y w w' := by
  refine (garble_m h hsd rfl (i := 4 + B) (by omega) (by omega) hc 30 y p hp' v hv 30 rfl).mono ?_
  rintro e w' ⟨rfl, hm, hs⟩
  refine ⟨rfl, _, hm, hp.setV _ _ _, fun s hs' b hb => ?_, hs⟩
  rw [fS_setV]
  show _ = if s = sd i ∧ (b : Int) = bk 3 5 (n + i) then _ else _
  rw [hB]
  by_cases e : s = sd i ∧ b = B
  · obtain ⟨rfl, rfl⟩ := e
    rw [if_pos ⟨rfl, rfl⟩, if_pos ⟨rfl, rfl⟩, ← hf _ hsd b hB16]
    unfold fS
    rw [Int.toNat_natCast]
  · rw [if_neg e, if_neg (fun h => e ⟨h.1, by omega⟩)]
    exact hf s hs' b hb
/-- what Open tells then -/
theorem Open_h {f : F2} {known : List (List Up)} (h : MG w0 Y mm tb bb q pd S2 noG cc R w) (hp2 : Pl S2) (hct : Ct S n c known) (hf : ∀ s, s < 2 → ∀ b : Nat, b < 16 → fS S2 s b = Hf (fS S) sd n y known.length s b) (hl : known.length ≤ 5) (hsd : ∀ j, sd j < 2) (hy : y ≠ 0)
    (hn0 : 0 ≤ n) (hn1 : n ≤ 4611686018427487903) (hc0 : 0 ≤ c) (hc1 : c < 4294967296) (hcc : cc ≤ 500000) (hR : R ≤ 500000) :
    Calls Tryz.prog 8 #[.pointer (some ⟨mm, 0, none⟩), .agg #[.int .i64 3, .int .i64 5], .int .u64 n, .int .u32 c] w fun e w' => ∃ lb tl Z S' v, e = .returned (.tuple #[.pointer (some ⟨lb, 0, none⟩), v, .int .i64 0]) ∧ LW w0 (Z ++ Y) lb tl mm tb bb q pd S' (cc + 40) (R + known.length) n c known w' ∧ RZ w' 0 Z v n c known ∧ Same Y w w' := by
  have hb : RgB 3 5 := ⟨by decide, by decide, by decide, by decide⟩
  refine (Open_yes h hb (rgB_rg hb hn0 hn1 hc0 hc1) hp2 hcc hR).mono ?_
  rintro e w' ⟨lb, tl, Z, r', g, Rr, S', v, rfl, hlg, hpl, ht, hd, hlen, he, hrz, _, hs⟩
  obtain ⟨rfl, hct', rfl⟩ := hct.hurt hf hl hsd hy hpl ht hd hlen he
  exact ⟨lb, tl, Z, S', v, rfl, ⟨hlg.mono (by omega), hct'⟩, hrz, hs⟩
end
/-! ### the law's records -/
def upK (i : Nat) : Up := ⟨1, [107], [UInt8.ofNat (97 + i)], 0⟩
theorem upK_ok (i : Nat) : OkR 192 [upK i] := ⟨by intro u hu; simp at hu; subst hu; rfl, by intro u hu; simp at hu; subst hu; exact ⟨by show (0 : Int) ≤ 1; decide, by show (1 : Int) ≤ 255; decide, by show (0 : Int) ≤ 0; decide, by show (0 : Int) < 18446744073709551616; decide⟩, by show 1 ≤ 1000; decide, by
  have : (Rec.txL [upK i]).length = 5 := rfl
  rw [this]; decide⟩
def recK (i : Nat) : List (List Up) := (List.range i).map fun j => [upK j]
theorem recK_len (i : Nat) : (recK i).length = i := by simp [recK]
theorem recK_snoc (i : Nat) : recK (i + 1) = recK i ++ [[upK i]] := by unfold recK; rw [List.range_succ, List.map_append]; rfl
theorem recK_at {i j : Nat} (h : j < (recK i).length) : (recK i)[j] = [upK j] := by simp [recK]
theorem run_rune {i : Nat} (hi : i < 5) (W : World) : (convert 21 9 (.int .i32 (97 + (i : Int)))).run Tryz.prog W = .ok (.string (Lend.strOf [UInt8.ofNat (97 + i)])) W := by
  rcases (show i = 0 ∨ i = 1 ∨ i = 2 ∨ i = 3 ∨ i = 4 by omega) with rfl | rfl | rfl | rfl | rfl <;> kernel_rfl
end Go.Proofs.YtflanjcfkdjpjaaGreatDoor.Wal


/- An array that came in, opened into its elements. -/
namespace Go.Proofs.YtflanjcfkdjpjaaGreatDoor
open Go.ChangeShapes Go.WideShapes Go.RowKit Go.Deep
theorem open_arr {H : Type} {enc : TypeId × Value → H} {P : Program} {w W : World} {r : Reach} {base b0 : Nat} {sp : Nat → Bool} {held : Bool} {t e : TypeId} {n : Nat} {v : Value} {d : DataW H} {ps : List MemPlace}
    (ht : P.underlying t = some (.array n e)) (hct : P.cellsOf t = n) (hce : P.cellsOf e = 1) (hval : Value.okWide P W r b0 t v) (hd : DataW.Trod enc P w base sp held t v d ps) :
    ∃ cs : List Value, v = .agg cs.toArray ∧ cs.length = n ∧ ∀ (i : Nat) (c : Value), cs[i]? = some c → ∃ m y, DataW.trod enc P w base sp held m e [c] = some y := by
  unfold Value.okWide at hval
  rw [ht] at hval
  obtain ⟨cs, rfl, hsz, _⟩ := hval
  obtain ⟨fuel, hf⟩ := hd
  obtain ⟨xs, m, _, _, hl, hx, hi⟩ := DataW.trod_array ht hf
  have hn : cs.toList.length = n := by rw [Array.length_toList, hsz, hct]
  refine ⟨cs.toList, by simp, hn, fun i c hc => ?_⟩
  have hin : i < n := by rw [← hn]; exact (List.getElem?_eq_some_iff.1 hc).1
  have := hi i hin
  rw [hce, Nat.mul_one] at this
  have hc' : (Value.agg cs).cells.toList = cs.toList := by simp [Value.cells]
  rw [hc'] at this
  have e1 : (cs.toList.drop i).take 1 = [c] := by
    obtain ⟨h1, h2⟩ := List.getElem?_eq_some_iff.1 hc
    rw [List.drop_eq_getElem_cons h1, h2]; rfl
  rw [e1] at this
  have hxl : i < xs.length := by omega
  exact ⟨m, xs[i], by rw [this, List.getElem?_eq_getElem hxl]⟩
theorem open_str_cell {H : Type} {enc : TypeId × Value → H} {P : Program} {w : World} {base : Nat} {sp : Nat → Bool} {held : Bool} {e : TypeId} {c : Value} (he : P.underlying e = some .string) (h : ∃ m y, DataW.trod enc P w base sp held m e [c] = some y) : ∃ s : ByteArray, c = .string s ∧ s.size ≤ maxLen := by
  obtain ⟨m, y, h⟩ := h
  obtain ⟨s, hs, _, hw⟩ := DataW.trod_string he h
  exact ⟨s, by simpa using hs, hw⟩
theorem open_int_cell {H : Type} {enc : TypeId × Value → H} {P : Program} {w : World} {base : Nat} {sp : Nat → Bool} {held : Bool} {e : TypeId} {c : Value} {k : IntKind} (he : P.underlying e = some (.int k)) (h : ∃ m y, DataW.trod enc P w base sp held m e [c] = some y) : ∃ n : Int, c = .int k n ∧ (Lit.int k n).wf = true := by
  obtain ⟨m, y, h⟩ := h
  obtain ⟨n, hn, _, hw⟩ := DataW.trod_int he h
  exact ⟨n, by simpa using hn, hw⟩
/-- a struct of one-cell fields that came in by value -/
theorem open_struct_cells {H : Type} {enc : TypeId × Value → H} {P : Program} {w W : World} {r : Reach} {base b0 : Nat} {sp : Nat → Bool} {held : Bool} {t : TypeId} {fs : Array Field} {v : Value} {d : DataW H} {ps : List MemPlace}
    (hs : P.underlying t = some (.struct fs)) (hone : oneCellFields P fs = true) (hC : P.cellsOf t = fs.size) (hval : Value.okWide P W r b0 t v) (hd : DataW.Trod enc P w base sp held t v d ps) :
    ∃ cs : List Value, v = .agg cs.toArray ∧ cs.length = fs.size ∧ ∀ (j : Nat) (f : Field) (c : Value), fs[j]? = some f → cs[j]? = some c → ∃ m y, DataW.trod enc P w base sp held m f.type [c] = some y := by
  obtain ⟨cs, rfl, hsz⟩ := okWide_struct hs hval
  obtain ⟨fuel, hf⟩ := hd
  obtain ⟨xs, n, _, hx, _, hlen, hg⟩ := DataW.trod_struct hs hf
  have hn : cs.toList.length = fs.size := by rw [Array.length_toList, hsz, hC]
  refine ⟨cs.toList, by simp, hn, fun j f c hj hc => ?_⟩
  obtain ⟨ho, hk⟩ := hone_of hone j f hj
  have h1 := hg j f hj
  rw [ho, hk] at h1
  have hc' : (Value.agg cs).cells.toList = cs.toList := by simp [Value.cells]
  rw [hc'] at h1
  have e1 : (cs.toList.drop j).take 1 = [c] := by
    obtain ⟨h2, h3⟩ := List.getElem?_eq_some_iff.1 hc
    rw [List.drop_eq_getElem_cons h2, h3]; rfl
  rw [e1] at h1
  have hjl : j < fs.size := (Array.getElem?_eq_some_iff.1 hj).1
  exact ⟨n, _, h1.trans (List.getElem?_eq_getElem (show j < xs.length by omega))⟩
/-- a slice of numbers in a cell -/
theorem open_ints_cell {H : Type} {enc : TypeId × Value → H} {P : Program} {w : World} {held : Bool} {t e : TypeId} {k : IntKind} {c : Value} (ht : P.underlying t = some (.slice e)) (he : P.underlying e = some (.int k)) (hc1 : P.cellsOf e = 1)
    (h : ∃ m y, DataW.trod enc P w 0 (fun _ => true) held m t [c] = some y) : ∃ a len cap zs, c = .slice a len cap ∧ Row k w a len zs ∧ len ≤ cap ∧ cap ≤ maxLen ∧ ∀ n ∈ zs, (Lit.int k n).wf = true := by
  obtain ⟨m, y, h⟩ := h
  rcases open_ints ht he hc1 h with ⟨hcs, _⟩ | ⟨x, l, cap, zs, hcs, _, hl, hm, hz, _, hcell, hwz⟩
  · simp at hcs
    exact ⟨none, 0, 0, [], hcs, ⟨rfl, fun h => absurd h (by decide)⟩, Nat.le_refl _, by unfold maxLen; omega, by simp⟩
  · simp at hcs
    refine ⟨some x, l, cap, zs.take l, hcs, ⟨by simp at hz; simp; omega, fun hpos => ?_⟩, hl, hm, fun n hn => hwz n (List.mem_of_mem_take hn)⟩
    obtain ⟨b, off, spot⟩ := x
    have hzl : zs.length = cap := by simpa using hz
    have h0 := hcell 0 (by omega)
    have hs : spot = none := by simpa [Addr.add] using World.cell?_spot h0
    subst hs
    refine ⟨b, off, rfl, fun i hi => ?_⟩
    have := hcell i (by omega)
    rw [Addr.add_lit] at this
    rw [this]
    simp [List.getD, hi]
end Go.Proofs.YtflanjcfkdjpjaaGreatDoor


/- A slice of structs that came in, opened into its elements' cells. -/
namespace Go.Proofs.YtflanjcfkdjpjaaGreatDoor
open Go.ChangeShapes Go.WideShapes Go.RowKit Go.Deep
theorem open_structs {H : Type} {enc : TypeId × Value → H} {P : Program} {w : World} {held : Bool} {t e : TypeId} {fs : Array Field} {c : Value}
    (ht : P.underlying t = some (.slice e)) (he : P.underlying e = some (.struct fs)) (hone : oneCellFields P fs = true) (hC : P.cellsOf e = fs.size) (hpos : 0 < fs.size)
    (h : ∃ m y, DataW.trod enc P w 0 (fun _ => true) held m t [c] = some y) :
    ∃ a len cap, c = .slice a len cap ∧ len ≤ cap ∧ cap ≤ maxLen ∧ (0 < len → ∃ b off, a = some ⟨b, off, none⟩ ∧ ∀ i, i < len → ∀ (j : Nat) (f : Field), fs[j]? = some f →
      ∃ v, w.cell? ⟨b, off + (i * fs.size + j), none⟩ = some v ∧ ∃ m y, DataW.trod enc P w 0 (fun _ => true) held m f.type [v] = some y) := by
  obtain ⟨m, y, h⟩ := h
  rcases open_slice ht h with ⟨hcs, _⟩ | ⟨a, len, cap, m', n, D, Pl, hcs, _, hl, hm, hmm, _, hel⟩
  · simp at hcs
    exact ⟨none, 0, 0, hcs, Nat.le_refl _, by unfold maxLen; omega, fun h => absurd h (by decide)⟩
  · simp at hcs
    refine ⟨some a, len, cap, hcs, hl, hm, fun hlen => ?_⟩
    have hm' : m' = cap := by simpa using hmm
    have key : ∀ i, i < len → ∀ (j : Nat) (f : Field), fs[j]? = some f → ∃ v, w.cell? (a.add (i * fs.size + j)) = some v ∧ ∃ m y, DataW.trod enc P w 0 (fun _ => true) held m f.type [v] = some y := by
      intro i hi j f hj
      obtain ⟨cs, hcells, htr⟩ := hel i (by omega)
      rw [hC] at hcells
      obtain ⟨ys, k, _, _, _, hys, hg⟩ := DataW.trod_struct he htr
      obtain ⟨_, hcl, hat⟩ := World.cells?_some hcells
      obtain ⟨ho, hk⟩ := hone_of hone j f hj
      have hjl : j < fs.size := (Array.getElem?_eq_some_iff.1 hj).1
      have h1 := hg j f hj
      rw [ho, hk] at h1
      have hv : cs[j]? = some (cs[j]'(by omega)) := List.getElem?_eq_getElem (by omega)
      rw [show (cs.drop j).take 1 = [cs[j]'(by omega)] by rw [List.drop_eq_getElem_cons (by omega)]; rfl] at h1
      refine ⟨cs[j]'(by omega), ?_, k, _, h1.trans (List.getElem?_eq_getElem (show j < ys.length by omega))⟩
      have := hat j (by omega)
      rw [Go.Deep.add_add] at this
      rw [this, hv]
    obtain ⟨b, off, spot⟩ := a
    obtain ⟨v0, hv0, _⟩ := key 0 hlen 0 _ (Array.getElem?_eq_getElem hpos)
    have hs : spot = none := by simpa [Addr.add] using World.cell?_spot hv0
    subst hs
    refine ⟨b, off, rfl, fun i hi j f hj => ?_⟩
    obtain ⟨v, hv, hx⟩ := key i hi j f hj
    rw [Addr.add_lit] at hv
    exact ⟨v, hv, hx⟩
theorem open_bool_cell {H : Type} {enc : TypeId × Value → H} {P : Program} {w : World} {base : Nat} {sp : Nat → Bool} {held : Bool} {e : TypeId} {c : Value} (he : P.underlying e = some .bool) (h : ∃ m y, DataW.trod enc P w base sp held m e [c] = some y) : ∃ b : Bool, c = .bool b := by
  obtain ⟨m, y, h⟩ := h
  obtain ⟨b, hb, _⟩ := DataW.trod_bool he h
  exact ⟨b, by simpa using hb⟩
end Go.Proofs.YtflanjcfkdjpjaaGreatDoor


/- A slice of texts that came in, opened into its cells. -/
namespace Go.Proofs.YtflanjcfkdjpjaaGreatDoor
open Go.ChangeShapes Go.WideShapes Go.RowKit Go.Deep
/-- a slice's texts -/
def TextsAt (w : World) (a : Option Addr) (len : Nat) : Prop := 0 < len → ∃ b off, a = some ⟨b, off, none⟩ ∧ ∀ i, i < len → ∃ s : ByteArray, w.cell? ⟨b, off + i, none⟩ = some (.string s) ∧ s.size ≤ maxLen
theorem open_texts {H : Type} {enc : TypeId × Value → H} {P : Program} {w : World} {held : Bool} {t e : TypeId} {c : Value}
    (ht : P.underlying t = some (.slice e)) (he : P.underlying e = some .string) (hC : P.cellsOf e = 1)
    (h : ∃ m y, DataW.trod enc P w 0 (fun _ => true) held m t [c] = some y) :
    ∃ a len cap, c = .slice a len cap ∧ TextsAt w a len ∧ len ≤ cap ∧ cap ≤ maxLen := by
  obtain ⟨m, y, h⟩ := h
  rcases open_slice ht h with ⟨hcs, _⟩ | ⟨a, len, cap, m', n, D, Pl, hcs, _, hl, hm, hmm, _, hel⟩
  · simp at hcs
    exact ⟨none, 0, 0, hcs, fun h => absurd h (by decide), Nat.le_refl _, by unfold maxLen; omega⟩
  · simp at hcs
    refine ⟨some a, len, cap, hcs, fun hlen => ?_, hl, hm⟩
    have hm' : m' = cap := by simpa using hmm
    have key : ∀ i, i < len → ∃ s : ByteArray, w.cell? (a.add i) = some (.string s) ∧ s.size ≤ maxLen := by
      intro i hi
      obtain ⟨cs, hcells, htr⟩ := hel i (by omega)
      rw [hC, Nat.mul_one] at hcells
      obtain ⟨s, hs, _, hw⟩ := DataW.trod_string he htr
      obtain ⟨_, hcl, hat⟩ := World.cells?_some hcells
      have := hat 0 (by omega)
      rw [Go.Deep.add_add, Nat.add_zero] at this
      exact ⟨s, by rw [this, hs]; rfl, hw⟩
    obtain ⟨b, off, spot⟩ := a
    obtain ⟨v0, hv0, _⟩ := key 0 hlen
    have hs : spot = none := by simpa [Addr.add] using World.cell?_spot hv0
    subst hs
    refine ⟨b, off, rfl, fun i hi => ?_⟩
    obtain ⟨v, hv, hx⟩ := key i hi
    rw [Addr.add_lit] at hv
    exact ⟨v, hv, hx⟩
end Go.Proofs.YtflanjcfkdjpjaaGreatDoor


/- A slice of structs that came in, some of whose fields have several cells: the cells of those that have one. -/
namespace Go.Proofs.YtflanjcfkdjpjaaGreatDoor
open Go.ChangeShapes Go.WideShapes Go.RowKit Go.Deep
theorem open_structs_n {H : Type} {enc : TypeId × Value → H} {P : Program} {w : World} {held : Bool} {t e : TypeId} {fs : Array Field} {c : Value} (C : Nat) (f0 : Field)
    (ht : P.underlying t = some (.slice e)) (he : P.underlying e = some (.struct fs)) (hC : P.cellsOf e = C) (h0 : fs[0]? = some f0) (h01 : P.cellsOf f0.type = 1) (h00 : f0.offset = 0) (hpos : 0 < C)
    (h : ∃ m y, DataW.trod enc P w 0 (fun _ => true) held m t [c] = some y) :
    ∃ a len cap, c = .slice a len cap ∧ len ≤ cap ∧ cap ≤ maxLen ∧ (0 < len → ∃ b off, a = some ⟨b, off, none⟩ ∧ ∀ i, i < len → ∀ (j : Nat) (f : Field), fs[j]? = some f → P.cellsOf f.type = 1 → f.offset < C →
      ∃ v, w.cell? ⟨b, off + (i * C + f.offset), none⟩ = some v ∧ ∃ m y, DataW.trod enc P w 0 (fun _ => true) held m f.type [v] = some y) ∧ (0 < len → ∃ b off, a = some ⟨b, off, none⟩ ∧ ∀ i, i < len → ∀ (j : Nat) (f : Field) (n : Nat) (e2 : TypeId), fs[j]? = some f → P.underlying f.type = some (.array n e2) → P.cellsOf e2 = 1 → P.cellsOf f.type = n → f.offset + n ≤ C →
      ∀ q, q < n → ∃ v, w.cell? ⟨b, off + (i * C + (f.offset + q)), none⟩ = some v ∧ ∃ m y, DataW.trod enc P w 0 (fun _ => true) held m e2 [v] = some y) := by
  obtain ⟨m, y, h⟩ := h
  rcases open_slice ht h with ⟨hcs, _⟩ | ⟨a, len, cap, m', n, D, Pl, hcs, _, hl, hm, hmm, _, hel⟩
  · simp at hcs
    exact ⟨none, 0, 0, hcs, Nat.le_refl _, by unfold maxLen; omega, fun h => absurd h (by decide), fun h => absurd h (by decide)⟩
  · simp at hcs
    have hm' : m' = cap := by simpa using hmm
    have key : ∀ i, i < len → ∀ (j : Nat) (f : Field), fs[j]? = some f → P.cellsOf f.type = 1 → f.offset < C → ∃ v, w.cell? (a.add (i * C + f.offset)) = some v ∧ ∃ m y, DataW.trod enc P w 0 (fun _ => true) held m f.type [v] = some y := by
      intro i hi j f hj hk ho
      obtain ⟨cs, hcells, htr⟩ := hel i (by omega)
      rw [hC] at hcells
      obtain ⟨ys, k, _, _, _, hys, hg⟩ := DataW.trod_struct he htr
      obtain ⟨_, hcl, hat⟩ := World.cells?_some hcells
      have hjl : j < fs.size := (Array.getElem?_eq_some_iff.1 hj).1
      have h1 := hg j f hj
      rw [hk] at h1
      have hv : cs[f.offset]? = some (cs[f.offset]'(by omega)) := List.getElem?_eq_getElem (by omega)
      rw [show (cs.drop f.offset).take 1 = [cs[f.offset]'(by omega)] by rw [List.drop_eq_getElem_cons (by omega)]; rfl] at h1
      refine ⟨cs[f.offset]'(by omega), ?_, k, _, h1.trans (List.getElem?_eq_getElem (show j < ys.length by omega))⟩
      have := hat f.offset (by omega)
      rw [Go.Deep.add_add] at this
      rw [this, hv]
    have keyA : ∀ i, i < len → ∀ (j : Nat) (f : Field) (n : Nat) (e2 : TypeId), fs[j]? = some f → P.underlying f.type = some (.array n e2) → P.cellsOf e2 = 1 → P.cellsOf f.type = n → f.offset + n ≤ C → ∀ q, q < n → ∃ v, w.cell? (a.add (i * C + (f.offset + q))) = some v ∧ ∃ m y, DataW.trod enc P w 0 (fun _ => true) held m e2 [v] = some y := by
      intro i hi j f n e2 hj hu h1 hk ho q hq
      obtain ⟨cs, hcells, htr⟩ := hel i (by omega)
      rw [hC] at hcells
      obtain ⟨ys, k, _, _, _, hys, hg⟩ := DataW.trod_struct he htr
      obtain ⟨_, hcl, hat⟩ := World.cells?_some hcells
      have hjl : j < fs.size := (Array.getElem?_eq_some_iff.1 hj).1
      have h2 := hg j f hj
      rw [hk, List.getElem?_eq_getElem (show j < ys.length by omega)] at h2
      obtain ⟨zs, m2, _, _, _, hz, hzi⟩ := DataW.trod_array hu h2
      have h3 := hzi q hq
      rw [h1, Nat.mul_one] at h3
      have hlt : f.offset + q < cs.length := by omega
      have e1 : (((cs.drop f.offset).take n).drop q).take 1 = [cs[f.offset + q]] := by
        rw [List.drop_take, List.drop_drop, List.take_take, Nat.min_eq_left (by omega), List.drop_eq_getElem_cons hlt]; rfl
      rw [e1] at h3
      refine ⟨cs[f.offset + q], ?_, m2, _, h3.trans (List.getElem?_eq_getElem (show q < zs.length by omega))⟩
      have h4 := hat (f.offset + q) (by omega)
      rw [Go.Deep.add_add] at h4
      rw [h4, List.getElem?_eq_getElem hlt]
    by_cases hlen0 : 0 < len
    · obtain ⟨b, off, spot⟩ := a
      obtain ⟨v0, hv0, _⟩ := key 0 hlen0 0 f0 h0 h01 (by omega)
      have hs : spot = none := by simpa [Addr.add, h00] using World.cell?_spot hv0
      subst hs
      refine ⟨some ⟨b, off, none⟩, len, cap, hcs, hl, hm, fun hlen => ⟨b, off, rfl, fun i hi j f hj h1 h2 => ?_⟩, fun hlen => ⟨b, off, rfl, fun i hi j f n e2 hj hu h1 hk ho q hq => ?_⟩⟩
      · obtain ⟨v, hv, hx⟩ := key i hi j f hj h1 h2
        rw [Addr.add_lit] at hv
        exact ⟨v, hv, hx⟩
      · obtain ⟨v, hv, hx⟩ := keyA i hi j f n e2 hj hu h1 hk ho q hq
        rw [Addr.add_lit] at hv
        exact ⟨v, hv, hx⟩
    · exact ⟨some a, len, cap, hcs, hl, hm, fun h => absurd h hlen0, fun h => absurd h hlen0⟩
end Go.Proofs.YtflanjcfkdjpjaaGreatDoor


