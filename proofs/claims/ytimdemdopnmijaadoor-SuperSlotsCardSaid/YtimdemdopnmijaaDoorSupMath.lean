/- Plain mathematics of layer 5 (super): superblocks and their images. -/
import Derived.Test.YtimdemdopnmijaaDoorEnvE
namespace Go.Proofs.YtimdemdopnmijaaDoor.Sup
open Go.RowKit Go.Proofs.YtimdemdopnmijaaDoor Go.Proofs.YtimdemdopnmijaaDoor.Lend Go.Proofs.YtimdemdopnmijaaDoor.Env

def allW : List Int := [4, 8, 4, 1, 8, 4]
theorem allW_ok : okW allW = true := rfl
/-- is it a superblock? -/
def supB (g a rg h : Int) : Bool := decide (1 ≤ g) && (adB a && (decide (rg ≤ g) && (decide (1 ≤ h) && decide (h ≤ 32))))
theorem supB_parts {g a rg h : Int} (e : supB g a rg h = true) : 1 ≤ g ∧ 0 ≤ a ∧ a ≤ 2147483647 ∧ rg ≤ g ∧ 1 ≤ h ∧ h ≤ 32 := by
  simp only [supB, adB, Bool.and_eq_true, decide_eq_true_eq] at e; omega
theorem supB_of {g a rg h : Int} (h1 : 1 ≤ g) (h2 : 0 ≤ a) (h3 : a ≤ 2147483647) (h4 : rg ≤ g) (h5 : 1 ≤ h) (h6 : h ≤ 32) : supB g a rg h = true := by
  simp [supB, adB, h1, h2, h3, h4, h5, h6]
/-- a superblock's payload -/
def payL (a rg c h s ch : Int) : List UInt8 := encL allW [a, rg, c, h, s, ch]
theorem payL_eq (a rg c h s ch : Int) : payL a rg c h s ch = encN a 4 ++ (encN rg 8 ++ (encN c 4 ++ (encN h 1 ++ (encN s 8 ++ encN ch 4)))) := by
  simp [payL, allW, encL]
theorem payL_length (a rg c h s ch : Int) : (payL a rg c h s ch).length = 29 := by rw [payL_eq]; simp [encN_length]
theorem payL_cat (a rg c h s ch : Int) : payL a rg c h s ch = encL ptrW [a, rg, c] ++ encL [1, 8, 4] [h, s, ch] := by
  rw [payL_eq, encL_ptr]; simp [encL]
/-- the numbers that a superblock's payload may have -/
structure Nums (rg c s ch : Int) : Prop where
  rg0 : 0 ≤ rg
  rg1 : rg < 18446744073709551616
  c0 : 0 ≤ c
  c1 : c < 4294967296
  s0 : 0 ≤ s
  s1 : s < 18446744073709551616
  ch0 : 0 ≤ ch
  ch1 : ch < 4294967296
theorem Nums.fits {rg c s ch a h : Int} (n : Nums rg c s ch) (ha : a ≤ 2147483647) (hh : h ≤ 32) : fitsL allW [a, rg, c, h, s, ch] = true := by
  have h1 := fitsB_of (n := a) (x := 4) (by simp; omega)
  have h2 := fitsB_of (n := rg) (x := 8) (by simpa using n.rg1)
  have h3 := fitsB_of (n := c) (x := 4) (by simpa using n.c1)
  have h4 := fitsB_of (n := h) (x := 1) (by simp; omega)
  have h5 := fitsB_of (n := s) (x := 8) (by simpa using n.s1)
  have h6 := fitsB_of (n := ch) (x := 4) (by simpa using n.ch1)
  simp only [allW, fitsL, h1, h2, h3, h4, h5, h6]; rfl
theorem Nums.wr {rg c s ch a h : Int} (n : Nums rg c s ch) (ha : a ≤ 2147483647) (hh : h ≤ 32) :
    wrB allW [a, rg, c, h, s, ch] = true ∧ wrS allW [a, rg, c, h, s, ch] = strOf (payL a rg c h s ch) := wr_ok allW_ok rfl (n.fits ha hh)
theorem Nums.list {rg c s ch a h : Int} (n : Nums rg c s ch) (ha : 0 ≤ a) (ha1 : a ≤ 2147483647) (hh : 0 ≤ h) (hh1 : h ≤ 32) : ∀ x ∈ [a, rg, c, h, s, ch], 0 ≤ x ∧ x < 18446744073709551616 := by
  have := n.rg0; have := n.rg1; have := n.c0; have := n.c1; have := n.s0; have := n.s1; have := n.ch0; have := n.ch1
  intro x hx
  simp only [List.mem_cons, List.mem_nil_iff, or_false] at hx
  omega

/-- a superblock's image, or its error -/
def imE (size g a rg h : Int) : Int := if szB size = true ∧ supB g a rg h = true then 0 else 2
def imL (size g a rg c h s ch : Int) : List UInt8 := imgL 1 (g % 2) g (size - 24).toNat (payL a rg c h s ch)
def imS (size g a rg c h s ch : Int) : ByteArray := if imE size g a rg h = 0 then strOf (imL size g a rg c h s ch) else ⟨#[]⟩
def imV (size g a rg c h s ch : Int) : Value := .tuple #[.string (imS size g a rg c h s ch), .int .i64 (imE size g a rg h)]
theorem imV_no {size g a rg c h s ch : Int} (e : szB size = false ∨ supB g a rg h = false) : imV size g a rg c h s ch = .tuple #[.string ⟨#[]⟩, .int .i64 2] := by
  have : imE size g a rg h = 2 := by rw [imE, if_neg]; rintro ⟨h1, h2⟩; rcases e with e | e <;> simp_all
  simp only [imV, imS, this]; rfl
theorem imV_yes {size g a rg c h s ch : Int} (h1 : szB size = true) (h2 : supB g a rg h = true) : imV size g a rg c h s ch = .tuple #[.string (strOf (imL size g a rg c h s ch)), .int .i64 0] := by
  have : imE size g a rg h = 0 := by rw [imE, if_pos ⟨h1, h2⟩]
  simp only [imV, imS, this]; rfl
theorem slot_ok (g : Int) : hdB 1 (g % 2) = true := by
  have : 0 ≤ g % 2 ∧ g % 2 ≤ 2147483647 := by omega
  simp [hdB, adB, this]
theorem seal_im {size g a rg c h s ch : Int} (h1 : szB size = true) : sealE size 1 (g % 2) (payL a rg c h s ch) = 0 := by
  have hs : 128 ≤ size ∧ size ≤ 1024 := by simpa [szB] using h1
  rw [sealE, if_pos ⟨h1, slot_ok g⟩, if_pos (by rw [payL_length]; omega)]

/-- the numbers of an image's payload -/
def sP (l : List UInt8) (i : Nat) : Int := (rdL allW (opP l)).getD i 0
theorem sP_list (l : List UInt8) : rdL allW (opP l) = [sP l 0, sP l 1, sP l 2, sP l 3, sP l 4, sP l 5] := by simp [sP, allW, rdL]
theorem sP_get (l : List UInt8) : rdL allW (opP l) = [(getL ((opP l).take 4) : Int), (getL (((opP l).drop 4).take 8) : Int), (getL (((opP l).drop 12).take 4) : Int), (getL (((opP l).drop 16).take 1) : Int), (getL (((opP l).drop 17).take 8) : Int), (getL (((opP l).drop 25).take 4) : Int)] := by
  simp [allW, rdL, List.drop_drop]
theorem sP_bd (l : List UInt8) : (0 ≤ sP l 0 ∧ sP l 0 < 4294967296) ∧ (0 ≤ sP l 1 ∧ sP l 1 < 18446744073709551616) ∧ (0 ≤ sP l 2 ∧ sP l 2 < 4294967296) ∧ (0 ≤ sP l 3 ∧ sP l 3 < 256) ∧ (0 ≤ sP l 4 ∧ sP l 4 < 18446744073709551616) ∧ (0 ≤ sP l 5 ∧ sP l 5 < 4294967296) := by
  have h0 := getL_lt ((opP l).take 4) 4 4294967296 (by simp; omega) rfl
  have h1 := getL_lt (((opP l).drop 4).take 8) 8 18446744073709551616 (by simp; omega) rfl
  have h2 := getL_lt (((opP l).drop 12).take 4) 4 4294967296 (by simp; omega) rfl
  have h3 := getL_lt (((opP l).drop 16).take 1) 1 256 (by simp; omega) rfl
  have h4 := getL_lt (((opP l).drop 17).take 8) 8 18446744073709551616 (by simp; omega) rfl
  have h5 := getL_lt (((opP l).drop 25).take 4) 4 4294967296 (by simp; omega) rfl
  simp only [sP, sP_get, List.getD_cons_zero, List.getD_cons_succ]
  refine ⟨⟨?_, ?_⟩, ⟨?_, ?_⟩, ⟨?_, ?_⟩, ⟨?_, ?_⟩, ⟨?_, ?_⟩, ⟨?_, ?_⟩⟩ <;> omega
/-- is an image that is opened a superblock's? -/
def souB (l : List UInt8) : Bool := decide ((opP l).length = 29) && (decide (F l 0 = 1) && (decide (F l 3 = F l 4 % 2) && supB (F l 4) (sP l 0) (sP l 1) (sP l 3)))
def souE (l : List UInt8) : Int := if opE l = 0 then (if souB l = true then 0 else 4) else opE l
/-- a superblock's cells, or noughts -/
def souL (l : List UInt8) : List Value := if souE l = 0 then [.int .u64 (F l 4), .int .i64 (sP l 0), .int .u64 (sP l 1), .int .u32 (sP l 2), .int .i64 (sP l 3), .int .u64 (sP l 4), .int .u32 (sP l 5)]
  else [.int .u64 0, .int .i64 0, .int .u64 0, .int .u32 0, .int .i64 0, .int .u64 0, .int .u32 0]
theorem souE_open {l : List UInt8} (h : ¬ opE l = 0) : souE l = opE l := by rw [souE, if_neg h]
theorem souE_no {l : List UInt8} (h : opE l = 0) (h2 : souB l = false) : souE l = 4 := by rw [souE, if_pos h, if_neg (by rw [h2]; decide)]
theorem souE_yes {l : List UInt8} (h : opE l = 0) (h2 : souB l = true) : souE l = 0 := by rw [souE, if_pos h, if_pos h2]
theorem opP_le (l : List UInt8) : (opP l).length ≤ l.length := by rw [opP, List.length_take, List.length_drop]; omega

/-- Open of Image -/
theorem im_open {size g a rg c h s ch : Int} (h1 : szB size = true) (h2 : supB g a rg h = true) (n : Nums rg c s ch) (hg : g < 18446744073709551616) :
    souE (imL size g a rg c h s ch) = 0 ∧ opE (imL size g a rg c h s ch) = 0 ∧ F (imL size g a rg c h s ch) 3 = g % 2 ∧ F (imL size g a rg c h s ch) 4 = g ∧ opP (imL size g a rg c h s ch) = payL a rg c h s ch ∧
    souL (imL size g a rg c h s ch) = [.int .u64 g, .int .i64 a, .int .u64 rg, .int .u32 c, .int .i64 h, .int .u64 s, .int .u32 ch] := by
  obtain ⟨p1, p2, p3, p4, p5, p6⟩ := supB_parts h2
  have hs : 128 ≤ size ∧ size ≤ 1024 := by simpa [szB] using h1
  have hl := payL_length a rg c h s ch
  have hf : Fit 1 (payL a rg c h s ch).length (g % 2) g 0 := by rw [hl]; exact ⟨by decide, by decide, by decide, by decide, by omega, by omega, by omega, hg, by decide, by decide⟩
  obtain ⟨f0, f1, f2, f3, f4, f5⟩ := img_F (m := (size - 24).toNat) hf
  obtain ⟨o1, o2, o3⟩ := img_open (m := (size - 24).toNat) hf (slot_ok g) (by rw [hl]; omega) (by omega) (by omega)
  have hr : rdL allW (payL a rg c h s ch) = [a, rg, c, h, s, ch] := by
    have := rd_enc [] allW [a, rg, c, h, s, ch] rfl allW_ok (n.fits p3 p6) (fun x hx => ((n.list p2 p3 (by omega) p6) x hx).1)
    rw [List.append_nil] at this; exact this
  have e0 : ∀ i, sP (imL size g a rg c h s ch) i = [a, rg, c, h, s, ch].getD i 0 := by intro i; rw [sP, imL, o3, hr]
  have hb : souB (imL size g a rg c h s ch) = true := by
    rw [souB, e0 0, e0 1, e0 3]
    simp only [List.getD_cons_zero, List.getD_cons_succ]
    unfold imL
    rw [o3, hl, f0, f3, f4, h2]; simp
  have hE := souE_yes (l := imL size g a rg c h s ch) o2 hb
  refine ⟨hE, o2, f3, f4, o3, ?_⟩
  rw [souL, if_pos hE, e0 0, e0 1, e0 2, e0 3, e0 4, e0 5]
  simp only [List.getD_cons_zero, List.getD_cons_succ]
  unfold imL
  rw [f4]

/-- an image put together again is it just if it is one, but for its check -/
theorem relaid {l : List UInt8} (hs : szB l.length = true) (hd : hdB (F l 0) (F l 3) = true) (hn : F l 2 ≤ (l.length : Int) - 24) :
    (hdr (F l 0) (F l 2) (F l 3) (F l 4) (F l 5) ++ bodyL (l.length - 24) (opP l) = l ↔ opB l = true) ∧ (opP l).length = (F l 2).toNat := by
  obtain ⟨hf, hz⟩ := F_bd l
  have h1 : 128 ≤ l.length ∧ l.length ≤ 1024 := by simp only [szB, Bool.and_eq_true, decide_eq_true_eq] at hs; omega
  have h0 := hf.n0
  have hpl : (opP l).length = (F l 2).toNat := by rw [opP, List.length_take, List.length_drop]; omega
  refine ⟨⟨fun e => ?_, fun e => ?_⟩, hpl⟩
  · have hn2 : nums l = [F l 0, 0, F l 2, F l 3, F l 4, F l 5] := by
      have := F_hdr hf (bodyL (l.length - 24) (opP l)); rwa [e] at this
    have hF1 : F l 1 = 0 := by rw [F, hn2]; rfl
    have hm : mkB l = true := by
      have : l.take 4 = markL := by rw [← e, hdr, List.append_assoc]; rfl
      rw [mkB, this]; rfl
    have hzr : zrB (l.drop (24 + (F l 2).toNat)) = true := by
      have e2 : l.drop 24 = bodyL (l.length - 24) (opP l) := by
        have := congrArg (List.drop 24) e
        rw [List.drop_left' (hdr_length _ _ _ _ _)] at this
        exact this.symm
      rw [← List.drop_drop, e2, bodyL, List.drop_left' hpl, zrB_zeros]
    rw [opB, hs, hm, hF1, hd, hzr]; simp; omega
  · obtain ⟨q1, q2, q3, q4, q5, q6, q7⟩ := opB_parts e
    have e1 := hdr_again l q3 q4 (by omega)
    have e2 : bodyL (l.length - 24) (opP l) = l.drop 24 := by
      rw [bodyL, hpl]
      have : zeros (l.length - 24 - (F l 2).toNat) = l.drop (24 + (F l 2).toNat) := by
        have hall : ∀ x ∈ l.drop (24 + (F l 2).toNat), x = 0 := by simpa [zrB] using q7
        rw [List.eq_replicate_of_mem hall, zeros, List.length_drop, show l.length - 24 - (F l 2).toNat = l.length - (24 + (F l 2).toNat) by omega]
      rw [this, opP, ← List.drop_drop, List.take_append_drop]
    rw [e1, e2, List.take_append_drop]
end Go.Proofs.YtimdemdopnmijaaDoor.Sup
